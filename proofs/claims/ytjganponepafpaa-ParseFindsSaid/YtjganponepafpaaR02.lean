/-
  PsFin, PsPlc, PsLen, PsAdd, PsAddN, PsEld: put together.
-/
import Derived.Test.YtjganponepafpaaR01
import Derived.Deep.Cut
import Derived.Lib.BitFns
import Derived.Lib.Walk
import Derived.Deep.AppendLies
import Derived.Deep.RegionLaw
import Derived.Laws.MakeOwn
set_option linter.unusedVariables false
set_option linter.unusedSimpArgs false
/-
  The program's finder: what it reads: how many bytes a copy may have, a copy, the elder distances' longest one.
-/
namespace Go.Proofs.Ytjganponepafpaa
open Go.RowKit

theorem min2_int {P : Program} (ts : Array TypeId) (t : TypeId) (x y k : Int) (hk : k = min x y) : ∀ w, (Builtin.min_ ts t #[.int .i64 x, .int .i64 y]).run P w = .ok (.int .i64 k) w := by
  intro w
  subst hk
  by_cases h : x ≤ y
  · rw [Int.min_eq_left h]
    simp [Builtin.min_, Builtin.min2]; omega
  · rw [Int.min_eq_right (by omega)]
    simp [Builtin.min_, Builtin.min2]; omega
theorem max2_int {P : Program} (ts : Array TypeId) (t : TypeId) (x y k : Int) (hk : k = max x y) : ∀ w, (Builtin.max_ ts t #[.int .i64 x, .int .i64 y]).run P w = .ok (.int .i64 k) w := by
  intro w
  subst hk
  by_cases h : x ≤ y
  · rw [Int.max_eq_right h]
    simp [Builtin.max_, Builtin.max2]; omega
  · rw [Int.max_eq_left (by omega)]
    simp [Builtin.max_, Builtin.max2]; omega
/-- the finder's cells -/
def fCells (A : Option Addr) (n c dict : Nat) (s : Ps) (lv av : Value) : Array Value :=
  #[.slice A n c, .int .i64 (s.i : Int), .int .i64 (dict : Int), .int .u32 (s.r0 : Int), .int .u32 (s.r1 : Int), .int .u32 (s.r2 : Int), .int .u32 (s.r3 : Int), .slice A n c, lv, av]
/-- the finder as it is read -/
structure Fq (w : World) (g : Nat) (A : Option Addr) (n c dict : Nat) (b : List UInt8) (s : Ps) (lv av : Value) : Prop where
  f : Blk w g 49 (fCells A n c dict s lv av)
  sl : Sl w A n (bv b)
  n1 : n ≤ 1000000000
  i1 : s.i ≤ n
  d1 : 1 ≤ dict
  d2 : dict ≤ 9223372036854775807
  lit : s.Lit
section
variable {w : World} {g : Nat} {A : Option Addr} {n c dict : Nat} {b : List UInt8} {s : Ps} {lv av : Value}
theorem Fq.drewN (h : Fq w g A n c dict b s lv av) (k : Nat) : Fq (w.drewN k) g A n c dict b s lv av := ⟨h.f.drewN k, h.sl.drewN k, h.n1, h.i1, h.d1, h.d2, h.lit⟩
theorem Fq.c0 (h : Fq w g A n c dict b s lv av) : w.cell? ⟨g, 0, none⟩ = some (.slice A n c) := h.f.cell 0
theorem Fq.c1 (h : Fq w g A n c dict b s lv av) : w.cell? ⟨g, 1, none⟩ = some (.int .i64 (s.i : Int)) := h.f.cell 1
theorem Fq.c2 (h : Fq w g A n c dict b s lv av) : w.cell? ⟨g, 2, none⟩ = some (.int .i64 (dict : Int)) := h.f.cell 2
theorem Fq.c3 (h : Fq w g A n c dict b s lv av) : w.cell? ⟨g, 3, none⟩ = some (.int .u32 (s.r0 : Int)) := h.f.cell 3
theorem Fq.c4 (h : Fq w g A n c dict b s lv av) : w.cell? ⟨g, 4, none⟩ = some (.int .u32 (s.r1 : Int)) := h.f.cell 4
theorem Fq.c5 (h : Fq w g A n c dict b s lv av) : w.cell? ⟨g, 5, none⟩ = some (.int .u32 (s.r2 : Int)) := h.f.cell 5
theorem Fq.c6 (h : Fq w g A n c dict b s lv av) : w.cell? ⟨g, 6, none⟩ = some (.int .u32 (s.r3 : Int)) := h.f.cell 6
theorem Fq.len (h : Fq w g A n c dict b s lv av) : b.length = n := by rw [← bv_length]; exact h.sl.1

set_option maxRecDepth 100000 in
set_option maxHeartbeats 2000000 in
theorem pmost_any (h : Fq w g A n c dict b s lv av) :
    Calls Try.prog 32 #[.pointer (some ⟨g, 0, none⟩)] w fun x w' => x = .returned (.int .i64 ((min 273 (n - s.i) : Nat) : Int)) ∧ ∃ k, w.drewN k = w' := by
  have c0 := h.c0
  have c1 := h.c1
  have e1 : IntKind.i64.wrap ((n : Int) - (s.i : Int)) = (n : Int) - (s.i : Int) := IntWalk.i64_in _ (by have := h.n1; have := h.i1; omega)
  obtain ⟨r, hr⟩ : ∃ r, r = (min 273 (n - s.i) : Nat) := ⟨_, rfl⟩
  have hm := min2_int (P := Try.prog) #[3, 3] 3 ((n : Int) - (s.i : Int)) 273 (r : Int) (by have := h.i1; omega)
  rw [← hr]
  clear hr
  generalize s.i = i at *
  clear h
  go_enter Try.func32, Try.ntmps32
  go_wp2_with fail
  go_quiet (fail)
  go_wp2_with fail
  go_ret
  exact ⟨rfl, nq, rfl⟩

set_option maxRecDepth 100000 in
set_option maxHeartbeats 4000000 in
theorem pcopied_any {d : Nat} (h : Fq w g A n c dict b s lv av) (hd : d < 4294967296) :
    Calls Try.prog 23 #[.pointer (some ⟨g, 0, none⟩), .int .i64 (d : Int)] w fun x w' => x = .returned (.int .i64 ((cpN b dict n s.i d : Nat) : Int)) ∧ ∃ k, w.drewN k = w' := by
  have c0 := h.c0
  have c1 := h.c1
  have c2 := h.c2
  have HQ := Lib.hid h
  obtain ⟨i, hi⟩ : ∃ i, i = s.i := ⟨_, rfl⟩
  have HI := Lib.hid hi
  rw [← hi] at c1 ⊢
  by_cases h1 : d < i ∧ d < dict
  · obtain ⟨f, hf⟩ : ∃ f, f = min 273 (n - i) := ⟨_, rfl⟩
    have hr : cpN b dict n i d = eqN b (d + 1) f i := by unfold cpN; rw [if_pos h1, hf]
    rw [hr]
    obtain ⟨r, hrr⟩ : ∃ r, r = eqN b (d + 1) f i := ⟨_, rfl⟩
    rw [← hrr]
    have KM := Lib.hid (fun k => pmost_any (h.drewN k))
    rw [← hi, ← hf] at KM
    have HH := Lib.hid (show n ≤ 1000000000 ∧ i ≤ n ∧ d < i ∧ f = min 273 (n - i) from ⟨h.n1, by rw [hi]; exact h.i1, h1.1, hf⟩)
    have HR := Lib.hid hrr
    obtain ⟨u, hu⟩ : ∃ u, u = min i dict := ⟨_, rfl⟩
    have hm := min2_int (P := Try.prog) #[3, 3] 3 (i : Int) (dict : Int) (u : Int) (by omega)
    have g1 : ¬ (u : Int) ≤ (d : Int) := by omega
    have g2 : decide (u ≤ d) = false := decide_eq_false (by omega)
    have g3 : decide ((u : Int) ≤ (d : Int)) = false := decide_eq_false g1
    clear h hd hr hrr h1 hf hi hu
    go_enter Try.func23, Try.ntmps23
    go_wp2_with fail
    go_quiet (fail)
    clear c2 g1 g2 g3 hm
    go_wp2_with fail
    refine (KM.out nq).mono ?_
    rintro e w1 ⟨rfl, k1, rfl⟩
    clear KM
    go_wp2_with fail
    go_loopw [5] (fun v wr => ∃ j k : Nat, j ≤ f ∧ v = .int .i64 (j : Int) ∧ SameTo b (d + 1) i j ∧ wr = w.drewN k) (fun v _ => f - (intOf v).toNat)
    case atStart => exact ⟨0, nq + k1, Nat.zero_le _, rfl, SameTo.zero _ _ _, by first | rfl | exact World.drewN_drewN.symm | simp⟩
    case round =>
      obtain ⟨j, k, hj, rfl, hsm, rfl⟩ := hrel
      obtain ⟨hn, hi, hdi, hf⟩ := HH.out
      by_cases hlt : j < f
      · have i3 : (j : Int) < (f : Int) := by omega
        obtain ⟨ba, oa, rfl, hba, hca⟩ := HQ.out.sl.2 (by omega)
        have hbl := HQ.out.len
        obtain ⟨q, hq⟩ : ∃ q, q = i + j - (d + 1) := ⟨_, rfl⟩
        have k1' : w.cell? ⟨ba, oa + (i + j), none⟩ = some (.int .u8 ((b.getD (i + j) 0).toNat : Int)) := by rw [hca (i + j) (by omega), bv_get b _ (by omega)]
        have k2' : w.cell? ⟨ba, oa + q, none⟩ = some (.int .u8 ((b.getD q 0).toNat : Int)) := by rw [hca q (by omega), bv_get b _ (by omega)]
        have e1 : IntKind.i64.wrap ((i : Int) + (j : Int)) = ((i + j : Nat) : Int) := by rw [IntWalk.i64_in _ (by omega)]; omega
        have e2 : IntKind.i64.wrap (((i + j : Nat) : Int) - 1) = ((i + j : Nat) : Int) - 1 := IntWalk.i64_in _ (by omega)
        have e3 : IntKind.i64.wrap (((i + j : Nat) : Int) - 1 - (d : Int)) = (q : Int) := by rw [IntWalk.i64_in _ (by omega)]; omega
        have b1 : (0 : Int) ≤ ((i + j : Nat) : Int) := by omega
        have b2 : ((i + j : Nat) : Int) < (n : Int) := by omega
        have b3 : (0 : Int) ≤ (q : Int) := by omega
        have b4 : (q : Int) < (n : Int) := by omega
        have HLT := Lib.hid (show j < f ∧ q = i + j - (d + 1) from ⟨hlt, hq⟩)
        by_cases hxy : b.getD (i + j) 0 = b.getD q 0
        · have hnext := hsm.succ (by rw [← hq]; exact hxy)
          have HNX := Lib.hid hnext
          rw [← hxy] at k2'
          have e4 : IntKind.i64.wrap ((j : Int) + 1) = (j : Int) + 1 := IntWalk.i64_in _ (by omega)
          generalize b.getD (i + j) 0 = x at *
          generalize i + j = p at *
          clear hca hxy hnext hsm hj hn hi hdi hf hlt hq hbl
          go_wp2_with fail
          go_quiet (fail)
          go_wp2_with fail
          go_roundw
          case rel => exact ⟨j + 1, k + nq, by have := HLT.out; omega, by go_num, HNX.out, rfl⟩
          case measure => have := HLT.out; simp [intOf]; omega
        · have hst := hsm.stop hlt (by rw [← hq]; exact hxy)
          have hres : r = j := HR.out.trans hst
          have hne := u8_ne hxy
          generalize b.getD (i + j) 0 = x at *
          generalize b.getD q 0 = y at *
          generalize i + j = p at *
          have HRES := Lib.hid hres
          clear hca hxy hst hsm hj hn hi hdi hf hlt hq hres hbl
          go_wp2_with fail
          go_quiet (fail)
          go_wp2_with fail
          go_ret
          exact ⟨ret_int (by rw [HRES.out]), k + nq, by first | rfl | exact World.drewN_drewN.symm | simp⟩
      · have i3 : ¬ (j : Int) < (f : Int) := by omega
        have i4 : decide (j < f) = false := decide_eq_false hlt
        have i5 : decide ((j : Int) < (f : Int)) = false := decide_eq_false i3
        have hres : r = j := HR.out.trans (hsm.full (by omega))
        have HRES := Lib.hid hres
        clear hsm hj hn hi hdi hf hlt hres
        go_wp2_with fail
        go_quiet (fail)
        go_wp2_with fail
        go_ret
        exact ⟨ret_int (by rw [HRES.out]), k + nq, by first | rfl | exact World.drewN_drewN.symm | simp⟩
  · have hr : cpN b dict n i d = 0 := by unfold cpN; rw [if_neg h1]
    rw [hr]
    obtain ⟨u, hu⟩ : ∃ u, u = min i dict := ⟨_, rfl⟩
    have hm := min2_int (P := Try.prog) #[3, 3] 3 (i : Int) (dict : Int) (u : Int) (by omega)
    have g1 : (u : Int) ≤ (d : Int) := by omega
    have g2 : decide (u ≤ d) = true := decide_eq_true (by omega)
    have g3 : decide ((u : Int) ≤ (d : Int)) = true := decide_eq_true g1
    clear h hd h1 hr hi hu
    go_enter Try.func23, Try.ntmps23
    go_wp2_with fail
    go_quiet (fail)
    go_wp2_with fail
    go_ret
    exact ⟨rfl, nq, rfl⟩
end
end Go.Proofs.Ytjganponepafpaa

/-
  The program's lists of places: what they are in memory; a list, its last place, the one ahead of a place.
-/
namespace Go.Proofs.Ytjganponepafpaa
open Go.RowKit

/-- what is kept by each place -/
def prevs (b : List UInt8) (sz n : Nat) : List Value := (List.range n).map fun p => Value.int .u32 ((lastN (hashP b sz) (hashP b sz p) p : Nat) : Int)
theorem prevs_succ (b : List UInt8) (sz n : Nat) : prevs b sz (n + 1) = prevs b sz n ++ [.int .u32 ((lastN (hashP b sz) (hashP b sz n) n : Nat) : Int)] := by simp [prevs, List.range_succ]
theorem prevs_get (b : List UInt8) (sz n p : Nat) (h : p < n) : (prevs b sz n)[p]? = some (.int .u32 ((lastN (hashP b sz) (hashP b sz p) p : Nat) : Int)) := by simp [prevs, h]
/-- the lists, with the places below cnt -/
structure Md (w : World) (b : List UInt8) (cnt sz ql qa ca : Nat) (cs : Array Value) : Prop where
  lb : Blk w ql 23 cs
  lz : cs.size = sz
  lv : ∀ v, v < sz → cs[v]? = some (.int .u32 ((lastN (hashP b sz) v cnt : Nat) : Int))
  ar : w.ownsRow 0 23 1 (.slice (some ⟨qa, 0, none⟩) cnt ca) cnt (prevs b sz cnt)
  s1 : 1 ≤ sz
  s2 : sz ≤ 65536
  ne : ql ≠ qa
section
variable {w : World} {b : List UInt8} {cnt sz ql qa ca : Nat} {cs : Array Value}
theorem Md.drewN (h : Md w b cnt sz ql qa ca cs) (k : Nat) : Md (w.drewN k) b cnt sz ql qa ca cs := ⟨h.lb, h.lz, h.lv, h.ar, h.s1, h.s2, h.ne⟩
theorem Md.lcell (h : Md w b cnt sz ql qa ca cs) {v : Nat} (hv : v < sz) : w.cell? ⟨ql, v, none⟩ = some (.int .u32 ((lastN (hashP b sz) v cnt : Nat) : Int)) := (h.lb.cell v).trans (h.lv v hv)
theorem Md.acell (h : Md w b cnt sz ql qa ca cs) {p : Nat} (hp : p < cnt) : w.cell? ⟨qa, p, none⟩ = some (.int .u32 ((lastN (hashP b sz) (hashP b sz p) p : Nat) : Int)) := by
  obtain ⟨_, h2⟩ := (own_facts h.ar).1
  obtain ⟨b', o', e, _, hc⟩ := h2 (by omega)
  injection e with e
  injection e with e1 e2
  subst e1 e2
  have := hc p hp
  rw [Nat.zero_add] at this
  rw [this]
  exact prevs_get b sz cnt p hp
end

section
variable {w : World} {g : Nat} {A : Option Addr} {n c : Nat} {b : List UInt8} {sz ql : Nat}
set_option maxRecDepth 100000 in
set_option maxHeartbeats 4000000 in
/-- where the last place of a list is kept -/
theorem plist_any {p : Nat} (c7 : w.cell? ⟨g, 7, none⟩ = some (.slice A n c)) (c8 : w.cell? ⟨g, 8, none⟩ = some (.slice (some ⟨ql, 0, none⟩) sz sz)) (hS : Sl w A n (bv b)) (hn : n ≤ 1000000000) (hp : p + 1 < n) (h1 : 1 ≤ sz) (h2 : sz ≤ 65536) :
    Calls Try.prog 46 #[.pointer (some ⟨g, 7, none⟩), .int .i64 (p : Int)] w fun x w' => x = .returned (.pointer (some ⟨ql, hashP b sz p, none⟩)) ∧ ∃ k, w.drewN k = w' := by
  have hl : b.length = n := by rw [← bv_length]; exact hS.1
  obtain ⟨ba, oa, rfl, hba, hca⟩ := hS.2 (by omega)
  have a1 : w.cell? ⟨ba, oa + p, none⟩ = some (.int .u8 ((b.getD p 0).toNat : Int)) := by rw [hca p (by omega), bv_get b _ (by omega)]
  have a2 : w.cell? ⟨ba, oa + (p + 1), none⟩ = some (.int .u8 ((b.getD (p + 1) 0).toNat : Int)) := by rw [hca (p + 1) (by omega), bv_get b _ (by omega)]
  have ht := twoP_lt b p
  have hh := hash_lt (b := b) (p := p) h1
  obtain ⟨t, ht0⟩ : ∃ t, t = twoP b p := ⟨_, rfl⟩
  obtain ⟨u, hu0⟩ : ∃ u, u = hashP b sz p := ⟨_, rfl⟩
  obtain ⟨p1, hp1⟩ : ∃ p1, p1 = p + 1 := ⟨_, rfl⟩
  have ht1 : t = (b.getD p 0).toNat * 256 ||| (b.getD (p + 1) 0).toNat := ht0
  have hu1 : u = t &&& (sz - 1) := by rw [hu0, ht0]; rfl
  rw [← hp1] at a2 ht1
  rw [← hu0] at hh ⊢
  rw [← ht0] at ht
  generalize b.getD p 0 = x at *
  generalize b.getD p1 0 = y at *
  obtain ⟨X, hX⟩ : ∃ X, X = x.toNat * 256 := ⟨_, rfl⟩
  obtain ⟨z1, hz1⟩ : ∃ z1, z1 = sz - 1 := ⟨_, rfl⟩
  rw [← hX] at ht1
  rw [← hz1] at hu1
  have hxx := x.toNat_lt
  have hyy := y.toNat_lt
  have e0 : IntKind.i64.wrap (x.toNat : Int) = (x.toNat : Int) := IntWalk.i64_in _ (by omega)
  have e0' : IntKind.i64.wrap (y.toNat : Int) = (y.toNat : Int) := IntWalk.i64_in _ (by omega)
  have e1 : IntKind.i64.wrap ((x.toNat : Int) * 2 ^ 8) = (X : Int) := by rw [IntWalk.i64_in _ (by omega)]; omega
  have e2 : IntKind.i64.wrap ((x.toNat : Int) * 256) = (X : Int) := by rw [IntWalk.i64_in _ (by omega)]; omega
  have e3 : bits .or .i64 (X : Int) (y.toNat : Int) = (t : Int) := by rw [ht1]; exact pi64_or _ _ (by omega) (by omega)
  have e4 : IntKind.i64.wrap ((p : Int) + 1) = (p1 : Int) := by rw [IntWalk.i64_in _ (by omega)]; omega
  have e5 : IntKind.i64.wrap ((sz : Int) - 1) = (z1 : Int) := by rw [IntWalk.i64_in _ (by omega)]; omega
  have e6 : bits .and .i64 (t : Int) (z1 : Int) = (u : Int) := by rw [hu1]; exact pi64_and _ _ (by omega) (by omega)
  have b1 : (0 : Int) ≤ (p : Int) := by omega
  have b2 : (p : Int) < (n : Int) := by omega
  have b3 : (0 : Int) ≤ (p1 : Int) := by omega
  have b4 : (p1 : Int) < (n : Int) := by omega
  have b5 : (0 : Int) ≤ (u : Int) := by omega
  have b6 : (u : Int) < (sz : Int) := by omega
  clear hS hn hl hba hca hp h1 h2 ht hh ht0 hu0 ht1 hu1 hX hz1 hxx hyy hp1
  go_enter Try.func46, Try.ntmps46
  go_wp2_with fail
  go_quiet (fail)
  go_wp2_with fail
  have HK := Lib.hid (World.drewN_drewN (w := w) (n := nq))
  go_quiet (fail)
  go_wp2_with fail
  go_ret
  exact ⟨rfl, _, (HK.out nq).symm⟩
end
section
variable {w : World} {g : Nat} {A : Option Addr} {n c cnt : Nat} {b : List UInt8} {sz ql qa ca : Nat} {cs : Array Value}
set_option maxRecDepth 100000 in
set_option maxHeartbeats 4000000 in
/-- the last place of a list -/
theorem plast_any {p : Nat} (c7 : w.cell? ⟨g, 7, none⟩ = some (.slice A n c)) (c8 : w.cell? ⟨g, 8, none⟩ = some (.slice (some ⟨ql, 0, none⟩) sz sz)) (hS : Sl w A n (bv b)) (hn : n ≤ 1000000000) (hp : p + 1 < n) (hcn : cnt ≤ n) (hM : Md w b cnt sz ql qa ca cs) :
    Calls Try.prog 34 #[.pointer (some ⟨g, 7, none⟩), .int .i64 (p : Int)] w fun x w' => x = .returned (.int .i64 ((lastN (hashP b sz) (hashP b sz p) cnt : Nat) - 1 : Int)) ∧ ∃ k, w.drewN k = w' := by
  have K := Lib.hid (plist_any c7 c8 hS hn hp hM.s1 hM.s2)
  have hc := hM.lcell (hash_lt (b := b) (p := p) hM.s1)
  have hle := lastN_le (hashP b sz) (hashP b sz p) cnt
  generalize hashP b sz p = u at *
  generalize lastN (hashP b sz) u cnt = l at *
  have e1 : IntKind.i64.wrap (l : Int) = (l : Int) := IntWalk.i64_in _ (by omega)
  have e2 : IntKind.i64.wrap ((l : Int) - 1) = (l : Int) - 1 := IntWalk.i64_in _ (by omega)
  clear c7 c8 hS hn hp hM hle hcn
  go_enter Try.func34, Try.ntmps34
  go_wp2_with fail
  refine K.out.mono ?_
  rintro e w1 ⟨rfl, k, rfl⟩
  go_wp2_with fail
  go_ret
  exact ⟨rfl, k, rfl⟩
set_option maxRecDepth 100000 in
set_option maxHeartbeats 4000000 in
/-- the place ahead of one in its list -/
theorem pahead_any {p : Nat} (c9 : w.cell? ⟨g, 9, none⟩ = some (.slice (some ⟨qa, 0, none⟩) cnt ca)) (hp : p < cnt) (hcn : cnt ≤ 1000000000) (hM : Md w b cnt sz ql qa ca cs) :
    Calls Try.prog 35 #[.pointer (some ⟨g, 7, none⟩), .int .i64 (p : Int)] w fun x w' => x = .returned (.int .i64 ((lastN (hashP b sz) (hashP b sz p) p : Nat) - 1 : Int)) ∧ w = w' := by
  have hc := hM.acell hp
  have hle := lastN_le (hashP b sz) (hashP b sz p) p
  generalize lastN (hashP b sz) (hashP b sz p) p = l at *
  have e1 : IntKind.i64.wrap (l : Int) = (l : Int) := IntWalk.i64_in _ (by omega)
  have e2 : IntKind.i64.wrap ((l : Int) - 1) = (l : Int) - 1 := IntWalk.i64_in _ (by omega)
  have b1 : (0 : Int) ≤ (p : Int) := by omega
  have b2 : (p : Int) < (cnt : Int) := by omega
  clear hp hM hle hcn
  go_enter Try.func35, Try.ntmps35
  go_wp2_with fail
  go_ret
  exact ⟨rfl, rfl⟩
end
end Go.Proofs.Ytjganponepafpaa

/-
  How many bits a number has: some number up to 32.
-/
namespace Go.Proofs.Ytjganponepafpaa
open Go.RowKit

theorem plen8 {x : Nat} (hx : x < 256) : Lib.len8 (x : Int) = (Lib.bitLen x : Int) := Lib.len8_eq ⟨x, hx⟩
def LenPost (w : World) (e : Ending) (w' : World) : Prop := (∃ k : Nat, k ≤ 32 ∧ e = .returned (.int .i64 (k : Int))) ∧ w = w'
set_option maxRecDepth 100000 in
set_option maxHeartbeats 2000000 in
theorem plen64_any {x : Nat} (hx : x < 4294967296) (w : World) : Calls Try.prog 60 #[.int .u64 (x : Int)] w (LenPost w) := by
  have main : ∀ (y n : Nat), y < 256 → n ≤ 24 → ∃ k : Nat, k ≤ 32 ∧ wrap64 ((n : Int) + wrap64 (Lib.len8 (y : Int))) = (k : Int) := fun y n hy hn => by
    have hb := Lib.bitLen_le8 ⟨y, hy⟩
    simp only at hb
    rw [plen8 hy]
    exact ⟨n + Lib.bitLen y, by omega, by unfold wrap64; omega⟩
  have g0 : ¬ (x : Int) ≥ 4294967296 := by omega
  by_cases h2 : x < 65536
  · have g1 : ¬ (x : Int) ≥ 65536 := by omega
    by_cases h1 : x < 256
    · have g2 : ¬ (x : Int) ≥ 256 := by omega
      obtain ⟨k, hk, hm⟩ := main x 0 h1 (by decide)
      have e1 : IntKind.u8.wrap (x : Int) = (x : Int) := by simp [IntKind.wrap, IntKind.bits, IntKind.signed]; omega
      have HM := Lib.hid hm
      have g0 : (0 : Int) ≤ (x : Int) := by omega
      have g3 : (x : Int) ≤ 255 := by omega
      clear hm main hx h1 h2
      go_enter Try.func60, Try.ntmps60
      go_wp2_with fail
      go_ret
      exact ⟨⟨k, hk, ret_int (by have := HM.out; simpa using this)⟩, rfl⟩
    · have g2 : (x : Int) ≥ 256 := by omega
      obtain ⟨y, hy⟩ : ∃ y, y = x / 256 := ⟨_, rfl⟩
      obtain ⟨k, hk, hm⟩ := main y 8 (by omega) (by decide)
      have e0 : (x : Int) / 256 = (y : Int) := by omega
      have e1 : IntKind.u8.wrap (y : Int) = (y : Int) := by simp [IntKind.wrap, IntKind.bits, IntKind.signed]; omega
      have HM := Lib.hid hm
      have g0 : (0 : Int) ≤ (y : Int) := by omega
      have g3 : (y : Int) ≤ 255 := by omega
      clear hm main hx h1 h2 hy
      go_enter Try.func60, Try.ntmps60
      go_wp2_with fail
      go_ret
      exact ⟨⟨k, hk, ret_int (by have := HM.out; simpa using this)⟩, rfl⟩
  · have g1 : (x : Int) ≥ 65536 := by omega
    obtain ⟨y, hy⟩ : ∃ y, y = x / 65536 := ⟨_, rfl⟩
    have e0 : (x : Int) / 65536 = (y : Int) := by omega
    by_cases h1 : y < 256
    · have g2 : ¬ (y : Int) ≥ 256 := by omega
      obtain ⟨k, hk, hm⟩ := main y 16 h1 (by decide)
      have e1 : IntKind.u8.wrap (y : Int) = (y : Int) := by simp [IntKind.wrap, IntKind.bits, IntKind.signed]; omega
      have HM := Lib.hid hm
      have g0 : (0 : Int) ≤ (y : Int) := by omega
      have g3 : (y : Int) ≤ 255 := by omega
      clear hm main hx h1 h2 hy
      go_enter Try.func60, Try.ntmps60
      go_wp2_with fail
      go_ret
      exact ⟨⟨k, hk, ret_int (by have := HM.out; simpa using this)⟩, rfl⟩
    · have g2 : (y : Int) ≥ 256 := by omega
      obtain ⟨u, hu⟩ : ∃ u, u = y / 256 := ⟨_, rfl⟩
      have e2 : (y : Int) / 256 = (u : Int) := by omega
      obtain ⟨k, hk, hm⟩ := main u 24 (by omega) (by decide)
      have e1 : IntKind.u8.wrap (u : Int) = (u : Int) := by simp [IntKind.wrap, IntKind.bits, IntKind.signed]; omega
      have HM := Lib.hid hm
      have g0 : (0 : Int) ≤ (u : Int) := by omega
      have g3 : (u : Int) ≤ 255 := by omega
      clear hm main hx h1 h2 hy hu
      go_enter Try.func60, Try.ntmps60
      go_wp2_with fail
      go_ret
      exact ⟨⟨k, hk, ret_int (by have := HM.out; simpa using this)⟩, rfl⟩
set_option maxRecDepth 100000 in
set_option maxHeartbeats 2000000 in
theorem plen_any {x : Nat} (hx : x < 4294967296) (w : World) : Calls Try.prog 45 #[.int .u64 (x : Int)] w (LenPost w) := by
  have K := Lib.hid (plen64_any hx w)
  have e1 : IntKind.u64.wrap (x : Int) = (x : Int) := u64_in _ (by omega)
  clear hx
  go_enter Try.func45, Try.ntmps45
  go_wp2_with fail
  refine K.out.mono ?_
  rintro e w1 ⟨⟨k, hk, rfl⟩, rfl⟩
  go_wp2_with fail
  go_ret
  exact ⟨⟨k, hk, rfl⟩, rfl⟩
end Go.Proofs.Ytjganponepafpaa

/-
  The program's lists of places: places come into them.
-/
namespace Go.Proofs.Ytjganponepafpaa
open Go.RowKit

theorem info_p32 : (Try.prog.info? 23).map (fun i => (i.zero, i.size, i.bytes)) = some (some (.int .u32 0), 1, 4) := by kernel_rfl
def lsV (ql sz : Nat) : Value := .slice (some ⟨ql, 0, none⟩) sz sz
def asV (qa cnt ca : Nat) : Value := .slice (some ⟨qa, 0, none⟩) cnt ca
/-- the finder whose lists are made -/
structure Fm (w : World) (g : Nat) (G : Nat → Prop) (A : Option Addr) (n c dict : Nat) (b : List UInt8) (s : Ps) (cnt sz ql qa ca : Nat) (cs : Array Value) : Prop where
  fq : Fq w g A n c dict b s (lsV ql sz) (asV qa cnt ca)
  md : Md w b cnt sz ql qa ca cs
  gg : G g
  gl : G ql
  ga : G qa
  lt : ∀ i, G i → i < w.heap.size
  ap : 0 < n → ∀ q o, A = some ⟨q, o, none⟩ → ¬ G q
  n1 : ql ≠ g
  n2 : qa ≠ g
section
variable {w w1 w3 : World} {g : Nat} {G : Nat → Prop} {A : Option Addr} {n c dict : Nat} {b : List UInt8} {s : Ps} {cnt sz ql qa ca : Nat} {cs : Array Value}
theorem Fm.drewN (h : Fm w g G A n c dict b s cnt sz ql qa ca cs) (k : Nat) : Fm (w.drewN k) g G A n c dict b s cnt sz ql qa ca cs := ⟨h.fq.drewN k, h.md.drewN k, h.gg, h.gl, h.ga, h.lt, h.ap, h.n1, h.n2⟩
theorem Fm.push (h : Fm w g G A n c dict b s cnt sz ql qa ca cs) (h1 : Only (fun _ => False) w w1) {q' c' : Nat}
    (ho : w3.ownsRow 0 23 1 (.slice (some ⟨q', 0, none⟩) (cnt + 1) c') (cnt + 1) (prevs b sz cnt ++ [.int .u32 ((lastN (hashP b sz) (hashP b sz cnt) cnt : Nat) : Int)])) (hg : w1.grownBy w3 (some qa)) (hq : qa = q' ∨ q' = w1.heap.size) :
    w3.cell? ⟨g, 9, none⟩ = some (asV qa cnt ca) ∧ w3.frozen? ⟨g, 9, none⟩ = false ∧
    (w3.setCell ⟨g, 9, none⟩ (asV q' (cnt + 1) c')).cell? ⟨ql, hashP b sz cnt, none⟩ = some (.int .u32 ((lastN (hashP b sz) (hashP b sz cnt) cnt : Nat) : Int)) ∧ (w3.setCell ⟨g, 9, none⟩ (asV q' (cnt + 1) c')).frozen? ⟨ql, hashP b sz cnt, none⟩ = false ∧
    Fm ((w3.setCell ⟨g, 9, none⟩ (asV q' (cnt + 1) c')).setCell ⟨ql, hashP b sz cnt, none⟩ (.int .u32 ((cnt + 1 : Nat) : Int))) g (fun i => G i ∨ i = q') A n c dict b s (cnt + 1) sz ql q' c' (cs.setIfInBounds (hashP b sz cnt) (.int .u32 ((cnt + 1 : Nat) : Int))) ∧
    Only G w ((w3.setCell ⟨g, 9, none⟩ (asV q' (cnt + 1) c')).setCell ⟨ql, hashP b sz cnt, none⟩ (.int .u32 ((cnt + 1 : Nat) : Int))) ∧ (G q' ∨ w.heap.size ≤ q') := by
  have hg0 := h.lt g h.gg
  have hl0 := h.lt ql h.gl
  have ha0 := h.lt qa h.ga
  have hs1 := h1.size
  have hs3 := hg.size
  have hne := h.md.ne
  have n1 := h.n1
  have n2 := h.n2
  have hqg : q' ≠ g ∧ q' ≠ ql := by rcases hq with h | h <;> omega
  have hu : hashP b sz cnt < sz := hash_lt h.md.s1
  have hq3 : q' < w3.heap.size := (World.ownsRow.lt ho q' rfl).2
  have hB1 := h.fq.f.only h1 (fun h => h)
  have hB3 := hB1.grown hg (by intro e; injection e with e; exact n2 e.symm)
  have hL1 := h.md.lb.only h1 (fun h => h)
  have hL3 := hL1.grown hg (by intro e; injection e with e; exact hne e)
  have hB4 := hB3.put 9 (asV q' (cnt + 1) c')
  have hL4 := hL3.far (p := ⟨g, 9, none⟩) n1 (asV q' (cnt + 1) c')
  have hO3 : Only G w w3 := (h1.mono (fun _ h => h.elim)).trans (Only.of_grown hg h.ga)
  have hO4 := hO3.setCell (p := ⟨g, 9, none⟩) (.inl h.gg) (asV q' (cnt + 1) c')
  have hO5 := hO4.setCell (p := ⟨ql, hashP b sz cnt, none⟩) (.inl h.gl) (.int .u32 ((cnt + 1 : Nat) : Int))
  have hnew : G q' ∨ w.heap.size ≤ q' := by
    rcases hq with h' | h'
    · exact .inl (h' ▸ h.ga)
    · exact .inr (by omega)
  refine ⟨hB3.cell 9, hB3.free 9, (hL4.cell _).trans (h.md.lv _ hu), hL4.free _, ⟨⟨hB4.far (p := ⟨ql, hashP b sz cnt, none⟩) (fun e => n1 e.symm) _, h.fq.sl.only hO5 h.ap, h.fq.n1, h.fq.i1, h.fq.d1, h.fq.d2, h.fq.lit⟩, ⟨hL4.put _ _, ?_, fun v hv => ?_, ?_, h.md.s1, h.md.s2, fun e => hqg.2 e.symm⟩, .inl h.gg, .inl h.gl, .inr rfl, ?_, ?_, n1, hqg.1⟩, hO5, hnew⟩
  · rw [Array.size_setIfInBounds]
    exact h.md.lz
  · have hz := h.md.lz
    have e : lastN (hashP b sz) v (cnt + 1) = if hashP b sz cnt = v then cnt + 1 else lastN (hashP b sz) v cnt := rfl
    rw [e, Array.getElem?_setIfInBounds]
    by_cases hv' : hashP b sz cnt = v
    · rw [if_pos hv', if_pos hv', if_pos (by omega)]
    · rw [if_neg hv', if_neg hv']
      exact h.md.lv v hv
  · rw [prevs_succ]
    have hO : Only (fun i => i = g ∨ i = ql) w3 ((w3.setCell ⟨g, 9, none⟩ (asV q' (cnt + 1) c')).setCell ⟨ql, hashP b sz cnt, none⟩ (.int .u32 ((cnt + 1 : Nat) : Int))) :=
      ((Only.refl _ w3).setCell (p := ⟨g, 9, none⟩) (.inl (.inl rfl)) _).setCell (p := ⟨ql, hashP b sz cnt, none⟩) (.inl (.inr rfl)) _
    exact own_only ho hO (by rintro (e | e); exact hqg.1 e; exact hqg.2 e)
  · have := hO5.size
    rintro i (hi | rfl)
    · have := h.lt i hi
      omega
    · simpa [World.setCell] using hq3
  · rintro hn q o e (hi | rfl)
    · exact h.ap hn q o e hi
    · rcases hnew with h' | h'
      · exact h.ap hn _ o e h'
      · obtain ⟨b', o', e', hlt, _⟩ := h.fq.sl.2 hn
        rw [e] at e'
        injection e' with e'
        injection e' with e'
        omega

/-- what adding owes -/
def AddPost (w : World) (g : Nat) (G : Nat → Prop) (A : Option Addr) (n c dict : Nat) (b : List UInt8) (s : Ps) (cnt : Nat) (x : Ending) (w' : World) : Prop :=
  x = .returned (.tuple #[]) ∧ ∃ (G' : Nat → Prop) (sz ql qa ca : Nat) (cs : Array Value), Fm w' g G' A n c dict b s cnt sz ql qa ca cs ∧ (∀ i, G' i → G i ∨ w.heap.size ≤ i) ∧ Only G w w'
theorem nw_trans {w wr : World} {G G1 G2 : Nat → Prop} (h : ∀ i, G1 i → G i ∨ w.heap.size ≤ i) (h2 : ∀ i, G2 i → G1 i ∨ wr.heap.size ≤ i) (hs : w.heap.size ≤ wr.heap.size) : ∀ i, G2 i → G i ∨ w.heap.size ≤ i := fun i hi => by
  rcases h2 i hi with h' | h'
  · exact h i h'
  · exact .inr (by omega)
theorem only_nw {w wr w' : World} {G G1 : Nat → Prop} (hO : Only G w wr) (h : ∀ i, G1 i → G i ∨ w.heap.size ≤ i) (h2 : Only G1 wr w') : Only G w w' := hO.trans' h2 h

set_option maxRecDepth 100000 in
set_option maxHeartbeats 8000000 in
/-- the loop of adding, from a world in which the lists are made -/
theorem padd_made {e : Nat} (h : Fm w g G A n c dict b s cnt sz ql qa ca cs) (hc : cnt ≤ e) (he : e < n) :
    Calls Try.prog 33 #[.pointer (some ⟨g, 7, none⟩), .int .i64 (e : Int)] w (AddPost w g G A n c dict b s e) := by
  have c8 : w.cell? ⟨g, 8, none⟩ = some (.slice (some ⟨ql, 0, none⟩) sz sz) := h.fq.f.cell 8
  have c9 : w.cell? ⟨g, 9, none⟩ = some (.slice (some ⟨qa, 0, none⟩) cnt ca) := h.fq.f.cell 9
  have hnil : ∀ W : World, (binOp .eql 44 (.slice (some ⟨ql, 0, none⟩) sz sz) (.slice none 0 0)).run Try.prog W = .ok (.bool false) W := fun _ => by kernel_rfl
  have HF := Lib.hid h
  have HE := Lib.hid (show cnt ≤ e ∧ e < n ∧ n ≤ 1000000000 from ⟨hc, he, h.fq.n1⟩)
  clear h hc he
  go_enter Try.func33, Try.ntmps33
  go_wp2_with fail
  clear c8 c9 hnil
  go_loopw [4] (fun v wr => ∃ (j : Nat) (G' : Nat → Prop) (qa ca : Nat) (cs : Array Value), j ≤ e ∧ v = .int .i64 (j : Int) ∧ Fm wr g G' A n c dict b s j sz ql qa ca cs ∧ (∀ i, G' i → G i ∨ w.heap.size ≤ i) ∧ Only G w wr) (fun v _ => e - (intOf v).toNat)
  case atStart => exact ⟨cnt, G, qa, ca, cs, HE.out.1, rfl, HF.out, fun i hi => .inl hi, Only.refl _ _⟩
  case round =>
    clear HF
    obtain ⟨j, G', qa, ca, cs, hj, rfl, hf, hnw, hO⟩ := hrel
    obtain ⟨_, he, hn⟩ := HE.out
    have HNW := Lib.hid hnw
    have HO := Lib.hid hO
    have HF := Lib.hid hf
    have hs := hO.size
    by_cases hlt : j < e
    · have i1 : (j : Int) < (e : Int) := by omega
      have K := Lib.hid (plist_any (p := j) (hf.fq.f.cell 7) (hf.fq.f.cell 8) hf.fq.sl hn (by omega) hf.md.s1 hf.md.s2)
      have HLT := Lib.hid hlt
      have HHS := Lib.hid hs
      clear hj hnw hO he hn hlt hs hf
      go_wp2_with fail
      refine K.out.mono ?_
      rintro x w1 ⟨rfl, k1, rfl⟩
      have hf := HF.out.drewN k1
      have HO1 := Lib.hid (HO.out.drewN k1)
      have HS1 := Lib.hid (show w.heap.size ≤ (wr.drewN k1).heap.size from HHS.out)
      clear K HO HF HHS
      generalize wr.drewN k1 = w2 at *
      obtain ⟨i, hi, hz0, hz1, hz2⟩ := info_parts info_p32
      have hu : hashP b sz j < sz := hash_lt hf.md.s1
      have c9 : w2.cell? ⟨g, 9, none⟩ = some (.slice (some ⟨qa, 0, none⟩) j ca) := hf.fq.f.cell 9
      have cu : w2.cell? ⟨ql, hashP b sz j, none⟩ = some (.int .u32 ((lastN (hashP b sz) (hashP b sz j) j : Nat) : Int)) := hf.md.lcell hu
      have HPU := Lib.hid (fun (k : Nat) (o : Obj) (q' c' : Nat) (w3 : World) (ho : w3.ownsRow 0 23 1 (.slice (some ⟨q', 0, none⟩) (j + 1) c') (j + 1) (prevs b sz j ++ [.int .u32 ((lastN (hashP b sz) (hashP b sz j) j : Nat) : Int)])) (hg : ((w2.drewN k).alloc o).grownBy w3 (some qa)) (hq : (some qa : Option Nat) = some q' ∨ q' = ((w2.drewN k).alloc o).heap.size) =>
        hf.push (((Only.refl (fun _ => False) w2).drewN k).alloc o) ho hg (hq.imp (fun h => by injection h) id))
      have HOA := Lib.hid (fun (k : Nat) (o : Obj) => World.ownsRow.alloc (show (w2.drewN k).ownsRow 0 23 1 (.slice (some ⟨qa, 0, none⟩) j ca) j (prevs b sz j) from hf.md.ar) o)
      have HNE := Lib.hid (fun (k : Nat) (u : Value) => (sl_one (w2.drewN k) 23 u).news)
      have c9a : (w2.alloc (.cells #[.int .u32 ((lastN (hashP b sz) (hashP b sz j) j : Nat) : Int)] 23)).cell? ⟨g, 9, none⟩ = some (.slice (some ⟨qa, 0, none⟩) j ca) := (hf.fq.f.alloc _).cell 9
      have HJ := Lib.hid (show j < e ∧ e < n ∧ n ≤ 1000000000 from ⟨HLT.out, HE.out.2⟩)
      have e1 : IntKind.i64.wrap ((j : Int) + 1) = (j : Int) + 1 := IntWalk.i64_in _ (by have := HJ.out; omega)
      have e2 : IntKind.u32.wrap ((j : Int) + 1) = (j : Int) + 1 := by have := HJ.out; simp [IntKind.wrap, IntKind.bits, IntKind.signed]; omega
      obtain ⟨u, hu0⟩ : ∃ u, u = hashP b sz j := ⟨_, rfl⟩
      obtain ⟨l, hl0⟩ : ∃ l, l = lastN (hashP b sz) u j := ⟨_, rfl⟩
      rw [← hu0, ← hl0] at cu HPU c9a
      rw [← hu0]
      clear hf hu HLT hu0 hl0
      go_wp2_with fail
      go_region_law (first | (refine step_append_lies _ rfl (.tmp 50) (.tmp 54) 44 rfl 0 23 i _ 1 4 Try.underlying44 hi hz0 hz1 hz2 rfl (by omega) _ j (prevs b sz j) rfl (HOA.out 1 _) _ 1 1 [.int .u32 (l : Int)] rfl rfl (HNE.out 1 _) (one_one _ _) (by omega) (by have := HJ.out; unfold maxLen; omega) (by have := HJ.out; omega) (Nat.zero_le _) _ rfl ?_; intro q' c' w3 ho hg hq hql3; obtain ⟨j9, z9, hP⟩ := HPU.out 1 _ q' c' w3 ho hg hq; have HP := Lib.hid hP; clear ho hg hq hP))
      all_goals
        clear c9 cu c9a HPU HOA HNE j9 z9
        obtain ⟨t1, t2, hF3, hO3, hn3⟩ := HP.out
        clear HP
        have HF3 := Lib.hid hF3
        have HO3 := Lib.hid hO3
        have HN3 := Lib.hid hn3
        clear hF3 hO3 hn3
        unfold asV at t1 t2 HF3 HO3
        generalize w3.setCell ⟨g, 9, none⟩ (.slice (some ⟨q', 0, none⟩) (j + 1) c') = w4 at *
        go_wp2_with fail
        go_roundw
        case rel => exact ⟨j + 1, _, q', c', _, by have := HJ.out; omega, by go_num, HF3.out, nw_trans HNW.out (fun i hi => by rcases hi with hi | rfl; exact .inl hi; exact HN3.out) HS1.out, only_nw HO1.out HNW.out HO3.out⟩
        case measure => have := HJ.out; simp [intOf]; omega
    · obtain rfl : j = e := by omega
      clear hj hnw hO hs hf he hn
      go_wp2_with fail
      first | go_end0 | refine bodyPost_ret (results_none rfl _ _ _) rfl ?_
      exact ⟨rfl, G', sz, ql, qa, ca, cs, HF.out, HNW.out, HO.out⟩
end
end Go.Proofs.Ytjganponepafpaa

/-
  The program's lists of places: they are made, and places come into them.
-/
namespace Go.Proofs.Ytjganponepafpaa
open Go.RowKit

/-- the finder whose lists aren't made -/
structure Fu (w : World) (g : Nat) (G : Nat → Prop) (A : Option Addr) (n c dict : Nat) (b : List UInt8) (s : Ps) : Prop where
  fq : Fq w g A n c dict b s (.slice none 0 0) (.slice none 0 0)
  gg : G g
  lt : ∀ i, G i → i < w.heap.size
  ap : 0 < n → ∀ q o, A = some ⟨q, o, none⟩ → ¬ G q
theorem made_get (k v : Nat) (h : v < k) : (madeCells #[.int .u32 0] k)[v]? = some (.int .u32 0) := by
  unfold madeCells
  simp [h, Nat.mod_one]
theorem made_size (k : Nat) : (madeCells #[.int .u32 0] k).size = k := by rw [size_madeCells]
section
variable {w : World} {g : Nat} {G : Nat → Prop} {A : Option Addr} {n c dict : Nat} {b : List UInt8} {s : Ps}
/-- the lists are made -/
theorem Fu.made (h : Fu w g G A n c dict b s) {w0 : World} (hw0 : Only (fun _ => False) w w0) {S : Nat} (h1 : 1 ≤ S) (h2 : S ≤ 65536) {q2 : Nat} {w1 w2 w3 w4 : World} (e1 : w1 = w0.alloc (.cells (madeCells #[.int .u32 0] S) 23)) (e2 : w2 = w1.setCell ⟨g, 8, none⟩ (lsV w0.heap.size S))
    (e3 : w3 = w2.alloc (.cells (madeCells #[.int .u32 0] n) 23)) (e4 : w4 = w3.setCell ⟨g, 9, none⟩ (asV q2 0 n)) (hq2 : q2 = w0.heap.size + 1) :
    w1.cell? ⟨g, 8, none⟩ = some (.slice none 0 0) ∧ w1.frozen? ⟨g, 8, none⟩ = false ∧ w2.cell? ⟨g, 7, none⟩ = some (.slice A n c) ∧ w3.cell? ⟨g, 9, none⟩ = some (.slice none 0 0) ∧ w3.frozen? ⟨g, 9, none⟩ = false ∧
    ∃ G', Fm w4 g G' A n c dict b s 0 S w0.heap.size q2 n (madeCells #[.int .u32 0] S) ∧ (∀ i, G' i → G i ∨ w.heap.size ≤ i) ∧ Only G w w4 := by
  have hg0 := h.lt g h.gg
  have hs0 := hw0.size
  have hz1 : w1.heap.size = w0.heap.size + 1 := by rw [e1]; simp
  have hz2 : w2.heap.size = w0.heap.size + 1 := by rw [e2]; simpa using hz1
  have hq2' : w2.heap.size = q2 := by omega
  have hz3 : w3.heap.size = w0.heap.size + 2 := by rw [e3]; simp [hz2]
  have hz4 : w4.heap.size = w0.heap.size + 2 := by rw [e4]; simpa using hz3
  have hB0 := h.fq.f.only hw0 (fun h => h)
  have hB1 := hB0.alloc (.cells (madeCells #[.int .u32 0] S) 23)
  rw [← e1] at hB1
  have hL1 := Blk.fresh w0 23 (madeCells #[.int .u32 0] S)
  rw [← e1] at hL1
  have hB2 := hB1.put 8 (lsV w0.heap.size S)
  rw [← e2] at hB2
  have hL2 := hL1.far (p := ⟨g, 8, none⟩) (by show w0.heap.size ≠ g; omega) (lsV w0.heap.size S)
  rw [← e2] at hL2
  have hB3 := hB2.alloc (.cells (madeCells #[.int .u32 0] n) 23)
  rw [← e3] at hB3
  have hL3 := hL2.alloc (.cells (madeCells #[.int .u32 0] n) 23)
  rw [← e3] at hL3
  have hA3 := Blk.fresh w2 23 (madeCells #[.int .u32 0] n)
  rw [← e3, hq2'] at hA3
  have hB4 := hB3.put 9 (asV q2 0 n)
  rw [← e4] at hB4
  have hL4 := hL3.far (p := ⟨g, 9, none⟩) (by show w0.heap.size ≠ g; omega) (asV q2 0 n)
  rw [← e4] at hL4
  have hA4 := hA3.far (p := ⟨g, 9, none⟩) (by show q2 ≠ g; omega) (asV q2 0 n)
  rw [← e4] at hA4
  have hO : Only G w w4 := by
    rw [e4, e3, e2, e1]
    exact ((((hw0.mono (fun _ h => h.elim)).alloc _).setCell (p := ⟨g, 8, none⟩) (.inl h.gg) _).alloc _).setCell (p := ⟨g, 9, none⟩) (.inl h.gg) _
  have hn := h.fq.n1
  refine ⟨hB1.cell 8, hB1.free 8, hB2.cell 7, hB3.cell 9, hB3.free 9, fun i => G i ∨ i = w0.heap.size ∨ i = q2, ⟨⟨hB4, h.fq.sl.only hO h.ap, h.fq.n1, h.fq.i1, h.fq.d1, h.fq.d2, h.fq.lit⟩, ⟨hL4, made_size S, fun v hv => made_get S v hv, ?_, h1, h2, by omega⟩, .inl h.gg, .inr (.inl rfl), .inr (.inr rfl), ?_, ?_, by omega, by omega⟩, ?_, hO⟩
  · exact ⟨rfl, .inr ⟨q2, n, _, rfl, Nat.zero_le _, hA4, Nat.zero_le _, by unfold maxLen; omega, by rw [made_size]; simp, rfl⟩⟩
  · rintro i (hi | rfl | rfl)
    · have := h.lt i hi
      omega
    · omega
    · omega
  · rintro hn0 q o e (hi | hi | hi)
    · exact h.ap hn0 q o e hi
    · obtain ⟨b', o', e', hlt, _⟩ := h.fq.sl.2 hn0
      rw [e] at e'
      injection e' with e'
      injection e' with e'
      omega
    · obtain ⟨b', o', e', hlt, _⟩ := h.fq.sl.2 hn0
      rw [e] at e'
      injection e' with e'
      injection e' with e'
      omega
  · rintro i (hi | rfl | rfl)
    · exact .inl hi
    · exact .inr hs0
    · exact .inr (by omega)

set_option maxRecDepth 100000 in
set_option maxHeartbeats 8000000 in
theorem padd_new {e : Nat} (h : Fu w g G A n c dict b s) (he : e < n) :
    Calls Try.prog 33 #[.pointer (some ⟨g, 7, none⟩), .int .i64 (e : Int)] w (AddPost w g G A n c dict b s e) := by
  have c7 : w.cell? ⟨g, 7, none⟩ = some (.slice A n c) := h.fq.f.cell 7
  have c8 : w.cell? ⟨g, 8, none⟩ = some (.slice none 0 0) := h.fq.f.cell 8
  have hnil : ∀ W : World, (binOp .eql 44 (.slice none 0 0) (.slice none 0 0)).run Try.prog W = .ok (.bool true) W := fun _ => by kernel_rfl
  have hn1 := h.fq.n1
  have KL := Lib.hid (plen_any (x := n) (by omega) w)
  have e0 : IntKind.u64.wrap (n : Int) = (n : Int) := u64_in _ (by omega)
  have HF := Lib.hid h
  have HE := Lib.hid (show 0 ≤ e ∧ e < n ∧ n ≤ 1000000000 from ⟨Nat.zero_le _, he, hn1⟩)
  clear h he hn1
  go_enter Try.func33, Try.ntmps33
  go_wp2_with fail
  refine KL.out.mono ?_
  rintro x w0 ⟨⟨k, hk, rfl⟩, rfl⟩
  clear KL
  obtain ⟨S, hS⟩ : ∃ S, S = min (2 ^ k) 65536 := ⟨_, rfl⟩
  have hp1 : 1 ≤ 2 ^ k := Nat.one_le_two_pow
  have hp2 : 2 ^ k ≤ 2 ^ 32 := Nat.pow_le_pow_right (by omega) hk
  have hSS : 1 ≤ S ∧ S ≤ 65536 := by omega
  have ek : min k 64 = k := by omega
  have ep : ((2 : Int) ^ k) = ((2 ^ k : Nat) : Int) := cast_pow2 k
  have ew : wrap64 ((2 : Int) ^ k) = ((2 ^ k : Nat) : Int) := by rw [ep]; exact IntWalk.wrap64_in _ ⟨by omega, by omega⟩
  have ew2 : IntKind.i64.wrap ((2 : Int) ^ k) = ((2 ^ k : Nat) : Int) := by rw [ep]; exact IntWalk.i64_in _ (by omega)
  have k0 : (0 : Int) ≤ (k : Int) := by omega
  have k1 : (k : Int) ≤ 64 := by omega
  have hm := min2_int (P := Try.prog) #[3, 3] 3 ((2 ^ k : Nat) : Int) 65536 (S : Int) (by omega)
  obtain ⟨P2, hP2⟩ : ∃ P2, P2 = 2 ^ k := ⟨_, rfl⟩
  rw [← hP2] at ew ew2 hm hS hp1 hp2
  clear ep hP2
  have HSS := Lib.hid hSS
  obtain ⟨i, hi, hz0, hz1, hz2⟩ := info_parts info_p32
  have hmk : ∀ W : World, (Instr.makeSlice 44 (.int .i64 (S : Int)) (.int .i64 (S : Int))).run Try.prog W = .ok (.slice (some ⟨W.heap.size, 0, none⟩) S S) (W.alloc (.cells (madeCells #[.int .u32 0] S) 23)) := by
    intro W
    have := run_make (P := Try.prog) W 44 23 i (.int .u32 0) Try.underlying44 hi hz0 .i64 .i64 (S : Int) (S : Int) (by omega) (Int.le_refl _) (by rw [hz2]; omega) (by omega)
    rw [hz1, Int.toNat_natCast, Nat.mul_one] at this
    exact this
  have hmk2 : ∀ W : World, (Instr.makeSlice 44 (.int .i64 0) (.int .i64 (n : Int))).run Try.prog W = .ok (.slice (some ⟨W.heap.size, 0, none⟩) 0 n) (W.alloc (.cells (madeCells #[.int .u32 0] n) 23)) := by
    intro W
    have hn1 := HE.out.2.2
    have := run_make (P := Try.prog) W 44 23 i (.int .u32 0) Try.underlying44 hi hz0 .i64 .i64 0 (n : Int) (by omega) (by omega) (by rw [hz2]; omega) (by omega)
    rw [hz1, Int.toNat_natCast, Nat.mul_one] at this
    exact this
  obtain ⟨d1, d2, d3, d4, d5, G5, hF4, hN4, hO4⟩ := HF.out.made (Only.refl _ w) hSS.1 hSS.2 (q2 := w.heap.size + 1) rfl rfl rfl rfl rfl
  unfold lsV at d3 d4 d5
  unfold lsV asV at hF4 hO4
  have HN4 := Lib.hid hN4
  have HO4 := Lib.hid hO4
  have HF4 := Lib.hid hF4
  clear hi hz0 hz1 hz2 hS hp1 hp2 hSS hN4 hO4 hF4 HF
  go_upto_region 3 with fail
  generalize ((((w.alloc (.cells (madeCells #[.int .u32 0] S) 23)).setCell ⟨g, 8, none⟩ (.slice (some ⟨w.heap.size, 0, none⟩) S S)).alloc (.cells (madeCells #[.int .u32 0] n) 23)).setCell ⟨g, 9, none⟩ (.slice (some ⟨w.heap.size + 1, 0, none⟩) 0 n)) = w5 at *
  generalize w.heap.size + 1 = qb at *
  obtain ⟨sz, hsz⟩ : ∃ sz, sz = S := ⟨_, rfl⟩
  obtain ⟨ql, hql⟩ : ∃ ql, ql = w.heap.size := ⟨_, rfl⟩
  rw [← hsz, ← hql] at HF4
  have HQL := Lib.hid (And.intro hsz hql)
  clear c7 c8 d1 d2 d3 d4 d5 hmk hmk2 hm ew ew2 k0 k1 hnil e0 ek hsz hql HSS hk
  have c9 : w5.cell? ⟨g, 9, none⟩ = some (.slice (some ⟨qb, 0, none⟩) 0 n) := HF4.out.fq.f.cell 9
  go_wp2_with fail
  clear c9
  go_loopw [4] (fun v wr => ∃ (j : Nat) (G' : Nat → Prop) (qa ca : Nat) (cs : Array Value), j ≤ e ∧ v = .int .i64 (j : Int) ∧ Fm wr g G' A n c dict b s j sz ql qa ca cs ∧ (∀ i, G' i → G i ∨ w.heap.size ≤ i) ∧ Only G w wr) (fun v _ => e - (intOf v).toNat)
  case atStart => exact ⟨0, G5, _, _, _, Nat.zero_le _, rfl, HF4.out, HN4.out, HO4.out⟩
  case round =>
    clear HF4 HN4 HO4
    obtain ⟨j, G', qa, ca, cs, hj, rfl, hf, hnw, hO⟩ := hrel
    obtain ⟨_, he, hn⟩ := HE.out
    have HNW := Lib.hid hnw
    have HO := Lib.hid hO
    have HF := Lib.hid hf
    have hs := hO.size
    by_cases hlt : j < e
    · have i1 : (j : Int) < (e : Int) := by omega
      have K := Lib.hid (plist_any (p := j) (hf.fq.f.cell 7) (hf.fq.f.cell 8) hf.fq.sl hn (by omega) hf.md.s1 hf.md.s2)
      have HLT := Lib.hid hlt
      have HHS := Lib.hid hs
      clear hj hnw hO he hn hlt hs hf
      go_wp2_with fail
      refine K.out.mono ?_
      rintro x w1 ⟨rfl, k1, rfl⟩
      have hf := HF.out.drewN k1
      have HO1 := Lib.hid (HO.out.drewN k1)
      have HS1 := Lib.hid (show w.heap.size ≤ (wr.drewN k1).heap.size from HHS.out)
      clear K HO HF HHS
      generalize wr.drewN k1 = w2 at *
      obtain ⟨i, hi, hz0, hz1, hz2⟩ := info_parts info_p32
      have hu : hashP b sz j < sz := hash_lt hf.md.s1
      have c9 : w2.cell? ⟨g, 9, none⟩ = some (.slice (some ⟨qa, 0, none⟩) j ca) := hf.fq.f.cell 9
      have cu : w2.cell? ⟨ql, hashP b sz j, none⟩ = some (.int .u32 ((lastN (hashP b sz) (hashP b sz j) j : Nat) : Int)) := hf.md.lcell hu
      have HPU := Lib.hid (fun (k : Nat) (o : Obj) (q' c' : Nat) (w3 : World) (ho : w3.ownsRow 0 23 1 (.slice (some ⟨q', 0, none⟩) (j + 1) c') (j + 1) (prevs b sz j ++ [.int .u32 ((lastN (hashP b sz) (hashP b sz j) j : Nat) : Int)])) (hg : ((w2.drewN k).alloc o).grownBy w3 (some qa)) (hq : (some qa : Option Nat) = some q' ∨ q' = ((w2.drewN k).alloc o).heap.size) =>
        hf.push (((Only.refl (fun _ => False) w2).drewN k).alloc o) ho hg (hq.imp (fun h => by injection h) id))
      have HOA := Lib.hid (fun (k : Nat) (o : Obj) => World.ownsRow.alloc (show (w2.drewN k).ownsRow 0 23 1 (.slice (some ⟨qa, 0, none⟩) j ca) j (prevs b sz j) from hf.md.ar) o)
      have HNE := Lib.hid (fun (k : Nat) (u : Value) => (sl_one (w2.drewN k) 23 u).news)
      have c9a : (w2.alloc (.cells #[.int .u32 ((lastN (hashP b sz) (hashP b sz j) j : Nat) : Int)] 23)).cell? ⟨g, 9, none⟩ = some (.slice (some ⟨qa, 0, none⟩) j ca) := (hf.fq.f.alloc _).cell 9
      have HJ := Lib.hid (show j < e ∧ e < n ∧ n ≤ 1000000000 from ⟨HLT.out, HE.out.2⟩)
      have e1 : IntKind.i64.wrap ((j : Int) + 1) = (j : Int) + 1 := IntWalk.i64_in _ (by have := HJ.out; omega)
      have e2 : IntKind.u32.wrap ((j : Int) + 1) = (j : Int) + 1 := by have := HJ.out; simp [IntKind.wrap, IntKind.bits, IntKind.signed]; omega
      obtain ⟨u, hu0⟩ : ∃ u, u = hashP b sz j := ⟨_, rfl⟩
      obtain ⟨l, hl0⟩ : ∃ l, l = lastN (hashP b sz) u j := ⟨_, rfl⟩
      rw [← hu0, ← hl0] at cu HPU c9a
      rw [← hu0]
      clear hf hu HLT hu0 hl0
      go_wp2_with fail
      go_region_law (first | (refine step_append_lies _ rfl (.tmp 50) (.tmp 54) 44 rfl 0 23 i _ 1 4 Try.underlying44 hi hz0 hz1 hz2 rfl (by omega) _ j (prevs b sz j) rfl (HOA.out 1 _) _ 1 1 [.int .u32 (l : Int)] rfl rfl (HNE.out 1 _) (one_one _ _) (by omega) (by have := HJ.out; unfold maxLen; omega) (by have := HJ.out; omega) (Nat.zero_le _) _ rfl ?_; intro q' c' w3 ho hg hq hql3; obtain ⟨j9, z9, hP⟩ := HPU.out 1 _ q' c' w3 ho hg hq; have HP := Lib.hid hP; clear ho hg hq hP))
      all_goals
        clear c9 cu c9a HPU HOA HNE j9 z9
        obtain ⟨t1, t2, hF3, hO3, hn3⟩ := HP.out
        clear HP
        have HF3 := Lib.hid hF3
        have HO3 := Lib.hid hO3
        have HN3 := Lib.hid hn3
        clear hF3 hO3 hn3
        unfold asV at t1 t2 HF3 HO3
        generalize w3.setCell ⟨g, 9, none⟩ (.slice (some ⟨q', 0, none⟩) (j + 1) c') = w4 at *
        go_wp2_with fail
        go_roundw
        case rel => exact ⟨j + 1, _, q', c', _, by have := HJ.out; omega, by go_num, HF3.out, nw_trans HNW.out (fun i hi => by rcases hi with hi | rfl; exact .inl hi; exact HN3.out) HS1.out, only_nw HO1.out HNW.out HO3.out⟩
        case measure => have := HJ.out; simp [intOf]; omega
    · obtain rfl : j = e := by omega
      clear hj hnw hO hs hf he hn
      go_wp2_with fail
      first | go_end0 | refine bodyPost_ret (results_none rfl _ _ _) rfl ?_
      exact ⟨rfl, G', sz, ql, qa, ca, cs, HF.out, HNW.out, HO.out⟩
end
end Go.Proofs.Ytjganponepafpaa

/-
  The program's finder: the elder distances' longest copy.
-/
namespace Go.Proofs.Ytjganponepafpaa
open Go.RowKit
theorem best2_take {g : Nat → Nat} {j n : Nat} (hn : n = g j) (h2 : 2 ≤ n) (hl : (best2 g j).2 < n) : best2 g (j + 1) = (j, n) := by
  subst hn
  exact if_pos ⟨h2, hl⟩
theorem best2_skip {g : Nat → Nat} {j n : Nat} (hn : n = g j) (h : ¬ (2 ≤ n ∧ (best2 g j).2 < n)) : best2 g (j + 1) = best2 g j := by
  subst hn
  exact if_neg h
section
variable {w : World} {g : Nat} {A : Option Addr} {n c dict : Nat} {b : List UInt8} {s : Ps} {lv av : Value}
set_option maxRecDepth 100000 in
set_option maxHeartbeats 8000000 in
theorem pelder_any (h : Fq w g A n c dict b s lv av) :
    Calls Try.prog 19 #[.pointer (some ⟨g, 0, none⟩)] w fun x w' => x = .returned (.tuple #[.int .i64 (((eld2 b dict n s).1 : Nat) : Int), .int .i64 (((eld2 b dict n s).2 : Nat) : Int)]) ∧ ∃ k, w.drewN k = w' := by
  have c3 := h.c3
  have c4 := h.c4
  have c5 := h.c5
  have c6 := h.c6
  have KC := Lib.hid (fun (k d : Nat) (hd : d < 4294967296) => pcopied_any (d := d) (h.drewN k) hd)
  have HLIT := Lib.hid h.lit
  obtain ⟨gg, hg⟩ : ∃ gg : Nat → Nat, gg = fun h => cpN b dict n s.i (s.rep h) := ⟨_, rfl⟩
  have h0 : cpN b dict n s.i s.r0 = gg 0 := by rw [hg]; rfl
  have h1 : cpN b dict n s.i s.r1 = gg 1 := by rw [hg]; rfl
  have h2 : cpN b dict n s.i s.r2 = gg 2 := by rw [hg]; rfl
  have h3 : cpN b dict n s.i s.r3 = gg 3 := by rw [hg]; rfl
  have HG := Lib.hid (And.intro h0 (And.intro h1 (And.intro h2 h3)))
  have he : eld2 b dict n s = best2 gg 4 := by rw [hg]; rfl
  rw [he]
  have HN := Lib.hid (fun j => show gg j ≤ 273 by rw [hg]; have := cpN_le b dict n s.i (s.rep j); simp only; omega)
  clear h hg h0 h1 h2 h3 he
  go_enter Try.func19, Try.ntmps19
  go_wp2_with fail
  go_loopw [4, 5, 13] (fun v4 v5 v13 wr => ∃ j k : Nat, j ≤ 4 ∧ v13 = .int .i64 (j : Int) ∧ v4 = .int .i64 (((best2 gg j).1 : Nat) : Int) ∧ v5 = .int .i64 (((best2 gg j).2 : Nat) : Int) ∧ wr = w.drewN k) (fun _ _ v _ => 4 - (intOf v).toNat)
  case atStart => exact ⟨0, 0, by omega, rfl, rfl, rfl, rfl⟩
  case round =>
    obtain ⟨j, k, hj, rfl, rfl, rfl, rfl⟩ := hrel
    have hc : j = 0 ∨ j = 1 ∨ j = 2 ∨ j = 3 ∨ j = 4 := by omega
    rcases hc with rfl | rfl | rfl | rfl | rfl
    · have K := KC.out k s.r0 HLIT.out.r0
      rw [HG.out.1] at K
      have K := Lib.hid K
      have e1 : IntKind.i64.wrap (s.r0 : Int) = (s.r0 : Int) := IntWalk.i64_in _ (by have := HLIT.out.r0; omega)
      have HB := Lib.hid (HN.out 0)
      obtain ⟨x, hx⟩ : ∃ x, x = gg 0 := ⟨_, rfl⟩
      obtain ⟨a, ha⟩ : ∃ a, a = (best2 gg 0).1 := ⟨_, rfl⟩
      obtain ⟨m, hm⟩ : ∃ m, m = (best2 gg 0).2 := ⟨_, rfl⟩
      rw [← hx] at K HB
      rw [← ha, ← hm]
      have e2 : IntKind.i64.wrap ((0 : Int) + 1) = 1 := by decide
      have hix : ∀ W : World, (Instr.index 47 (.agg #[.int .u32 (s.r0 : Int), .int .u32 (s.r1 : Int), .int .u32 (s.r2 : Int), .int .u32 (s.r3 : Int)]) (.int .i64 0)).run Try.prog W = .ok (.int .u32 (s.r0 : Int)) W := fun _ => by kernel_rfl
      clear hj
      by_cases g1 : 2 ≤ x
      · by_cases g2 : m < x
        · have HR := Lib.hid (best2_take hx g1 (by omega))
          have i1 : (2 : Int) ≤ (x : Int) := by omega
          have i2 : (m : Int) < (x : Int) := by omega
          clear hx ha hm g1 g2
          go_wp2_with fail
          refine K.out.mono ?_
          rintro e w1 ⟨rfl, k1, rfl⟩
          go_wp2_with fail
          go_roundw
          case rel => exact ⟨1, k + k1, by omega, by first | rfl | go_num, by rw [HR.out]; first | done | rfl, by rw [HR.out]; first | done | rfl, by first | rfl | exact World.drewN_drewN⟩
          case measure => simp [intOf]
        · have HR := Lib.hid (show (best2 gg 1).1 = a ∧ (best2 gg 1).2 = m by rw [best2_skip hx (fun h => by omega)]; exact ⟨ha.symm, hm.symm⟩)
          have i1 : (2 : Int) ≤ (x : Int) := by omega
          have i2 : ¬ (m : Int) < (x : Int) := by omega
          clear hx ha hm g1 g2
          go_wp2_with fail
          refine K.out.mono ?_
          rintro e w1 ⟨rfl, k1, rfl⟩
          go_wp2_with fail
          go_roundw
          case rel => exact ⟨1, k + k1, by omega, by first | rfl | go_num, by rw [HR.out.1], by rw [HR.out.2], by first | rfl | exact World.drewN_drewN⟩
          case measure => simp [intOf]
      · have HR := Lib.hid (show (best2 gg 1).1 = a ∧ (best2 gg 1).2 = m by rw [best2_skip hx (fun h => by omega)]; exact ⟨ha.symm, hm.symm⟩)
        have i1 : ¬ (2 : Int) ≤ (x : Int) := by omega
        clear hx ha hm g1
        go_wp2_with fail
        refine K.out.mono ?_
        rintro e w1 ⟨rfl, k1, rfl⟩
        go_wp2_with fail
        go_roundw
        case rel => exact ⟨1, k + k1, by omega, by first | rfl | go_num, by rw [HR.out.1], by rw [HR.out.2], by first | rfl | exact World.drewN_drewN⟩
        case measure => simp [intOf]
    · have K := KC.out k s.r1 HLIT.out.r1
      rw [HG.out.2.1] at K
      have K := Lib.hid K
      have e1 : IntKind.i64.wrap (s.r1 : Int) = (s.r1 : Int) := IntWalk.i64_in _ (by have := HLIT.out.r1; omega)
      have HB := Lib.hid (HN.out 1)
      obtain ⟨x, hx⟩ : ∃ x, x = gg 1 := ⟨_, rfl⟩
      obtain ⟨a, ha⟩ : ∃ a, a = (best2 gg 1).1 := ⟨_, rfl⟩
      obtain ⟨m, hm⟩ : ∃ m, m = (best2 gg 1).2 := ⟨_, rfl⟩
      rw [← hx] at K HB
      rw [← ha, ← hm]
      have e2 : IntKind.i64.wrap ((1 : Int) + 1) = 2 := by decide
      have hix : ∀ W : World, (Instr.index 47 (.agg #[.int .u32 (s.r0 : Int), .int .u32 (s.r1 : Int), .int .u32 (s.r2 : Int), .int .u32 (s.r3 : Int)]) (.int .i64 1)).run Try.prog W = .ok (.int .u32 (s.r1 : Int)) W := fun _ => by kernel_rfl
      clear hj
      by_cases g1 : 2 ≤ x
      · by_cases g2 : m < x
        · have HR := Lib.hid (best2_take hx g1 (by omega))
          have i1 : (2 : Int) ≤ (x : Int) := by omega
          have i2 : (m : Int) < (x : Int) := by omega
          clear hx ha hm g1 g2
          go_wp2_with fail
          refine K.out.mono ?_
          rintro e w1 ⟨rfl, k1, rfl⟩
          go_wp2_with fail
          go_roundw
          case rel => exact ⟨2, k + k1, by omega, by first | rfl | go_num, by rw [HR.out]; first | done | rfl, by rw [HR.out]; first | done | rfl, by first | rfl | exact World.drewN_drewN⟩
          case measure => simp [intOf]
        · have HR := Lib.hid (show (best2 gg 2).1 = a ∧ (best2 gg 2).2 = m by rw [best2_skip hx (fun h => by omega)]; exact ⟨ha.symm, hm.symm⟩)
          have i1 : (2 : Int) ≤ (x : Int) := by omega
          have i2 : ¬ (m : Int) < (x : Int) := by omega
          clear hx ha hm g1 g2
          go_wp2_with fail
          refine K.out.mono ?_
          rintro e w1 ⟨rfl, k1, rfl⟩
          go_wp2_with fail
          go_roundw
          case rel => exact ⟨2, k + k1, by omega, by first | rfl | go_num, by rw [HR.out.1], by rw [HR.out.2], by first | rfl | exact World.drewN_drewN⟩
          case measure => simp [intOf]
      · have HR := Lib.hid (show (best2 gg 2).1 = a ∧ (best2 gg 2).2 = m by rw [best2_skip hx (fun h => by omega)]; exact ⟨ha.symm, hm.symm⟩)
        have i1 : ¬ (2 : Int) ≤ (x : Int) := by omega
        clear hx ha hm g1
        go_wp2_with fail
        refine K.out.mono ?_
        rintro e w1 ⟨rfl, k1, rfl⟩
        go_wp2_with fail
        go_roundw
        case rel => exact ⟨2, k + k1, by omega, by first | rfl | go_num, by rw [HR.out.1], by rw [HR.out.2], by first | rfl | exact World.drewN_drewN⟩
        case measure => simp [intOf]
    · have K := KC.out k s.r2 HLIT.out.r2
      rw [HG.out.2.2.1] at K
      have K := Lib.hid K
      have e1 : IntKind.i64.wrap (s.r2 : Int) = (s.r2 : Int) := IntWalk.i64_in _ (by have := HLIT.out.r2; omega)
      have HB := Lib.hid (HN.out 2)
      obtain ⟨x, hx⟩ : ∃ x, x = gg 2 := ⟨_, rfl⟩
      obtain ⟨a, ha⟩ : ∃ a, a = (best2 gg 2).1 := ⟨_, rfl⟩
      obtain ⟨m, hm⟩ : ∃ m, m = (best2 gg 2).2 := ⟨_, rfl⟩
      rw [← hx] at K HB
      rw [← ha, ← hm]
      have e2 : IntKind.i64.wrap ((2 : Int) + 1) = 3 := by decide
      have hix : ∀ W : World, (Instr.index 47 (.agg #[.int .u32 (s.r0 : Int), .int .u32 (s.r1 : Int), .int .u32 (s.r2 : Int), .int .u32 (s.r3 : Int)]) (.int .i64 2)).run Try.prog W = .ok (.int .u32 (s.r2 : Int)) W := fun _ => by kernel_rfl
      clear hj
      by_cases g1 : 2 ≤ x
      · by_cases g2 : m < x
        · have HR := Lib.hid (best2_take hx g1 (by omega))
          have i1 : (2 : Int) ≤ (x : Int) := by omega
          have i2 : (m : Int) < (x : Int) := by omega
          clear hx ha hm g1 g2
          go_wp2_with fail
          refine K.out.mono ?_
          rintro e w1 ⟨rfl, k1, rfl⟩
          go_wp2_with fail
          go_roundw
          case rel => exact ⟨3, k + k1, by omega, by first | rfl | go_num, by rw [HR.out]; first | done | rfl, by rw [HR.out]; first | done | rfl, by first | rfl | exact World.drewN_drewN⟩
          case measure => simp [intOf]
        · have HR := Lib.hid (show (best2 gg 3).1 = a ∧ (best2 gg 3).2 = m by rw [best2_skip hx (fun h => by omega)]; exact ⟨ha.symm, hm.symm⟩)
          have i1 : (2 : Int) ≤ (x : Int) := by omega
          have i2 : ¬ (m : Int) < (x : Int) := by omega
          clear hx ha hm g1 g2
          go_wp2_with fail
          refine K.out.mono ?_
          rintro e w1 ⟨rfl, k1, rfl⟩
          go_wp2_with fail
          go_roundw
          case rel => exact ⟨3, k + k1, by omega, by first | rfl | go_num, by rw [HR.out.1], by rw [HR.out.2], by first | rfl | exact World.drewN_drewN⟩
          case measure => simp [intOf]
      · have HR := Lib.hid (show (best2 gg 3).1 = a ∧ (best2 gg 3).2 = m by rw [best2_skip hx (fun h => by omega)]; exact ⟨ha.symm, hm.symm⟩)
        have i1 : ¬ (2 : Int) ≤ (x : Int) := by omega
        clear hx ha hm g1
        go_wp2_with fail
        refine K.out.mono ?_
        rintro e w1 ⟨rfl, k1, rfl⟩
        go_wp2_with fail
        go_roundw
        case rel => exact ⟨3, k + k1, by omega, by first | rfl | go_num, by rw [HR.out.1], by rw [HR.out.2], by first | rfl | exact World.drewN_drewN⟩
        case measure => simp [intOf]
    · have K := KC.out k s.r3 HLIT.out.r3
      rw [HG.out.2.2.2] at K
      have K := Lib.hid K
      have e1 : IntKind.i64.wrap (s.r3 : Int) = (s.r3 : Int) := IntWalk.i64_in _ (by have := HLIT.out.r3; omega)
      have HB := Lib.hid (HN.out 3)
      obtain ⟨x, hx⟩ : ∃ x, x = gg 3 := ⟨_, rfl⟩
      obtain ⟨a, ha⟩ : ∃ a, a = (best2 gg 3).1 := ⟨_, rfl⟩
      obtain ⟨m, hm⟩ : ∃ m, m = (best2 gg 3).2 := ⟨_, rfl⟩
      rw [← hx] at K HB
      rw [← ha, ← hm]
      have e2 : IntKind.i64.wrap ((3 : Int) + 1) = 4 := by decide
      have hix : ∀ W : World, (Instr.index 47 (.agg #[.int .u32 (s.r0 : Int), .int .u32 (s.r1 : Int), .int .u32 (s.r2 : Int), .int .u32 (s.r3 : Int)]) (.int .i64 3)).run Try.prog W = .ok (.int .u32 (s.r3 : Int)) W := fun _ => by kernel_rfl
      clear hj
      by_cases g1 : 2 ≤ x
      · by_cases g2 : m < x
        · have HR := Lib.hid (best2_take hx g1 (by omega))
          have i1 : (2 : Int) ≤ (x : Int) := by omega
          have i2 : (m : Int) < (x : Int) := by omega
          clear hx ha hm g1 g2
          go_wp2_with fail
          refine K.out.mono ?_
          rintro e w1 ⟨rfl, k1, rfl⟩
          go_wp2_with fail
          go_roundw
          case rel => exact ⟨4, k + k1, by omega, by first | rfl | go_num, by rw [HR.out]; first | done | rfl, by rw [HR.out]; first | done | rfl, by first | rfl | exact World.drewN_drewN⟩
          case measure => simp [intOf]
        · have HR := Lib.hid (show (best2 gg 4).1 = a ∧ (best2 gg 4).2 = m by rw [best2_skip hx (fun h => by omega)]; exact ⟨ha.symm, hm.symm⟩)
          have i1 : (2 : Int) ≤ (x : Int) := by omega
          have i2 : ¬ (m : Int) < (x : Int) := by omega
          clear hx ha hm g1 g2
          go_wp2_with fail
          refine K.out.mono ?_
          rintro e w1 ⟨rfl, k1, rfl⟩
          go_wp2_with fail
          go_roundw
          case rel => exact ⟨4, k + k1, by omega, by first | rfl | go_num, by rw [HR.out.1], by rw [HR.out.2], by first | rfl | exact World.drewN_drewN⟩
          case measure => simp [intOf]
      · have HR := Lib.hid (show (best2 gg 4).1 = a ∧ (best2 gg 4).2 = m by rw [best2_skip hx (fun h => by omega)]; exact ⟨ha.symm, hm.symm⟩)
        have i1 : ¬ (2 : Int) ≤ (x : Int) := by omega
        clear hx ha hm g1
        go_wp2_with fail
        refine K.out.mono ?_
        rintro e w1 ⟨rfl, k1, rfl⟩
        go_wp2_with fail
        go_roundw
        case rel => exact ⟨4, k + k1, by omega, by first | rfl | go_num, by rw [HR.out.1], by rw [HR.out.2], by first | rfl | exact World.drewN_drewN⟩
        case measure => simp [intOf]
    · clear KC HG HN HLIT hj
      go_wp2_with fail
      go_ret2
      exact ⟨rfl, k, rfl⟩
end
end Go.Proofs.Ytjganponepafpaa
