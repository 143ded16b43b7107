/-
  PsWor, PsFin, PsPlc: put together.
-/
import Derived.Test.YtpbjkiejegpbcaaMp02
import Derived.Deep.Cut
set_option linter.unusedVariables false
set_option linter.unusedSimpArgs false
/-
  Lists of places, as numbers: the last place of a list, and the longest copy that is found by them.
-/
namespace Go.Proofs.Ytpbjkiejegpbcaa
open Go.RowKit

theorem pi64_or (a b : Nat) (ha : a < 9223372036854775808) (hb : b < 9223372036854775808) : bits .or .i64 (a : Int) (b : Int) = ((a ||| b : Nat) : Int) := by
  have hx : a ||| b < 2 ^ 63 := Nat.or_lt_two_pow (by omega) (by omega)
  show IntKind.i64.wrap ((BitVec.ofInt 64 (a : Int) ||| BitVec.ofInt 64 (b : Int)).toNat : Int) = _
  rw [BitVec.toNat_or, ofInt_u64 a (by omega), ofInt_u64 b (by omega), IntKind.wrap_i64]
  omega
theorem pi64_and (a b : Nat) (ha : a < 9223372036854775808) (hb : b < 9223372036854775808) : bits .and .i64 (a : Int) (b : Int) = ((a &&& b : Nat) : Int) := by
  have hx : a &&& b < 2 ^ 63 := Nat.and_lt_two_pow _ (by omega)
  show IntKind.i64.wrap ((BitVec.ofInt 64 (a : Int) &&& BitVec.ofInt 64 (b : Int)).toNat : Int) = _
  rw [BitVec.toNat_and, ofInt_u64 a (by omega), ofInt_u64 b (by omega), IntKind.wrap_i64]
  omega
/-- two bytes -/
def twoP (b : List UInt8) (p : Nat) : Nat := (b.getD p 0).toNat * 256 ||| (b.getD (p + 1) 0).toNat
theorem twoP_lt (b : List UInt8) (p : Nat) : twoP b p < 65536 := by
  have h1 := (b.getD p 0).toNat_lt
  have h2 := (b.getD (p + 1) 0).toNat_lt
  exact Nat.or_lt_two_pow (n := 16) (by omega) (by omega)
/-- which list -/
def hashP (b : List UInt8) (sz p : Nat) : Nat := twoP b p &&& (sz - 1)
theorem hash_lt {b : List UInt8} {sz p : Nat} (h : 1 ≤ sz) : hashP b sz p < sz := by
  have : hashP b sz p ≤ sz - 1 := Nat.and_le_right
  omega
theorem hash_same {b : List UInt8} {sz p q : Nat} (h0 : b.getD p 0 = b.getD q 0) (h1 : b.getD (p + 1) 0 = b.getD (q + 1) 0) : hashP b sz p = hashP b sz q := by
  unfold hashP twoP
  rw [h0, h1]
/-- the last place below n of a list, and 1; 0 if there is none -/
def lastN (h : Nat → Nat) (v : Nat) : Nat → Nat
  | 0 => 0
  | p + 1 => if h p = v then p + 1 else lastN h v p
theorem lastN_le (h : Nat → Nat) (v : Nat) : ∀ n, lastN h v n ≤ n
  | 0 => Nat.le_refl _
  | p + 1 => by
    have := lastN_le h v p
    unfold lastN
    split <;> omega
theorem lastN_none {h : Nat → Nat} {v : Nat} : ∀ {n}, lastN h v n = 0 → ∀ p, p < n → h p ≠ v
  | 0, _, p, hp => absurd hp (Nat.not_lt_zero p)
  | n + 1, h0, p, hp => by
    unfold lastN at h0
    split at h0
    · omega
    · rename_i hn
      by_cases e : p = n
      · subst e; exact hn
      · exact lastN_none h0 p (by omega)
theorem lastN_some {h : Nat → Nat} {v q : Nat} : ∀ {n}, lastN h v n = q + 1 → q < n ∧ h q = v ∧ ∀ p, q < p → p < n → h p ≠ v
  | 0, h0 => by unfold lastN at h0; omega
  | n + 1, h0 => by
    unfold lastN at h0
    split at h0
    · rename_i hn
      obtain rfl : q = n := by omega
      exact ⟨by omega, hn, fun p h1 h2 => by omega⟩
    · rename_i hn
      obtain ⟨h1, h2, h3⟩ := lastN_some h0
      exact ⟨by omega, h2, fun p h4 h5 => by
        by_cases e : p = n
        · subst e; exact hn
        · exact h3 p h4 (by omega)⟩

/-- the longest copy of the first n distances, if it is worth it -/
def wor (g : Nat → Nat) (l0 n : Nat) : Nat × Nat := if l0 ≤ (best g n).2 then best g n else (0, 0)
def leastOf (l0 : Nat) (x : Nat × Nat) : Nat := if x.2 = 0 then l0 else x.2 + 1
theorem wor_zero (g : Nat → Nat) (l0 : Nat) : wor g l0 0 = (0, 0) := by
  unfold wor
  show (if l0 ≤ 0 then ((0, 0) : Nat × Nat) else (0, 0)) = (0, 0)
  split <;> rfl
theorem wor_skip {g : Nat → Nat} {l0 n : Nat} (h1 : 1 ≤ l0) (h : g n < leastOf l0 (wor g l0 n)) : wor g l0 (n + 1) = wor g l0 n := by
  unfold leastOf wor at h
  by_cases hb : l0 ≤ (best g n).2
  · rw [if_pos hb, if_neg (by omega)] at h
    have e : best g (n + 1) = best g n := if_neg (by omega)
    unfold wor
    rw [e]
  · rw [if_neg hb, if_pos rfl] at h
    unfold wor
    rw [if_neg hb]
    have e : (best g (n + 1)).2 < l0 := by
      show (if (best g n).2 < g n then (n, g n) else best g n).2 < l0
      split
      · exact h
      · omega
    rw [if_neg (by omega)]
theorem wor_take {g : Nat → Nat} {l0 n : Nat} (h1 : 1 ≤ l0) (h : leastOf l0 (wor g l0 n) ≤ g n) : wor g l0 (n + 1) = (n, g n) := by
  have hlt : (best g n).2 < g n ∧ l0 ≤ g n := by
    unfold leastOf wor at h
    by_cases hb : l0 ≤ (best g n).2
    · rw [if_pos hb, if_neg (by omega)] at h
      omega
    · rw [if_neg hb, if_pos rfl] at h
      omega
  have e : best g (n + 1) = (n, g n) := if_pos hlt.1
  unfold wor
  rw [e, if_pos hlt.2]
theorem wor_skips {g : Nat → Nat} {l0 n : Nat} (h1 : 1 ≤ l0) : ∀ k, (∀ d, n ≤ d → d < n + k → g d < leastOf l0 (wor g l0 n)) → wor g l0 (n + k) = wor g l0 n
  | 0, _ => rfl
  | k + 1, h => by
    have ih := wor_skips h1 k (fun d h2 h3 => h d h2 (by omega))
    have := wor_skip (g := g) (l0 := l0) (n := n + k) h1 (by rw [ih]; exact h (n + k) (by omega) (by omega))
    rw [show n + (k + 1) = n + k + 1 by omega, this, ih]
theorem wor_to {g : Nat → Nat} {l0 n N : Nat} (h1 : 1 ≤ l0) (hn : n ≤ N) (h : ∀ d, n ≤ d → d < N → g d < leastOf l0 (wor g l0 n)) : wor g l0 N = wor g l0 n := by
  have := wor_skips (g := g) (l0 := l0) (n := n) h1 (N - n) (fun d h2 h3 => h d h2 (by omega))
  rwa [show n + (N - n) = N by omega] at this
theorem least_ge {l0 : Nat} {x : Nat × Nat} (h : 2 ≤ l0) (hx : x.2 = 0 ∨ l0 ≤ x.2) : 2 ≤ leastOf l0 x := by
  unfold leastOf
  split <;> omega
theorem wor_or (g : Nat → Nat) (l0 n : Nat) : wor g l0 n = (0, 0) ∨ (l0 ≤ (wor g l0 n).2) := by
  unfold wor
  split
  · rename_i h; exact .inr h
  · exact .inl rfl
/-- bytes that begin otherwise are no copy -/
theorem cp_short {b : List UInt8} {dict e i d : Nat} (h2 : 2 ≤ cpN b dict e i d) : d < i ∧ d < dict ∧ b.getD i 0 = b.getD (i - 1 - d) 0 ∧ b.getD (i + 1) 0 = b.getD (i - 1 - d + 1) 0 := by
  unfold cpN at h2
  split at h2
  · rename_i h
    have h0 := eqN_same b (d + 1) (min 273 (e - i)) i 0 (by omega)
    have h1 := eqN_same b (d + 1) (min 273 (e - i)) i 1 (by omega)
    rw [show i + 0 = i by omega] at h0
    refine ⟨h.1, h.2, ?_, ?_⟩
    · rw [h0]; exact congrArg (fun k => b.getD k 0) (show i - (d + 1) = i - 1 - d by omega)
    · rw [h1]; exact congrArg (fun k => b.getD k 0) (show i + 1 - (d + 1) = i - 1 - d + 1 by omega)
  · omega
/-- a copy of so many bytes has the last of them -/
theorem cp_last {b : List UInt8} {dict e i d l : Nat} (h1 : 1 ≤ l) (h : l ≤ cpN b dict e i d) : b.getD (i + l - 1) 0 = b.getD (i - 1 - d + l - 1) 0 := by
  unfold cpN at h
  split at h
  · rename_i hd
    have h0 := eqN_same b (d + 1) (min 273 (e - i)) i (l - 1) (by omega)
    rw [show i + (l - 1) = i + l - 1 by omega] at h0
    rw [h0]; exact congrArg (fun k => b.getD k 0) (show i + l - 1 - (d + 1) = i - 1 - d + l - 1 by omega)
  · omega
end Go.Proofs.Ytpbjkiejegpbcaa

/-
  The program's finder: what it reads: how many bytes a copy may have, a copy, the elder distances' longest one.
-/
namespace Go.Proofs.Ytpbjkiejegpbcaa
open Go.RowKit

theorem min2_int {P : Program} (ts : Array TypeId) (t : TypeId) (x y k : Int) (hk : k = min x y) : ∀ w, (Builtin.min_ ts t #[.int .i64 x, .int .i64 y]).run P w = .ok (.int .i64 k) w := by
  intro w
  subst hk
  by_cases h : x ≤ y
  · rw [Int.min_eq_left h]
    simp [Builtin.min_, Builtin.min2]; omega
  · rw [Int.min_eq_right (by omega)]
    simp [Builtin.min_, Builtin.min2]; omega
theorem max2_int {P : Program} (ts : Array TypeId) (t : TypeId) (x y k : Int) (hk : k = max x y) : ∀ w, (Builtin.max_ ts t #[.int .i64 x, .int .i64 y]).run P w = .ok (.int .i64 k) w := by
  intro w
  subst hk
  by_cases h : x ≤ y
  · rw [Int.max_eq_right h]
    simp [Builtin.max_, Builtin.max2]; omega
  · rw [Int.max_eq_left (by omega)]
    simp [Builtin.max_, Builtin.max2]; omega
/-- the finder's cells -/
def fCells (A : Option Addr) (n c dict : Nat) (s : Ps) (lv av : Value) : Array Value :=
  #[.slice A n c, .int .i64 (s.i : Int), .int .i64 (dict : Int), .int .u32 (s.r0 : Int), .int .u32 (s.r1 : Int), .int .u32 (s.r2 : Int), .int .u32 (s.r3 : Int), .slice A n c, lv, av]
/-- the finder as it is read -/
structure Fq (w : World) (g : Nat) (A : Option Addr) (n c dict : Nat) (b : List UInt8) (s : Ps) (lv av : Value) : Prop where
  f : Blk w g 57 (fCells A n c dict s lv av)
  sl : Sl w A n (bv b)
  n1 : n ≤ 1000000000
  i1 : s.i ≤ n
  d1 : 1 ≤ dict
  d2 : dict ≤ 9223372036854775807
  lit : s.Lit
section
variable {w : World} {g : Nat} {A : Option Addr} {n c dict : Nat} {b : List UInt8} {s : Ps} {lv av : Value}
theorem Fq.drewN (h : Fq w g A n c dict b s lv av) (k : Nat) : Fq (w.drewN k) g A n c dict b s lv av := ⟨h.f.drewN k, h.sl.drewN k, h.n1, h.i1, h.d1, h.d2, h.lit⟩
theorem Fq.c0 (h : Fq w g A n c dict b s lv av) : w.cell? ⟨g, 0, none⟩ = some (.slice A n c) := h.f.cell 0
theorem Fq.c1 (h : Fq w g A n c dict b s lv av) : w.cell? ⟨g, 1, none⟩ = some (.int .i64 (s.i : Int)) := h.f.cell 1
theorem Fq.c2 (h : Fq w g A n c dict b s lv av) : w.cell? ⟨g, 2, none⟩ = some (.int .i64 (dict : Int)) := h.f.cell 2
theorem Fq.c3 (h : Fq w g A n c dict b s lv av) : w.cell? ⟨g, 3, none⟩ = some (.int .u32 (s.r0 : Int)) := h.f.cell 3
theorem Fq.c4 (h : Fq w g A n c dict b s lv av) : w.cell? ⟨g, 4, none⟩ = some (.int .u32 (s.r1 : Int)) := h.f.cell 4
theorem Fq.c5 (h : Fq w g A n c dict b s lv av) : w.cell? ⟨g, 5, none⟩ = some (.int .u32 (s.r2 : Int)) := h.f.cell 5
theorem Fq.c6 (h : Fq w g A n c dict b s lv av) : w.cell? ⟨g, 6, none⟩ = some (.int .u32 (s.r3 : Int)) := h.f.cell 6
theorem Fq.len (h : Fq w g A n c dict b s lv av) : b.length = n := by rw [← bv_length]; exact h.sl.1

set_option maxRecDepth 100000 in
set_option maxHeartbeats 2000000 in
theorem pmost_any (h : Fq w g A n c dict b s lv av) :
    Calls Try.prog 55 #[.pointer (some ⟨g, 0, none⟩)] w fun x w' => x = .returned (.int .i64 ((min 273 (n - s.i) : Nat) : Int)) ∧ ∃ k, w.drewN k = w' := by
  have c0 := h.c0
  have c1 := h.c1
  have e1 : IntKind.i64.wrap ((n : Int) - (s.i : Int)) = (n : Int) - (s.i : Int) := IntWalk.i64_in _ (by have := h.n1; have := h.i1; omega)
  obtain ⟨r, hr⟩ : ∃ r, r = (min 273 (n - s.i) : Nat) := ⟨_, rfl⟩
  have hm := min2_int (P := Try.prog) #[3, 3] 3 ((n : Int) - (s.i : Int)) 273 (r : Int) (by have := h.i1; omega)
  rw [← hr]
  clear hr
  generalize s.i = i at *
  clear h
  go_enter Try.func55, Try.ntmps55
  go_wp2_with fail
  go_quiet (fail)
  go_wp2_with fail
  go_ret
  exact ⟨rfl, nq, rfl⟩

set_option maxRecDepth 100000 in
set_option maxHeartbeats 4000000 in
theorem pcopied_any {d : Nat} (h : Fq w g A n c dict b s lv av) (hd : d < 4294967296) :
    Calls Try.prog 34 #[.pointer (some ⟨g, 0, none⟩), .int .i64 (d : Int)] w fun x w' => x = .returned (.int .i64 ((cpN b dict n s.i d : Nat) : Int)) ∧ ∃ k, w.drewN k = w' := by
  have c0 := h.c0
  have c1 := h.c1
  have c2 := h.c2
  have HQ := Lib.hid h
  obtain ⟨i, hi⟩ : ∃ i, i = s.i := ⟨_, rfl⟩
  have HI := Lib.hid hi
  rw [← hi] at c1 ⊢
  by_cases h1 : d < i ∧ d < dict
  · obtain ⟨f, hf⟩ : ∃ f, f = min 273 (n - i) := ⟨_, rfl⟩
    have hr : cpN b dict n i d = eqN b (d + 1) f i := by unfold cpN; rw [if_pos h1, hf]
    rw [hr]
    obtain ⟨r, hrr⟩ : ∃ r, r = eqN b (d + 1) f i := ⟨_, rfl⟩
    rw [← hrr]
    have KM := Lib.hid (fun k => pmost_any (h.drewN k))
    rw [← hi, ← hf] at KM
    have HH := Lib.hid (show n ≤ 1000000000 ∧ i ≤ n ∧ d < i ∧ f = min 273 (n - i) from ⟨h.n1, by rw [hi]; exact h.i1, h1.1, hf⟩)
    have HR := Lib.hid hrr
    obtain ⟨u, hu⟩ : ∃ u, u = min i dict := ⟨_, rfl⟩
    have hm := min2_int (P := Try.prog) #[3, 3] 3 (i : Int) (dict : Int) (u : Int) (by omega)
    have g1 : ¬ (u : Int) ≤ (d : Int) := by omega
    have g2 : decide (u ≤ d) = false := decide_eq_false (by omega)
    have g3 : decide ((u : Int) ≤ (d : Int)) = false := decide_eq_false g1
    clear h hd hr hrr h1 hf hi hu
    go_enter Try.func34, Try.ntmps34
    go_wp2_with fail
    go_quiet (fail)
    clear c2 g1 g2 g3 hm
    go_wp2_with fail
    refine (KM.out nq).mono ?_
    rintro e w1 ⟨rfl, k1, rfl⟩
    clear KM
    go_wp2_with fail
    go_loopw [5] (fun v wr => ∃ j k : Nat, j ≤ f ∧ v = .int .i64 (j : Int) ∧ SameTo b (d + 1) i j ∧ wr = w.drewN k) (fun v _ => f - (intOf v).toNat)
    case atStart => exact ⟨0, nq + k1, Nat.zero_le _, rfl, SameTo.zero _ _ _, by first | rfl | exact World.drewN_drewN.symm | simp⟩
    case round =>
      obtain ⟨j, k, hj, rfl, hsm, rfl⟩ := hrel
      obtain ⟨hn, hi, hdi, hf⟩ := HH.out
      by_cases hlt : j < f
      · have i3 : (j : Int) < (f : Int) := by omega
        obtain ⟨ba, oa, rfl, hba, hca⟩ := HQ.out.sl.2 (by omega)
        have hbl := HQ.out.len
        obtain ⟨q, hq⟩ : ∃ q, q = i + j - (d + 1) := ⟨_, rfl⟩
        have k1' : w.cell? ⟨ba, oa + (i + j), none⟩ = some (.int .u8 ((b.getD (i + j) 0).toNat : Int)) := by rw [hca (i + j) (by omega), bv_get b _ (by omega)]
        have k2' : w.cell? ⟨ba, oa + q, none⟩ = some (.int .u8 ((b.getD q 0).toNat : Int)) := by rw [hca q (by omega), bv_get b _ (by omega)]
        have e1 : IntKind.i64.wrap ((i : Int) + (j : Int)) = ((i + j : Nat) : Int) := by rw [IntWalk.i64_in _ (by omega)]; omega
        have e2 : IntKind.i64.wrap (((i + j : Nat) : Int) - 1) = ((i + j : Nat) : Int) - 1 := IntWalk.i64_in _ (by omega)
        have e3 : IntKind.i64.wrap (((i + j : Nat) : Int) - 1 - (d : Int)) = (q : Int) := by rw [IntWalk.i64_in _ (by omega)]; omega
        have b1 : (0 : Int) ≤ ((i + j : Nat) : Int) := by omega
        have b2 : ((i + j : Nat) : Int) < (n : Int) := by omega
        have b3 : (0 : Int) ≤ (q : Int) := by omega
        have b4 : (q : Int) < (n : Int) := by omega
        have HLT := Lib.hid (show j < f ∧ q = i + j - (d + 1) from ⟨hlt, hq⟩)
        by_cases hxy : b.getD (i + j) 0 = b.getD q 0
        · have hnext := hsm.succ (by rw [← hq]; exact hxy)
          have HNX := Lib.hid hnext
          rw [← hxy] at k2'
          have e4 : IntKind.i64.wrap ((j : Int) + 1) = (j : Int) + 1 := IntWalk.i64_in _ (by omega)
          generalize b.getD (i + j) 0 = x at *
          generalize i + j = p at *
          clear hca hxy hnext hsm hj hn hi hdi hf hlt hq hbl
          go_wp2_with fail
          go_quiet (fail)
          go_wp2_with fail
          go_roundw
          case rel => exact ⟨j + 1, k + nq, by have := HLT.out; omega, by go_num, HNX.out, rfl⟩
          case measure => have := HLT.out; simp [intOf]; omega
        · have hst := hsm.stop hlt (by rw [← hq]; exact hxy)
          have hres : r = j := HR.out.trans hst
          have hne := u8_ne hxy
          generalize b.getD (i + j) 0 = x at *
          generalize b.getD q 0 = y at *
          generalize i + j = p at *
          have HRES := Lib.hid hres
          clear hca hxy hst hsm hj hn hi hdi hf hlt hq hres hbl
          go_wp2_with fail
          go_quiet (fail)
          go_wp2_with fail
          go_ret
          exact ⟨ret_int (by rw [HRES.out]), k + nq, by first | rfl | exact World.drewN_drewN.symm | simp⟩
      · have i3 : ¬ (j : Int) < (f : Int) := by omega
        have i4 : decide (j < f) = false := decide_eq_false hlt
        have i5 : decide ((j : Int) < (f : Int)) = false := decide_eq_false i3
        have hres : r = j := HR.out.trans (hsm.full (by omega))
        have HRES := Lib.hid hres
        clear hsm hj hn hi hdi hf hlt hres
        go_wp2_with fail
        go_quiet (fail)
        go_wp2_with fail
        go_ret
        exact ⟨ret_int (by rw [HRES.out]), k + nq, by first | rfl | exact World.drewN_drewN.symm | simp⟩
  · have hr : cpN b dict n i d = 0 := by unfold cpN; rw [if_neg h1]
    rw [hr]
    obtain ⟨u, hu⟩ : ∃ u, u = min i dict := ⟨_, rfl⟩
    have hm := min2_int (P := Try.prog) #[3, 3] 3 (i : Int) (dict : Int) (u : Int) (by omega)
    have g1 : (u : Int) ≤ (d : Int) := by omega
    have g2 : decide (u ≤ d) = true := decide_eq_true (by omega)
    have g3 : decide ((u : Int) ≤ (d : Int)) = true := decide_eq_true g1
    clear h hd h1 hr hi hu
    go_enter Try.func34, Try.ntmps34
    go_wp2_with fail
    go_quiet (fail)
    go_wp2_with fail
    go_ret
    exact ⟨rfl, nq, rfl⟩
end
end Go.Proofs.Ytpbjkiejegpbcaa

/-
  The program's lists of places: what they are in memory; a list, its last place, the one ahead of a place.
-/
namespace Go.Proofs.Ytpbjkiejegpbcaa
open Go.RowKit

/-- what is kept by each place -/
def prevs (b : List UInt8) (sz n : Nat) : List Value := (List.range n).map fun p => Value.int .u32 ((lastN (hashP b sz) (hashP b sz p) p : Nat) : Int)
theorem prevs_succ (b : List UInt8) (sz n : Nat) : prevs b sz (n + 1) = prevs b sz n ++ [.int .u32 ((lastN (hashP b sz) (hashP b sz n) n : Nat) : Int)] := by simp [prevs, List.range_succ]
theorem prevs_get (b : List UInt8) (sz n p : Nat) (h : p < n) : (prevs b sz n)[p]? = some (.int .u32 ((lastN (hashP b sz) (hashP b sz p) p : Nat) : Int)) := by simp [prevs, h]
/-- the lists, with the places below cnt -/
structure Md (w : World) (b : List UInt8) (cnt sz ql qa ca : Nat) (cs : Array Value) : Prop where
  lb : Blk w ql 23 cs
  lz : cs.size = sz
  lv : ∀ v, v < sz → cs[v]? = some (.int .u32 ((lastN (hashP b sz) v cnt : Nat) : Int))
  ar : w.ownsRow 0 23 1 (.slice (some ⟨qa, 0, none⟩) cnt ca) cnt (prevs b sz cnt)
  s1 : 1 ≤ sz
  s2 : sz ≤ 65536
  ne : ql ≠ qa
section
variable {w : World} {b : List UInt8} {cnt sz ql qa ca : Nat} {cs : Array Value}
theorem Md.drewN (h : Md w b cnt sz ql qa ca cs) (k : Nat) : Md (w.drewN k) b cnt sz ql qa ca cs := ⟨h.lb, h.lz, h.lv, h.ar, h.s1, h.s2, h.ne⟩
theorem Md.lcell (h : Md w b cnt sz ql qa ca cs) {v : Nat} (hv : v < sz) : w.cell? ⟨ql, v, none⟩ = some (.int .u32 ((lastN (hashP b sz) v cnt : Nat) : Int)) := (h.lb.cell v).trans (h.lv v hv)
theorem Md.acell (h : Md w b cnt sz ql qa ca cs) {p : Nat} (hp : p < cnt) : w.cell? ⟨qa, p, none⟩ = some (.int .u32 ((lastN (hashP b sz) (hashP b sz p) p : Nat) : Int)) := by
  obtain ⟨_, h2⟩ := (own_facts h.ar).1
  obtain ⟨b', o', e, _, hc⟩ := h2 (by omega)
  injection e with e
  injection e with e1 e2
  subst e1 e2
  have := hc p hp
  rw [Nat.zero_add] at this
  rw [this]
  exact prevs_get b sz cnt p hp
end

section
variable {w : World} {g : Nat} {A : Option Addr} {n c : Nat} {b : List UInt8} {sz ql : Nat}
set_option maxRecDepth 100000 in
set_option maxHeartbeats 4000000 in
/-- where the last place of a list is kept -/
theorem plist_any {p : Nat} (c7 : w.cell? ⟨g, 7, none⟩ = some (.slice A n c)) (c8 : w.cell? ⟨g, 8, none⟩ = some (.slice (some ⟨ql, 0, none⟩) sz sz)) (hS : Sl w A n (bv b)) (hn : n ≤ 1000000000) (hp : p + 1 < n) (h1 : 1 ≤ sz) (h2 : sz ≤ 65536) :
    Calls Try.prog 68 #[.pointer (some ⟨g, 7, none⟩), .int .i64 (p : Int)] w fun x w' => x = .returned (.pointer (some ⟨ql, hashP b sz p, none⟩)) ∧ ∃ k, w.drewN k = w' := by
  have hl : b.length = n := by rw [← bv_length]; exact hS.1
  obtain ⟨ba, oa, rfl, hba, hca⟩ := hS.2 (by omega)
  have a1 : w.cell? ⟨ba, oa + p, none⟩ = some (.int .u8 ((b.getD p 0).toNat : Int)) := by rw [hca p (by omega), bv_get b _ (by omega)]
  have a2 : w.cell? ⟨ba, oa + (p + 1), none⟩ = some (.int .u8 ((b.getD (p + 1) 0).toNat : Int)) := by rw [hca (p + 1) (by omega), bv_get b _ (by omega)]
  have ht := twoP_lt b p
  have hh := hash_lt (b := b) (p := p) h1
  obtain ⟨t, ht0⟩ : ∃ t, t = twoP b p := ⟨_, rfl⟩
  obtain ⟨u, hu0⟩ : ∃ u, u = hashP b sz p := ⟨_, rfl⟩
  obtain ⟨p1, hp1⟩ : ∃ p1, p1 = p + 1 := ⟨_, rfl⟩
  have ht1 : t = (b.getD p 0).toNat * 256 ||| (b.getD (p + 1) 0).toNat := ht0
  have hu1 : u = t &&& (sz - 1) := by rw [hu0, ht0]; rfl
  rw [← hp1] at a2 ht1
  rw [← hu0] at hh ⊢
  rw [← ht0] at ht
  generalize b.getD p 0 = x at *
  generalize b.getD p1 0 = y at *
  obtain ⟨X, hX⟩ : ∃ X, X = x.toNat * 256 := ⟨_, rfl⟩
  obtain ⟨z1, hz1⟩ : ∃ z1, z1 = sz - 1 := ⟨_, rfl⟩
  rw [← hX] at ht1
  rw [← hz1] at hu1
  have hxx := x.toNat_lt
  have hyy := y.toNat_lt
  have e0 : IntKind.i64.wrap (x.toNat : Int) = (x.toNat : Int) := IntWalk.i64_in _ (by omega)
  have e0' : IntKind.i64.wrap (y.toNat : Int) = (y.toNat : Int) := IntWalk.i64_in _ (by omega)
  have e1 : IntKind.i64.wrap ((x.toNat : Int) * 2 ^ 8) = (X : Int) := by rw [IntWalk.i64_in _ (by omega)]; omega
  have e2 : IntKind.i64.wrap ((x.toNat : Int) * 256) = (X : Int) := by rw [IntWalk.i64_in _ (by omega)]; omega
  have e3 : bits .or .i64 (X : Int) (y.toNat : Int) = (t : Int) := by rw [ht1]; exact pi64_or _ _ (by omega) (by omega)
  have e4 : IntKind.i64.wrap ((p : Int) + 1) = (p1 : Int) := by rw [IntWalk.i64_in _ (by omega)]; omega
  have e5 : IntKind.i64.wrap ((sz : Int) - 1) = (z1 : Int) := by rw [IntWalk.i64_in _ (by omega)]; omega
  have e6 : bits .and .i64 (t : Int) (z1 : Int) = (u : Int) := by rw [hu1]; exact pi64_and _ _ (by omega) (by omega)
  have b1 : (0 : Int) ≤ (p : Int) := by omega
  have b2 : (p : Int) < (n : Int) := by omega
  have b3 : (0 : Int) ≤ (p1 : Int) := by omega
  have b4 : (p1 : Int) < (n : Int) := by omega
  have b5 : (0 : Int) ≤ (u : Int) := by omega
  have b6 : (u : Int) < (sz : Int) := by omega
  clear hS hn hl hba hca hp h1 h2 ht hh ht0 hu0 ht1 hu1 hX hz1 hxx hyy hp1
  go_enter Try.func68, Try.ntmps68
  go_wp2_with fail
  go_quiet (fail)
  go_wp2_with fail
  have HK := Lib.hid (World.drewN_drewN (w := w) (n := nq))
  go_quiet (fail)
  go_wp2_with fail
  go_ret
  exact ⟨rfl, _, (HK.out nq).symm⟩
end
section
variable {w : World} {g : Nat} {A : Option Addr} {n c cnt : Nat} {b : List UInt8} {sz ql qa ca : Nat} {cs : Array Value}
set_option maxRecDepth 100000 in
set_option maxHeartbeats 4000000 in
/-- the last place of a list -/
theorem plast_any {p : Nat} (c7 : w.cell? ⟨g, 7, none⟩ = some (.slice A n c)) (c8 : w.cell? ⟨g, 8, none⟩ = some (.slice (some ⟨ql, 0, none⟩) sz sz)) (hS : Sl w A n (bv b)) (hn : n ≤ 1000000000) (hp : p + 1 < n) (hcn : cnt ≤ n) (hM : Md w b cnt sz ql qa ca cs) :
    Calls Try.prog 57 #[.pointer (some ⟨g, 7, none⟩), .int .i64 (p : Int)] w fun x w' => x = .returned (.int .i64 ((lastN (hashP b sz) (hashP b sz p) cnt : Nat) - 1 : Int)) ∧ ∃ k, w.drewN k = w' := by
  have K := Lib.hid (plist_any c7 c8 hS hn hp hM.s1 hM.s2)
  have hc := hM.lcell (hash_lt (b := b) (p := p) hM.s1)
  have hle := lastN_le (hashP b sz) (hashP b sz p) cnt
  generalize hashP b sz p = u at *
  generalize lastN (hashP b sz) u cnt = l at *
  have e1 : IntKind.i64.wrap (l : Int) = (l : Int) := IntWalk.i64_in _ (by omega)
  have e2 : IntKind.i64.wrap ((l : Int) - 1) = (l : Int) - 1 := IntWalk.i64_in _ (by omega)
  clear c7 c8 hS hn hp hM hle hcn
  go_enter Try.func57, Try.ntmps57
  go_wp2_with fail
  refine K.out.mono ?_
  rintro e w1 ⟨rfl, k, rfl⟩
  go_wp2_with fail
  go_ret
  exact ⟨rfl, k, rfl⟩
set_option maxRecDepth 100000 in
set_option maxHeartbeats 4000000 in
/-- the place ahead of one in its list -/
theorem pahead_any {p : Nat} (c9 : w.cell? ⟨g, 9, none⟩ = some (.slice (some ⟨qa, 0, none⟩) cnt ca)) (hp : p < cnt) (hcn : cnt ≤ 1000000000) (hM : Md w b cnt sz ql qa ca cs) :
    Calls Try.prog 58 #[.pointer (some ⟨g, 7, none⟩), .int .i64 (p : Int)] w fun x w' => x = .returned (.int .i64 ((lastN (hashP b sz) (hashP b sz p) p : Nat) - 1 : Int)) ∧ w = w' := by
  have hc := hM.acell hp
  have hle := lastN_le (hashP b sz) (hashP b sz p) p
  generalize lastN (hashP b sz) (hashP b sz p) p = l at *
  have e1 : IntKind.i64.wrap (l : Int) = (l : Int) := IntWalk.i64_in _ (by omega)
  have e2 : IntKind.i64.wrap ((l : Int) - 1) = (l : Int) - 1 := IntWalk.i64_in _ (by omega)
  have b1 : (0 : Int) ≤ (p : Int) := by omega
  have b2 : (p : Int) < (cnt : Int) := by omega
  clear hp hM hle hcn
  go_enter Try.func58, Try.ntmps58
  go_wp2_with fail
  go_ret
  exact ⟨rfl, rfl⟩
end
end Go.Proofs.Ytpbjkiejegpbcaa
