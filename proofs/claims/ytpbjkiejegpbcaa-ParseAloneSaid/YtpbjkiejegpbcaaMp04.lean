/-
  PsLen, PsAdd: put together.
-/
import Derived.Test.YtpbjkiejegpbcaaMp02
import Derived.Lib.BitFns
import Derived.Lib.Walk
import Derived.Test.YtpbjkiejegpbcaaMp03
import Derived.Deep.AppendLies
import Derived.Deep.RegionLaw
import Derived.Laws.MakeOwn
set_option linter.unusedVariables false
set_option linter.unusedSimpArgs false
/-
  How many bits a number has: some number up to 32.
-/
namespace Go.Proofs.Ytpbjkiejegpbcaa
open Go.RowKit

theorem plen8 {x : Nat} (hx : x < 256) : Lib.len8 (x : Int) = (Lib.bitLen x : Int) := Lib.len8_eq ⟨x, hx⟩
def LenPost (w : World) (e : Ending) (w' : World) : Prop := (∃ k : Nat, k ≤ 32 ∧ e = .returned (.int .i64 (k : Int))) ∧ w = w'
set_option maxRecDepth 100000 in
set_option maxHeartbeats 2000000 in
theorem plen64_any {x : Nat} (hx : x < 4294967296) (w : World) : Calls Try.prog 71 #[.int .u64 (x : Int)] w (LenPost w) := by
  have main : ∀ (y n : Nat), y < 256 → n ≤ 24 → ∃ k : Nat, k ≤ 32 ∧ wrap64 ((n : Int) + wrap64 (Lib.len8 (y : Int))) = (k : Int) := fun y n hy hn => by
    have hb := Lib.bitLen_le8 ⟨y, hy⟩
    simp only at hb
    rw [plen8 hy]
    exact ⟨n + Lib.bitLen y, by omega, by unfold wrap64; omega⟩
  have g0 : ¬ (x : Int) ≥ 4294967296 := by omega
  by_cases h2 : x < 65536
  · have g1 : ¬ (x : Int) ≥ 65536 := by omega
    by_cases h1 : x < 256
    · have g2 : ¬ (x : Int) ≥ 256 := by omega
      obtain ⟨k, hk, hm⟩ := main x 0 h1 (by decide)
      have e1 : IntKind.u8.wrap (x : Int) = (x : Int) := by simp [IntKind.wrap, IntKind.bits, IntKind.signed]; omega
      have HM := Lib.hid hm
      have g0 : (0 : Int) ≤ (x : Int) := by omega
      have g3 : (x : Int) ≤ 255 := by omega
      clear hm main hx h1 h2
      go_enter Try.func71, Try.ntmps71
      go_wp2_with fail
      go_ret
      exact ⟨⟨k, hk, ret_int (by have := HM.out; simpa using this)⟩, rfl⟩
    · have g2 : (x : Int) ≥ 256 := by omega
      obtain ⟨y, hy⟩ : ∃ y, y = x / 256 := ⟨_, rfl⟩
      obtain ⟨k, hk, hm⟩ := main y 8 (by omega) (by decide)
      have e0 : (x : Int) / 256 = (y : Int) := by omega
      have e1 : IntKind.u8.wrap (y : Int) = (y : Int) := by simp [IntKind.wrap, IntKind.bits, IntKind.signed]; omega
      have HM := Lib.hid hm
      have g0 : (0 : Int) ≤ (y : Int) := by omega
      have g3 : (y : Int) ≤ 255 := by omega
      clear hm main hx h1 h2 hy
      go_enter Try.func71, Try.ntmps71
      go_wp2_with fail
      go_ret
      exact ⟨⟨k, hk, ret_int (by have := HM.out; simpa using this)⟩, rfl⟩
  · have g1 : (x : Int) ≥ 65536 := by omega
    obtain ⟨y, hy⟩ : ∃ y, y = x / 65536 := ⟨_, rfl⟩
    have e0 : (x : Int) / 65536 = (y : Int) := by omega
    by_cases h1 : y < 256
    · have g2 : ¬ (y : Int) ≥ 256 := by omega
      obtain ⟨k, hk, hm⟩ := main y 16 h1 (by decide)
      have e1 : IntKind.u8.wrap (y : Int) = (y : Int) := by simp [IntKind.wrap, IntKind.bits, IntKind.signed]; omega
      have HM := Lib.hid hm
      have g0 : (0 : Int) ≤ (y : Int) := by omega
      have g3 : (y : Int) ≤ 255 := by omega
      clear hm main hx h1 h2 hy
      go_enter Try.func71, Try.ntmps71
      go_wp2_with fail
      go_ret
      exact ⟨⟨k, hk, ret_int (by have := HM.out; simpa using this)⟩, rfl⟩
    · have g2 : (y : Int) ≥ 256 := by omega
      obtain ⟨u, hu⟩ : ∃ u, u = y / 256 := ⟨_, rfl⟩
      have e2 : (y : Int) / 256 = (u : Int) := by omega
      obtain ⟨k, hk, hm⟩ := main u 24 (by omega) (by decide)
      have e1 : IntKind.u8.wrap (u : Int) = (u : Int) := by simp [IntKind.wrap, IntKind.bits, IntKind.signed]; omega
      have HM := Lib.hid hm
      have g0 : (0 : Int) ≤ (u : Int) := by omega
      have g3 : (u : Int) ≤ 255 := by omega
      clear hm main hx h1 h2 hy hu
      go_enter Try.func71, Try.ntmps71
      go_wp2_with fail
      go_ret
      exact ⟨⟨k, hk, ret_int (by have := HM.out; simpa using this)⟩, rfl⟩
set_option maxRecDepth 100000 in
set_option maxHeartbeats 2000000 in
theorem plen_any {x : Nat} (hx : x < 4294967296) (w : World) : Calls Try.prog 67 #[.int .u64 (x : Int)] w (LenPost w) := by
  have K := Lib.hid (plen64_any hx w)
  have e1 : IntKind.u64.wrap (x : Int) = (x : Int) := u64_in _ (by omega)
  clear hx
  go_enter Try.func67, Try.ntmps67
  go_wp2_with fail
  refine K.out.mono ?_
  rintro e w1 ⟨⟨k, hk, rfl⟩, rfl⟩
  go_wp2_with fail
  go_ret
  exact ⟨⟨k, hk, rfl⟩, rfl⟩
end Go.Proofs.Ytpbjkiejegpbcaa

/-
  The program's lists of places: places come into them.
-/
namespace Go.Proofs.Ytpbjkiejegpbcaa
open Go.RowKit

theorem info_p32 : (Try.prog.info? 23).map (fun i => (i.zero, i.size, i.bytes)) = some (some (.int .u32 0), 1, 4) := by kernel_rfl
def lsV (ql sz : Nat) : Value := .slice (some ⟨ql, 0, none⟩) sz sz
def asV (qa cnt ca : Nat) : Value := .slice (some ⟨qa, 0, none⟩) cnt ca
/-- the finder whose lists are made -/
structure Fm (w : World) (g : Nat) (G : Nat → Prop) (A : Option Addr) (n c dict : Nat) (b : List UInt8) (s : Ps) (cnt sz ql qa ca : Nat) (cs : Array Value) : Prop where
  fq : Fq w g A n c dict b s (lsV ql sz) (asV qa cnt ca)
  md : Md w b cnt sz ql qa ca cs
  gg : G g
  gl : G ql
  ga : G qa
  lt : ∀ i, G i → i < w.heap.size
  ap : 0 < n → ∀ q o, A = some ⟨q, o, none⟩ → ¬ G q
  n1 : ql ≠ g
  n2 : qa ≠ g
section
variable {w w1 w3 : World} {g : Nat} {G : Nat → Prop} {A : Option Addr} {n c dict : Nat} {b : List UInt8} {s : Ps} {cnt sz ql qa ca : Nat} {cs : Array Value}
theorem Fm.drewN (h : Fm w g G A n c dict b s cnt sz ql qa ca cs) (k : Nat) : Fm (w.drewN k) g G A n c dict b s cnt sz ql qa ca cs := ⟨h.fq.drewN k, h.md.drewN k, h.gg, h.gl, h.ga, h.lt, h.ap, h.n1, h.n2⟩
theorem Fm.push (h : Fm w g G A n c dict b s cnt sz ql qa ca cs) (h1 : Only (fun _ => False) w w1) {q' c' : Nat}
    (ho : w3.ownsRow 0 23 1 (.slice (some ⟨q', 0, none⟩) (cnt + 1) c') (cnt + 1) (prevs b sz cnt ++ [.int .u32 ((lastN (hashP b sz) (hashP b sz cnt) cnt : Nat) : Int)])) (hg : w1.grownBy w3 (some qa)) (hq : qa = q' ∨ q' = w1.heap.size) :
    w3.cell? ⟨g, 9, none⟩ = some (asV qa cnt ca) ∧ w3.frozen? ⟨g, 9, none⟩ = false ∧
    (w3.setCell ⟨g, 9, none⟩ (asV q' (cnt + 1) c')).cell? ⟨ql, hashP b sz cnt, none⟩ = some (.int .u32 ((lastN (hashP b sz) (hashP b sz cnt) cnt : Nat) : Int)) ∧ (w3.setCell ⟨g, 9, none⟩ (asV q' (cnt + 1) c')).frozen? ⟨ql, hashP b sz cnt, none⟩ = false ∧
    Fm ((w3.setCell ⟨g, 9, none⟩ (asV q' (cnt + 1) c')).setCell ⟨ql, hashP b sz cnt, none⟩ (.int .u32 ((cnt + 1 : Nat) : Int))) g (fun i => G i ∨ i = q') A n c dict b s (cnt + 1) sz ql q' c' (cs.setIfInBounds (hashP b sz cnt) (.int .u32 ((cnt + 1 : Nat) : Int))) ∧
    Only G w ((w3.setCell ⟨g, 9, none⟩ (asV q' (cnt + 1) c')).setCell ⟨ql, hashP b sz cnt, none⟩ (.int .u32 ((cnt + 1 : Nat) : Int))) ∧ (G q' ∨ w.heap.size ≤ q') := by
  have hg0 := h.lt g h.gg
  have hl0 := h.lt ql h.gl
  have ha0 := h.lt qa h.ga
  have hs1 := h1.size
  have hs3 := hg.size
  have hne := h.md.ne
  have n1 := h.n1
  have n2 := h.n2
  have hqg : q' ≠ g ∧ q' ≠ ql := by rcases hq with h | h <;> omega
  have hu : hashP b sz cnt < sz := hash_lt h.md.s1
  have hq3 : q' < w3.heap.size := (World.ownsRow.lt ho q' rfl).2
  have hB1 := h.fq.f.only h1 (fun h => h)
  have hB3 := hB1.grown hg (by intro e; injection e with e; exact n2 e.symm)
  have hL1 := h.md.lb.only h1 (fun h => h)
  have hL3 := hL1.grown hg (by intro e; injection e with e; exact hne e)
  have hB4 := hB3.put 9 (asV q' (cnt + 1) c')
  have hL4 := hL3.far (p := ⟨g, 9, none⟩) n1 (asV q' (cnt + 1) c')
  have hO3 : Only G w w3 := (h1.mono (fun _ h => h.elim)).trans (Only.of_grown hg h.ga)
  have hO4 := hO3.setCell (p := ⟨g, 9, none⟩) (.inl h.gg) (asV q' (cnt + 1) c')
  have hO5 := hO4.setCell (p := ⟨ql, hashP b sz cnt, none⟩) (.inl h.gl) (.int .u32 ((cnt + 1 : Nat) : Int))
  have hnew : G q' ∨ w.heap.size ≤ q' := by
    rcases hq with h' | h'
    · exact .inl (h' ▸ h.ga)
    · exact .inr (by omega)
  refine ⟨hB3.cell 9, hB3.free 9, (hL4.cell _).trans (h.md.lv _ hu), hL4.free _, ⟨⟨hB4.far (p := ⟨ql, hashP b sz cnt, none⟩) (fun e => n1 e.symm) _, h.fq.sl.only hO5 h.ap, h.fq.n1, h.fq.i1, h.fq.d1, h.fq.d2, h.fq.lit⟩, ⟨hL4.put _ _, ?_, fun v hv => ?_, ?_, h.md.s1, h.md.s2, fun e => hqg.2 e.symm⟩, .inl h.gg, .inl h.gl, .inr rfl, ?_, ?_, n1, hqg.1⟩, hO5, hnew⟩
  · rw [Array.size_setIfInBounds]
    exact h.md.lz
  · have hz := h.md.lz
    have e : lastN (hashP b sz) v (cnt + 1) = if hashP b sz cnt = v then cnt + 1 else lastN (hashP b sz) v cnt := rfl
    rw [e, Array.getElem?_setIfInBounds]
    by_cases hv' : hashP b sz cnt = v
    · rw [if_pos hv', if_pos hv', if_pos (by omega)]
    · rw [if_neg hv', if_neg hv']
      exact h.md.lv v hv
  · rw [prevs_succ]
    have hO : Only (fun i => i = g ∨ i = ql) w3 ((w3.setCell ⟨g, 9, none⟩ (asV q' (cnt + 1) c')).setCell ⟨ql, hashP b sz cnt, none⟩ (.int .u32 ((cnt + 1 : Nat) : Int))) :=
      ((Only.refl _ w3).setCell (p := ⟨g, 9, none⟩) (.inl (.inl rfl)) _).setCell (p := ⟨ql, hashP b sz cnt, none⟩) (.inl (.inr rfl)) _
    exact own_only ho hO (by rintro (e | e); exact hqg.1 e; exact hqg.2 e)
  · have := hO5.size
    rintro i (hi | rfl)
    · have := h.lt i hi
      omega
    · simpa [World.setCell] using hq3
  · rintro hn q o e (hi | rfl)
    · exact h.ap hn q o e hi
    · rcases hnew with h' | h'
      · exact h.ap hn _ o e h'
      · obtain ⟨b', o', e', hlt, _⟩ := h.fq.sl.2 hn
        rw [e] at e'
        injection e' with e'
        injection e' with e'
        omega

/-- what adding owes -/
def AddPost (w : World) (g : Nat) (G : Nat → Prop) (A : Option Addr) (n c dict : Nat) (b : List UInt8) (s : Ps) (cnt : Nat) (x : Ending) (w' : World) : Prop :=
  x = .returned (.tuple #[]) ∧ ∃ (G' : Nat → Prop) (sz ql qa ca : Nat) (cs : Array Value), Fm w' g G' A n c dict b s cnt sz ql qa ca cs ∧ (∀ i, G' i → G i ∨ w.heap.size ≤ i) ∧ Only G w w'
theorem nw_trans {w wr : World} {G G1 G2 : Nat → Prop} (h : ∀ i, G1 i → G i ∨ w.heap.size ≤ i) (h2 : ∀ i, G2 i → G1 i ∨ wr.heap.size ≤ i) (hs : w.heap.size ≤ wr.heap.size) : ∀ i, G2 i → G i ∨ w.heap.size ≤ i := fun i hi => by
  rcases h2 i hi with h' | h'
  · exact h i h'
  · exact .inr (by omega)
theorem only_nw {w wr w' : World} {G G1 : Nat → Prop} (hO : Only G w wr) (h : ∀ i, G1 i → G i ∨ w.heap.size ≤ i) (h2 : Only G1 wr w') : Only G w w' := hO.trans' h2 h

set_option maxRecDepth 100000 in
set_option maxHeartbeats 8000000 in
/-- the loop of adding, from a world in which the lists are made -/
theorem padd_made {e : Nat} (h : Fm w g G A n c dict b s cnt sz ql qa ca cs) (hc : cnt ≤ e) (he : e < n) :
    Calls Try.prog 56 #[.pointer (some ⟨g, 7, none⟩), .int .i64 (e : Int)] w (AddPost w g G A n c dict b s e) := by
  have c8 : w.cell? ⟨g, 8, none⟩ = some (.slice (some ⟨ql, 0, none⟩) sz sz) := h.fq.f.cell 8
  have c9 : w.cell? ⟨g, 9, none⟩ = some (.slice (some ⟨qa, 0, none⟩) cnt ca) := h.fq.f.cell 9
  have hnil : ∀ W : World, (binOp .eql 52 (.slice (some ⟨ql, 0, none⟩) sz sz) (.slice none 0 0)).run Try.prog W = .ok (.bool false) W := fun _ => by kernel_rfl
  have HF := Lib.hid h
  have HE := Lib.hid (show cnt ≤ e ∧ e < n ∧ n ≤ 1000000000 from ⟨hc, he, h.fq.n1⟩)
  clear h hc he
  go_enter Try.func56, Try.ntmps56
  go_wp2_with fail
  clear c8 c9 hnil
  go_loopw [4] (fun v wr => ∃ (j : Nat) (G' : Nat → Prop) (qa ca : Nat) (cs : Array Value), j ≤ e ∧ v = .int .i64 (j : Int) ∧ Fm wr g G' A n c dict b s j sz ql qa ca cs ∧ (∀ i, G' i → G i ∨ w.heap.size ≤ i) ∧ Only G w wr) (fun v _ => e - (intOf v).toNat)
  case atStart => exact ⟨cnt, G, qa, ca, cs, HE.out.1, rfl, HF.out, fun i hi => .inl hi, Only.refl _ _⟩
  case round =>
    clear HF
    obtain ⟨j, G', qa, ca, cs, hj, rfl, hf, hnw, hO⟩ := hrel
    obtain ⟨_, he, hn⟩ := HE.out
    have HNW := Lib.hid hnw
    have HO := Lib.hid hO
    have HF := Lib.hid hf
    have hs := hO.size
    by_cases hlt : j < e
    · have i1 : (j : Int) < (e : Int) := by omega
      have K := Lib.hid (plist_any (p := j) (hf.fq.f.cell 7) (hf.fq.f.cell 8) hf.fq.sl hn (by omega) hf.md.s1 hf.md.s2)
      have HLT := Lib.hid hlt
      have HHS := Lib.hid hs
      clear hj hnw hO he hn hlt hs hf
      go_wp2_with fail
      refine K.out.mono ?_
      rintro x w1 ⟨rfl, k1, rfl⟩
      have hf := HF.out.drewN k1
      have HO1 := Lib.hid (HO.out.drewN k1)
      have HS1 := Lib.hid (show w.heap.size ≤ (wr.drewN k1).heap.size from HHS.out)
      clear K HO HF HHS
      generalize wr.drewN k1 = w2 at *
      obtain ⟨i, hi, hz0, hz1, hz2⟩ := info_parts info_p32
      have hu : hashP b sz j < sz := hash_lt hf.md.s1
      have c9 : w2.cell? ⟨g, 9, none⟩ = some (.slice (some ⟨qa, 0, none⟩) j ca) := hf.fq.f.cell 9
      have cu : w2.cell? ⟨ql, hashP b sz j, none⟩ = some (.int .u32 ((lastN (hashP b sz) (hashP b sz j) j : Nat) : Int)) := hf.md.lcell hu
      have HPU := Lib.hid (fun (k : Nat) (o : Obj) (q' c' : Nat) (w3 : World) (ho : w3.ownsRow 0 23 1 (.slice (some ⟨q', 0, none⟩) (j + 1) c') (j + 1) (prevs b sz j ++ [.int .u32 ((lastN (hashP b sz) (hashP b sz j) j : Nat) : Int)])) (hg : ((w2.drewN k).alloc o).grownBy w3 (some qa)) (hq : (some qa : Option Nat) = some q' ∨ q' = ((w2.drewN k).alloc o).heap.size) =>
        hf.push (((Only.refl (fun _ => False) w2).drewN k).alloc o) ho hg (hq.imp (fun h => by injection h) id))
      have HOA := Lib.hid (fun (k : Nat) (o : Obj) => World.ownsRow.alloc (show (w2.drewN k).ownsRow 0 23 1 (.slice (some ⟨qa, 0, none⟩) j ca) j (prevs b sz j) from hf.md.ar) o)
      have HNE := Lib.hid (fun (k : Nat) (u : Value) => (sl_one (w2.drewN k) 23 u).news)
      have c9a : (w2.alloc (.cells #[.int .u32 ((lastN (hashP b sz) (hashP b sz j) j : Nat) : Int)] 23)).cell? ⟨g, 9, none⟩ = some (.slice (some ⟨qa, 0, none⟩) j ca) := (hf.fq.f.alloc _).cell 9
      have HJ := Lib.hid (show j < e ∧ e < n ∧ n ≤ 1000000000 from ⟨HLT.out, HE.out.2⟩)
      have e1 : IntKind.i64.wrap ((j : Int) + 1) = (j : Int) + 1 := IntWalk.i64_in _ (by have := HJ.out; omega)
      have e2 : IntKind.u32.wrap ((j : Int) + 1) = (j : Int) + 1 := by have := HJ.out; simp [IntKind.wrap, IntKind.bits, IntKind.signed]; omega
      obtain ⟨u, hu0⟩ : ∃ u, u = hashP b sz j := ⟨_, rfl⟩
      obtain ⟨l, hl0⟩ : ∃ l, l = lastN (hashP b sz) u j := ⟨_, rfl⟩
      rw [← hu0, ← hl0] at cu HPU c9a
      rw [← hu0]
      clear hf hu HLT hu0 hl0
      go_wp2_with fail
      go_region_law (first | (refine step_append_lies _ rfl (.tmp 50) (.tmp 54) 52 rfl 0 23 i _ 1 4 Try.underlying52 hi hz0 hz1 hz2 rfl (by omega) _ j (prevs b sz j) rfl (HOA.out 1 _) _ 1 1 [.int .u32 (l : Int)] rfl rfl (HNE.out 1 _) (one_one _ _) (by omega) (by have := HJ.out; unfold maxLen; omega) (by have := HJ.out; omega) (Nat.zero_le _) _ rfl ?_; intro q' c' w3 ho hg hq hql3; obtain ⟨j9, z9, hP⟩ := HPU.out 1 _ q' c' w3 ho hg hq; have HP := Lib.hid hP; clear ho hg hq hP))
      all_goals
        clear c9 cu c9a HPU HOA HNE j9 z9
        obtain ⟨t1, t2, hF3, hO3, hn3⟩ := HP.out
        clear HP
        have HF3 := Lib.hid hF3
        have HO3 := Lib.hid hO3
        have HN3 := Lib.hid hn3
        clear hF3 hO3 hn3
        unfold asV at t1 t2 HF3 HO3
        generalize w3.setCell ⟨g, 9, none⟩ (.slice (some ⟨q', 0, none⟩) (j + 1) c') = w4 at *
        go_wp2_with fail
        go_roundw
        case rel => exact ⟨j + 1, _, q', c', _, by have := HJ.out; omega, by go_num, HF3.out, nw_trans HNW.out (fun i hi => by rcases hi with hi | rfl; exact .inl hi; exact HN3.out) HS1.out, only_nw HO1.out HNW.out HO3.out⟩
        case measure => have := HJ.out; simp [intOf]; omega
    · obtain rfl : j = e := by omega
      clear hj hnw hO hs hf he hn
      go_wp2_with fail
      first | go_end0 | refine bodyPost_ret (results_none rfl _ _ _) rfl ?_
      exact ⟨rfl, G', sz, ql, qa, ca, cs, HF.out, HNW.out, HO.out⟩
end
end Go.Proofs.Ytpbjkiejegpbcaa
