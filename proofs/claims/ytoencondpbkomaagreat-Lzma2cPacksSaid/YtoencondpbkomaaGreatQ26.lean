/-
  SmSum, LqRp, LzPrR: put together.
-/
import Derived.Test.YtoencondpbkomaaGreatQ19
import Derived.Test.YtoencondpbkomaaGreatQ18
import Derived.Test.YtoencondpbkomaaGreatRows
import Derived.Tactics
import Derived.Tactics2
import Derived.LoopTactic
import Derived.Test.YtoencondpbkomaaGreatQ01
import Derived.Test.YtoencondpbkomaaGreatQ17
import Derived.StillTailTactics
import Derived.Deep.RegionHeld3
set_option linter.unusedVariables false
set_option linter.unusedSimpArgs false
/-
  How long what is packed is, by its streams' lengths.
-/
namespace Go.Proofs.YtoencondpbkomaaGreat
open Go.RowKit

section
variable {b : List UInt8} {lc lp pb dict p : Nat}
/-- the length of piece number j's stream -/
def strL (b : List UInt8) (lc lp pb dict p j : Nat) : Nat :=
  (strS b dict (min (foldQ b (headB lc lp pb) dict p (freshS lc lp pb dict) (List.range j)).1 b.length) (min ((foldQ b (headB lc lp pb) dict p (freshS lc lp pb dict) (List.range j)).1 + (cutB b p j).length) b.length)
    (foldQ b (headB lc lp pb) dict p (freshS lc lp pb dict) (List.range j)).2.how (foldQ b (headB lc lp pb) dict p (freshS lc lp pb dict) (List.range j)).2.s).2.x.l
/-- where the coder stands -/
theorem fold_at (j : Nat) : (foldQ b (headB lc lp pb) dict p (freshS lc lp pb dict) (List.range j)).1 = min (j * p) b.length := by
  induction j with
  | zero => show 0 = _; rw [Nat.zero_mul, Nat.zero_min]
  | succ j ih =>
    rw [List.range_succ, foldQ_snoc]
    show (foldQ b (headB lc lp pb) dict p (freshS lc lp pb dict) (List.range j)).1 + (cutB b p j).length = _
    rw [ih, cutB_len]
    have h4 : (j + 1) * p = j * p + p := Nat.succ_mul j p
    omega
theorem ch_le (j : Nat) : (chN b lc lp pb dict p j).length ≤ 6 + strL b lc lp pb dict p j := by
  unfold chN strL
  generalize foldQ b (headB lc lp pb) dict p (freshS lc lp pb dict) (List.range j) = a
  unfold chunkN
  generalize strS b dict (min a.1 b.length) (min (a.1 + (cutB b p j).length) b.length) a.2.how a.2.s = s2
  have hsl : (strB s2).length = s2.2.x.l := beB_len _ _
  split
  · unfold packedB cntB
    split
    · simp [hsl]; omega
    · simp [hsl]; omega
  · unfold plainB cntB
    simp
    omega
theorem div_add_le (a c : Nat) : a / 200 + c / 200 ≤ (a + c) / 200 := by omega
/-- where each piece's stream is short, all is -/
theorem out_le (hs : ∀ j, j < manyN b.length p → strL b lc lp pb dict p j ≤ 34 + min p (b.length - j * p) / 200) (hp : 1 ≤ p) : ∀ j, j ≤ manyN b.length p → (outN b lc lp pb dict p j).length ≤ 40 * j + min (j * p) b.length / 200
  | 0, _ => by
    show ([] : List UInt8).length ≤ _
    exact Nat.zero_le _
  | j + 1, hj => by
    have ih := out_le hs hp j (by omega)
    have h1 := hs j (by omega)
    have h2 := ch_le (b := b) (lc := lc) (lp := lp) (pb := pb) (dict := dict) (p := p) j
    have h3 := (many_lt hp).1 (show j < manyN b.length p by omega)
    rw [outN_succ, List.length_append]
    have h4 : (j + 1) * p = j * p + p := Nat.succ_mul j p
    have h5 := div_add_le (min (j * p) b.length) (min p (b.length - j * p))
    have h6 : min (j * p) b.length + min p (b.length - j * p) = min ((j + 1) * p) b.length := by omega
    rw [h6] at h5
    omega
end
end Go.Proofs.YtoencondpbkomaaGreat

/-
  The property of LZMA2: the reference.
-/
namespace Go.Proofs.YtoencondpbkomaaGreat
open Go.RowKit

set_option maxRecDepth 100000 in
set_option maxHeartbeats 2000000 in
theorem rdict_any {p : Nat} (hp : p < 256) (w : World) :
    Calls Tryz.prog 43 #[.int .u8 (p : Int)] w fun e w' => e = .returned (.tuple #[.int .i64 (dictN p : Int), .int .i64 (dictC p)]) ∧ Below w.heap.size w w' := by
  unfold dictN dictC
  by_cases h1 : p > 40
  · have c1 : (p : Int) > 40 := by omega
    rw [if_pos h1, if_pos h1]
    clear h1
    go_enter Tryz.func43, Tryz.ntmps43
    go_wp2_with fail
    go_ret2
    exact ⟨rfl, Below.refl _ _⟩
  · have c1 : ¬ (p : Int) > 40 := by omega
    rw [if_neg h1, if_neg h1]
    by_cases h2 : p = 40
    · subst h2
      rw [if_pos rfl]
      clear h1 c1
      go_enter Tryz.func43, Tryz.ntmps43
      go_wp2_with fail
      go_ret2
      exact ⟨rfl, Below.refl _ _⟩
    · rw [if_neg h2]
      have c2 : ((p : Int) == 40) = false := by simp; omega
      go_enter Tryz.func43, Tryz.ntmps43
      go_wp2_with fail
      go_loopw [4, 5] (fun v u wr => ∃ i : Nat, v = .int .i64 (((2 + p % 2) * 2 ^ i : Nat) : Int) ∧ u = .int .i64 (i : Int) ∧ i ≤ p / 2 + 11 ∧ Below w.heap.size w wr) (fun v u wr => p / 2 + 11 - (match u with | .int _ n => n.toNat | _ => 0))
      case atStart => exact ⟨0, by simp, rfl, Nat.zero_le _, Below.refl _ _⟩
      case round =>
        obtain ⟨i, rfl, rfl, hi, hb⟩ := hrel
        have HI := Lib.hid (And.intro hi hb)
        have hm : p % 2 < 2 := Nat.mod_lt _ (by decide)
        have hP : (2 : Nat) ^ i ≤ 2 ^ 31 := Nat.pow_le_pow_right (by decide) (by omega)
        have hs : (2 + p % 2) * 2 ^ i ≤ 3 * 2 ^ 31 := Nat.mul_le_mul (by omega) hP
        have e3 : IntKind.i64.wrap ((p : Int) / 2 + 11) = (p : Int) / 2 + 11 := IntWalk.i64_in _ (by omega)
        by_cases hlt : i < p / 2 + 11
        · have c3 : (i : Int) < (p : Int) / 2 + 11 := by omega
          have hstep : (2 + p % 2) * 2 ^ i * 2 = (2 + p % 2) * 2 ^ (i + 1) := by rw [Nat.pow_succ, Nat.mul_assoc]
          obtain ⟨V, hV⟩ : ∃ V, V = (2 + p % 2) * 2 ^ i := ⟨_, rfl⟩
          rw [← hV] at hstep hs ⊢
          have HV := Lib.hid hstep
          have e1 : wrap64 ((V : Int) * 2) = ((V * 2 : Nat) : Int) := (IntWalk.wrap64_in _ (by omega)).trans (by omega)
          have e2 : wrap64 ((i : Int) + 1) = ((i + 1 : Nat) : Int) := (IntWalk.wrap64_in _ (by omega)).trans (by omega)
          clear hi hb hm hP hs hstep hV
          go_wp2_with fail
          go_roundw
          case rel =>
            refine ⟨i + 1, ?_, ?_, by omega, HI.out.2⟩
            · rw [← HV.out]; simp [e1]
            · simp [e2]
          case measure =>
            simp [e2]
            omega
        · have c3 : ¬ (i : Int) < (p : Int) / 2 + 11 := by omega
          obtain rfl : i = p / 2 + 11 := by omega
          clear hi hb hm hP hs
          go_wp2_with fail
          go_ret2
          exact ⟨rfl, HI.out.2⟩

set_option maxRecDepth 100000 in
set_option maxHeartbeats 2000000 in
theorem rprop_any (dict : Int) (w : World) : Calls Tryz.prog 22 #[.int .i64 dict] w (PropPost dict w) := by
  have KD := Lib.hid (fun (p : Nat) (hp : p < 256) (w : World) => rdict_any hp w)
  go_enter Tryz.func22, Tryz.ntmps22
  go_wp2_with fail
  go_loopw [4] (fun v wr => ∃ i : Nat, v = .int .i64 (i : Int) ∧ i ≤ 41 ∧ (∀ j, j < i → (dictN j : Int) < dict) ∧ Below w.heap.size w wr) (fun v wr => 41 - (match v with | .int _ n => n.toNat | _ => 0))
  case atStart => exact ⟨0, rfl, by omega, fun j hj => absurd hj (Nat.not_lt_zero j), Below.refl _ _⟩
  case round =>
    obtain ⟨i, rfl, hi, hlow, hb⟩ := hrel
    have HI := Lib.hid (And.intro hi (And.intro hlow hb))
    have e0 : IntKind.u8.wrap (i : Int) = (i : Int) := by simp [IntKind.wrap, IntKind.bits, IntKind.signed]; omega
    by_cases hlt : i < 41
    · have c1 : (i : Int) ≤ 40 := by omega
      have K := Lib.hid (KD.out i (by omega) wr)
      clear hi hlow hb
      go_wp2_with fail
      refine K.out.mono ?_
      rintro e w1 ⟨rfl, hb1⟩
      have HB1 := Lib.hid (HI.out.2.2.trans (hb1.mono HI.out.2.2.size))
      clear K hb1
      by_cases hge : (dictN i : Int) ≥ dict
      · go_wp2_with fail
        go_ret2
        exact ⟨i, 0, rfl, .inl ⟨rfl, by omega, hge, HI.out.2.1⟩, HB1.out⟩
      · have e1 : wrap64 ((i : Int) + 1) = ((i + 1 : Nat) : Int) := (IntWalk.wrap64_in _ (by omega)).trans (by omega)
        go_wp2_with fail
        go_roundw
        case rel =>
          refine ⟨i + 1, by simp [e1], by omega, fun j hj => ?_, HB1.out⟩
          rcases Nat.lt_or_ge j i with h | h
          · exact HI.out.2.1 j h
          · obtain rfl : j = i := by omega
            omega
        case measure =>
          simp [e1]
          omega
    · have c1 : ¬ (i : Int) ≤ 40 := by omega
      clear hi hlow hb
      go_wp2_with fail
      go_ret2
      exact ⟨0, 11, rfl, .inr ⟨rfl, rfl, fun j hj => HI.out.2.1 j (by omega)⟩, HI.out.2.2⟩
end Go.Proofs.YtoencondpbkomaaGreat

/-
  The reference of LZMA: the properties of a setting.
-/
namespace Go.Proofs.YtoencondpbkomaaGreat
open Go.RowKit

set_option maxRecDepth 100000 in
set_option maxHeartbeats 4000000 in
theorem zprops_any {lc lp pb dict : Nat} (h : SetOk lc lp pb dict) (w : World) :
    Calls Tryz.prog 21 #[.agg #[.int .i64 (lc : Int), .int .i64 (lp : Int), .int .i64 (pb : Int), .int .i64 (dict : Int)]] w fun x w' =>
      ∃ A c, x = .returned (.slice A 5 c) ∧ Sl w' A 5 (bv (propsOf lc lp pb dict)) ∧ Below w.heap.size w w' := by
  have hm := setOk_may h
  obtain ⟨h1, h2, h3, h4, h5⟩ := h
  obtain ⟨w1, hw1⟩ : ∃ w1, w1 = w.alloc (.cells #[.int .i64 (lc : Int), .int .i64 (lp : Int), .int .i64 (pb : Int), .int .i64 (dict : Int)] 24) := ⟨_, rfl⟩
  have hb1 : Below w.heap.size w w1 := by rw [hw1]; exact (Below.refl _ _).alloc (Nat.le_refl _) _
  have HBk : Blk w1 w.heap.size 24 #[.int .i64 (lc : Int), .int .i64 (lp : Int), .int .i64 (pb : Int), .int .i64 (dict : Int)] := by rw [hw1]; exact Blk.fresh w _ _
  have K := Lib.hid (may_any lc lp pb dict w1)
  rw [hm] at K
  have d0 : w1.cell? ⟨w.heap.size, 0, none⟩ = some (.int .i64 (lc : Int)) := HBk.cell 0
  have d1 : w1.cell? ⟨w.heap.size, 1, none⟩ = some (.int .i64 (lp : Int)) := HBk.cell 1
  have d2 : w1.cell? ⟨w.heap.size, 2, none⟩ = some (.int .i64 (pb : Int)) := HBk.cell 2
  have d3 : w1.cell? ⟨w.heap.size, 3, none⟩ = some (.int .i64 (dict : Int)) := HBk.cell 3
  obtain ⟨x0, hx0⟩ : ∃ x, x = 45 * pb + 9 * lp + lc := ⟨_, rfl⟩
  obtain ⟨x1, hx1⟩ : ∃ x, x = dict % 256 := ⟨_, rfl⟩
  obtain ⟨q2, hq2⟩ : ∃ x, x = dict / 256 := ⟨_, rfl⟩
  obtain ⟨x2, hx2⟩ : ∃ x, x = q2 % 256 := ⟨_, rfl⟩
  obtain ⟨q3, hq3⟩ : ∃ x, x = dict / 65536 := ⟨_, rfl⟩
  obtain ⟨x3, hx3⟩ : ∃ x, x = q3 % 256 := ⟨_, rfl⟩
  obtain ⟨x4, hx4⟩ : ∃ x, x = dict / 16777216 := ⟨_, rfl⟩
  have hpo : bv (propsOf lc lp pb dict) = [.int .u8 (x0 : Int), .int .u8 (x1 : Int), .int .u8 (x2 : Int), .int .u8 (x3 : Int), .int .u8 (x4 : Int)] := by
    have hs : ∀ x : Nat, x < 256 → (UInt8.ofNat x).toNat = x := fun x hx => by simp; omega
    unfold propsOf bv
    rw [← hq2, ← hq3, ← hx0, ← hx1, ← hx2, ← hx3, ← hx4]
    simp only [List.map_cons, List.map_nil]
    rw [hs x0 (by omega), hs x1 (by omega), hs x2 (by omega), hs x3 (by omega), hs x4 (by omega)]
  rw [hpo]
  have u1 : IntKind.i64.wrap (45 * (pb : Int)) = 45 * (pb : Int) := IntWalk.i64_in _ (by omega)
  have u2 : IntKind.i64.wrap (9 * (lp : Int)) = 9 * (lp : Int) := IntWalk.i64_in _ (by omega)
  have u3 : IntKind.i64.wrap (45 * (pb : Int) + 9 * (lp : Int)) = 45 * (pb : Int) + 9 * (lp : Int) := IntWalk.i64_in _ (by omega)
  have u4 : IntKind.i64.wrap (45 * (pb : Int) + 9 * (lp : Int) + (lc : Int)) = (x0 : Int) := by rw [show 45 * (pb : Int) + 9 * (lp : Int) + (lc : Int) = (x0 : Int) by omega]; exact IntWalk.i64_in _ (by omega)
  have v0 : IntKind.u8.wrap (x0 : Int) = (x0 : Int) := by simp [IntKind.wrap, IntKind.bits, IntKind.signed]; omega
  have v1 : IntKind.u8.wrap (x1 : Int) = (x1 : Int) := by simp [IntKind.wrap, IntKind.bits, IntKind.signed]; omega
  have v2 : IntKind.u8.wrap (x2 : Int) = (x2 : Int) := by simp [IntKind.wrap, IntKind.bits, IntKind.signed]; omega
  have v3 : IntKind.u8.wrap (x3 : Int) = (x3 : Int) := by simp [IntKind.wrap, IntKind.bits, IntKind.signed]; omega
  have v4 : IntKind.u8.wrap (x4 : Int) = (x4 : Int) := by simp [IntKind.wrap, IntKind.bits, IntKind.signed]; omega
  have t1 : (dict : Int).tmod 256 = (x1 : Int) := by rw [Int.tmod_eq_emod_of_nonneg (by omega)]; omega
  have t2 : (dict : Int) / 256 = (q2 : Int) := by omega
  have t2' : (dict : Int).tdiv 256 = (q2 : Int) := by rw [Int.tdiv_eq_ediv_of_nonneg (by omega)]; exact t2
  have t3 : (dict : Int) / 65536 = (q3 : Int) := by omega
  have t3' : (dict : Int).tdiv 65536 = (q3 : Int) := by rw [Int.tdiv_eq_ediv_of_nonneg (by omega)]; exact t3
  have t4 : (dict : Int) / 16777216 = (x4 : Int) := by omega
  have t4' : (dict : Int).tdiv 16777216 = (x4 : Int) := by rw [Int.tdiv_eq_ediv_of_nonneg (by omega)]; exact t4
  have t5 : (q2 : Int).tmod 256 = (x2 : Int) := by rw [Int.tmod_eq_emod_of_nonneg (by omega)]; omega
  have t6 : (q3 : Int).tmod 256 = (x3 : Int) := by rw [Int.tmod_eq_emod_of_nonneg (by omega)]; omega
  have y1 : IntKind.i64.wrap (x1 : Int) = (x1 : Int) := IntWalk.i64_in _ (by omega)
  have y2 : IntKind.i64.wrap (q2 : Int) = (q2 : Int) := IntWalk.i64_in _ (by omega)
  have y3 : IntKind.i64.wrap (q3 : Int) = (q3 : Int) := IntWalk.i64_in _ (by omega)
  have y4 : IntKind.i64.wrap (x4 : Int) = (x4 : Int) := IntWalk.i64_in _ (by omega)
  have y5 : IntKind.i64.wrap (x2 : Int) = (x2 : Int) := IntWalk.i64_in _ (by omega)
  have y6 : IntKind.i64.wrap (x3 : Int) = (x3 : Int) := IntWalk.i64_in _ (by omega)
  have HW1 := Lib.hid hw1
  have HB1 := Lib.hid hb1
  have HBK := Lib.hid HBk
  clear hw1 hb1 HBk hm h1 h2 h3 h4 h5 hx0 hx1 hq2 hx2 hq3 hx3 hx4 hpo
  go_enter Tryz.func21, Tryz.ntmps21
  go_upto_region 1 with fail
  rw [← HW1.out]
  clear HW1
  go_wp2_with fail
  refine K.out.mono ?_
  rintro e w2 ⟨rfl, hb2⟩
  have HB2 := Lib.hid (HB1.out.trans ⟨hb2.os, hb2.tape, hb2.output, hb2.size, fun i hi => hb2.block i (Nat.lt_of_lt_of_le hi HB1.out.size)⟩)
  have hk2 : Blk w2 w.heap.size 24 #[.int .i64 (lc : Int), .int .i64 (lp : Int), .int .i64 (pb : Int), .int .i64 (dict : Int)] := HBK.out.below hb2
  have o0 : w2.cell? ⟨w.heap.size, 0, none⟩ = some (.int .i64 (lc : Int)) := hk2.cell 0
  have o1 : w2.cell? ⟨w.heap.size, 1, none⟩ = some (.int .i64 (lp : Int)) := hk2.cell 1
  have o2 : w2.cell? ⟨w.heap.size, 2, none⟩ = some (.int .i64 (pb : Int)) := hk2.cell 2
  have o3 : w2.cell? ⟨w.heap.size, 3, none⟩ = some (.int .i64 (dict : Int)) := hk2.cell 3
  clear hb2 hk2 K d0 d1 d2 d3 HB1 HBK
  go_wp2_with fail
  go_ret
  exact ⟨_, _, rfl, sl_lit w2 _ _ (by simp), HB2.out.alloc HB2.out.size _⟩
end Go.Proofs.YtoencondpbkomaaGreat
