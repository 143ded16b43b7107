/-
  LzSet, LzNew, BytN, LwPrpN, LzProp, SrcPt, SrcCur, LwPrp, LwPrs, ZqHead, ZqSet, ZqHdN, ZqBeg0: put together.
-/
import Derived.Test.YtiolfjhddbiglaaGreatDoorU02
import Derived.Test.YtiolfjhddbiglaaGreatDoorU01
import Derived.Deep.Cut
import Derived.Deep.AppendLies
import Derived.LoopTactic
import Derived.StillTailTactics
import Derived.Deep.RegionHeld3
import Derived.Deep.QuietTactic
import Derived.BigQuiet
import Derived.IntWalk
import Derived.Lib.Walk
import Derived.Test.YtiolfjhddbiglaaGreatDoorU04
import Derived.Test.YtiolfjhddbiglaaGreatDoorU06
set_option linter.unusedVariables false
set_option linter.unusedSimpArgs false
/-
  The reference of LZMA: settings.
-/
namespace Go.Proofs.YtiolfjhddbiglaaGreatDoor
open Go.RowKit

set_option maxHeartbeats 4000000 in
theorem may_any (a b c d : Int) (w : World) :
    Calls Tryz.prog 31 #[.agg #[.int .i64 a, .int .i64 b, .int .i64 c, .int .i64 d]] w fun x w' => x = .returned (.bool (maySet a b c d)) ∧ Below w.heap.size w w' := by
  have HB := Lib.hid ((Below.refl w.heap.size w).alloc (Nat.le_refl _) (.cells #[.int .i64 a, .int .i64 b, .int .i64 c, .int .i64 d] 40))
  obtain ⟨v, hv⟩ : ∃ v, v = maySet a b c d := ⟨_, rfl⟩
  rw [← hv]
  unfold maySet at hv
  by_cases h0 : 0 ≤ a
  · have g0 : a ≥ 0 := h0
    by_cases h1 : a ≤ 8
    · have g1 : a ≤ 8 := h1
      by_cases h2 : 0 ≤ b
      · have g2 : b ≥ 0 := h2
        by_cases h3 : b ≤ 4
        · have g3 : b ≤ 4 := h3
          by_cases h4 : 0 ≤ c
          · have g4 : c ≥ 0 := h4
            by_cases h5 : c ≤ 4
            · have g5 : c ≤ 4 := h5
              by_cases h6 : 4096 ≤ d
              · have g6 : d ≥ 4096 := h6
                by_cases h7 : d ≤ 4294967295
                · have g7 : d ≤ 4294967295 := h7
                  obtain rfl : v = true := by rw [hv]; simp; omega
                  clear hv
                  go_enter Tryz.func31, Tryz.ntmps31
                  go_wp2_with fail
                  go_ret
                  exact ⟨rfl, HB.out⟩
                · have g7 : ¬ d ≤ 4294967295 := h7
                  obtain rfl : v = false := by rw [hv]; simp; omega
                  clear hv
                  go_enter Tryz.func31, Tryz.ntmps31
                  go_upto_region 1 with fail
                  go_step
                  iterate 39 (with_reducible refine wpList_step (fun K hK => ?_); go_simp; (first | (with_reducible refine hK _ _ ?_) | (refine Eq.mpr (if_neg ?_) ?_; (· decide); with_reducible refine hK _ _ ?_)); clear hK K)
                  go_wp2_with fail
                  go_ret
                  exact ⟨rfl, HB.out⟩
              · have g6 : ¬ d ≥ 4096 := h6
                obtain rfl : v = false := by rw [hv]; simp; omega
                clear hv
                go_enter Tryz.func31, Tryz.ntmps31
                go_upto_region 1 with fail
                go_step
                iterate 39 (with_reducible refine wpList_step (fun K hK => ?_); go_simp; (first | (with_reducible refine hK _ _ ?_) | (refine Eq.mpr (if_neg ?_) ?_; (· decide); with_reducible refine hK _ _ ?_)); clear hK K)
                go_wp2_with fail
                go_ret
                exact ⟨rfl, HB.out⟩
            · have g5 : ¬ c ≤ 4 := h5
              obtain rfl : v = false := by rw [hv]; simp; omega
              clear hv
              go_enter Tryz.func31, Tryz.ntmps31
              go_upto_region 1 with fail
              go_step
              iterate 39 (with_reducible refine wpList_step (fun K hK => ?_); go_simp; (first | (with_reducible refine hK _ _ ?_) | (refine Eq.mpr (if_neg ?_) ?_; (· decide); with_reducible refine hK _ _ ?_)); clear hK K)
              go_wp2_with fail
              go_ret
              exact ⟨rfl, HB.out⟩
          · have g4 : ¬ c ≥ 0 := h4
            obtain rfl : v = false := by rw [hv]; simp; omega
            clear hv
            go_enter Tryz.func31, Tryz.ntmps31
            go_upto_region 1 with fail
            go_step
            iterate 39 (with_reducible refine wpList_step (fun K hK => ?_); go_simp; (first | (with_reducible refine hK _ _ ?_) | (refine Eq.mpr (if_neg ?_) ?_; (· decide); with_reducible refine hK _ _ ?_)); clear hK K)
            go_wp2_with fail
            go_ret
            exact ⟨rfl, HB.out⟩
        · have g3 : ¬ b ≤ 4 := h3
          obtain rfl : v = false := by rw [hv]; simp; omega
          clear hv
          go_enter Tryz.func31, Tryz.ntmps31
          go_upto_region 1 with fail
          go_step
          iterate 39 (with_reducible refine wpList_step (fun K hK => ?_); go_simp; (first | (with_reducible refine hK _ _ ?_) | (refine Eq.mpr (if_neg ?_) ?_; (· decide); with_reducible refine hK _ _ ?_)); clear hK K)
          go_wp2_with fail
          go_ret
          exact ⟨rfl, HB.out⟩
      · have g2 : ¬ b ≥ 0 := h2
        obtain rfl : v = false := by rw [hv]; simp; omega
        clear hv
        go_enter Tryz.func31, Tryz.ntmps31
        go_upto_region 1 with fail
        go_step
        iterate 39 (with_reducible refine wpList_step (fun K hK => ?_); go_simp; (first | (with_reducible refine hK _ _ ?_) | (refine Eq.mpr (if_neg ?_) ?_; (· decide); with_reducible refine hK _ _ ?_)); clear hK K)
        go_wp2_with fail
        go_ret
        exact ⟨rfl, HB.out⟩
    · have g1 : ¬ a ≤ 8 := h1
      obtain rfl : v = false := by rw [hv]; simp; omega
      clear hv
      go_enter Tryz.func31, Tryz.ntmps31
      go_upto_region 1 with fail
      go_step
      iterate 39 (with_reducible refine wpList_step (fun K hK => ?_); go_simp; (first | (with_reducible refine hK _ _ ?_) | (refine Eq.mpr (if_neg ?_) ?_; (· decide); with_reducible refine hK _ _ ?_)); clear hK K)
      go_wp2_with fail
      go_ret
      exact ⟨rfl, HB.out⟩
  · have g0 : ¬ a ≥ 0 := h0
    obtain rfl : v = false := by rw [hv]; simp; omega
    clear hv
    go_enter Tryz.func31, Tryz.ntmps31
    go_upto_region 1 with fail
    go_step
    iterate 39 (with_reducible refine wpList_step (fun K hK => ?_); go_simp; (first | (with_reducible refine hK _ _ ?_) | (refine Eq.mpr (if_neg ?_) ?_; (· decide); with_reducible refine hK _ _ ?_)); clear hK K)
    go_wp2_with fail
    go_ret
    exact ⟨rfl, HB.out⟩
end Go.Proofs.YtiolfjhddbiglaaGreatDoor

/-
  The reference of LZMA: how many probabilities; a new one.
-/
namespace Go.Proofs.YtiolfjhddbiglaaGreatDoor
open Go.RowKit

set_option maxHeartbeats 2000000 in
theorem probs_any (a b c d : Int) (w : World) :
    Calls Tryz.prog 47 #[.agg #[.int .i64 a, .int .i64 b, .int .i64 c, .int .i64 d]] w fun x w' => x = .returned (.int .i64 (probsOf a b c d)) ∧ Below w.heap.size w w' := by
  obtain ⟨w1, hw1⟩ : ∃ w1, w1 = w.alloc (.cells #[.int .i64 a, .int .i64 b, .int .i64 c, .int .i64 d] 40) := ⟨_, rfl⟩
  have hb1 : Below w.heap.size w w1 := by rw [hw1]; exact (Below.refl _ _).alloc (Nat.le_refl _) _
  have HBk : Blk w1 w.heap.size 40 #[.int .i64 a, .int .i64 b, .int .i64 c, .int .i64 d] := by rw [hw1]; exact Blk.fresh w _ _
  have K := Lib.hid (may_any a b c d w1)
  have d0 : w1.cell? ⟨w.heap.size, 0, none⟩ = some (.int .i64 a) := HBk.cell 0
  have d1 : w1.cell? ⟨w.heap.size, 1, none⟩ = some (.int .i64 b) := HBk.cell 1
  have d2 : w1.cell? ⟨w.heap.size, 2, none⟩ = some (.int .i64 c) := HBk.cell 2
  have d3 : w1.cell? ⟨w.heap.size, 3, none⟩ = some (.int .i64 d) := HBk.cell 3
  have HW1 := Lib.hid hw1
  have HB1 := Lib.hid hb1
  have HBK := Lib.hid HBk
  clear hw1 hb1 HBk
  obtain ⟨r, hr⟩ : ∃ r, r = probsOf a b c d := ⟨_, rfl⟩
  rw [← hr]
  unfold probsOf at hr
  by_cases hm : maySet a b c d = true
  · obtain ⟨m1, m2, m3, m4, _⟩ := may_iff.1 hm
    rw [if_pos hm] at hr
    rw [hm] at K
    obtain ⟨n, hn⟩ : ∃ n : Nat, (n : Int) = a + b := ⟨(a + b).toNat, by omega⟩
    rw [← hn, Int.toNat_natCast] at hr
    have hn12 : n ≤ 12 := by omega
    have eab : IntKind.i64.wrap (a + b) = (n : Int) := by rw [← hn]; exact IntWalk.i64_in _ (by omega)
    have HR := Lib.hid hr
    have HN := Lib.hid hn12
    clear hm m1 m2 m3 m4 hr hn hn12
    go_enter Tryz.func47, Tryz.ntmps47
    go_upto_region 1 with fail
    rw [← HW1.out]
    clear HW1
    go_wp2_with fail
    refine K.out.mono ?_
    rintro e w2 ⟨rfl, hb2⟩
    have HB2 := Lib.hid (HB1.out.trans ⟨hb2.os, hb2.tape, hb2.output, hb2.size, fun i hi => hb2.block i (by have := HBK.out.lt; omega)⟩)
    have hk2 : Blk w2 w.heap.size 40 #[.int .i64 a, .int .i64 b, .int .i64 c, .int .i64 d] := HBK.out.below hb2
    have o0 : w2.cell? ⟨w.heap.size, 0, none⟩ = some (.int .i64 a) := hk2.cell 0
    have o1 : w2.cell? ⟨w.heap.size, 1, none⟩ = some (.int .i64 b) := hk2.cell 1
    clear hb2 hk2 K d0 d1 d2 d3 HB1 HBK
    go_wp2_with fail
    go_loopw [3, 4] (fun m iv wr => ∃ j : Nat, j ≤ n ∧ iv = .int .i64 (j : Int) ∧ m = .int .i64 (((768 * 2 ^ j : Nat)) : Int) ∧ w2 = wr) (fun _ iv _ => n - (intOf iv).toNat)
    case atStart => exact ⟨0, Nat.zero_le _, rfl, rfl, rfl⟩
    case round =>
      obtain ⟨j, hj, rfl, rfl, hw⟩ := hrel
      subst hw
      have hp : 2 ^ j ≤ 2 ^ 12 := pow_le_of (by have := HN.out; omega)
      by_cases hlt : j < n
      · have glt : (j : Int) < (n : Int) := by omega
        have ej : IntKind.i64.wrap ((j : Int) + 1) = (j : Int) + 1 := IntWalk.i64_in _ (by have := HN.out; omega)
        obtain ⟨y, hy⟩ : ∃ y, y = 768 * 2 ^ j := ⟨_, rfl⟩
        obtain ⟨y2, hy2⟩ : ∃ y, y = 768 * 2 ^ (j + 1) := ⟨_, rfl⟩
        have hyy : y2 = y * 2 := by rw [hy2, hy, Nat.pow_succ]; omega
        rw [← hy]
        have ep : IntKind.i64.wrap ((y : Int) * 2) = (y2 : Int) := by rw [show (y : Int) * 2 = (y2 : Int) by omega]; exact IntWalk.i64_in _ (by omega)
        have HY := Lib.hid hy2
        have HLT := Lib.hid hlt
        clear hy hy2 hyy hp hlt hj
        go_wp2_with fail
        go_roundw
        case rel => exact ⟨j + 1, by have := HLT.out; omega, by go_num, by rw [HY.out], by first | trivial | rfl⟩
        case measure => have := HLT.out; simp [intOf]; omega
      · obtain rfl : j = n := by omega
        have hirr : ¬ (j : Int) < (j : Int) := by omega
        obtain ⟨y, hy⟩ : ∃ y, y = 768 * 2 ^ j := ⟨_, rfl⟩
        rw [← hy]
        have er : IntKind.i64.wrap (1847 + (y : Int)) = r := by
          rw [HR.out, hy, Int.natCast_mul]
          exact IntWalk.i64_in _ (by omega)
        clear hy hp hlt hj
        go_wp2_with fail
        go_ret
        exact ⟨rfl, HB2.out⟩
  · rw [if_neg hm] at hr
    have hf : maySet a b c d = false := by simpa using hm
    rw [hf] at K
    subst hr
    clear hm hf
    go_enter Tryz.func47, Tryz.ntmps47
    go_upto_region 1 with fail
    rw [← HW1.out]
    clear HW1
    go_wp2_with fail
    refine K.out.mono ?_
    rintro e w2 ⟨rfl, hb2⟩
    have HB2 := Lib.hid (HB1.out.trans ⟨hb2.os, hb2.tape, hb2.output, hb2.size, fun i hi => hb2.block i (by have := HBK.out.lt; omega)⟩)
    clear hb2 K d0 d1 d2 d3 HB1 HBK
    go_wp2_with fail
    go_ret
    exact ⟨rfl, HB2.out⟩
end Go.Proofs.YtiolfjhddbiglaaGreatDoor

/-
  A row of bytes of the call's own, its block named; rows compared.
-/
namespace Go.Proofs.YtiolfjhddbiglaaGreatDoor
open Go.RowKit

/-- Block q holds the bytes bs. -/
def Byt (w : World) (q c : Nat) (bs : List UInt8) : Prop := w.ownsRow 0 5 1 (.slice (some ⟨q, 0, none⟩) bs.length c) bs.length (bv bs)

theorem bv_set (bs : List UInt8) (i : Nat) (y : UInt8) : (bv bs).set i (.int .u8 (y.toNat : Int)) = bv (bs.set i y) := by
  simp [bv, List.map_set]

section
variable {w w' : World} {q c : Nat} {bs : List UInt8}
theorem Byt.cell (h : Byt w q c bs) {i : Nat} (hi : i < bs.length) : w.cell? ⟨q, i, none⟩ = some (.int .u8 ((bs.getD i 0).toNat : Int)) := by
  rw [World.ownsRow.cellAt h i (by omega), bv_get bs i hi]
theorem Byt.free (h : Byt w q c bs) (i : Nat) : w.frozen? ⟨q, i, none⟩ = false := World.ownsRow.frozenAt h i
theorem Byt.put (h : Byt w q c bs) (i : Nat) (y : UInt8) : Byt (w.setCell ⟨q, i, none⟩ (.int .u8 (y.toNat : Int))) q c (bs.set i y) := by
  have := (World.ownsRow.stored h i (.int .u8 (y.toNat : Int))).1
  rw [bv_set] at this
  unfold Byt
  rw [List.length_set]
  exact this
theorem Byt.drewN (h : Byt w q c bs) (n : Nat) : Byt (w.drewN n) q c bs := h
theorem Byt.only {S : Nat → Prop} (h : Byt w q c bs) (hb : Only S w w') (hS : ¬ S q) : Byt w' q c bs := own_only h hb hS
theorem Byt.lt (h : Byt w q c bs) : q < w.heap.size := (World.ownsRow.lt h q rfl).2
theorem Byt.own (h : Byt w q c bs) : w.ownsRow 0 5 1 (.slice (some ⟨q, 0, none⟩) bs.length c) bs.length (bv bs) := h
theorem Byt.sl (h : Byt w q c bs) : Sl w (some ⟨q, 0, none⟩) bs.length (bv bs) := (own_facts h).1
theorem Byt.cap (h : Byt w q c bs) : bs.length ≤ c ∧ c ≤ maxLen := by
  obtain ⟨_, h2, h3, _⟩ := own_facts h
  exact ⟨h2, h3⟩
end

set_option maxHeartbeats 1000000 in
theorem bytesSame_any {A B : Option Addr} {n ca cb : Nat} {bs : List UInt8} {w : World} (hA : Sl w A n (bv bs)) (hB : Sl w B n (bv bs)) (hn : n ≤ 1000000000) :
    Calls Tryz.prog 11 #[.slice A n ca, .slice B n cb] w fun e w' => e = .returned (.bool true) ∧ ∃ d, w.drewN d = w' := by
  have HA := Lib.hid hA
  have HB := Lib.hid hB
  have hl : bs.length = n := by rw [← bv_length]; exact hA.1
  have HL := Lib.hid hl
  clear hA hB hl
  go_enter Tryz.func11, Tryz.ntmps11
  go_wp2_with fail
  go_loopw [5] (fun i wr => ∃ j k : Nat, j ≤ n ∧ i = .int .i64 (j : Int) ∧ wr = w.drewN k) (fun i _ => n - (intOf i).toNat)
  case atStart => exact ⟨0, 0, Nat.zero_le _, rfl, rfl⟩
  case round =>
    obtain ⟨j, k, hj, rfl, rfl⟩ := hrel
    by_cases hlt : j < n
    · obtain ⟨ba, oa, rfl, hba, hca⟩ := HA.out.2 (by omega)
      obtain ⟨bb, ob, rfl, hbb, hcb⟩ := HB.out.2 (by omega)
      have c1 : w.cell? ⟨ba, oa + j, none⟩ = some (.int .u8 ((bs.getD j 0).toNat : Int)) := by rw [hca j hlt, bv_get bs j (by have := HL.out; omega)]
      have c2 : w.cell? ⟨bb, ob + j, none⟩ = some (.int .u8 ((bs.getD j 0).toNat : Int)) := by rw [hcb j hlt, bv_get bs j (by have := HL.out; omega)]
      generalize bs.getD j 0 = x at *
      have i0 : (0 : Int) ≤ (j : Int) := by omega
      have i1 : (j : Int) < (n : Int) := by omega
      clear hca hcb
      go_wp2_with fail
      go_quiet (fail)
      go_wp2_with fail
      go_roundw
      case rel => exact ⟨j + 1, k + nq, by omega, by go_num, rfl⟩
      case measure => simp [intOf]; omega
    · obtain rfl : j = n := by omega
      go_wp2_with fail
      go_ret
      exact ⟨rfl, _, rfl⟩
end Go.Proofs.YtiolfjhddbiglaaGreatDoor

/-
  A setting's properties, as bytes.
-/
namespace Go.Proofs.YtiolfjhddbiglaaGreatDoor
open Go.RowKit

/-- a setting's properties -/
def propsOf (lc lp pb dict : Nat) : List UInt8 := [UInt8.ofNat (45 * pb + 9 * lp + lc), UInt8.ofNat (dict % 256), UInt8.ofNat (dict / 256 % 256), UInt8.ofNat (dict / 65536 % 256), UInt8.ofNat (dict / 16777216)]
def PropsIs (w : World) (ys : List UInt8) (x : Ending) (w' : World) : Prop :=
  ∃ A c, x = .returned (.slice A ys.length c) ∧ Sl w' A ys.length (bv ys) ∧ Below w.heap.size w w'

end Go.Proofs.YtiolfjhddbiglaaGreatDoor

/-
  The reference of LZMA: properties.
-/
namespace Go.Proofs.YtiolfjhddbiglaaGreatDoor
open Go.RowKit

/-- what five bytes say -/
def parseOf (bs : List UInt8) : Option (Nat × Nat × Nat × Nat) :=
  match bs with
  | [a, b, c, d, e] => if a.toNat < 225 then some (a.toNat % 9, a.toNat / 9 % 5, a.toNat / 45, max 4096 (b.toNat + 256 * c.toNat + 65536 * d.toNat + 16777216 * e.toNat)) else none
  | _ => none

/-- what parsing answers: the setting, the code -/
def ParsePost (w : World) (o : Option (Nat × Nat × Nat × Nat)) (x : Ending) (w' : World) : Prop :=
  Below w.heap.size w w' ∧ ((o = none ∧ x = .returned (.tuple #[.agg #[.int .i64 0, .int .i64 0, .int .i64 0, .int .i64 0], .int .i64 11])) ∨
    ∃ lc lp pb dict : Nat, o = some (lc, lp, pb, dict) ∧ x = .returned (.tuple #[.agg #[.int .i64 (lc : Int), .int .i64 (lp : Int), .int .i64 (pb : Int), .int .i64 (dict : Int)], .int .i64 0]))

theorem parse_short {bs : List UInt8} (h : bs.length ≠ 5) : parseOf bs = none := by
  unfold parseOf
  split
  · exact absurd rfl h
  · rfl

set_option maxRecDepth 100000 in
set_option maxHeartbeats 4000000 in
theorem zparse_any {w : World} {n c : Nat} {A : Option Addr} {bs : List UInt8} (hn : n = bs.length) (hS : Sl w A bs.length (bv bs)) (hl : bs.length ≤ 1000000000) :
    Calls Tryz.prog 25 #[.slice A n c] w (ParsePost w (parseOf bs)) := by
  have hb : Below w.heap.size w (w.alloc (.cells #[.int .i64 0, .int .i64 0, .int .i64 0, .int .i64 0] 40)) := (Below.refl _ _).alloc (Nat.le_refl _) _
  by_cases h5 : n = 5
  · have h5' : bs.length = 5 := by omega
    match bs, h5', hS with
    | [a, b, d, e, f], _, hS =>
      obtain ⟨q, o, rfl, hq, hc⟩ := hS.2 (show 0 < 5 by decide)
      have hS1 := hS.alloc (.cells #[.int .i64 0, .int .i64 0, .int .i64 0, .int .i64 0] 40)
      obtain ⟨q', o', e', hq', hc1⟩ := hS1.2 (show 0 < 5 by decide)
      injection e' with e'
      injection e' with e1 e2
      subst e1 e2
      have i0 : (w.alloc (.cells #[.int .i64 0, .int .i64 0, .int .i64 0, .int .i64 0] 40)).cell? ⟨q, o + 0, none⟩ = some (.int .u8 (a.toNat : Int)) := hc1 0 (show 0 < 5 by decide)
      have i1 : (w.alloc (.cells #[.int .i64 0, .int .i64 0, .int .i64 0, .int .i64 0] 40)).cell? ⟨q, o + 1, none⟩ = some (.int .u8 (b.toNat : Int)) := hc1 1 (show 1 < 5 by decide)
      have i2 : (w.alloc (.cells #[.int .i64 0, .int .i64 0, .int .i64 0, .int .i64 0] 40)).cell? ⟨q, o + 2, none⟩ = some (.int .u8 (d.toNat : Int)) := hc1 2 (show 2 < 5 by decide)
      have i3 : (w.alloc (.cells #[.int .i64 0, .int .i64 0, .int .i64 0, .int .i64 0] 40)).cell? ⟨q, o + 3, none⟩ = some (.int .u8 (e.toNat : Int)) := hc1 3 (show 3 < 5 by decide)
      have i4 : (w.alloc (.cells #[.int .i64 0, .int .i64 0, .int .i64 0, .int .i64 0] 40)).cell? ⟨q, o + 4, none⟩ = some (.int .u8 (f.toNat : Int)) := hc1 4 (show 4 < 5 by decide)
      have hS2 := hS1.alloc (.cells #[.int .i64 0, .int .i64 0, .int .i64 0, .int .i64 0] 40)
      obtain ⟨q'', o'', e'', hq'', hc2⟩ := hS2.2 (show 0 < 5 by decide)
      injection e'' with e''
      injection e'' with e1 e2
      subst e1 e2
      have j0 : ((w.alloc (.cells #[.int .i64 0, .int .i64 0, .int .i64 0, .int .i64 0] 40)).alloc (.cells #[.int .i64 0, .int .i64 0, .int .i64 0, .int .i64 0] 40)).cell? ⟨q, o + 0, none⟩ = some (.int .u8 (a.toNat : Int)) := hc2 0 (show 0 < 5 by decide)
      have j1 : ((w.alloc (.cells #[.int .i64 0, .int .i64 0, .int .i64 0, .int .i64 0] 40)).alloc (.cells #[.int .i64 0, .int .i64 0, .int .i64 0, .int .i64 0] 40)).cell? ⟨q, o + 1, none⟩ = some (.int .u8 (b.toNat : Int)) := hc2 1 (show 1 < 5 by decide)
      have j2 : ((w.alloc (.cells #[.int .i64 0, .int .i64 0, .int .i64 0, .int .i64 0] 40)).alloc (.cells #[.int .i64 0, .int .i64 0, .int .i64 0, .int .i64 0] 40)).cell? ⟨q, o + 2, none⟩ = some (.int .u8 (d.toNat : Int)) := hc2 2 (show 2 < 5 by decide)
      have j3 : ((w.alloc (.cells #[.int .i64 0, .int .i64 0, .int .i64 0, .int .i64 0] 40)).alloc (.cells #[.int .i64 0, .int .i64 0, .int .i64 0, .int .i64 0] 40)).cell? ⟨q, o + 3, none⟩ = some (.int .u8 (e.toNat : Int)) := hc2 3 (show 3 < 5 by decide)
      have j4 : ((w.alloc (.cells #[.int .i64 0, .int .i64 0, .int .i64 0, .int .i64 0] 40)).alloc (.cells #[.int .i64 0, .int .i64 0, .int .i64 0, .int .i64 0] 40)).cell? ⟨q, o + 4, none⟩ = some (.int .u8 (f.toNat : Int)) := hc2 4 (show 4 < 5 by decide)
      rw [Nat.add_zero] at i0 j0
      have ha := a.toNat_lt
      have hbb := b.toNat_lt
      have hd := d.toNat_lt
      have he := e.toNat_lt
      have hf := f.toNat_lt
      have hpar : parseOf [a, b, d, e, f] = if a.toNat < 225 then some (a.toNat % 9, a.toNat / 9 % 5, a.toNat / 45, max 4096 (b.toNat + 256 * d.toNat + 65536 * e.toNat + 16777216 * f.toNat)) else none := rfl
      rw [hpar]
      subst h5
      generalize a.toNat = a at *
      generalize b.toNat = b at *
      generalize d.toNat = d at *
      generalize e.toNat = e at *
      generalize f.toNat = f at *
      obtain ⟨w1, hw1⟩ : ∃ w1, w1 = w.alloc (.cells #[.int .i64 0, .int .i64 0, .int .i64 0, .int .i64 0] 40) := ⟨_, rfl⟩
      have HBk : Blk w1 w.heap.size 40 #[.int .i64 0, .int .i64 0, .int .i64 0, .int .i64 0] := by rw [hw1]; exact Blk.fresh w _ _
      rw [← hw1] at i0 i1 i2 i3 i4 j0 j1 j2 j3 j4 hb
      have HW1 := Lib.hid hw1
      have HB := Lib.hid hb
      have HBK := Lib.hid HBk
      have r0 : w1.cell? ⟨w.heap.size, 0, none⟩ = some (.int .i64 0) := HBk.cell 0
      have r1 : w1.cell? ⟨w.heap.size, 1, none⟩ = some (.int .i64 0) := HBk.cell 1
      have r2 : w1.cell? ⟨w.heap.size, 2, none⟩ = some (.int .i64 0) := HBk.cell 2
      have r3 : w1.cell? ⟨w.heap.size, 3, none⟩ = some (.int .i64 0) := HBk.cell 3
      have z0 := HBk.free 0
      have z1 := HBk.free 1
      have z2 := HBk.free 2
      have z3 := HBk.free 3
      clear hw1 hb HBk hc hc1 hc2 hq hq' hq'' hS hS1 hS2 hpar hn hl h5'
      by_cases h225 : a < 225
      · rw [if_pos h225]
        have g : ¬ (a : Int) ≥ 225 := by omega
        obtain ⟨lc, hlc⟩ : ∃ x, x = a % 9 := ⟨_, rfl⟩
        obtain ⟨qa, hqa⟩ : ∃ x, x = a / 9 := ⟨_, rfl⟩
        obtain ⟨lp, hlp⟩ : ∃ x, x = qa % 5 := ⟨_, rfl⟩
        obtain ⟨pb, hpb⟩ : ∃ x, x = a / 45 := ⟨_, rfl⟩
        obtain ⟨dc, hdc⟩ : ∃ x, x = b + 256 * d + 65536 * e + 16777216 * f := ⟨_, rfl⟩
        rw [← hqa, ← hlc, ← hlp, ← hpb, ← hdc]
        have e1 : (a : Int).tmod 9 = (lc : Int) := by rw [Int.tmod_eq_emod_of_nonneg (by omega)]; omega
        have e2 : (a : Int) / 9 = (qa : Int) := by omega
        have e2' : (a : Int).tdiv 9 = (qa : Int) := by rw [Int.tdiv_eq_ediv_of_nonneg (by omega)]; exact e2
        have e3 : (qa : Int).tmod 5 = (lp : Int) := by rw [Int.tmod_eq_emod_of_nonneg (by omega)]; omega
        have e4 : (a : Int) / 45 = (pb : Int) := by omega
        have e4' : (a : Int).tdiv 45 = (pb : Int) := by rw [Int.tdiv_eq_ediv_of_nonneg (by omega)]; exact e4
        have u0 : IntKind.i64.wrap (a : Int) = (a : Int) := IntWalk.i64_in _ (by omega)
        have u1 : IntKind.i64.wrap (b : Int) = (b : Int) := IntWalk.i64_in _ (by omega)
        have u2 : IntKind.i64.wrap (d : Int) = (d : Int) := IntWalk.i64_in _ (by omega)
        have u3 : IntKind.i64.wrap (e : Int) = (e : Int) := IntWalk.i64_in _ (by omega)
        have u4 : IntKind.i64.wrap (f : Int) = (f : Int) := IntWalk.i64_in _ (by omega)
        have v1 : IntKind.i64.wrap (lc : Int) = (lc : Int) := IntWalk.i64_in _ (by omega)
        have v2 : IntKind.i64.wrap (qa : Int) = (qa : Int) := IntWalk.i64_in _ (by omega)
        have v3 : IntKind.i64.wrap (lp : Int) = (lp : Int) := IntWalk.i64_in _ (by omega)
        have v4 : IntKind.i64.wrap (pb : Int) = (pb : Int) := IntWalk.i64_in _ (by omega)
        have m2 : IntKind.i64.wrap (256 * (d : Int)) = 256 * (d : Int) := IntWalk.i64_in _ (by omega)
        have m3 : IntKind.i64.wrap (65536 * (e : Int)) = 65536 * (e : Int) := IntWalk.i64_in _ (by omega)
        have m4 : IntKind.i64.wrap (16777216 * (f : Int)) = 16777216 * (f : Int) := IntWalk.i64_in _ (by omega)
        have s2 : IntKind.i64.wrap ((b : Int) + 256 * (d : Int)) = (b : Int) + 256 * (d : Int) := IntWalk.i64_in _ (by omega)
        have s3 : IntKind.i64.wrap ((b : Int) + 256 * (d : Int) + 65536 * (e : Int)) = (b : Int) + 256 * (d : Int) + 65536 * (e : Int) := IntWalk.i64_in _ (by omega)
        have s4 : IntKind.i64.wrap ((b : Int) + 256 * (d : Int) + 65536 * (e : Int) + 16777216 * (f : Int)) = (dc : Int) := by rw [show (b : Int) + 256 * (d : Int) + 65536 * (e : Int) + 16777216 * (f : Int) = (dc : Int) by omega]; exact IntWalk.i64_in _ (by omega)
        clear h225 ha hbb hd he hf hlc hqa hlp hpb hdc
        go_enter Tryz.func25, Tryz.ntmps25
        go_upto_region 1 with fail
        rw [← HW1.out]
        clear HW1
        go_wp2_with fail
        go_region_held3 (fun w' => w'.cell? ⟨q, o, none⟩ = some (.int .u8 (a : Int)) ∧ w'.cell? ⟨q, o + 1, none⟩ = some (.int .u8 (b : Int)) ∧ w'.cell? ⟨q, o + 2, none⟩ = some (.int .u8 (d : Int)) ∧ w'.cell? ⟨q, o + 3, none⟩ = some (.int .u8 (e : Int)) ∧ w'.cell? ⟨q, o + 4, none⟩ = some (.int .u8 (f : Int)))
          (first | exact ⟨i0, i1, i2, i3, i4⟩ | exact ⟨j0, j1, j2, j3, j4⟩ | go_keep)
          (fail)
        have hk1 : Blk ((w1.alloc (.cells #[.int .i64 (lc : Int), .int .i64 (lp : Int), .int .i64 (pb : Int), .int .i64 (dc : Int)] 40)).drew) w1.heap.size 40 #[.int .i64 (lc : Int), .int .i64 (lp : Int), .int .i64 (pb : Int), .int .i64 (dc : Int)] := Blk.fresh w1 _ _
        have hk0 : Blk ((w1.alloc (.cells #[.int .i64 (lc : Int), .int .i64 (lp : Int), .int .i64 (pb : Int), .int .i64 (dc : Int)] 40)).drew) w.heap.size 40 #[.int .i64 0, .int .i64 0, .int .i64 0, .int .i64 0] := HBK.out.alloc _
        have hb2 : Below w.heap.size w ((w1.alloc (.cells #[.int .i64 (lc : Int), .int .i64 (lp : Int), .int .i64 (pb : Int), .int .i64 (dc : Int)] 40)).drew) := below_drewN (HB.out.alloc HB.out.size _) 1
        have hne : w.heap.size ≠ w1.heap.size := by have := HBK.out.lt; omega
        clear r0 r1 r2 r3 z0 z1 z2 z3 i0 i1 i2 i3 i4 j0 j1 j2 j3 j4 e1 e2 e2' e3 e4 e4' u0 u1 u2 u3 u4 v1 v2 v3 v4 m2 m3 m4 s2 s3 s4
        generalize (w1.alloc (.cells #[.int .i64 (lc : Int), .int .i64 (lp : Int), .int .i64 (pb : Int), .int .i64 (dc : Int)] 40)).drew = w2 at *
        have hw1s := HB.out.size
        generalize w1.heap.size = b1 at *
        have k0 : w2.cell? ⟨b1, 0, none⟩ = some (.int .i64 (lc : Int)) := hk1.cell 0
        have k1 : w2.cell? ⟨b1, 1, none⟩ = some (.int .i64 (lp : Int)) := hk1.cell 1
        have k2 : w2.cell? ⟨b1, 2, none⟩ = some (.int .i64 (pb : Int)) := hk1.cell 2
        have k3 : w2.cell? ⟨b1, 3, none⟩ = some (.int .i64 (dc : Int)) := hk1.cell 3
        have y3 := hk1.free 3
        have r0 : w2.cell? ⟨w.heap.size, 0, none⟩ = some (.int .i64 0) := hk0.cell 0
        have r1 : w2.cell? ⟨w.heap.size, 1, none⟩ = some (.int .i64 0) := hk0.cell 1
        have r2 : w2.cell? ⟨w.heap.size, 2, none⟩ = some (.int .i64 0) := hk0.cell 2
        have r3 : w2.cell? ⟨w.heap.size, 3, none⟩ = some (.int .i64 0) := hk0.cell 3
        have z0 := hk0.free 0
        have z1 := hk0.free 1
        have z2 := hk0.free 2
        have z3 := hk0.free 3
        have hend : ∀ (W : World) (v : Int), Blk W w.heap.size 40 #[.int .i64 0, .int .i64 0, .int .i64 0, .int .i64 0] → Below w.heap.size w W →
            Blk ((((W.setCell ⟨w.heap.size, 0, none⟩ (.int .i64 (lc : Int))).setCell ⟨w.heap.size, 1, none⟩ (.int .i64 (lp : Int))).setCell ⟨w.heap.size, 2, none⟩ (.int .i64 (pb : Int))).setCell ⟨w.heap.size, 3, none⟩ (.int .i64 v)) w.heap.size 40 #[.int .i64 (lc : Int), .int .i64 (lp : Int), .int .i64 (pb : Int), .int .i64 v] ∧
            Below w.heap.size w ((((W.setCell ⟨w.heap.size, 0, none⟩ (.int .i64 (lc : Int))).setCell ⟨w.heap.size, 1, none⟩ (.int .i64 (lp : Int))).setCell ⟨w.heap.size, 2, none⟩ (.int .i64 (pb : Int))).setCell ⟨w.heap.size, 3, none⟩ (.int .i64 v)) := by
          intro W v h1 h2
          exact ⟨(((h1.put 0 (.int .i64 (lc : Int))).put 1 (.int .i64 (lp : Int))).put 2 (.int .i64 (pb : Int))).put 3 (.int .i64 v), (((h2.setCell (Nat.le_refl _) _).setCell (Nat.le_refl _) _).setCell (Nat.le_refl _) _).setCell (Nat.le_refl _) _⟩
        by_cases h4 : dc < 4096
        · have g4 : (dc : Int) < 4096 := by omega
          have HE := Lib.hid (hend (w2.setCell ⟨b1, 3, none⟩ (.int .i64 4096)) 4096 (hk0.far hne _) (hb2.setCell hw1s _))
          have hm : max 4096 dc = 4096 := by omega
          have HM := Lib.hid hm
          clear hend hk1 hk0 hb2 h4 hm HB HBK hw1s
          go_wp2_with fail
          obtain ⟨hk, hb⟩ := HE.out
          generalize ((((w2.setCell ⟨b1, 3, none⟩ (.int .i64 4096)).setCell ⟨w.heap.size, 0, none⟩ (.int .i64 (lc : Int))).setCell ⟨w.heap.size, 1, none⟩ (.int .i64 (lp : Int))).setCell ⟨w.heap.size, 2, none⟩ (.int .i64 (pb : Int))).setCell ⟨w.heap.size, 3, none⟩ (.int .i64 4096) = w5 at *
          have k0 : w5.cell? ⟨w.heap.size, 0, none⟩ = some (.int .i64 (lc : Int)) := hk.cell 0
          have k1 : w5.cell? ⟨w.heap.size, 1, none⟩ = some (.int .i64 (lp : Int)) := hk.cell 1
          have k2 : w5.cell? ⟨w.heap.size, 2, none⟩ = some (.int .i64 (pb : Int)) := hk.cell 2
          have k3 : w5.cell? ⟨w.heap.size, 3, none⟩ = some (.int .i64 4096) := hk.cell 3
          refine bodyPost_ret (v := .tuple #[.agg #[.int .i64 (lc : Int), .int .i64 (lp : Int), .int .i64 (pb : Int), .int .i64 4096], .int .i64 0]) (by simp [results, Tryz.results25, go_sem, k0, k1, k2, k3]) rfl ⟨hb, .inr ⟨lc, lp, pb, 4096, by rw [HM.out], rfl⟩⟩
        · have g4 : ¬ (dc : Int) < 4096 := by omega
          have HE := Lib.hid (hend w2 (dc : Int) hk0 hb2)
          have hm : max 4096 dc = dc := by omega
          have HM := Lib.hid hm
          clear hend hk1 hk0 hb2 h4 hm HB HBK hw1s
          go_wp2_with fail
          obtain ⟨hk, hb⟩ := HE.out
          generalize (((w2.setCell ⟨w.heap.size, 0, none⟩ (.int .i64 (lc : Int))).setCell ⟨w.heap.size, 1, none⟩ (.int .i64 (lp : Int))).setCell ⟨w.heap.size, 2, none⟩ (.int .i64 (pb : Int))).setCell ⟨w.heap.size, 3, none⟩ (.int .i64 (dc : Int)) = w5 at *
          have k0 : w5.cell? ⟨w.heap.size, 0, none⟩ = some (.int .i64 (lc : Int)) := hk.cell 0
          have k1 : w5.cell? ⟨w.heap.size, 1, none⟩ = some (.int .i64 (lp : Int)) := hk.cell 1
          have k2 : w5.cell? ⟨w.heap.size, 2, none⟩ = some (.int .i64 (pb : Int)) := hk.cell 2
          have k3 : w5.cell? ⟨w.heap.size, 3, none⟩ = some (.int .i64 (dc : Int)) := hk.cell 3
          refine bodyPost_ret (v := .tuple #[.agg #[.int .i64 (lc : Int), .int .i64 (lp : Int), .int .i64 (pb : Int), .int .i64 (dc : Int)], .int .i64 0]) (by simp [results, Tryz.results25, go_sem, k0, k1, k2, k3]) rfl ⟨hb, .inr ⟨lc, lp, pb, dc, by rw [HM.out], rfl⟩⟩
      · rw [if_neg h225]
        have g : (a : Int) ≥ 225 := by omega
        clear h225 ha hbb hd he hf
        go_enter Tryz.func25, Tryz.ntmps25
        go_upto_region 1 with fail
        rw [← HW1.out]
        clear HW1
        go_wp2_with fail
        have hk2 := (((HBK.out.put 0 (.int .i64 0)).put 1 (.int .i64 0)).put 2 (.int .i64 0)).put 3 (.int .i64 0)
        have hb2 : Below w.heap.size w ((((w1.setCell ⟨w.heap.size, 0, none⟩ (.int .i64 0)).setCell ⟨w.heap.size, 1, none⟩ (.int .i64 0)).setCell ⟨w.heap.size, 2, none⟩ (.int .i64 0)).setCell ⟨w.heap.size, 3, none⟩ (.int .i64 0)) :=
          (((HB.out.setCell (Nat.le_refl _) _).setCell (Nat.le_refl _) _).setCell (Nat.le_refl _) _).setCell (Nat.le_refl _) _
        clear r0 r1 r2 r3 z0 z1 z2 z3 i0 i1 i2 i3 i4 j0 j1 j2 j3 j4
        generalize (((w1.setCell ⟨w.heap.size, 0, none⟩ (.int .i64 0)).setCell ⟨w.heap.size, 1, none⟩ (.int .i64 0)).setCell ⟨w.heap.size, 2, none⟩ (.int .i64 0)).setCell ⟨w.heap.size, 3, none⟩ (.int .i64 0) = w2 at *
        have k0 : w2.cell? ⟨w.heap.size, 0, none⟩ = some (.int .i64 0) := hk2.cell 0
        have k1 : w2.cell? ⟨w.heap.size, 1, none⟩ = some (.int .i64 0) := hk2.cell 1
        have k2 : w2.cell? ⟨w.heap.size, 2, none⟩ = some (.int .i64 0) := hk2.cell 2
        have k3 : w2.cell? ⟨w.heap.size, 3, none⟩ = some (.int .i64 0) := hk2.cell 3
        refine bodyPost_ret (v := .tuple #[.agg #[.int .i64 0, .int .i64 0, .int .i64 0, .int .i64 0], .int .i64 11]) (by simp [results, Tryz.results25, go_sem, k0, k1, k2, k3]) rfl ⟨hb2, .inl ⟨rfl, rfl⟩⟩
  · rw [parse_short (by omega)]
    have HB := Lib.hid hb
    have g : ((n : Int) != 5) = true := by simp; omega
    clear hb hn hS hl h5
    have hk2 : Blk (w.alloc (.cells #[.int .i64 0, .int .i64 0, .int .i64 0, .int .i64 0] 40)) w.heap.size 40 #[.int .i64 0, .int .i64 0, .int .i64 0, .int .i64 0] := Blk.fresh w _ _
    have HK := Lib.hid hk2
    clear hk2
    go_enter Tryz.func25, Tryz.ntmps25
    go_wp2_with fail
    have hk2 := HK.out
    have hb2 := HB.out
    clear HK HB
    generalize w.alloc (.cells #[.int .i64 0, .int .i64 0, .int .i64 0, .int .i64 0] 40) = w2 at *
    have k0 : w2.cell? ⟨w.heap.size, 0, none⟩ = some (.int .i64 0) := hk2.cell 0
    have k1 : w2.cell? ⟨w.heap.size, 1, none⟩ = some (.int .i64 0) := hk2.cell 1
    have k2 : w2.cell? ⟨w.heap.size, 2, none⟩ = some (.int .i64 0) := hk2.cell 2
    have k3 : w2.cell? ⟨w.heap.size, 3, none⟩ = some (.int .i64 0) := hk2.cell 3
    refine bodyPost_ret (v := .tuple #[.agg #[.int .i64 0, .int .i64 0, .int .i64 0, .int .i64 0], .int .i64 11]) (by simp [results, Tryz.results25, go_sem, k0, k1, k2, k3]) rfl ⟨hb2, .inl ⟨rfl, rfl⟩⟩

end Go.Proofs.YtiolfjhddbiglaaGreatDoor

/-
  Numbers that are put (cut out of SrcCur).
-/
namespace Go.Proofs.YtiolfjhddbiglaaGreatDoor
open Go.RowKit

set_option maxHeartbeats 400000 in
theorem isSize_any (n : Int) (w : World) :
    Calls Tryz.prog 171 #[.int .i64 n] w fun e w' => e = .returned (.bool (decide (n = 1 ∨ n = 2 ∨ n = 4 ∨ n = 8))) ∧ w = w' := by
  go_enter Tryz.func171, Tryz.ntmps171
  go_wp2
  all_goals
    go_ret
    exact ⟨ret_bool (by first | (simp [*]; done) | (rw [Bool.eq_iff_iff]; simp [*])), rfl⟩

/-- a number of a size as bytes -/
def putM (size : Int) (v : Nat) : List UInt8 := if size = 1 ∨ size = 2 ∨ size = 4 ∨ size = 8 then leBytes size.toNat v else []

end Go.Proofs.YtiolfjhddbiglaaGreatDoor

/-
  The program's cursor and numbers that are put, as far as properties want them (cut out of Prim, New, Nums, Take, Put, Puts).
-/
namespace Go.Proofs.YtiolfjhddbiglaaGreatDoor
open Go.RowKit

/-- The cursor's cells. -/
def curCells (A : Option Addr) (n c : Nat) (at_ : Nat) (code : Int) : Array Value := #[.slice A n c, .int .i64 (at_ : Int), .int .i64 code]

/-- At block g of struct type T stands a cursor over the bytes bs, whose row lies in a block of lo. -/
def Cur (T : TypeId) (w : World) (g : Nat) (lo : Nat → Prop) (bs : List UInt8) (at_ : Nat) (code : Int) : Prop :=
  ∃ A c, Blk w g T (curCells A bs.length c at_ code) ∧ Sl w A bs.length (bv bs) ∧ bs.length ≤ c ∧ c ≤ maxLen ∧ at_ ≤ bs.length ∧ (0 < bs.length → ∀ b o, A = some ⟨b, o, none⟩ → lo b ∧ b ≠ g)

section
variable {T : TypeId} {w w' : World} {g : Nat} {lo : Nat → Prop} {bs : List UInt8} {at_ : Nat} {code : Int}
theorem Cur.lt (h : Cur T w g lo bs at_ code) : g < w.heap.size := by
  obtain ⟨_, _, hB, _⟩ := h
  exact hB.lt
theorem Cur.below (h : Cur T w g lo bs at_ code) (hb : Below w.heap.size w w') : Cur T w' g lo bs at_ code := by
  obtain ⟨A, c, hB, hS, r⟩ := h
  exact ⟨A, c, hB.below hb, hS.below hb, r⟩
theorem Cur.drewN (h : Cur T w g lo bs at_ code) (n : Nat) : Cur T (w.drewN n) g lo bs at_ code := h
/-- Another object's call: only the row has turned, and that is neither this cursor's block nor its row's. -/
theorem Cur.grown (h : Cur T w g lo bs at_ code) {row : Option Nat} (hb : w.grownBy w' row) (hrow : ∀ k, row = some k → g ≠ k ∧ ¬ lo k) : Cur T w' g lo bs at_ code := by
  obtain ⟨A, c, hB, hS, h1, h2, h3, h4⟩ := h
  refine ⟨A, c, hB.grown hb (fun e => (hrow g e.symm).1 rfl), hS.keep hb.size ?_, h1, h2, h3, h4⟩
  intro hn b o hA hlt
  refine hb.block b hlt (fun e => (hrow b e.symm).2 (h4 hn _ _ hA).1)
/-- All that stays at the old blocks. -/
theorem Cur.old (h : Cur T w g lo bs at_ code) : Cur T w g (fun b => lo b ∧ b < w.heap.size) bs at_ code := by
  obtain ⟨A, c, hB, hS, h1, h2, h3, h4⟩ := h
  refine ⟨A, c, hB, hS, h1, h2, h3, fun hn b o hA => ⟨⟨(h4 hn b o hA).1, ?_⟩, (h4 hn b o hA).2⟩⟩
  obtain ⟨b', o', e, hb, _⟩ := hS.2 hn
  rw [hA] at e
  injection e with e
  injection e with e
  omega
end

/-- The code of a cursor that fails with x: the first one stays. -/
def over (code x : Int) : Int := if code = 0 then x else code
/-- What is left to read. -/
def leftOf (bs : List UInt8) (at_ : Nat) (code : Int) : List UInt8 := if code = 0 then bs.drop at_ else []

theorem rest_raw (g : Nat) (A : Option Addr) (n c k : Nat) (code : Int) (w : World) (hB : Blk w g 235 (curCells A n c k code)) (hk : k ≤ n) (hn : n ≤ c) (hc : c ≤ maxLen) :
    Calls Tryz.prog 194 #[.pointer (some ⟨g, 0, none⟩)] w fun e w' => e = .returned (if code = 0 then .slice (if c = k then A else A.map (·.add k)) (n - k) (c - k) else .slice none 0 0) ∧ ∃ d, w.drewN d = w' := by
  unfold maxLen at hc
  have h0 : w.cell? ⟨g, 0, none⟩ = some (.slice A n c) := hB.cell 0
  have h1 : w.cell? ⟨g, 1, none⟩ = some (.int .i64 k) := hB.cell 1
  have h2 : w.cell? ⟨g, 2, none⟩ = some (.int .i64 code) := hB.cell 2
  clear hB
  by_cases hz : code = 0
  · subst hz
    go_enter Tryz.func194, Tryz.ntmps194
    go_wp2
    go_quiet (fail)
    go_wp2
    all_goals
      go_ret
      exact ⟨by simp [*], _, rfl⟩
  · go_enter Tryz.func194, Tryz.ntmps194
    go_wp2
    go_ret
    exact ⟨by simp [*], 0, rfl⟩

/-- rest: what is left, as a slice. -/
theorem rest_any {g : Nat} {lo : Nat → Prop} {bs : List UInt8} {k : Nat} {code : Int} {w : World} (h : Cur 235 w g lo bs k code) :
    Calls Tryz.prog 194 #[.pointer (some ⟨g, 0, none⟩)] w fun e w' =>
      ∃ B c, e = .returned (.slice B (leftOf bs k code).length c) ∧ (leftOf bs k code).length ≤ c ∧ c ≤ maxLen ∧ Sl w B (leftOf bs k code).length (bv (leftOf bs k code)) ∧ (0 < (leftOf bs k code).length → ∀ b o, B = some ⟨b, o, none⟩ → lo b ∧ b ≠ g) ∧ ∃ d, w.drewN d = w' := by
  obtain ⟨A, c, hB, hS, h1, h2, h3, h4⟩ := h
  refine (rest_raw g A bs.length c k code w hB h3 h1 h2).mono ?_
  rintro e w' ⟨rfl, hd⟩
  by_cases hz : code = 0
  · have el : (leftOf bs k code) = bs.drop k := by simp [leftOf, hz]
    have := hS.cut h3 h1
    refine ⟨_, _, by rw [if_pos hz, el, List.length_drop], by rw [el, List.length_drop]; omega, by omega, ?_, ?_, hd⟩
    · rw [el, List.length_drop, bv_drop]
      exact this
    · rw [el, List.length_drop]
      intro hn b o e
      rw [if_neg (by omega)] at e
      obtain ⟨b', o', rfl, _⟩ := hS.2 (by omega)
      have h5 := h4 (by omega) b' o' rfl
      have e' : b' = b := by
        unfold Addr.add at e
        by_cases hk : k = 0 <;> simp [hk] at e <;> omega
      rw [← e']
      exact h5
  · have el : (leftOf bs k code) = [] := by simp [leftOf, hz]
    refine ⟨_, _, by rw [if_neg hz, el]; rfl, by simp [el], by unfold maxLen; omega, ?_, by simp [el], hd⟩
    rw [el]
    exact Sl.nil

set_option maxHeartbeats 400000 in
theorem pass_any {g : Nat} {lo : Nat → Prop} {bs : List UInt8} {k n : Nat} {x code : Int} {w : World} (h : Cur 235 w g lo bs k code) (hx : x = (n : Int)) (hn : k + n ≤ bs.length) :
    Calls Tryz.prog 196 #[.pointer (some ⟨g, 0, none⟩), .int .i64 x] w fun e w' =>
      e = .returned (.tuple #[]) ∧ Cur 235 w' g lo bs (k + n) code ∧ w.grownBy w' (some g) := by
  subst hx
  obtain ⟨A, c, hB, hS, r1, r2, r3, r4⟩ := h
  have h2 : w.cell? ⟨g, 1, none⟩ = some (.int .i64 k) := hB.cell 1
  have hf : w.frozen? ⟨g, 1, none⟩ = false := hB.free 1
  have HB := Lib.hid hB
  have HS := Lib.hid hS
  have HR := Lib.hid r4
  have hm := r2
  unfold maxLen at hm
  clear hB hS r4
  go_enter Tryz.func196, Tryz.ntmps196
  go_wp2
  go_end0
  refine ⟨rfl, ⟨A, c, ?_, ?_, r1, r2, by omega, HR.out⟩, only_setCell (World.grownBy.refl w _) (.inl rfl) _⟩
  · have := HB.out.put 1 (.int .i64 ((k : Int) + (n : Int)))
    rw [← Int.natCast_add] at this
    simpa [curCells] using this
  · refine HS.out.grown (only_setCell (World.grownBy.refl w _) (.inl rfl) _) (fun hn b o e => (HR.out hn b o e).2)
set_option maxHeartbeats 400000 in
theorem new_any {A : Option Addr} {n c : Nat} {bs : List UInt8} {w : World} (hS : Sl w A n (bv bs)) (hm : n ≤ 1000000000) :
    Calls Tryz.prog 174 #[.slice A n c] w fun e w' =>
      ∃ g, e = .returned (.pointer (some ⟨g, 0, none⟩)) ∧ w.heap.size ≤ g ∧ Cur 235 w' g (w.heap.size ≤ ·) bs 0 0 ∧ Below w.heap.size w w' := by
  go_enter Tryz.func174, Tryz.ntmps174
  go_wp2_with (go_at_call 41; refine (clone_any hS hm).mono ?_; rintro e w' ⟨A', c', rfl, ho, hb⟩; have HO := Lib.hid ho; have HB := Lib.hid hb; clear ho hb)
  go_ret
  have hl : n = bs.length := by rw [← hS.1, bv_length]
  subst hl
  obtain ⟨h1, h2, h3, h4⟩ := own_facts HO.out
  refine ⟨_, rfl, HB.out.size, ⟨A', c', Blk.fresh _ _ _, h1.alloc _, h2, h3, by omega, fun _ b o e => ⟨(h4 b o e).1, Nat.ne_of_lt (h4 b o e).2⟩⟩, HB.out.alloc HB.out.size _⟩
set_option maxHeartbeats 400000 in
theorem least_any {A : Option Addr} {n c : Nat} {bs : List UInt8} {w : World} (hS : Sl w A n (bv bs)) (hm : n ≤ 8) :
    Calls Tryz.prog 197 #[.slice A n c] w fun e w' => e = .returned (.int .u64 (leVal bs : Int)) ∧ w = w' := by
  go_enter Tryz.func197, Tryz.ntmps197
  go_wp2
  go_loop [3, 7] (fun v i => ∃ k : Nat, k ≤ n ∧ i = .int .i64 k ∧ v = .int .u64 (leVal (bs.take k) : Int)) (fun _ i => n - (intOf i).toNat)
  case atStart => exact ⟨0, Nat.zero_le _, rfl, rfl⟩
  case round =>
    obtain ⟨k, hk, rfl, rfl⟩ := hrel
    have hl : bs.length = n := by rw [← hS.1, bv_length]
    by_cases hlt : k < n
    · obtain ⟨b, o, rfl, _, hc⟩ := hS.2 (by omega)
      have hcell : w.cell? ⟨b, o + k, none⟩ = some (.int .u8 ((bs.getD k 0).toNat : Int)) := by rw [hc k hlt, bv_get _ _ (by omega)]
      have hv := leVal_take bs k (by omega)
      generalize bs.getD k 0 = x at hcell hv
      have HV := Lib.hid hv
      have HL := Lib.hid hl
      clear hc hS hv hl
      go_wp2
      go_round
      case rel => exact ⟨k + 1, by omega, by go_num, by rw [HV.out, ← or_step _ _ _ (leVal_take_lt bs k) x.toNat_lt (by omega)]⟩
      case measure => simp [intOf]; omega
    · have HL := Lib.hid hl
      clear hl hS
      go_wp2
      go_ret
      exact ⟨ret_int (by rw [List.take_of_length_le (by have := HL.out; omega)]), rfl⟩
theorem left_le {T : TypeId} {w : World} {g : Nat} {lo : Nat → Prop} {bs : List UInt8} {k : Nat} {code : Int} (h : Cur T w g lo bs k code) : k + (leftOf bs k code).length ≤ bs.length := by
  obtain ⟨_, _, _, _, _, _, h3, _⟩ := h
  unfold leftOf
  split
  · rw [List.length_drop]; omega
  · simp; omega

set_option maxHeartbeats 1000000 in
theorem num_ok {g : Nat} {lo : Nat → Prop} {bs : List UInt8} {k n : Nat} {code : Int} {w : World} (h : Cur 235 w g lo bs k code) (hm : bs.length ≤ 1000000000) (hs : n = 1 ∨ n = 2 ∨ n = 4 ∨ n = 8) (hn : n ≤ (leftOf bs k code).length) :
    Calls Tryz.prog 175 #[.pointer (some ⟨g, 0, none⟩), .int .i64 (n : Int)] w fun e w' =>
      e = .returned (.int .u64 (leVal ((leftOf bs k code).take n) : Int)) ∧ Cur 235 w' g lo bs (k + n) code ∧ w.grownBy w' (some g) := by
  have hl := left_le h
  have HR := Lib.hid (rest_any h)
  have HC := Lib.hid h
  clear h
  generalize leftOf bs k code = r at *
  have hz := fun w => isSize_any (n : Int) w
  rw [decide_eq_true (by omega)] at hz
  have HZ := Lib.hid hz
  have h8 : n ≤ 8 := by omega
  clear hz hs
  go_enter Tryz.func175, Tryz.ntmps175
  go_wp2_with (first
    | (go_at_call 194; refine HR.out.mono ?_; rintro e w1 ⟨B, c, rfl, hcl, hcm, hS, hbg, d, rfl⟩; have HS := Lib.hid hS; have HBG := Lib.hid hbg; clear hS hbg)
    | (go_at_call 171; refine (HZ.out _).mono ?_; rintro e w2 ⟨rfl, rfl⟩)
    | (go_at_call 196; refine (pass_any (n := n) (HC.out.drewN _) rfl (by omega)).mono ?_; rintro e w2 ⟨rfl, hc, hg⟩; have HC2 := Lib.hid hc; have HG := Lib.hid (only_of_drewN hg); clear hc hg))
  have hS2 : Sl w2 B n (bv (r.take n)) := by
    rw [bv_take]
    exact (HS.out.first hn).grown HG.out (fun h0 b o e => (HBG.out (by omega) b o e).2)
  refine (least_any hS2 h8).mono ?_
  rintro e w3 ⟨rfl, rfl⟩
  clear hS2
  go_wp2
  go_ret
  exact ⟨rfl, HC2.out, HG.out⟩

end Go.Proofs.YtiolfjhddbiglaaGreatDoor

/-
  The program's settings: properties put.
-/
namespace Go.Proofs.YtiolfjhddbiglaaGreatDoor
open Go.RowKit

theorem below_gg {w0 w1 w2 : World} {B : Nat} (h : Below B w0 w1) (hb : Below w1.heap.size w1 w2) (hB : B ≤ w0.heap.size) : Below B w0 w2 :=
  h.trans ⟨hb.os, hb.tape, hb.output, hb.size, fun i hi => hb.block i (by have := h.size; omega)⟩
section
variable {w : World} {lc lp pb dict : Nat}
end
end Go.Proofs.YtiolfjhddbiglaaGreatDoor

/-
  The program's Parse of LZMA's properties.
-/
namespace Go.Proofs.YtiolfjhddbiglaaGreatDoor
open Go.RowKit

section
variable {w : World} {lc lp pb dict : Nat}


/-- a setting is stored into the result -/
theorem store_set {B b : Nat} {w W : World} {x0 x1 x2 x3 : Value} (a0 a1 a2 a3 : Value) (h1 : Blk W b 40 #[x0, x1, x2, x3]) (h2 : Below B w W) (hb : B ≤ b) :
    Blk ((((W.setCell ⟨b, 0, none⟩ a0).setCell ⟨b, 1, none⟩ a1).setCell ⟨b, 2, none⟩ a2).setCell ⟨b, 3, none⟩ a3) b 40 #[a0, a1, a2, a3] ∧
    Below B w ((((W.setCell ⟨b, 0, none⟩ a0).setCell ⟨b, 1, none⟩ a1).setCell ⟨b, 2, none⟩ a2).setCell ⟨b, 3, none⟩ a3) :=
  ⟨(((h1.put 0 a0).put 1 a1).put 2 a2).put 3 a3, (((h2.setCell hb _).setCell hb _).setCell hb _).setCell hb _⟩

set_option maxRecDepth 100000 in
set_option maxHeartbeats 4000000 in
theorem pparse_any {w : World} {n c : Nat} {A : Option Addr} {bs : List UInt8} (hn : n = bs.length) (hS : Sl w A bs.length (bv bs)) (hl : bs.length ≤ 1000000000) :
    Calls Tryz.prog 129 #[.slice A n c] w (ParsePost w (parseOf bs)) := by
  obtain ⟨w1, hw1⟩ : ∃ w1, w1 = w.alloc (.cells #[.int .i64 0, .int .i64 0, .int .i64 0, .int .i64 0] 40) := ⟨_, rfl⟩
  have HBk : Blk w1 w.heap.size 40 #[.int .i64 0, .int .i64 0, .int .i64 0, .int .i64 0] := by rw [hw1]; exact Blk.fresh w _ _
  have hb : Below w.heap.size w w1 := by rw [hw1]; exact (Below.refl _ _).alloc (Nat.le_refl _) _
  have hS1 : Sl w1 A bs.length (bv bs) := by rw [hw1]; exact hS.alloc _
  have r0 : w1.cell? ⟨w.heap.size, 0, none⟩ = some (.int .i64 0) := HBk.cell 0
  have r1 : w1.cell? ⟨w.heap.size, 1, none⟩ = some (.int .i64 0) := HBk.cell 1
  have r2 : w1.cell? ⟨w.heap.size, 2, none⟩ = some (.int .i64 0) := HBk.cell 2
  have r3 : w1.cell? ⟨w.heap.size, 3, none⟩ = some (.int .i64 0) := HBk.cell 3
  have z0 := HBk.free 0
  have z1 := HBk.free 1
  have z2 := HBk.free 2
  have z3 := HBk.free 3
  have HW1 := Lib.hid hw1
  have HB := Lib.hid hb
  have HBK := Lib.hid HBk
  by_cases h5 : n = 5
  · have h5' : bs.length = 5 := by omega
    match bs, h5', hS1 with
    | [a, b, d, e, f], _, hS1 =>
      have KN := Lib.hid (new_any (c := c) hS1 (by simp))
      have ha := a.toNat_lt
      have hbb := b.toNat_lt
      have hd := d.toNat_lt
      have he := e.toNat_lt
      have hf := f.toNat_lt
      have hpar : parseOf [a, b, d, e, f] = if a.toNat < 225 then some (a.toNat % 9, a.toNat / 9 % 5, a.toNat / 45, max 4096 (b.toNat + 256 * d.toNat + 65536 * e.toNat + 16777216 * f.toNat)) else none := rfl
      have hv1 : leVal ((leftOf [a, b, d, e, f] 0 0).take 1) = a.toNat := by simp [leftOf, leVal]
      have hv4 : leVal ((leftOf [a, b, d, e, f] 1 0).take 4) = b.toNat + 256 * d.toNat + 65536 * e.toNat + 16777216 * f.toNat := by simp [leftOf, leVal]; omega
      rw [hpar]
      have KA := fun (W : World) (g : Nat) (h : Cur 235 W g (w1.heap.size ≤ ·) [a, b, d, e, f] 0 0) => num_ok (n := 1) h (by simp) (.inl rfl) (by simp [leftOf])
      have KB := fun (W : World) (g : Nat) (h : Cur 235 W g (w1.heap.size ≤ ·) [a, b, d, e, f] (0 + 1) 0) => num_ok (n := 4) h (by simp) (.inr (.inr (.inl rfl))) (by simp [leftOf])
      rw [hv1] at KA
      rw [show leVal ((leftOf [a, b, d, e, f] (0 + 1) 0).take 4) = leVal ((leftOf [a, b, d, e, f] 1 0).take 4) from rfl, hv4] at KB
      have KA := Lib.hid KA
      have KB := Lib.hid KB
      subst h5
      clear hpar hv1 hv4 hn hl hS hS1 hw1 hb HBk h5'
      obtain ⟨x, hx⟩ : ∃ x, x = a.toNat := ⟨_, rfl⟩
      obtain ⟨y, hy⟩ : ∃ y, y = b.toNat + 256 * d.toNat + 65536 * e.toNat + 16777216 * f.toNat := ⟨_, rfl⟩
      rw [← hx] at KA ha ⊢
      rw [← hy] at KB ⊢
      have hy32 : y < 4294967296 := by omega
      clear hx hy hbb hd he hf
      obtain ⟨lc, hlc⟩ : ∃ v, v = x % 9 := ⟨_, rfl⟩
      obtain ⟨q, hq⟩ : ∃ v, v = x / 9 := ⟨_, rfl⟩
      obtain ⟨lp, hlp⟩ : ∃ v, v = q % 5 := ⟨_, rfl⟩
      obtain ⟨pb, hpb⟩ : ∃ v, v = x / 45 := ⟨_, rfl⟩
      obtain ⟨dc, hdc⟩ : ∃ v, v = max 4096 y := ⟨_, rfl⟩
      rw [← hq, ← hlp, ← hlc, ← hpb, ← hdc]
      obtain ⟨res, hres⟩ : ∃ r, r = if x < 225 then some (lc, lp, pb, dc) else none := ⟨_, rfl⟩
      rw [← hres]
      have HRES := Lib.hid hres
      have e1 : (x : Int).tmod 9 = (lc : Int) := by rw [Int.tmod_eq_emod_of_nonneg (by omega)]; omega
      have e2 : (x : Int) / 9 = (q : Int) := by omega
      have e2' : (x : Int).tdiv 9 = (q : Int) := by rw [Int.tdiv_eq_ediv_of_nonneg (by omega)]; exact e2
      have e3 : (q : Int).tmod 5 = (lp : Int) := by rw [Int.tmod_eq_emod_of_nonneg (by omega)]; omega
      have e4 : (q : Int) / 5 = (pb : Int) := by omega
      have e4' : (q : Int).tdiv 5 = (pb : Int) := by rw [Int.tdiv_eq_ediv_of_nonneg (by omega)]; exact e4
      have u0 : IntKind.i64.wrap (x : Int) = (x : Int) := IntWalk.i64_in _ (by omega)
      have u1 : IntKind.i64.wrap (y : Int) = (y : Int) := IntWalk.i64_in _ (by omega)
      have v1 : IntKind.i64.wrap (lc : Int) = (lc : Int) := IntWalk.i64_in _ (by omega)
      have v2 : IntKind.i64.wrap (q : Int) = (q : Int) := IntWalk.i64_in _ (by omega)
      have v3 : IntKind.i64.wrap (lp : Int) = (lp : Int) := IntWalk.i64_in _ (by omega)
      have v4 : IntKind.i64.wrap (pb : Int) = (pb : Int) := IntWalk.i64_in _ (by omega)
      have m1 : max (y : Int) 4096 = (dc : Int) := by omega
      have KM := fun W => pmay_any (lc : Int) (lp : Int) (pb : Int) (dc : Int) W
      have hmay : maySet (lc : Int) (lp : Int) (pb : Int) (dc : Int) = decide (x < 225) := by
        unfold maySet
        rw [decide_eq_decide]
        omega
      rw [hmay] at KM
      obtain ⟨ok, hok⟩ : ∃ o, o = decide (x < 225) := ⟨_, rfl⟩
      rw [← hok] at KM
      have KM := Lib.hid KM
      have HOK := Lib.hid hok
      clear hok hres hmay hlc hq hlp hpb hdc ha hy32
      go_enter Tryz.func129, Tryz.ntmps129
      go_upto_region 1 with fail
      rw [← HW1.out]
      clear HW1
      generalize hB : w.heap.size = B at *
      go_wp2_with fail
      refine KN.out.mono ?_
      rintro e w2 ⟨g, rfl, hg, hC, hb2⟩
      have HC2 := Lib.hid (And.intro hg hC)
      have HB2 := Lib.hid (And.intro (below_gg HB.out hb2 (Nat.le_of_eq hB.symm)) (HBK.out.below hb2))
      clear hg hC hb2 KN r0 r1 r2 r3 z0 z1 z2 z3
      go_wp2_with fail
      refine (KA.out _ _ HC2.out.2).mono ?_
      rintro e w3 ⟨rfl, hC3, hg3⟩
      have hBg : B ≤ g := by have h1 := HC2.out.1; have h2 := HB.out.size; omega
      have hb3 : Below B w w3 := HB2.out.1.trans (below_of_only hg3 hBg (by have h1 := HB2.out.1.size; omega))
      have hgB : B ≠ g := by have := HC2.out.1; have := HBK.out.lt; omega
      have HB3 := Lib.hid (And.intro hb3 (HB2.out.2.grown hg3 (by intro e; injection e with e; exact hgB e)))
      have HC3 := Lib.hid (And.intro (And.intro hgB hBg) hC3)
      clear hb3 hgB hBg hC3 hg3 KA
      go_wp2_with fail
      refine (KB.out _ _ HC3.out.2).mono ?_
      rintro e w4 ⟨rfl, hC4, hg4⟩
      have hb4 : Below B w w4 := HB3.out.1.trans (below_of_only hg4 HC3.out.1.2 (by have h1 := HB3.out.1.size; omega))
      have hk4 := HB3.out.2.grown hg4 (by intro e; injection e with e; exact HC3.out.1.1 e)
      have HB4 := Lib.hid (And.intro hb4 hk4)
      clear hb4 hk4 hC4 hg4 KB
      go_upto_region 6 with fail
      obtain ⟨w5, hw5⟩ : ∃ w5, w5 = w4.alloc (.cells #[.int .i64 (lc : Int), .int .i64 (lp : Int), .int .i64 (pb : Int), .int .i64 (dc : Int)] 40) := ⟨_, rfl⟩
      have hf5 : Blk w5 w4.heap.size 40 #[.int .i64 (lc : Int), .int .i64 (lp : Int), .int .i64 (pb : Int), .int .i64 (dc : Int)] := by rw [hw5]; exact Blk.fresh w4 _ _
      have hb5 : Below B w w5 := by rw [hw5]; exact HB4.out.1.alloc (by have := HB4.out.1.size; omega) _
      have hk5 : Blk w5 B 40 #[.int .i64 0, .int .i64 0, .int .i64 0, .int .i64 0] := by rw [hw5]; exact HB4.out.2.alloc _
      have hBb : B ≤ w4.heap.size := by have := HB4.out.1.size; omega
      rw [← hw5]
      generalize w4.heap.size = b4 at *
      have k0 : w5.cell? ⟨b4, 0, none⟩ = some (.int .i64 (lc : Int)) := hf5.cell 0
      have k1 : w5.cell? ⟨b4, 1, none⟩ = some (.int .i64 (lp : Int)) := hf5.cell 1
      have k2 : w5.cell? ⟨b4, 2, none⟩ = some (.int .i64 (pb : Int)) := hf5.cell 2
      have k3 : w5.cell? ⟨b4, 3, none⟩ = some (.int .i64 (dc : Int)) := hf5.cell 3
      have H5 := Lib.hid (And.intro hf5 (And.intro hb5 (And.intro hk5 hBb)))
      clear hw5 hf5 hb5 hk5 hBb HB4
      go_wp2_with fail
      refine (KM.out _).mono ?_
      rintro e w6 ⟨rfl, hb6⟩
      obtain ⟨hf5, hb5, hk5, hBb⟩ := H5.out
      have hf6 := hf5.below hb6
      have hk6 := hk5.below hb6
      have hb6' : Below B w w6 := below_gg hb5 hb6 (Nat.le_of_eq hB.symm)
      have q0 : w6.cell? ⟨b4, 0, none⟩ = some (.int .i64 (lc : Int)) := hf6.cell 0
      have q1 : w6.cell? ⟨b4, 1, none⟩ = some (.int .i64 (lp : Int)) := hf6.cell 1
      have q2 : w6.cell? ⟨b4, 2, none⟩ = some (.int .i64 (pb : Int)) := hf6.cell 2
      have q3 : w6.cell? ⟨b4, 3, none⟩ = some (.int .i64 (dc : Int)) := hf6.cell 3
      have r0 : w6.cell? ⟨B, 0, none⟩ = some (.int .i64 0) := hk6.cell 0
      have r1 : w6.cell? ⟨B, 1, none⟩ = some (.int .i64 0) := hk6.cell 1
      have r2 : w6.cell? ⟨B, 2, none⟩ = some (.int .i64 0) := hk6.cell 2
      have r3 : w6.cell? ⟨B, 3, none⟩ = some (.int .i64 0) := hk6.cell 3
      have z0 := hk6.free 0
      have z1 := hk6.free 1
      have z2 := hk6.free 2
      have z3 := hk6.free 3
      have H6 := Lib.hid (And.intro hk6 hb6')
      clear hf5 hb5 hk5 hBb hf6 hk6 hb6 hb6' k0 k1 k2 k3 H5 KM
      cases ok with
      | true =>
        have hr : res = some (lc, lp, pb, dc) := by rw [HRES.out, if_pos (of_decide_eq_true HOK.out.symm)]
        have HR := Lib.hid hr
        have HE := Lib.hid (store_set (.int .i64 (lc : Int)) (.int .i64 (lp : Int)) (.int .i64 (pb : Int)) (.int .i64 (dc : Int)) H6.out.1 H6.out.2 (Nat.le_refl B))
        clear hr
        go_wp2_with fail
        obtain ⟨hk, hb⟩ := HE.out
        generalize (((w6.setCell ⟨B, 0, none⟩ (.int .i64 (lc : Int))).setCell ⟨B, 1, none⟩ (.int .i64 (lp : Int))).setCell ⟨B, 2, none⟩ (.int .i64 (pb : Int))).setCell ⟨B, 3, none⟩ (.int .i64 (dc : Int)) = w7 at *
        have k0 : w7.cell? ⟨B, 0, none⟩ = some (.int .i64 (lc : Int)) := hk.cell 0
        have k1 : w7.cell? ⟨B, 1, none⟩ = some (.int .i64 (lp : Int)) := hk.cell 1
        have k2 : w7.cell? ⟨B, 2, none⟩ = some (.int .i64 (pb : Int)) := hk.cell 2
        have k3 : w7.cell? ⟨B, 3, none⟩ = some (.int .i64 (dc : Int)) := hk.cell 3
        rw [← hB] at hb
        refine bodyPost_ret (v := .tuple #[.agg #[.int .i64 (lc : Int), .int .i64 (lp : Int), .int .i64 (pb : Int), .int .i64 (dc : Int)], .int .i64 0]) (by simp [results, Tryz.results129, go_sem, k0, k1, k2, k3]) rfl ⟨hb, .inr ⟨lc, lp, pb, dc, HR.out, rfl⟩⟩
      | false =>
        have hr : res = none := by rw [HRES.out, if_neg (of_decide_eq_false HOK.out.symm)]
        have HR := Lib.hid hr
        have HE := Lib.hid (store_set (.int .i64 0) (.int .i64 0) (.int .i64 0) (.int .i64 0) H6.out.1 H6.out.2 (Nat.le_refl B))
        clear hr
        go_wp2_with fail
        obtain ⟨hk, hb⟩ := HE.out
        generalize (((w6.setCell ⟨B, 0, none⟩ (.int .i64 0)).setCell ⟨B, 1, none⟩ (.int .i64 0)).setCell ⟨B, 2, none⟩ (.int .i64 0)).setCell ⟨B, 3, none⟩ (.int .i64 0) = w7 at *
        have k0 : w7.cell? ⟨B, 0, none⟩ = some (.int .i64 0) := hk.cell 0
        have k1 : w7.cell? ⟨B, 1, none⟩ = some (.int .i64 0) := hk.cell 1
        have k2 : w7.cell? ⟨B, 2, none⟩ = some (.int .i64 0) := hk.cell 2
        have k3 : w7.cell? ⟨B, 3, none⟩ = some (.int .i64 0) := hk.cell 3
        rw [← hB] at hb
        refine bodyPost_ret (v := .tuple #[.agg #[.int .i64 0, .int .i64 0, .int .i64 0, .int .i64 0], .int .i64 11]) (by simp [results, Tryz.results129, go_sem, k0, k1, k2, k3]) rfl ⟨hb, .inl ⟨HR.out, rfl⟩⟩
  · rw [parse_short (by omega)]
    have q5 : ¬ ((n : Int) = 5) := by omega
    have q5' : ((n : Int) != 5) = true := by simp; omega
    have HE := Lib.hid (store_set (.int .i64 0) (.int .i64 0) (.int .i64 0) (.int .i64 0) HBk hb (Nat.le_refl _))
    clear hS hS1 hn hl h5 hb HBk hw1
    go_enter Tryz.func129, Tryz.ntmps129
    go_upto_region 1 with fail
    rw [← HW1.out]
    clear HW1
    go_wp2_with fail
    obtain ⟨hk, hb⟩ := HE.out
    generalize (((w1.setCell ⟨w.heap.size, 0, none⟩ (.int .i64 0)).setCell ⟨w.heap.size, 1, none⟩ (.int .i64 0)).setCell ⟨w.heap.size, 2, none⟩ (.int .i64 0)).setCell ⟨w.heap.size, 3, none⟩ (.int .i64 0) = w7 at *
    have k0 : w7.cell? ⟨w.heap.size, 0, none⟩ = some (.int .i64 0) := hk.cell 0
    have k1 : w7.cell? ⟨w.heap.size, 1, none⟩ = some (.int .i64 0) := hk.cell 1
    have k2 : w7.cell? ⟨w.heap.size, 2, none⟩ = some (.int .i64 0) := hk.cell 2
    have k3 : w7.cell? ⟨w.heap.size, 3, none⟩ = some (.int .i64 0) := hk.cell 3
    refine bodyPost_ret (v := .tuple #[.agg #[.int .i64 0, .int .i64 0, .int .i64 0, .int .i64 0], .int .i64 11]) (by simp [results, Tryz.results129, go_sem, k0, k1, k2, k3]) rfl ⟨hb, .inl ⟨rfl, rfl⟩⟩

end
end Go.Proofs.YtiolfjhddbiglaaGreatDoor

/-
  The decoder of LZMA2: a byte is put, the window is emptied, what a chunk brings is anew; a setting is read.
-/
namespace Go.Proofs.YtiolfjhddbiglaaGreatDoor
open Go.RowKit
set_option linter.unusedVariables false

section
variable {K0 K : Kon} {d f lo D : Nat} {all r : List UInt8} {w w' w0 w1 : World} {Gw ex S G1 : Nat → Prop} {s s' : Ds} {z z' : Lzs} {ps ps' : List Nat} {v4 v5 v16 v17 v18 : Value}
theorem Lrest.rz (h : Lrest K w Gw z ps v4 v5 v16 v17 v18) (hs : K.sz ≤ 1048576) : Rz K w Gw z.out (restFs K z v4 v5 v16 v17 v18) ps :=
  ⟨h.row, h.win, rfl, rfl, rfl, h.gn, h.mg, h.mb, h.wd, hs, h.mo⟩
theorem Rz.lrest {out : List UInt8} (h : Rz K w Gw out (restFs K z v4 v5 v16 v17 v18) ps) (hn : K.nl ≤ K.nc ∧ K.nc ≤ 1000000) : Lrest K w Gw { z with out := out } ps v4 v5 v16 v17 v18 :=
  ⟨h.row, h.win, h.gn, h.mg, h.mb, hn, h.wd, h.mo⟩
/-- at rest, behind a call of the decoder of packets -/
def TurnPost (K0 : Kon) (d f lo : Nat) (all : List UInt8) (w : World) (Gw ex : Nat → Prop) (v : Value) (s : Ds) (r : List UInt8) (z : Lzs) (ps : List Nat) (e : Ending) (w' : World) : Prop :=
  e = .returned v ∧ ∃ Gw', Idl K0 d f lo all w' Gw' s r z ps ∧ Q2x K0 d f lo w' Gw' (fun _ => False) ∧ (∀ i, Gw' i → Gw i ∨ w.heap.size ≤ i) ∧ Only (own2 K0 d f Gw ex) w w'
/-- the decoder of packets turns at rest -/
theorem Idl.turn (hx : Q2x K0 d f lo w Gw ex) (h : Idl K0 d f lo all w Gw s r z ps) (hk : Ks K0 K) (hr : Lrest K w' G1 z' ps' v4 v5 v16 v17 v18) (hG : ∀ i, G1 i → Gw i ∨ w.heap.size ≤ i) (hO : Only (fun i => i = K0.g ∨ i = K0.lb ∨ Gw i) w w') :
    Idl K0 d f lo all w' G1 s r z' ps' ∧ Q2x K0 d f lo w' G1 (fun _ => False) ∧ Only (own2 K0 d f Gw ex) w w' := by
  have h1 := hx.gl
  have h2 := hx.ll
  have h3 := hx.dl
  have h4 := hx.lf
  have h5 := hx.dg
  refine ⟨⟨h.rd.only hO ?_ ?_, K, v4, v5, v16, v17, v18, hk, hr⟩, hx.turn hG (fun i hi => hi.elim) hO ?_, hO.mono (fun i hi => ?_)⟩
  · rintro (e | e | e)
    · exact h5.1 e
    · exact h5.2.1 e
    · exact (hx.wd d e).2.1 rfl
  · rintro i (rfl | rfl | e)
    · exact .inl h1.2
    · exact .inl h2.2
    · exact (hx.wd i e).2.2
  · rintro (e | e | e)
    · omega
    · omega
    · have := (hx.wd 0 e).1; omega
  · rcases hi with e | e | e
    · exact .inr (.inr (.inl e))
    · exact .inr (.inr (.inr (.inl e)))
    · exact .inr (.inr (.inr (.inr (.inl e))))
theorem idl_put (hx : Q2x K0 d f lo w Gw ex) (h : Idl K0 d f lo all w Gw s r z ps) (b : UInt8) (ho : z.out.length ≤ 1000000) :
    Calls Tryz.prog 77 #[.pointer (some ⟨K0.g, 0, none⟩), .int .u8 (b.toNat : Int)] w (TurnPost K0 d f lo all w Gw ex (.tuple #[]) s r { z with out := z.out ++ [b] } ps) := by
  obtain ⟨K, v4, v5, v16, v17, v18, hk, hr⟩ := h.rs
  have := zput_one (b := b) (hr.rz (by rw [hk.sz]; exact hx.sz)) ho
  rw [hk.g] at this
  refine this.mono ?_
  rintro e w' ⟨rfl, G1, hz, hG, hO⟩
  rw [hk.g] at hO
  obtain ⟨a1, a2, a3⟩ := h.turn hx hk (hz.lrest hr.nc) hG (hO.mono fun i hi => hi.elim .inl (fun e => .inr (.inr e)))
  exact ⟨rfl, G1, a1, a2, hG, a3⟩
theorem idl_empty (hx : Q2x K0 d f lo w Gw ex) (h : Idl K0 d f lo all w Gw s r z ps) :
    Calls Tryz.prog 74 #[.pointer (some ⟨K0.g, 0, none⟩)] w (TurnPost K0 d f lo all w Gw ex (.tuple #[]) s r { z with out := [] } ps) := by
  obtain ⟨K, v4, v5, v16, v17, v18, hk, hr⟩ := h.rs
  have := zempty_one (hr.rz (by rw [hk.sz]; exact hx.sz))
  rw [hk.g] at this
  refine this.mono ?_
  rintro e w' ⟨rfl, G1, hz, hG, hO⟩
  rw [hk.g] at hO
  obtain ⟨a1, a2, a3⟩ := h.turn hx hk (hz.lrest hr.nc) hG (hO.mono fun i hi => hi.elim .inl (fun e => .inr (.inr e)))
  exact ⟨rfl, G1, a1, a2, hG, a3⟩
theorem pow_four {a b : Nat} (h : a + b ≤ 4) : 768 * 2 ^ (a + b) ≤ 12288 := by
  have : 2 ^ (a + b) ≤ 2 ^ 4 := Nat.pow_le_pow_right (by omega) h
  omega
theorem idl_reset (hx : Q2x K0 d f lo w Gw ex) (h : Idl K0 d f lo all w Gw s r z ps) {lc lp pb : Nat} {dd : Int} (h1 : lc + lp ≤ 4) (h3 : pb ≤ 4) :
    Calls Tryz.prog 70 #[.pointer (some ⟨K0.g, 0, none⟩), .agg #[.int .i64 (lc : Int), .int .i64 (lp : Int), .int .i64 (pb : Int), .int .i64 dd]] w
      (TurnPost K0 d f lo all w Gw ex (.tuple #[]) s r (z.anew lc lp pb) (List.replicate (1847 + 768 * 2 ^ (lc + lp)) 1024)) := by
  obtain ⟨K, v4, v5, v16, v17, v18, hk, hr⟩ := h.rs
  have := zreset_any (d := dd) (lc := lc) (lp := lp) (pb := pb) (by omega) (by omega) h3 rfl (by rw [hk.nc, hx.nc]; exact pow_four h1) hr
  rw [hk.g] at this
  refine this.mono ?_
  rintro e w' ⟨rfl, hz, hO⟩
  obtain ⟨a1, a2, a3⟩ := h.turn hx (hk.trans (Ks.less K _ _)) hz (fun i hi => .inl hi) (hO.mono fun i hi => by
    rcases hi with e | e
    · exact .inl (e.trans hk.g)
    · exact .inr (.inl (e.trans hk.lb)))
  exact ⟨rfl, Gw, a1, a2, fun i hi => .inl hi, a3⟩
theorem TurnPost.trans {v' : Value} {e' : Ending} {G1 : Nat → Prop} (hG : ∀ i, G1 i → Gw i ∨ w.heap.size ≤ i) (hO : Only (own2 K0 d f Gw ex) w w1)
    (h' : TurnPost K0 d f lo all w1 G1 (fun _ => False) v' s' r z' ps' e' w') : TurnPost K0 d f lo all w Gw ex v' s' r z' ps' e' w' := by
  obtain ⟨he, G2, a1, a2, a3, a4⟩ := h'
  have hs := hO.size
  refine ⟨he, G2, a1, a2, fun i hi => ?_, hO.trans' a4 (fun i hi => ?_)⟩
  · rcases a3 i hi with e | e
    · exact hG i e
    · exact .inr (by omega)
  · rcases hi with e | e | e | e | e | e
    · exact .inl (.inl e)
    · exact .inl (.inr (.inl e))
    · exact .inl (.inr (.inr (.inl e)))
    · exact .inl (.inr (.inr (.inr (.inl e))))
    · rcases hG i e with h | h
      · exact .inl (.inr (.inr (.inr (.inr (.inl h)))))
      · exact .inr h
    · exact e.elim

theorem Idl.drawn (h : Idl K0 d f lo all w Gw s r z ps) (k : Nat) : Idl K0 d f lo all (w.drewN k) Gw s r z ps := by
  obtain ⟨K, v4, v5, v16, v17, v18, hk, hr⟩ := h.rs
  have hO : Only (fun _ => False) w (w.drewN k) := (Only.refl _ w).drewN k
  exact ⟨h.rd.only hO (fun e => e) (fun _ e => e.elim), K, v4, v5, v16, v17, v18, hk, hr.only hO (fun e => e) (fun e => e) (fun _ _ e => e)⟩
theorem Q2x.drawn (h : Q2x K0 d f lo w Gw ex) (k : Nat) : Q2x K0 d f lo (w.drewN k) Gw ex := h.only ((Only.refl (fun _ => False) w).drewN k) (fun e => e)
theorem Only.drawn_of {T : Nat → Prop} {k : Nat} (h : Only T (w.drewN k) w') : Only T w w' := Only.of_drewN h
theorem put_nd (hx : Q2x K0 d f lo w Gw ex) (h : Idl K0 d f lo all w Gw s r z ps) (n : Nat) (hn : n ≤ 7) : Idl K0 d f lo all (w.setCell ⟨d, 4, none⟩ (.int .u8 (n : Int))) Gw { s with nd := n } r z ps :=
  h.read hx (h.rd.put (q' := ⟨{ s with nd := n }, r, []⟩) 4 (.int .u8 (n : Int)) rfl rfl rfl (.inr hn)) (((Only.refl (fun i => i = d ∨ i = f) w).setCell (p := ⟨d, 4, none⟩) (.inl (.inl rfl)) _))
set_option maxRecDepth 100000 in
set_option maxHeartbeats 8000000 in
/-- what a chunk brings is anew, and nothing is needed any more -/
theorem zrenew_any (hx : Q2x K0 d f lo w Gw ex) (h : Idl K0 d f lo all w Gw s r z ps) {lc lp pb how : Nat} (hs : 1 ≤ how → s.a0 = (lc : Int) ∧ s.a1 = (lp : Int) ∧ s.a2 = (pb : Int)) (h1 : lc + lp ≤ 4) (h3 : pb ≤ 4) (hh : how ≤ 3) :
    Calls Tryz.prog 102 #[.pointer (some ⟨d, 0, none⟩), .int .u8 (bringN how : Int)] w (TurnPost K0 d f lo all w Gw ex (.tuple #[]) { s with nd := 0 } r (z.brought how (lc, lp, pb)) (psN ps how (lc, lp, pb))) := by
  have HX := Lib.hid (And.intro hx (And.intro h (And.intro h1 h3)))
  have HEE := Lib.hid hs
  have c0 : w.cell? ⟨d, 0, none⟩ = some (.pointer (some ⟨K0.g, 0, none⟩)) := h.rd.blk.cell 0
  have c5 : w.cell? ⟨d, 5, none⟩ = some (.int .i64 s.a0) := h.rd.blk.cell 5
  have c6 : w.cell? ⟨d, 6, none⟩ = some (.int .i64 s.a1) := h.rd.blk.cell 6
  have c7 : w.cell? ⟨d, 7, none⟩ = some (.int .i64 s.a2) := h.rd.blk.cell 7
  have c8 : w.cell? ⟨d, 8, none⟩ = some (.int .i64 s.a3) := h.rd.blk.cell 8
  have c4 : w.cell? ⟨d, 4, none⟩ = some (.int .u8 (s.nd : Int)) := h.rd.blk.cell 4
  have z4 : w.frozen? ⟨d, 4, none⟩ = false := h.rd.blk.free 4
  obtain rfl | hh : how = 0 ∨ (how = 1 ∨ how = 2) ∨ how = 3 := by omega
  · clear hs hh hx h h1 h3 c0 c5 c6 c7 c8
    rw [show ((bringN 0 : Nat) : Int) = 0 from rfl]
    go_enter Tryz.func102, Tryz.ntmps102
    go_wp2_with fail
    first | go_end0 | refine bodyPost_ret (results_none rfl _ _ _) rfl ?_
    obtain ⟨hx, h, h1, h3⟩ := HX.out
    have hO := (Only.refl (fun i => i = d ∨ i = f) w).setCell (p := ⟨d, 4, none⟩) (.inl (.inl rfl)) (.int .u8 0)
    exact ⟨rfl, Gw, put_nd hx h 0 (by decide), hx.turn (fun i hi => .inl hi) (fun i hi => hi.elim) hO (df0 hx), fun i hi => .inl hi, hO.mono (own_df K0 d f Gw ex)⟩
  rcases hh with (rfl | rfl) | rfl
  · obtain ⟨e0, e1, e2⟩ := hs (by decide)
    have HE := Lib.hid (hs (by decide))
    clear HEE
    rw [e0] at c5
    rw [e1] at c6
    rw [e2] at c7
    have KR := Lib.hid (fun k => idl_reset (lc := lc) (lp := lp) (pb := pb) (dd := s.a3) (hx.drawn k) (h.drawn k) h1 h3)
    clear hs hx h h1 h3 e0 e1 e2 c4 z4
    rw [show ((bringN 1 : Nat) : Int) = 4 from rfl]
    go_enter Tryz.func102, Tryz.ntmps102
    go_wp2_with fail
    go_region_held3 (fun W => W.cell? ⟨d, 0, none⟩ = some (.pointer (some ⟨K0.g, 0, none⟩)) ∧ W.cell? ⟨d, 5, none⟩ = some (.int .i64 (lc : Int)) ∧ W.cell? ⟨d, 6, none⟩ = some (.int .i64 (lp : Int)) ∧ W.cell? ⟨d, 7, none⟩ = some (.int .i64 (pb : Int)) ∧ W.cell? ⟨d, 8, none⟩ = some (.int .i64 s.a3)) (first | assumption | go_keep | exact HD.out) (first | (go_at_call 70; refine (KR.out _).mono ?_; rintro e w1 ⟨rfl, G1, hi1, hx1, hg1, ho1⟩; have HD := Lib.hid (show w1.cell? ⟨d, 0, none⟩ = some (.pointer (some ⟨K0.g, 0, none⟩)) ∧ w1.cell? ⟨d, 5, none⟩ = some (.int .i64 (lc : Int)) ∧ w1.cell? ⟨d, 6, none⟩ = some (.int .i64 (lp : Int)) ∧ w1.cell? ⟨d, 7, none⟩ = some (.int .i64 (pb : Int)) ∧ w1.cell? ⟨d, 8, none⟩ = some (.int .i64 s.a3) from ⟨hi1.rd.blk.cell 0, by have := hi1.rd.blk.cell 5; exact this.trans (by rw [← HE.out.1]; rfl), by have := hi1.rd.blk.cell 6; exact this.trans (by rw [← HE.out.2.1]; rfl), by have := hi1.rd.blk.cell 7; exact this.trans (by rw [← HE.out.2.2]; rfl), hi1.rd.blk.cell 8⟩); have HI := Lib.hid (And.intro hi1 (And.intro hx1 (And.intro hg1 ho1))); clear hi1 hx1 hg1 ho1))
    have c4 : w1.cell? ⟨d, 4, none⟩ = some (.int .u8 (s.nd : Int)) := HI.out.1.rd.blk.cell 4
    have z4 : w1.frozen? ⟨d, 4, none⟩ = false := HI.out.1.rd.blk.free 4
    go_wp2_with fail
    first | go_end0 | refine bodyPost_ret (results_none rfl _ _ _) rfl ?_
    obtain ⟨hi1, hx1, hg1, ho1⟩ := HI.out
    have hO := (Only.refl (fun i => i = d ∨ i = f) w1).setCell (p := ⟨d, 4, none⟩) (.inl (.inl rfl)) (.int .u8 0)
    exact ⟨rfl, G1, put_nd hx1 hi1 0 (by decide), hx1.turn (fun i hi => .inl hi) (fun i hi => hi.elim) hO (df0 hx1), hg1, (Only.drawn_of ho1).trans (hO.mono (own_df K0 d f Gw ex))⟩
  · obtain ⟨e0, e1, e2⟩ := hs (by decide)
    have HE := Lib.hid (hs (by decide))
    clear HEE
    rw [e0] at c5
    rw [e1] at c6
    rw [e2] at c7
    have KR := Lib.hid (fun k => idl_reset (lc := lc) (lp := lp) (pb := pb) (dd := s.a3) (hx.drawn k) (h.drawn k) h1 h3)
    clear hs hx h h1 h3 e0 e1 e2 c4 z4
    rw [show ((bringN 2 : Nat) : Int) = 6 from rfl]
    go_enter Tryz.func102, Tryz.ntmps102
    go_wp2_with fail
    go_region_held3 (fun W => W.cell? ⟨d, 0, none⟩ = some (.pointer (some ⟨K0.g, 0, none⟩)) ∧ W.cell? ⟨d, 5, none⟩ = some (.int .i64 (lc : Int)) ∧ W.cell? ⟨d, 6, none⟩ = some (.int .i64 (lp : Int)) ∧ W.cell? ⟨d, 7, none⟩ = some (.int .i64 (pb : Int)) ∧ W.cell? ⟨d, 8, none⟩ = some (.int .i64 s.a3)) (first | assumption | go_keep | exact HD.out) (first | (go_at_call 70; refine (KR.out _).mono ?_; rintro e w1 ⟨rfl, G1, hi1, hx1, hg1, ho1⟩; have HD := Lib.hid (show w1.cell? ⟨d, 0, none⟩ = some (.pointer (some ⟨K0.g, 0, none⟩)) ∧ w1.cell? ⟨d, 5, none⟩ = some (.int .i64 (lc : Int)) ∧ w1.cell? ⟨d, 6, none⟩ = some (.int .i64 (lp : Int)) ∧ w1.cell? ⟨d, 7, none⟩ = some (.int .i64 (pb : Int)) ∧ w1.cell? ⟨d, 8, none⟩ = some (.int .i64 s.a3) from ⟨hi1.rd.blk.cell 0, by have := hi1.rd.blk.cell 5; exact this.trans (by rw [← HE.out.1]; rfl), by have := hi1.rd.blk.cell 6; exact this.trans (by rw [← HE.out.2.1]; rfl), by have := hi1.rd.blk.cell 7; exact this.trans (by rw [← HE.out.2.2]; rfl), hi1.rd.blk.cell 8⟩); have HI := Lib.hid (And.intro hi1 (And.intro hx1 (And.intro hg1 ho1))); clear hi1 hx1 hg1 ho1))
    have c4 : w1.cell? ⟨d, 4, none⟩ = some (.int .u8 (s.nd : Int)) := HI.out.1.rd.blk.cell 4
    have z4 : w1.frozen? ⟨d, 4, none⟩ = false := HI.out.1.rd.blk.free 4
    go_wp2_with fail
    first | go_end0 | refine bodyPost_ret (results_none rfl _ _ _) rfl ?_
    obtain ⟨hi1, hx1, hg1, ho1⟩ := HI.out
    have hO := (Only.refl (fun i => i = d ∨ i = f) w1).setCell (p := ⟨d, 4, none⟩) (.inl (.inl rfl)) (.int .u8 0)
    exact ⟨rfl, G1, put_nd hx1 hi1 0 (by decide), hx1.turn (fun i hi => .inl hi) (fun i hi => hi.elim) hO (df0 hx1), hg1, (Only.drawn_of ho1).trans (hO.mono (own_df K0 d f Gw ex))⟩
  · obtain ⟨e0, e1, e2⟩ := hs (by decide)
    have HE := Lib.hid (hs (by decide))
    clear HEE
    have KE := Lib.hid (idl_empty hx h)
    clear hs hx h h1 h3 c4 z4 c5 c6 c7 c8
    rw [show ((bringN 3 : Nat) : Int) = 7 from rfl]
    go_enter Tryz.func102, Tryz.ntmps102
    go_wp2_with fail
    refine KE.out.mono ?_
    rintro e w1 ⟨rfl, G1, hi1, hx1, hg1, ho1⟩
    have c0 : w1.cell? ⟨d, 0, none⟩ = some (.pointer (some ⟨K0.g, 0, none⟩)) := hi1.rd.blk.cell 0
    have c5 : w1.cell? ⟨d, 5, none⟩ = some (.int .i64 (lc : Int)) := by have := hi1.rd.blk.cell 5; exact this.trans (by rw [← HE.out.1]; rfl)
    have c6 : w1.cell? ⟨d, 6, none⟩ = some (.int .i64 (lp : Int)) := by have := hi1.rd.blk.cell 6; exact this.trans (by rw [← HE.out.2.1]; rfl)
    have c7 : w1.cell? ⟨d, 7, none⟩ = some (.int .i64 (pb : Int)) := by have := hi1.rd.blk.cell 7; exact this.trans (by rw [← HE.out.2.2]; rfl)
    have c8 : w1.cell? ⟨d, 8, none⟩ = some (.int .i64 s.a3) := hi1.rd.blk.cell 8
    have KR := Lib.hid (fun k => idl_reset (lc := lc) (lp := lp) (pb := pb) (dd := s.a3) (hx1.drawn k) (hi1.drawn k) HX.out.2.2.1 HX.out.2.2.2)
    have HI1 := Lib.hid (And.intro hg1 ho1)
    clear hi1 hx1 hg1 ho1 KE e0 e1 e2
    go_wp2_with fail
    go_region_held3 (fun W => W.cell? ⟨d, 0, none⟩ = some (.pointer (some ⟨K0.g, 0, none⟩)) ∧ W.cell? ⟨d, 5, none⟩ = some (.int .i64 (lc : Int)) ∧ W.cell? ⟨d, 6, none⟩ = some (.int .i64 (lp : Int)) ∧ W.cell? ⟨d, 7, none⟩ = some (.int .i64 (pb : Int)) ∧ W.cell? ⟨d, 8, none⟩ = some (.int .i64 s.a3)) (first | assumption | go_keep | exact HD.out) (first | (go_at_call 70; refine (KR.out _).mono ?_; rintro e w2 ⟨rfl, G2, hi2, hx2, hg2, ho2⟩; have HD := Lib.hid (show w2.cell? ⟨d, 0, none⟩ = some (.pointer (some ⟨K0.g, 0, none⟩)) ∧ w2.cell? ⟨d, 5, none⟩ = some (.int .i64 (lc : Int)) ∧ w2.cell? ⟨d, 6, none⟩ = some (.int .i64 (lp : Int)) ∧ w2.cell? ⟨d, 7, none⟩ = some (.int .i64 (pb : Int)) ∧ w2.cell? ⟨d, 8, none⟩ = some (.int .i64 s.a3) from ⟨hi2.rd.blk.cell 0, by have := hi2.rd.blk.cell 5; exact this.trans (by rw [← HE.out.1]; rfl), by have := hi2.rd.blk.cell 6; exact this.trans (by rw [← HE.out.2.1]; rfl), by have := hi2.rd.blk.cell 7; exact this.trans (by rw [← HE.out.2.2]; rfl), hi2.rd.blk.cell 8⟩); have HI := Lib.hid (And.intro hi2 (And.intro hx2 (And.intro hg2 ho2))); clear hi2 hx2 hg2 ho2))
    have c4 : w2.cell? ⟨d, 4, none⟩ = some (.int .u8 (s.nd : Int)) := HI.out.1.rd.blk.cell 4
    have z4 : w2.frozen? ⟨d, 4, none⟩ = false := HI.out.1.rd.blk.free 4
    go_wp2_with fail
    first | go_end0 | refine bodyPost_ret (results_none rfl _ _ _) rfl ?_
    obtain ⟨hi2, hx2, hg2, ho2⟩ := HI.out
    have hO := (Only.refl (fun i => i = d ∨ i = f) w2).setCell (p := ⟨d, 4, none⟩) (.inl (.inl rfl)) (.int .u8 0)
    refine TurnPost.trans HI1.out.1 HI1.out.2 ⟨rfl, G2, put_nd hx2 hi2 0 (by decide), hx2.turn (fun i hi => .inl hi) (fun i hi => hi.elim) hO (df0 hx2), hg2, (Only.drawn_of ho2).trans (hO.mono (own_df K0 d f G1 (fun _ => False)))⟩
end
end Go.Proofs.YtiolfjhddbiglaaGreatDoor

/-
  The decoder of LZMA2: a setting is read.
-/
namespace Go.Proofs.YtiolfjhddbiglaaGreatDoor
open Go.RowKit
set_option linter.unusedVariables false

section
variable {w w' : World} {d g f lo : Nat} {q : Lq} {all : List UInt8}
theorem Rdr.quiet (h : Rdr w d g f lo all q) (hb : Below w.heap.size w w') : Rdr w' d g f lo all q := h.only (Only.of_below (S := fun _ => False) hb) (fun e => e) (fun _ e => e.elim)
theorem parse_set (x : UInt8) : parseOf [x, 0, 0, 0, 0] = if x.toNat < 225 then some (x.toNat % 9, x.toNat / 9 % 5, x.toNat / 45, 4096) else none := rfl
theorem set_some {x : UInt8} (h : x.toNat < 225) (h2 : x.toNat % 9 + x.toNat / 9 % 5 ≤ 4) : setN x = some (x.toNat % 9, x.toNat / 9 % 5, x.toNat / 45) := if_pos ⟨h, h2⟩
theorem set_none {x : UInt8} (h : ¬ (x.toNat < 225 ∧ x.toNat % 9 + x.toNat / 9 % 5 ≤ 4)) : setN x = none := if_neg h
theorem set_only {w0 w1 w5 w6 : World} {B : Nat} (h1 : Below B w0 w1) (hB : w0.heap.size = B) (h5 : Only (fun i => i = d ∨ i = f) w1 w5) (h6 : Only (fun i => i = B) w5 w6) : Only (fun i => i = d ∨ i = f) w0 w6 := by
  subst hB
  exact ((Only.of_below h1).trans h5).trans' h6 (fun i hi => .inr (Nat.le_of_eq hi.symm))
def SetPost (w : World) (d g f lo : Nat) (all : List UInt8) (q : Lq) (e : Ending) (w' : World) : Prop :=
  ∃ a0 a1 a2 a3 : Int, e = .returned (.agg #[.int .i64 a0, .int .i64 a1, .int .i64 a2, .int .i64 a3]) ∧ Only (fun i => i = d ∨ i = f) w w' ∧
    ((∃ s, setN q.b = some s ∧ a0 = (s.1 : Int) ∧ a1 = (s.2.1 : Int) ∧ a2 = (s.2.2 : Int) ∧ Rdr w' d g f lo all q.rd) ∨ (setN q.b = none ∧ Rdr w' d g f lo all q.rd.fail))

set_option maxRecDepth 100000 in
set_option maxHeartbeats 8000000 in
theorem qset_any (h : Rdr w d g f lo all q) (hfs : f < w.heap.size) :
    Calls Tryz.prog 101 #[.pointer (some ⟨d, 0, none⟩)] w (SetPost w d g f lo all q) := by
  obtain ⟨w1, hw1⟩ : ∃ w1, w1 = w.alloc (.cells #[.int .i64 0, .int .i64 0, .int .i64 0, .int .i64 0] 40) := ⟨_, rfl⟩
  have hb1 : Below w.heap.size w w1 := by rw [hw1]; exact (Below.refl _ _).alloc (Nat.le_refl _) _
  have hk1 : Blk w1 w.heap.size 40 #[.int .i64 0, .int .i64 0, .int .i64 0, .int .i64 0] := by rw [hw1]; exact Blk.fresh w _ _
  have KR := Lib.hid (qread_any (h.quiet hb1))
  have HW1 := Lib.hid hw1
  have H1 := Lib.hid (And.intro hb1 (And.intro (show d < w.heap.size from h.blk.lt) hfs))
  have HK1 := Lib.hid hk1
  clear h hb1 hk1 hw1 hfs
  go_enter Tryz.func101, Tryz.ntmps101
  go_upto_region 1 with fail
  rw [← HW1.out]
  clear HW1
  generalize hB : w.heap.size = B at *
  go_wp2_with fail
  refine KR.out.mono ?_
  rintro e w2 ⟨rfl, hR2, hO2⟩
  obtain ⟨hb1, hd1, hf1⟩ := H1.out
  have hk2 : Blk w2 B 40 #[.int .i64 0, .int .i64 0, .int .i64 0, .int .i64 0] := HK1.out.only hO2 (by omega)
  obtain ⟨q1, hq1⟩ : ∃ q1, q1 = q.rd := ⟨_, rfl⟩
  obtain ⟨x, hx⟩ : ∃ x, x = q.b := ⟨_, rfl⟩
  rw [← hq1] at hR2
  rw [← hx]
  have HQ := Lib.hid (And.intro hq1 hx)
  have hs5 : Sl (w2.alloc (.cells #[.int .u8 (x.toNat : Int), .int .u8 0, .int .u8 0, .int .u8 0, .int .u8 0] 5)) (some ⟨w2.heap.size, 0, none⟩) 5 (bv [x, 0, 0, 0, 0]) := sl_lit w2 5 (bv [x, 0, 0, 0, 0]).toArray (show 5 ≤ 1000000000 by decide)
  obtain ⟨w3, hw3⟩ : ∃ w3, w3 = w2.alloc (.cells #[.int .u8 (x.toNat : Int), .int .u8 0, .int .u8 0, .int .u8 0, .int .u8 0] 5) := ⟨_, rfl⟩
  have hb3 : Below w2.heap.size w2 w3 := by rw [hw3]; exact (Below.refl _ _).alloc (Nat.le_refl _) _
  rw [← hw3] at hs5
  have KP := Lib.hid (pparse_any (c := 5) (bs := [x, 0, 0, 0, 0]) rfl hs5 (show 5 ≤ 1000000000 by decide))
  have H3 := Lib.hid (And.intro hR2 (And.intro hO2 (And.intro hk2 hb3)))
  have HS := Lib.hid (show B < w2.heap.size from hk2.lt)
  have HW3 := Lib.hid hw3
  clear hq1 hx hs5 hw3 hb3 hR2 hO2 hk2 hb1 hd1 hf1 KR
  go_wp2_with fail
  rw [← HW3.out]
  refine KP.out.mono ?_
  rintro e w4 ⟨hb4, hr⟩
  rw [parse_set] at hr
  have hb24 : Below w2.heap.size w2 w4 := H3.out.2.2.2.trans (hb4.mono H3.out.2.2.2.size)
  have H4 := Lib.hid (And.intro hb24 (And.intro (H3.out.1.quiet hb24) (H3.out.2.2.1.below hb24)))
  clear hb4 hb24 KP HW3 HK1
  by_cases h225 : x.toNat < 225
  · rw [if_pos h225] at hr
    rcases hr with ⟨hr, _⟩ | ⟨lc, lp, pb, dict, hr, rfl⟩
    · exact (nomatch hr)
    obtain ⟨e1, e2, e3, e4⟩ : x.toNat % 9 = lc ∧ x.toNat / 9 % 5 = lp ∧ x.toNat / 45 = pb ∧ 4096 = dict := by
      injection hr with hr
      injection hr with a1 hr
      injection hr with a2 hr
      injection hr with a3 a4
      exact ⟨a1, a2, a3, a4⟩
    have HL := Lib.hid (show lc ≤ 8 ∧ lp ≤ 4 ∧ x.toNat < 225 from ⟨by omega, by omega, h225⟩)
    have HE := Lib.hid (And.intro e1 (And.intro e2 e3))
    clear hr e1 e2 e3 e4 h225
    have k2 : wrap64 ((lc : Int) + (lp : Int)) = (lc : Int) + (lp : Int) := IntWalk.wrap64_in _ (by have := HL.out; omega)
    go_upto_region 2 with fail
    obtain ⟨w5, hw5⟩ : ∃ w5, w5 = w4.alloc (.cells #[.int .i64 (lc : Int), .int .i64 (lp : Int), .int .i64 (pb : Int), .int .i64 (dict : Int)] 40) := ⟨_, rfl⟩
    have hb5 : Below w4.heap.size w4 w5 := by rw [hw5]; exact (Below.refl _ _).alloc (Nat.le_refl _) _
    have hk5 : Blk w5 w4.heap.size 40 #[.int .i64 (lc : Int), .int .i64 (lp : Int), .int .i64 (pb : Int), .int .i64 (dict : Int)] := by rw [hw5]; exact Blk.fresh w4 _ _
    rw [← hw5]
    clear hw5
    obtain ⟨B5, hB5⟩ : ∃ B5, B5 = w4.heap.size := ⟨_, rfl⟩
    rw [← hB5] at hk5 ⊢
    have hR5 := H4.out.2.1.quiet hb5
    have hkB := H4.out.2.2.below hb5
    have hO5 : Only (fun i => i = d ∨ i = f) w1 w5 := (H3.out.2.1.trans (Only.of_below (H4.out.1.trans (hb5.mono H4.out.1.size))))
    have H5 := Lib.hid (And.intro hR5 (And.intro hkB (And.intro hO5 trivial)))
    have f0 : w5.cell? ⟨B5, 0, none⟩ = some (.int .i64 (lc : Int)) := hk5.cell 0
    have f1 : w5.cell? ⟨B5, 1, none⟩ = some (.int .i64 (lp : Int)) := hk5.cell 1
    have f2 : w5.cell? ⟨B5, 2, none⟩ = some (.int .i64 (pb : Int)) := hk5.cell 2
    have f3 : w5.cell? ⟨B5, 3, none⟩ = some (.int .i64 (dict : Int)) := hk5.cell 3
    clear hb5 hk5 hB5 hR5 hkB hO5
    by_cases h4 : lc + lp ≤ 4
    · have g4 : ¬ (4 : Int) < (lc : Int) + (lp : Int) := by omega
      have HNS := Lib.hid (show setN q.b = some (lc, lp, pb) by rw [← HQ.out.2, ← HE.out.1, ← HE.out.2.1, ← HE.out.2.2]; exact set_some HL.out.2.2 (by rw [HE.out.1, HE.out.2.1]; exact h4))
      clear h4
      have b0 : w5.cell? ⟨B, 0, none⟩ = some (.int .i64 0) := H5.out.2.1.cell 0
      have b1 : w5.cell? ⟨B, 1, none⟩ = some (.int .i64 0) := H5.out.2.1.cell 1
      have b2 : w5.cell? ⟨B, 2, none⟩ = some (.int .i64 0) := H5.out.2.1.cell 2
      have b3 : w5.cell? ⟨B, 3, none⟩ = some (.int .i64 0) := H5.out.2.1.cell 3
      have y0 := H5.out.2.1.free 0
      have y1 := H5.out.2.1.free 1
      have y2 := H5.out.2.1.free 2
      have y3 := H5.out.2.1.free 3
      have hk6 := (((H5.out.2.1.put 0 (.int .i64 (lc : Int))).put 1 (.int .i64 (lp : Int))).put 2 (.int .i64 (pb : Int))).put 3 (.int .i64 (dict : Int))
      have hO6 := ((((Only.refl (fun i => i = B) w5).setCell (p := ⟨B, 0, none⟩) (.inl rfl) (.int .i64 (lc : Int))).setCell (p := ⟨B, 1, none⟩) (.inl rfl) (.int .i64 (lp : Int))).setCell (p := ⟨B, 2, none⟩) (.inl rfl) (.int .i64 (pb : Int))).setCell (p := ⟨B, 3, none⟩) (.inl rfl) (.int .i64 (dict : Int))
      have H6 := Lib.hid (And.intro hk6 hO6)
      clear hk6 hO6
      go_wp2_with fail
      have k0 := H6.out.1.cell 0
      have k1 := H6.out.1.cell 1
      have k2 := H6.out.1.cell 2
      have k3 := H6.out.1.cell 3
      refine bodyPost_ret (v := .agg #[.int .i64 (lc : Int), .int .i64 (lp : Int), .int .i64 (pb : Int), .int .i64 (dict : Int)]) (by simp [results, Tryz.results101, go_sem, k0, k1, k2, k3]) rfl ?_
      refine ⟨_, _, _, _, rfl, ?_, .inl ⟨_, HNS.out, rfl, rfl, rfl, ?_⟩⟩
      · exact set_only H1.out.1 hB H5.out.2.2.1 H6.out.2
      · rw [← HQ.out.1]
        exact H5.out.1.only H6.out.2 (by have := H1.out; show ¬ d = B; omega) (fun i hi => .inr (by have := H1.out; have hi : i = B := hi; omega))
    · have g4 : (4 : Int) < (lc : Int) + (lp : Int) := by omega
      have HNN := Lib.hid (show setN q.b = none by rw [← HQ.out.2]; exact set_none (fun h => h4 (by rw [HE.out.1, HE.out.2.1] at h; exact h.2)))
      clear h4
      have KF := Lib.hid (qfail_any H5.out.1.blk)
      go_wp2_with fail
      refine KF.out.mono ?_
      rintro e w6 ⟨rfl, hB6, hO6⟩
      have hkB := H5.out.2.1.only hO6 (by have := H1.out; show ¬ B = d; omega)
      have b0 : w6.cell? ⟨B, 0, none⟩ = some (.int .i64 0) := hkB.cell 0
      have b1 : w6.cell? ⟨B, 1, none⟩ = some (.int .i64 0) := hkB.cell 1
      have b2 : w6.cell? ⟨B, 2, none⟩ = some (.int .i64 0) := hkB.cell 2
      have b3 : w6.cell? ⟨B, 3, none⟩ = some (.int .i64 0) := hkB.cell 3
      have y0 := hkB.free 0
      have y1 := hkB.free 1
      have y2 := hkB.free 2
      have y3 := hkB.free 3
      have hk7 := (((hkB.put 0 (.int .i64 0)).put 1 (.int .i64 0)).put 2 (.int .i64 0)).put 3 (.int .i64 0)
      have hO7 := ((((Only.refl (fun i => i = B) w6).setCell (p := ⟨B, 0, none⟩) (.inl rfl) (.int .i64 0)).setCell (p := ⟨B, 1, none⟩) (.inl rfl) (.int .i64 0)).setCell (p := ⟨B, 2, none⟩) (.inl rfl) (.int .i64 0)).setCell (p := ⟨B, 3, none⟩) (.inl rfl) (.int .i64 0)
      have HF := Lib.hid (And.intro (rdr_failed H5.out.1 hB6) (hO6.mono (S' := fun i => i = d ∨ i = f) (fun i hi => .inl hi)))
      have H7 := Lib.hid (And.intro hk7 hO7)
      clear hB6 hO6 hkB hk7 hO7 KF
      go_wp2_with fail
      have k0 := H7.out.1.cell 0
      have k1 := H7.out.1.cell 1
      have k2 := H7.out.1.cell 2
      have k3 := H7.out.1.cell 3
      refine bodyPost_ret (v := .agg #[.int .i64 0, .int .i64 0, .int .i64 0, .int .i64 0]) (by simp [results, Tryz.results101, go_sem, k0, k1, k2, k3]) rfl ?_
      refine ⟨_, _, _, _, rfl, ?_, .inr ⟨HNN.out, ?_⟩⟩
      · exact set_only H1.out.1 hB (H5.out.2.2.1.trans HF.out.2) H7.out.2
      · rw [← HQ.out.1]
        exact HF.out.1.only H7.out.2 (by have := H1.out; show ¬ d = B; omega) (fun i hi => .inr (by have := H1.out; have hi : i = B := hi; omega))
  · rw [if_neg h225] at hr
    rcases hr with ⟨_, rfl⟩ | ⟨lc, lp, pb, dict, hr, _⟩
    · have HNN := Lib.hid (show setN q.b = none by rw [← HQ.out.2]; exact set_none (fun h => h225 h.1))
      clear h225
      go_upto_region 2 with fail
      obtain ⟨w5, hw5⟩ : ∃ w5, w5 = w4.alloc (.cells #[.int .i64 0, .int .i64 0, .int .i64 0, .int .i64 0] 40) := ⟨_, rfl⟩
      have hb5 : Below w4.heap.size w4 w5 := by rw [hw5]; exact (Below.refl _ _).alloc (Nat.le_refl _) _
      rw [← hw5]
      clear hw5
      have hR5 := H4.out.2.1.quiet hb5
      have hkB := H4.out.2.2.below hb5
      have hO5 : Only (fun i => i = d ∨ i = f) w1 w5 := (H3.out.2.1.trans (Only.of_below (H4.out.1.trans (hb5.mono H4.out.1.size))))
      have H5 := Lib.hid (And.intro hR5 (And.intro hkB (And.intro hO5 trivial)))
      clear hb5 hR5 hkB hO5
      have KF := Lib.hid (qfail_any H5.out.1.blk)
      go_wp2_with fail
      refine KF.out.mono ?_
      rintro e w6 ⟨rfl, hB6, hO6⟩
      have hkB := H5.out.2.1.only hO6 (by have := H1.out; show ¬ B = d; omega)
      have b0 : w6.cell? ⟨B, 0, none⟩ = some (.int .i64 0) := hkB.cell 0
      have b1 : w6.cell? ⟨B, 1, none⟩ = some (.int .i64 0) := hkB.cell 1
      have b2 : w6.cell? ⟨B, 2, none⟩ = some (.int .i64 0) := hkB.cell 2
      have b3 : w6.cell? ⟨B, 3, none⟩ = some (.int .i64 0) := hkB.cell 3
      have y0 := hkB.free 0
      have y1 := hkB.free 1
      have y2 := hkB.free 2
      have y3 := hkB.free 3
      have hk7 := (((hkB.put 0 (.int .i64 0)).put 1 (.int .i64 0)).put 2 (.int .i64 0)).put 3 (.int .i64 0)
      have hO7 := ((((Only.refl (fun i => i = B) w6).setCell (p := ⟨B, 0, none⟩) (.inl rfl) (.int .i64 0)).setCell (p := ⟨B, 1, none⟩) (.inl rfl) (.int .i64 0)).setCell (p := ⟨B, 2, none⟩) (.inl rfl) (.int .i64 0)).setCell (p := ⟨B, 3, none⟩) (.inl rfl) (.int .i64 0)
      have HF := Lib.hid (And.intro (rdr_failed H5.out.1 hB6) (hO6.mono (S' := fun i => i = d ∨ i = f) (fun i hi => .inl hi)))
      have H7 := Lib.hid (And.intro hk7 hO7)
      clear hB6 hO6 hkB hk7 hO7 KF
      go_wp2_with fail
      have k0 := H7.out.1.cell 0
      have k1 := H7.out.1.cell 1
      have k2 := H7.out.1.cell 2
      have k3 := H7.out.1.cell 3
      refine bodyPost_ret (v := .agg #[.int .i64 0, .int .i64 0, .int .i64 0, .int .i64 0]) (by simp [results, Tryz.results101, go_sem, k0, k1, k2, k3]) rfl ?_
      refine ⟨_, _, _, _, rfl, ?_, .inr ⟨HNN.out, ?_⟩⟩
      · exact set_only H1.out.1 hB (H5.out.2.2.1.trans HF.out.2) H7.out.2
      · rw [← HQ.out.1]
        exact HF.out.1.only H7.out.2 (by have := H1.out; show ¬ d = B; omega) (fun i hi => .inr (by have := H1.out; have hi : i = B := hi; omega))
    · exact (nomatch hr)
end
end Go.Proofs.YtiolfjhddbiglaaGreatDoor

/-
  The head of a packed chunk, as numbers.
-/
namespace Go.Proofs.YtiolfjhddbiglaaGreatDoor
open Go.RowKit
set_option linter.unusedVariables false

theorem lq_rd {s : Ds} {x : UInt8} {r o : List UInt8} (h : s.src = true) : (⟨s, x :: r, o⟩ : Lq).rd = ⟨s, r, o⟩ := rd_more h rfl
theorem lq_b {s : Ds} {x : UInt8} {r o : List UInt8} (h : s.src = true) : (⟨s, x :: r, o⟩ : Lq).b = x := b_more h rfl
theorem lq_dry {s : Ds} {o : List UInt8} (h : s.src = true) : (⟨s, [], o⟩ : Lq).rd = ⟨s.fail, [], o⟩ := rd_fail h rfl
theorem lq_off {q : Lq} (h : q.s.src = false) : q.rd.s.src = false := by rw [rd_none h]; exact h
/-- two bytes are read, or it is bad -/
theorem two_cases {s : Ds} {r o : List UInt8} (h : s.src = true) :
    (∃ x y r2, r = x :: y :: r2 ∧ (⟨s, r, o⟩ : Lq).two = ⟨s, r2, o⟩ ∧ (⟨s, r, o⟩ : Lq).count = 256 * x.toNat + y.toNat + 1) ∨ (r.length < 2 ∧ (⟨s, r, o⟩ : Lq).two = ⟨s.fail, [], o⟩) := by
  match r with
  | [] =>
    right
    refine ⟨by decide, ?_⟩
    unfold Lq.two
    rw [lq_dry h, rd_none rfl]
  | [x] =>
    right
    refine ⟨show 1 < 2 by decide, ?_⟩
    unfold Lq.two
    rw [lq_rd h, lq_dry h]
  | x :: y :: r2 =>
    left
    refine ⟨x, y, r2, rfl, ?_, ?_⟩
    · unfold Lq.two
      rw [lq_rd h, lq_rd h]
    · unfold Lq.count
      rw [lq_b h, lq_rd h, lq_b h]
      omega
theorem two_off {q : Lq} (h : q.s.src = false) : q.two = q := by
  unfold Lq.two
  rw [rd_none h, rd_none h]
/-- the two counts of a packed chunk's head are read, or it is bad -/
theorem four_cases {s : Ds} {r : List UInt8} (h : s.src = true) :
    (∃ x y x2 y2 r2, r = x :: y :: x2 :: y2 :: r2 ∧ (⟨s, r, []⟩ : Lq).two.two = ⟨s, r2, []⟩ ∧ (⟨s, r, []⟩ : Lq).count = 256 * x.toNat + y.toNat + 1 ∧ (⟨s, r, []⟩ : Lq).two.count = 256 * x2.toNat + y2.toNat + 1) ∨ (r.length < 4 ∧ (⟨s, r, []⟩ : Lq).two.two = ⟨s.fail, [], []⟩) := by
  rcases two_cases (r := r) (o := []) h with ⟨x, y, r2, rfl, e1, e2⟩ | ⟨e1, e2⟩
  · rcases two_cases (r := r2) (o := []) h with ⟨x2, y2, r3, rfl, e3, e4⟩ | ⟨e3, e4⟩
    · exact .inl ⟨x, y, x2, y2, r3, rfl, by rw [e1, e3], e2, by rw [e1]; exact e4⟩
    · exact .inr ⟨by simp; omega, by rw [e1, e4]⟩
  · exact .inr ⟨by omega, by rw [e2, two_off rfl]⟩
theorem packedC_short {q : Rs} {c : Nat} {r : List UInt8} (h : r.length < 4) : packedC q c r = none := by
  unfold packedC
  match r, h with
  | [], _ => rfl
  | [_], _ => rfl
  | [_, _], _ => rfl
  | [_, _, _], _ => rfl
  | _ :: _ :: _ :: _ :: r2, h => simp at h; omega
theorem packedC_needs {q : Rs} {c : Nat} {r : List UInt8} (h : bringsN q.nd (c / 32 - 4) = false) : packedC q c r = none := by
  unfold packedC
  split
  · rw [if_pos h]
  · rfl
theorem packedC_set {q : Rs} {c : Nat} {x y x2 y2 v : UInt8} {r : List UInt8} (h : bringsN q.nd (c / 32 - 4) = true) (h2 : 2 ≤ c / 32 - 4) :
    packedC q c (x :: y :: x2 :: y2 :: v :: r) = match setN v with
      | none => none
      | some s => bodyC q (c / 32 - 4) (c % 32 * 65536 + 256 * x.toNat + y.toNat + 1) (256 * x2.toNat + y2.toNat + 1) s r := by
  show (if bringsN q.nd (c / 32 - 4) = false then none else if 2 ≤ c / 32 - 4 then _ else _) = _
  rw [if_neg (by rw [h]; decide), if_pos h2]
  rfl
theorem packedC_dry {q : Rs} {c : Nat} {x y x2 y2 : UInt8} (h2 : 2 ≤ c / 32 - 4) : packedC q c [x, y, x2, y2] = none := by
  unfold packedC
  show (if bringsN q.nd (c / 32 - 4) = false then none else if 2 ≤ c / 32 - 4 then none else _) = _
  split <;> first | rfl | (rw [if_pos h2]; done)
theorem packedC_keep {q : Rs} {c : Nat} {x y x2 y2 : UInt8} {r : List UInt8} (h : bringsN q.nd (c / 32 - 4) = true) (h2 : ¬ 2 ≤ c / 32 - 4) :
    packedC q c (x :: y :: x2 :: y2 :: r) = bodyC q (c / 32 - 4) (c % 32 * 65536 + 256 * x.toNat + y.toNat + 1) (256 * x2.toNat + y2.toNat + 1) (q.z.lc, q.z.lp, q.z.pb) r := by
  show (if bringsN q.nd (c / 32 - 4) = false then none else if 2 ≤ c / 32 - 4 then _ else _) = _
  rw [if_neg (by rw [h]; decide), if_neg h2]
/-- the chunk's packets begin -/
theorem bodyC_pack {q : Rs} {how n m k : Nat} {s : Nat × Nat × Nat} {r : List UInt8} (hn : 1 ≤ n) (hr : q.r ≠ [0]) (hc : chunkN q = bodyC q how n m s r) :
    (St2.rest q).tells k = (St2.pack (q.z.brought how s) ⟨psN q.ps how s, started (r.take m)⟩ (q.z.brought how s).out.length n (decide (m ≤ r.length)) (r.drop m)).tells k := by
  show q.tells k = _
  rw [tells_chunk hr, hc]
  unfold bodyC
  by_cases h : r.length < m
  · rw [if_pos h, decide_eq_false (by omega)]
    all_goals rfl
  · rw [if_neg h, decide_eq_true (by omega), pack_full]
    all_goals rfl
theorem chunk_packed {q : Rs} {c : UInt8} {r : List UInt8} (h : q.r = c :: r) (hc : 128 ≤ c.toNat) : chunkN q = packedC q c.toNat r := by
  unfold chunkN
  rw [h]
  show (if c.toNat = 1 ∨ c.toNat = 2 then _ else if 128 ≤ c.toNat then packedC q c.toNat r else none) = _
  rw [if_neg (by omega), if_pos hc]
theorem head_ne {q : Rs} {c : UInt8} {r : List UInt8} (h : q.r = c :: r) (hc : 1 ≤ c.toNat) : q.r ≠ [0] := by
  rw [h]
  intro e
  injection e with e1 e2
  rw [e1] at hc
  exact absurd hc (by decide)
theorem rest_bad {q : Rs} {k : Nat} (h : q.r ≠ [0]) (hc : chunkN q = none) : (St2.rest q).tells k = St2.bad.tells k := tells_none h hc
/-- whether all is brought that is needed, by bits -/
theorem needs_bits {nd how : Nat} (hn : nd = 0 ∨ nd = 6 ∨ nd = 7) (hh : how < 4) : ∃ v : Nat, bits .andNot .u8 (nd : Int) (bringN how : Int) = (v : Int) ∧ (v = 0 ↔ bringsN nd how = true) := by
  have h4 : how = 0 ∨ how = 1 ∨ how = 2 ∨ how = 3 := by omega
  rcases hn with rfl | rfl | rfl <;> rcases h4 with rfl | rfl | rfl | rfl
  · exact ⟨0, by decide, by decide⟩
  · exact ⟨0, by decide, by decide⟩
  · exact ⟨0, by decide, by decide⟩
  · exact ⟨0, by decide, by decide⟩
  · exact ⟨6, by decide, by decide⟩
  · exact ⟨2, by decide, by decide⟩
  · exact ⟨0, by decide, by decide⟩
  · exact ⟨0, by decide, by decide⟩
  · exact ⟨7, by decide, by decide⟩
  · exact ⟨3, by decide, by decide⟩
  · exact ⟨1, by decide, by decide⟩
  · exact ⟨0, by decide, by decide⟩
theorem set_bits {how : Nat} (hh : how < 4) : ∃ v : Nat, bits .and .u8 (bringN how : Int) 2 = (v : Int) ∧ (v = 0 ↔ how < 2) := by
  have h4 : how = 0 ∨ how = 1 ∨ how = 2 ∨ how = 3 := by omega
  rcases h4 with rfl | rfl | rfl | rfl
  · exact ⟨0, by decide, by decide⟩
  · exact ⟨0, by decide, by decide⟩
  · exact ⟨2, by decide, by decide⟩
  · exact ⟨2, by decide, by decide⟩
end Go.Proofs.YtiolfjhddbiglaaGreatDoor

/-
  The decoder of LZMA2: its decoder of packets begins over a packed chunk's bytes.
-/
namespace Go.Proofs.YtiolfjhddbiglaaGreatDoor
open Go.RowKit
set_option linter.unusedVariables false

section
variable {K0 : Kon} {d f lo D : Nat} {all r : List UInt8} {w w' : World} {Gw ex : Nat → Prop} {s : Ds} {z : Lzs} {ps : List Nat}
theorem lzs_off {z : Lzs} (h1 : z.bad = false) (h2 : z.ended = false) : ({ z with ended := false, bad := false } : Lzs) = z := by
  cases z
  simp at h1 h2
  simp [h1, h2]
theorem zq_begin {a m p l : Nat} (hx : Q2x K0 d f lo w Gw ex) (h : Idl K0 d f lo all w Gw s r z ps) (hs1 : s.src = true) (hs2 : s.ended = false) (hs3 : s.nd = 0) (hs4 : s.left = l) (hs5 : s.pk = some p) (hl : 1 ≤ l ∧ l ≤ 2097152)
    (ha : s.a0 = (z.lc : Int) ∧ s.a1 = (z.lp : Int) ∧ s.a2 = (z.pb : Int)) (hp : PkAt p f lo all a m w ((all.drop a).take m) 0) (hpf : f < p ∧ p < w.heap.size) (hgp : ∀ i, Gw i → i ≠ p)
    (hn : ZNear z ps.length z.out.length) (hps : PsOk ps) (hb : z.bad = false) (he : z.ended = false) (hd : z.dict = D) (h4 : z.lc + z.lp ≤ 4) :
    Calls Tryz.prog 103 #[.pointer (some ⟨K0.g, 0, none⟩), .iface 103 (.pointer (some ⟨p, 0, none⟩))] w
      (fun e w' => Q2Post K0 d f lo all D w Gw (fun i => i = p) (.tuple #[]) (.pack z ⟨ps, started ((all.drop a).take m)⟩ z.out.length l (decide (a + m ≤ all.length)) (all.drop (a + m))) e w' ∧ Blk w' d 105 (d2Cells K0.g f s)) := by
  obtain ⟨K, v4, v5, v16, v17, v18, hk, hr⟩ := h.rs
  have g1 := hx.gl
  have g2 := hx.ll
  have g3 := hx.dl
  have g4 := hx.lf
  have g5 := hx.ml
  have hpl : ps.length = 1847 + K.nl := hr.row.2.2
  have hold0 : ∀ i, i < lo → ¬ (pkSc p f lo all a m).hold i := fun i hi e => by
    rcases e with e | e
    · omega
    · omega
  have hB := zbegin_any (S := pkSc p f lo all a m) (bs := (all.drop a).take m) (pk_ok g4) hr (by rw [← hpl]; exact hn) hps hp (hold0 _ (by rw [hk.g]; omega)) (hold0 _ (by rw [hk.lb]; omega)) (hold0 _ (by rw [hk.m]; omega))
    (fun i hi e => by
      have := hx.wd i hi
      have := hgp i hi
      rcases e with e | e
      · omega
      · omega)
  rw [hk.g] at hB
  refine hB.mono ?_
  rintro e w' ⟨rfl, hN, hO⟩
  rw [lzs_off hb he] at hN
  have hdg := hN.lw.mch.pd.lt
  have hturn : ∀ i, (i = K0.g ∨ (pkSc p f lo all a m).turn i) → i = K0.g ∨ i = p ∨ i = f := fun i hi => hi
  have hdn : ¬ (d = K0.g ∨ (pkSc p f lo all a m).turn d) := fun e => by
    rcases hturn d e with e | e | e
    · exact hx.dg.1 e
    · omega
    · omega
  have h0n : ¬ (0 = K0.g ∨ (pkSc p f lo all a m).turn 0) := fun e => by
    rcases hturn 0 e with e | e | e <;> omega
  refine ⟨⟨rfl, Gw, fun i => i = p ∨ i = w.heap.size, ?_, hx.turn (fun i hi => .inl hi) (fun i hi => ?_) hO h0n, fun i hi => ?_, hO.mono (fun i hi => ?_)⟩, h.rd.blk.only hO hdn⟩
  · exact ⟨K.on w.heap.size (pkSc p f lo all a m) ((all.drop a).take m), s, p, a, m, hk.trans (Ks.on K _ _ _), h.rd.blk.only hO hdn, hs1, hs2, hs3, hs4, hs5, hl.1, hl.2, ha, rfl, rfl, rfl, rfl, hN, hd, h4, .inl rfl, .inr rfl, hpf.1⟩
  · rcases hi with rfl | rfl
    · exact ⟨hpf.1, Nat.lt_of_lt_of_le hpf.2 hO.size⟩
    · exact ⟨by omega, hdg⟩
  · rcases hi with hi | hi | hi
    · exact .inl (.inl hi)
    · exact .inl (.inr hi)
    · exact .inr (Nat.le_of_eq hi.symm)
  · rcases hturn i hi with e | e | e
    · exact .inr (.inr (.inl e))
    · exact .inr (.inr (.inr (.inr (.inr e))))
    · exact .inr (.inl e)
theorem Q2Post.trans {w1 : World} {G1 ex1 : Nat → Prop} {v : Value} {st : St2} {e : Ending} (hG : ∀ i, G1 i ∨ ex1 i → (Gw i ∨ ex i) ∨ w.heap.size ≤ i) (hO : Only (own2 K0 d f Gw ex) w w1) (h' : Q2Post K0 d f lo all D w1 G1 ex1 v st e w') : Q2Post K0 d f lo all D w Gw ex v st e w' := by
  obtain ⟨he, G2, ex2, a1, a2, a3, a4⟩ := h'
  have hs := hO.size
  refine ⟨he, G2, ex2, a1, a2, fun i hi => ?_, hO.trans' a4 (fun i hi => ?_)⟩
  · rcases a3 i hi with e | e
    · exact hG i e
    · exact .inr (by omega)
  · rcases hi with e | e | e | e | e | e
    · exact .inl (.inl e)
    · exact .inl (.inr (.inl e))
    · exact .inl (.inr (.inr (.inl e)))
    · exact .inl (.inr (.inr (.inr (.inl e))))
    · rcases hG i (.inl e) with (h | h) | h
      · exact .inl (.inr (.inr (.inr (.inr (.inl h)))))
      · exact .inl (.inr (.inr (.inr (.inr (.inr h)))))
      · exact .inr h
    · rcases hG i (.inr e) with (h | h) | h
      · exact .inl (.inr (.inr (.inr (.inr (.inl h)))))
      · exact .inl (.inr (.inr (.inr (.inr (.inr h)))))
      · exact .inr h
theorem Idl.quiet (h : Idl K0 d f lo all w Gw s r z ps) (hb : Below w.heap.size w w') : Idl K0 d f lo all w' Gw s r z ps := by
  obtain ⟨K, v4, v5, v16, v17, v18, hk, hr⟩ := h.rs
  exact ⟨h.rd.quiet hb, K, v4, v5, v16, v17, v18, hk, hr.only (Only.of_below (S := fun _ => False) hb) (fun e => e) (fun e => e) (fun _ _ e => e)⟩
theorem brought_near {z : Lzs} {how lc lp pb n : Nat} {ps : List Nat} (hn : ZNear z ps.length z.out.length) (h4 : lc + lp ≤ 4) (h3 : pb ≤ 4) (hp : PsOk ps) (hb : z.bad = false) (he : z.ended = false) (hk : how = 0 → lc = z.lc ∧ lp = z.lp ∧ pb = z.pb) :
    ZNear (z.brought how (lc, lp, pb)) (psN ps how (lc, lp, pb)).length (z.brought how (lc, lp, pb)).out.length ∧ PsOk (psN ps how (lc, lp, pb)) ∧ (z.brought how (lc, lp, pb)).bad = false ∧ (z.brought how (lc, lp, pb)).ended = false ∧ (z.brought how (lc, lp, pb)).dict = z.dict ∧
    ((z.brought how (lc, lp, pb)).lc = lc ∧ (z.brought how (lc, lp, pb)).lp = lp ∧ (z.brought how (lc, lp, pb)).pb = pb) ∧ (z.brought how (lc, lp, pb)).out.length ≤ z.out.length := by
  have hrep : PsOk (List.replicate (1847 + 768 * 2 ^ (lc + lp)) 1024) := fun p hp => by
    rw [List.eq_of_mem_replicate hp]
    exact ⟨by decide, by decide⟩
  unfold Lzs.brought psN
  by_cases h0 : how = 0
  · subst h0
    rw [if_neg (by decide), if_pos rfl, if_pos rfl]
    obtain ⟨e1, e2, e3⟩ := hk rfl
    exact ⟨hn, hp, hb, he, rfl, ⟨e1.symm, e2.symm, e3.symm⟩, Nat.le_refl _⟩
  · rw [if_neg h0, if_neg h0]
    by_cases h3' : how = 3
    · rw [if_pos h3']
      refine ⟨⟨by show lc ≤ 8; omega, by show lp ≤ 4; omega, h3, hn.dict, Nat.le_refl _, Nat.zero_le _, by show 0 < 4294967296; decide, by show 0 < 4294967296; decide, by show 0 < 4294967296; decide, by show 0 < 4294967296; decide, by rw [List.length_replicate]; rfl⟩, hrep, hb, he, rfl, ⟨rfl, rfl, rfl⟩, Nat.zero_le _⟩
    · rw [if_neg h3']
      exact ⟨⟨by show lc ≤ 8; omega, by show lp ≤ 4; omega, h3, hn.dict, Nat.le_refl _, Nat.zero_le _, by show 0 < 4294967296; decide, by show 0 < 4294967296; decide, by show 0 < 4294967296; decide, by show 0 < 4294967296; decide, by rw [List.length_replicate]; rfl⟩, hrep, hb, he, rfl, ⟨rfl, rfl, rfl⟩, Nat.le_refl _⟩
end
end Go.Proofs.YtiolfjhddbiglaaGreatDoor
