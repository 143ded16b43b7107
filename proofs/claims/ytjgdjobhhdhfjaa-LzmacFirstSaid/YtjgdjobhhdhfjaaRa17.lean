/-
  CwAwake, CwLight, CwFirst: put together.
-/
import Derived.Test.YtjgdjobhhdhfjaaRa16
import Derived.Test.YtjgdjobhhdhfjaaRa05
import Derived.Laws.MakeOwn
import Derived.Deep.Cut
import Derived.Test.YtjgdjobhhdhfjaaRa14
import Derived.Test.YtjgdjobhhdhfjaaRa13
set_option linter.unusedVariables false
set_option linter.unusedSimpArgs false
/-
  The laws' beginning of stage 9.
-/
namespace Go.Proofs.Ytjgdjobhhdhfjaa
open Go.RowKit

theorem zeros_sl (k : Nat) (w : World) (hk : k ≤ 1000) : Sl (w.alloc (.cells (bv (List.replicate k 0)).toArray 5)) (some ⟨w.heap.size, 0, none⟩) k (bv (List.replicate k 0)) := by
  have := sl_lit w 5 (bv (List.replicate k 0)).toArray (by simp [bv]; omega)
  simpa [bv] using this
theorem awk_set : SetOk 3 0 2 4096 := ⟨by decide, by decide, by decide, by decide, by decide⟩
def litCells : Array Value := #[.int .i64 6, .int .u8 0, .int .i64 0, .int .u32 0, .int .i64 0, .int .u8 0, .int .i64 0, .int .u32 0]
theorem awk_pkts {w : World} {q : Nat} {T : TypeId} (h : Blk w q T litCells) : Pkts w (some ⟨q, 0, none⟩) 2 awkQ := by
  intro _
  refine ⟨q, 0, rfl, h.lt, fun i hi => ?_⟩
  match i, hi with
  | 0, _ => exact ⟨h.cell 0, h.cell 1, h.cell 2, h.cell 3⟩
  | 1, _ => exact ⟨h.cell 4, h.cell 5, h.cell 6, h.cell 7⟩
theorem awk_lit (i : Nat) (_ : i < 2) : PqLit (awkQ i) := by
  unfold awkQ
  split
  · exact ⟨by decide, by decide, by decide, by decide⟩
  · exact ⟨by decide, by decide, by decide, by decide⟩

def Awk9 (w : World) (n : Nat) (out : List UInt8) (x : Ending) (w' : World) : Prop :=
  Below w.heap.size w w' ∧ ∃ (A1 : Option Addr) (c1 : Nat) (A2 : Option Addr) (c2 : Nat), x = .returned (.tuple #[.slice A1 n c1, .slice A2 out.length c2, .int .i64 0]) ∧ Sl w' A1 n (bv (List.replicate n 0)) ∧ Sl w' A2 out.length (bv out)
theorem awk_none (w : World) : Calls Try.prog 56 #[.agg #[.int .i64 3, .int .i64 0, .int .i64 2, .int .i64 4096], .slice none 0 0] w (Awk9 w 5 []) := by
  refine Calls.mono (show Calls Try.prog 56 #[.agg #[.int .i64 3, .int .i64 0, .int .i64 2, .int .i64 4096], .slice none 0 0] w (PackedPost w (runG (fun _ => ⟨0, 0, 0, 0⟩) (freshS 3 0 2 4096) 0)) from cpack_any (lc := 3) (lp := 0) (pb := 2) (dict := 4096) (n := 0) (c := 0) (A := none) (qs := fun _ => ⟨0, 0, 0, 0⟩) awk_set (by decide) (fun h => absurd h (by decide)) (fun i hi => absurd hi (Nat.not_lt_zero i)) (by decide)) ?_
  rintro e w' ⟨hb, bs, A1, c1, A2, c2, rfl, h1, h2, h3, h4⟩
  have h3 : bs.length = 5 := h3
  have hz := zeros_of (show be bs = 0 from h2) h3
  rw [h3, hz] at h1
  rw [h3]
  exact ⟨hb, A1, c1, A2, c2, rfl, h1, h4⟩
theorem awk_two {w : World} {q : Nat} {T : TypeId} (h : Blk w q T litCells) : Calls Try.prog 56 #[.agg #[.int .i64 3, .int .i64 0, .int .i64 2, .int .i64 4096], .slice (some ⟨q, 0, none⟩) 2 2] w (Awk9 w 6 [0]) := by
  refine Calls.mono (show Calls Try.prog 56 #[.agg #[.int .i64 3, .int .i64 0, .int .i64 2, .int .i64 4096], .slice (some ⟨q, 0, none⟩) 2 2] w (PackedPost w (runG awkQ (freshS 3 0 2 4096) 2)) from cpack_any (lc := 3) (lp := 0) (pb := 2) (dict := 4096) (n := 2) (c := 2) awk_set (by decide) (awk_pkts h) awk_lit (by decide)) ?_
  rintro e w' ⟨hb, bs, A1, c1, A2, c2, rfl, h1, h2, h3, h4⟩
  obtain ⟨a1, a2, a3⟩ := awk_run
  rw [a1] at h2
  rw [a2] at h3
  rw [a3] at h4 ⊢
  have hz := zeros_of h2 h3
  rw [h3, hz] at h1
  rw [h3]
  exact ⟨hb, A1, c1, A2, c2, rfl, h1, h4⟩

set_option maxRecDepth 100000 in
set_option maxHeartbeats 8000000 in
theorem awake9_any (w : World) : Calls Try.prog 28 #[] w fun e w' => e = .returned (.bool true) ∧ Below w.heap.size w w' := by
  have hmk6 : ∀ w, (Instr.makeSlice 22 (.int .i64 6) (.int .i64 6)).run Try.prog w = .ok (.slice (some ⟨w.heap.size, 0, none⟩) 6 6) (w.alloc (.cells (bv (List.replicate 6 0)).toArray 5)) := fun _ => by kernel_rfl
  have hmk5 : ∀ w, (Instr.makeSlice 22 (.int .i64 5) (.int .i64 5)).run Try.prog w = .ok (.slice (some ⟨w.heap.size, 0, none⟩) 5 5) (w.alloc (.cells (bv (List.replicate 5 0)).toArray 5)) := fun _ => by kernel_rfl
  obtain ⟨w1, hw1⟩ : ∃ w1, w1 = w.alloc (.cells #[.int .i64 3, .int .i64 0, .int .i64 2, .int .i64 4096] 24) := ⟨_, rfl⟩
  have hb1 : Below w.heap.size w w1 := by rw [hw1]; exact (Below.refl _ _).alloc (Nat.le_refl _) _
  have HBk : Blk w1 w.heap.size 24 #[.int .i64 3, .int .i64 0, .int .i64 2, .int .i64 4096] := by rw [hw1]; exact Blk.fresh w _ _
  have HW1 := Lib.hid hw1
  have HB1 := Lib.hid hb1
  have HBK := Lib.hid HBk
  have o0 : w1.cell? ⟨w.heap.size, 0, none⟩ = some (.int .i64 3) := HBk.cell 0
  have o1 : w1.cell? ⟨w.heap.size, 1, none⟩ = some (.int .i64 0) := HBk.cell 1
  have o2 : w1.cell? ⟨w.heap.size, 2, none⟩ = some (.int .i64 2) := HBk.cell 2
  have o3 : w1.cell? ⟨w.heap.size, 3, none⟩ = some (.int .i64 4096) := HBk.cell 3
  have K0 := Lib.hid (awk_none w1)
  clear hw1 hb1 HBk
  go_enter Try.func28, Try.ntmps28
  go_upto_region 2 with fail
  rw [← HW1.out]
  clear HW1
  go_wp2_with fail
  refine K0.out.mono ?_
  rintro e w2 ⟨hb2, A1, c1, A2, c2, rfl, hs1, hs2⟩
  have HK2 := Lib.hid (HBK.out.below hb2)
  have HB2 := Lib.hid (HB1.out.trans ⟨hb2.os, hb2.tape, hb2.output, hb2.size, fun i hi => hb2.block i (Nat.lt_of_lt_of_le hi HB1.out.size)⟩)
  have HS2 := Lib.hid hs1
  have o0 : w2.cell? ⟨w.heap.size, 0, none⟩ = some (.int .i64 3) := HK2.out.cell 0
  have o1 : w2.cell? ⟨w.heap.size, 1, none⟩ = some (.int .i64 0) := HK2.out.cell 1
  have o2 : w2.cell? ⟨w.heap.size, 2, none⟩ = some (.int .i64 2) := HK2.out.cell 2
  have o3 : w2.cell? ⟨w.heap.size, 3, none⟩ = some (.int .i64 4096) := HK2.out.cell 3
  have K2 := Lib.hid (awk_two (Blk.fresh w2 55 litCells))
  clear hb2 hs1 hs2 K0 HBK HB1
  go_wp2_with fail
  refine K2.out.mono ?_
  rintro e w3 ⟨hb3, A3, c3, A4, c4, rfl, hs3, hs4⟩
  have ho3 : Only (fun _ => False) w2 w3 := ((Only.refl _ w2).alloc _).trans (Only.of_below hb3)
  have HB3 := Lib.hid (HB2.out.trans (ho3.below HB2.out.size (fun _ h => h.elim)))
  have HS1 := Lib.hid (fun (W : World) (hW : Only (fun _ => False) w3 W) => (HS2.out.only ho3 (fun _ _ _ _ h => h)).only hW (fun _ _ _ _ h => h))
  have HS3 := Lib.hid (fun (W : World) (hW : Only (fun _ => False) w3 W) => hs3.only hW (fun _ _ _ _ h => h))
  have HS4 := Lib.hid (fun (W : World) (hW : Only (fun _ => False) w3 W) => hs4.only hW (fun _ _ _ _ h => h))
  clear hb3 hs3 hs4 ho3 K2 HK2 HB2 HS2 o0 o1 o2 o3
  go_wp2_with fail
  refine (bytesSame_any (bs := List.replicate 5 0) (HS1.out _ ((Only.refl _ w3).alloc _)) (zeros_sl 5 w3 (by decide)) (by decide)).mono ?_
  rintro e w4 ⟨rfl, d4, hw4⟩
  have HO4 := Lib.hid (show Only (fun _ => False) w3 w4 from hw4 ▸ ((Only.refl _ w3).alloc _).drewN d4)
  clear hw4
  go_wp2_with fail
  refine (bytesSame_any (bs := List.replicate 6 0) (HS3.out _ (HO4.out.alloc _)) (zeros_sl 6 w4 (by decide)) (by decide)).mono ?_
  rintro e w5 ⟨rfl, d5, hw5⟩
  have HO5 := Lib.hid (show Only (fun _ => False) w3 w5 from hw5 ▸ (HO4.out.alloc _).drewN d5)
  clear hw5
  go_wp2_with fail
  refine (bytesSame_any (bs := [0]) (HS4.out _ (HO5.out.alloc _)) (sl_one w5 _ _) (by decide)).mono ?_
  rintro e w6 ⟨rfl, d6, hw6⟩
  have HO6 := Lib.hid (show Only (fun _ => False) w3 w6 from hw6 ▸ (HO5.out.alloc _).drewN d6)
  clear hw6
  go_wp2_with fail
  go_ret
  exact ⟨rfl, HB3.out.trans (HO6.out.below HB3.out.size (fun _ h => h.elim))⟩

end Go.Proofs.Ytjgdjobhhdhfjaa

/-
  The laws' setting of stage 9.
-/
namespace Go.Proofs.Ytjgdjobhhdhfjaa
open Go.RowKit

def light9P (a b c d : Int) : Bool := !maySet a b c d || decide (a + b ≤ 5)
set_option maxRecDepth 100000 in
set_option maxHeartbeats 2000000 in
theorem light9_any (a b c d : Int) (w : World) :
    Calls Try.prog 29 #[.agg #[.int .i64 a, .int .i64 b, .int .i64 c, .int .i64 d]] w fun x w' => x = .returned (.bool (light9P a b c d)) ∧ Below w.heap.size w w' := by
  obtain ⟨w1, hw1⟩ : ∃ w1, w1 = w.alloc (.cells #[.int .i64 a, .int .i64 b, .int .i64 c, .int .i64 d] 24) := ⟨_, rfl⟩
  have hb1 : Below w.heap.size w w1 := by rw [hw1]; exact (Below.refl _ _).alloc (Nat.le_refl _) _
  have HBk : Blk w1 w.heap.size 24 #[.int .i64 a, .int .i64 b, .int .i64 c, .int .i64 d] := by rw [hw1]; exact Blk.fresh w _ _
  have K := Lib.hid (may_any a b c d w1)
  have d0 : w1.cell? ⟨w.heap.size, 0, none⟩ = some (.int .i64 a) := HBk.cell 0
  have d1 : w1.cell? ⟨w.heap.size, 1, none⟩ = some (.int .i64 b) := HBk.cell 1
  have d2 : w1.cell? ⟨w.heap.size, 2, none⟩ = some (.int .i64 c) := HBk.cell 2
  have d3 : w1.cell? ⟨w.heap.size, 3, none⟩ = some (.int .i64 d) := HBk.cell 3
  have HW1 := Lib.hid hw1
  have HB1 := Lib.hid hb1
  have HBK := Lib.hid HBk
  obtain ⟨v, hv⟩ : ∃ v, v = light9P a b c d := ⟨_, rfl⟩
  rw [← hv]
  unfold light9P at hv
  obtain ⟨mm, hmm⟩ : ∃ mm, mm = maySet a b c d := ⟨_, rfl⟩
  rw [← hmm] at hv K
  have HMM := Lib.hid hmm
  clear hw1 hb1 HBk hmm
  cases mm with
  | false =>
    obtain rfl : v = true := hv
    go_enter Try.func29, Try.ntmps29
    go_upto_region 1 with fail
    rw [← HW1.out]
    clear HW1
    go_wp2_with fail
    refine K.out.mono ?_
    rintro e w2 ⟨rfl, hb2⟩
    have HB2 := Lib.hid (HB1.out.trans ⟨hb2.os, hb2.tape, hb2.output, hb2.size, fun i hi => hb2.block i (Nat.lt_of_lt_of_le hi HB1.out.size)⟩)
    clear hb2 K d0 d1 d2 d3 HB1 HBK
    go_wp2_with fail
    go_ret
    exact ⟨rfl, HB2.out⟩
  | true =>
    obtain ⟨m1, m2, m3, m4, m5⟩ := may_iff.1 HMM.out.symm
    obtain ⟨ab, hab⟩ : ∃ ab, ab = a + b := ⟨_, rfl⟩
    have e1 : IntKind.i64.wrap (a + b) = ab := by rw [hab]; exact IntWalk.i64_in _ (by omega)
    have hv2 : v = decide (ab ≤ 5) := by rw [hab]; exact hv
    have HAB := Lib.hid hab
    clear m1 m2 m3 m4 m5 hab
    have HE1 := Lib.hid e1
    clear e1
    by_cases h6 : ab ≤ 5
    · obtain rfl : v = true := by rw [hv2, decide_eq_true h6]
      have H6 := Lib.hid h6
      clear hv hv2 h6
      go_enter Try.func29, Try.ntmps29
      go_upto_region 1 with fail
      rw [← HW1.out]
      clear HW1
      go_wp2_with fail
      refine K.out.mono ?_
      rintro e w2 ⟨rfl, hb2⟩
      have HB2 := Lib.hid (HB1.out.trans ⟨hb2.os, hb2.tape, hb2.output, hb2.size, fun i hi => hb2.block i (Nat.lt_of_lt_of_le hi HB1.out.size)⟩)
      have hk2 : Blk w2 w.heap.size 24 #[.int .i64 a, .int .i64 b, .int .i64 c, .int .i64 d] := HBK.out.below hb2
      have o0 : w2.cell? ⟨w.heap.size, 0, none⟩ = some (.int .i64 a) := hk2.cell 0
      have o1 : w2.cell? ⟨w.heap.size, 1, none⟩ = some (.int .i64 b) := hk2.cell 1
      have e1 := HE1.out
      have h6 := H6.out
      clear hb2 hk2 K d0 d1 d2 d3 HB1 HBK
      go_wp2_with fail
      go_ret
      exact ⟨rfl, HB2.out⟩
    · obtain rfl : v = false := by rw [hv2, decide_eq_false h6]
      have H6 := Lib.hid h6
      clear hv hv2 h6
      go_enter Try.func29, Try.ntmps29
      go_upto_region 1 with fail
      rw [← HW1.out]
      clear HW1
      go_wp2_with fail
      refine K.out.mono ?_
      rintro e w2 ⟨rfl, hb2⟩
      have HB2 := Lib.hid (HB1.out.trans ⟨hb2.os, hb2.tape, hb2.output, hb2.size, fun i hi => hb2.block i (Nat.lt_of_lt_of_le hi HB1.out.size)⟩)
      have hk2 : Blk w2 w.heap.size 24 #[.int .i64 a, .int .i64 b, .int .i64 c, .int .i64 d] := HBK.out.below hb2
      have o0 : w2.cell? ⟨w.heap.size, 0, none⟩ = some (.int .i64 a) := hk2.cell 0
      have o1 : w2.cell? ⟨w.heap.size, 1, none⟩ = some (.int .i64 b) := hk2.cell 1
      have e1 := HE1.out
      have h6 := H6.out
      clear hb2 hk2 K d0 d1 d2 d3 HB1 HBK
      go_wp2_with fail
      go_ret
      exact ⟨congrArg (fun b => Ending.returned (.bool b)) (decide_eq_false (by have := H6.out; omega)), HB2.out⟩
end Go.Proofs.Ytjgdjobhhdhfjaa

/-
  The law LzmacFirst: its walk.
-/
namespace Go.Proofs.Ytjgdjobhhdhfjaa
open Go.RowKit

theorem below_on {w0 w1 w2 : World} {B : Nat} (h : Below B w0 w1) (hb : Below w1.heap.size w1 w2) (hB : B ≤ w0.heap.size) : Below B w0 w2 :=
  h.trans ⟨hb.os, hb.tape, hb.output, hb.size, fun i hi => hb.block i (by have := h.size; omega)⟩
def stepsOf (n : Nat) : List UInt8 := (List.range n).map UInt8.ofNat
theorem steps_len (n : Nat) : (stepsOf n).length = n := by simp [stepsOf]
theorem steps_get {n j : Nat} (h : j < n) : (stepsOf n).getD j 0 = UInt8.ofNat j := by
  unfold stepsOf
  rw [List.getD_eq_getElem?_getD, List.getElem?_map, List.getElem?_range h]
  rfl
theorem lit_dict {bs : List UInt8} {lc lp pb dict : Nat} (h : SetOk lc lp pb dict) (hn : bs.length ≤ 3000) : ∀ j, j ≤ bs.length → (runG (litQ bs) (freshS lc lp pb dict) j).1.dict = dict
  | 0, _ => rfl
  | j + 1, hj => by
    have h1 := lit_dict h hn j (by omega)
    obtain ⟨_, h2⟩ := lit_run h hn j (by omega)
    have hb := run_bad (qs := litQ bs) (n := bs.length) h (fun i _ => litQ_lit bs i) hn j (by omega)
    rw [lit_succ bs _ j h2]
    generalize runG (litQ bs) (freshS lc lp pb dict) j = s at *
    obtain ⟨z, t⟩ := s
    dsimp only at h1 h2 hb
    unfold stepP
    dsimp only
    rw [if_pos (lit_fits h2), packE_lit hb]
    exact h1
/-- what fits a coder that has begun -/
theorem start_fits (lc lp pb dict : Nat) (j : Int) : fitsP (Lzs.start lc lp pb dict) j 0 2 = decide (j = 0 ∨ j = 7) := by
  have hh : ∀ d, (Lzs.start lc lp pb dict).has d = false := fun d => decide_eq_false (by rintro ⟨h, _⟩; exact absurd h (Nat.not_lt_zero _))
  have he : (Lzs.start lc lp pb dict).ended = false := rfl
  unfold fitsP lateP hasP
  rw [he, decide_eq_false (by omega)]
  simp only [hh]
  by_cases h : j = 0 ∨ j = 7
  · rw [decide_eq_true h]; simp [h]
  · rw [decide_eq_false h]; simp [h]
/-- what fits behind so many literals -/
theorem match_fits {z : Lzs} {d : Nat} {len : Int} (he : z.ended = false) : fitsP z 1 d len = (decide (2 ≤ len) && decide (len ≤ 273) && decide (d < z.out.length) && decide (d < z.dict)) := by
  unfold fitsP lateP hasP Lzs.has
  rw [he]
  by_cases h1 : 2 ≤ len
  · by_cases h2 : len ≤ 273
    · simp [h1, h2, show ¬ len < 2 by omega, show ¬ 273 < len by omega]
    · simp [h1, h2, show 273 < len by omega]
  · simp [h1, show len < 2 by omega]

set_option maxRecDepth 100000 in
set_option maxHeartbeats 16000000 in
theorem lzmacFirst_walk {a b cc d kd len : Int} {n by_ dist : Nat} {w : World} (hn : n ≤ 255) (hdist : dist < 4294967296) :
    Calls Try.prog 6 #[.agg #[.int .i64 a, .int .i64 b, .int .i64 cc, .int .i64 d], .int .u8 (n : Int), .agg #[.int .i64 kd, .int .u8 (by_ : Int), .int .i64 len, .int .u32 (dist : Int)]] w fun e w' => e = .returned (.bool true) ∧ Below w.heap.size w w' := by
  obtain ⟨w0, hw0⟩ : ∃ w0, w0 = w.alloc (.cells #[.int .i64 a, .int .i64 b, .int .i64 cc, .int .i64 d] 24) := ⟨_, rfl⟩
  have hb0 : Below w.heap.size w w0 := by rw [hw0]; exact (Below.refl _ _).alloc (Nat.le_refl _) _
  have hz0 : w0.heap.size = w.heap.size + 1 := by rw [hw0]; simp
  have HBk0 : Blk w0 w.heap.size 24 #[.int .i64 a, .int .i64 b, .int .i64 cc, .int .i64 d] := by rw [hw0]; exact Blk.fresh w _ _
  obtain ⟨w1, hw1⟩ : ∃ w1, w1 = w0.alloc (.cells #[.int .i64 kd, .int .u8 (by_ : Int), .int .i64 len, .int .u32 (dist : Int)] 55) := ⟨_, rfl⟩
  have hb1 : Below w.heap.size w w1 := by rw [hw1]; exact hb0.alloc (by omega) _
  have HBk : Blk w1 w.heap.size 24 #[.int .i64 a, .int .i64 b, .int .i64 cc, .int .i64 d] := by rw [hw1]; exact HBk0.alloc _
  have HBx : Blk w1 (w.heap.size + 1) 55 #[.int .i64 kd, .int .u8 (by_ : Int), .int .i64 len, .int .u32 (dist : Int)] := by rw [hw1, ← hz0]; exact Blk.fresh w0 _ _
  have HW1 := Lib.hid (hw1.trans (by rw [hw0]))
  have HB1 := Lib.hid hb1
  have HBK := Lib.hid HBk
  have HBX := Lib.hid HBx
  have KA := Lib.hid (awake9_any w1)
  have HN := Lib.hid (And.intro hn hdist)
  clear hw1 hb1 HBk HBx hn hw0 hb0 hz0 HBk0 hdist
  go_enter Try.func6, Try.ntmps6
  go_upto_region 1 with fail
  rw [← HW1.out]
  clear HW1 w0
  go_wp2_with fail
  refine KA.out.mono ?_
  rintro e w2 ⟨rfl, hb2⟩
  have HB2 := Lib.hid hb2
  have o0 := (HBK.out.below hb2).cell 0
  have o1 := (HBK.out.below hb2).cell 1
  have o2 := (HBK.out.below hb2).cell 2
  have o3 := (HBK.out.below hb2).cell 3
  have x2 : w2.cell? ⟨w.heap.size + 1, 2, none⟩ = some (.int .i64 len) := (HBX.out.below hb2).cell 2
  have x3 : w2.cell? ⟨w.heap.size + 1, 3, none⟩ = some (.int .u32 (dist : Int)) := (HBX.out.below hb2).cell 3
  have o0 : w2.cell? ⟨w.heap.size, 0, none⟩ = some (.int .i64 a) := o0
  have o1 : w2.cell? ⟨w.heap.size, 1, none⟩ = some (.int .i64 b) := o1
  have o2 : w2.cell? ⟨w.heap.size, 2, none⟩ = some (.int .i64 cc) := o2
  have o3 : w2.cell? ⟨w.heap.size, 3, none⟩ = some (.int .i64 d) := o3
  have HE2 := Lib.hid (below_on HB1.out hb2 (Nat.le_refl _))
  clear hb2 KA
  have KL := Lib.hid (light9_any a b cc d w2)
  obtain ⟨lt, hlt⟩ : ∃ lt, lt = light9P a b cc d := ⟨_, rfl⟩
  rw [← hlt] at KL
  have HLT := Lib.hid hlt
  clear hlt
  cases lt with
  | false =>
    go_wp2_with fail
    refine KL.out.mono ?_
    rintro e w3 ⟨rfl, hb3⟩
    have HE3 := Lib.hid (below_on HE2.out hb3 (Nat.le_refl _))
    clear hb3 KL o0 o1 o2 o3 x2 x3
    go_wp2_with fail
    go_ret
    exact ⟨rfl, HE3.out⟩
  | true =>
    go_wp2_with fail
    refine KL.out.mono ?_
    rintro e w3 ⟨rfl, hb3⟩
    have HB3 := Lib.hid (below_on HB2.out hb3 (Nat.le_refl _))
    have HE3 := Lib.hid (below_on HE2.out hb3 (Nat.le_refl _))
    clear hb3 KL o0 o1 o2 o3 x2 x3 HE2 HB2
    have p0 : w3.cell? ⟨w.heap.size, 0, none⟩ = some (.int .i64 a) := (HBK.out.below HB3.out).cell 0
    have p1 : w3.cell? ⟨w.heap.size, 1, none⟩ = some (.int .i64 b) := (HBK.out.below HB3.out).cell 1
    have p2 : w3.cell? ⟨w.heap.size, 2, none⟩ = some (.int .i64 cc) := (HBK.out.below HB3.out).cell 2
    have p3 : w3.cell? ⟨w.heap.size, 3, none⟩ = some (.int .i64 d) := (HBK.out.below HB3.out).cell 3
    have KM := Lib.hid (may_any a b cc d w3)
    obtain ⟨mm, hmm⟩ : ∃ mm, mm = maySet a b cc d := ⟨_, rfl⟩
    rw [← hmm] at KM
    have HMM := Lib.hid hmm
    clear hmm
    cases mm with
    | false =>
      go_wp2_with fail
      refine KM.out.mono ?_
      rintro e w4 ⟨rfl, hb4⟩
      have HE4 := Lib.hid (below_on HE3.out hb4 (Nat.le_refl _))
      clear hb4 KM p0 p1 p2 p3
      go_wp2_with fail
      go_ret
      exact ⟨rfl, HE4.out⟩
    | true =>
      obtain ⟨m1, m2, m3, m4, m5, m6, m7, m8⟩ := may_iff.1 HMM.out.symm
      have h5 : a + b ≤ 5 := by
        have := HLT.out
        unfold light9P at this
        rw [← HMM.out] at this
        exact of_decide_eq_true this.symm
      obtain ⟨lc, rfl⟩ := Int.eq_ofNat_of_zero_le m1
      obtain ⟨lp, rfl⟩ := Int.eq_ofNat_of_zero_le m3
      obtain ⟨pb, rfl⟩ := Int.eq_ofNat_of_zero_le m5
      obtain ⟨dict, rfl⟩ := Int.eq_ofNat_of_zero_le (show 0 ≤ d by omega)
      have HSET := Lib.hid (show SetOk lc lp pb dict ∧ lc + lp ≤ 5 from ⟨⟨by omega, by omega, by omega, by omega, by omega⟩, by omega⟩)
      clear m1 m2 m3 m4 m5 m6 m7 m8 h5
      go_wp2_with fail
      refine KM.out.mono ?_
      rintro e w4 ⟨rfl, hb4⟩
      have HB4 := Lib.hid (below_on HB3.out hb4 (Nat.le_refl _))
      have o0 : w4.cell? ⟨w.heap.size, 0, none⟩ = some (.int .i64 (lc : Int)) := (HBK.out.below HB4.out).cell 0
      have o1 : w4.cell? ⟨w.heap.size, 1, none⟩ = some (.int .i64 (lp : Int)) := (HBK.out.below HB4.out).cell 1
      have o2 : w4.cell? ⟨w.heap.size, 2, none⟩ = some (.int .i64 (pb : Int)) := (HBK.out.below HB4.out).cell 2
      have o3 : w4.cell? ⟨w.heap.size, 3, none⟩ = some (.int .i64 (dict : Int)) := (HBK.out.below HB4.out).cell 3
      clear hb4 KM p0 p1 p2 p3 HB3 HE3
      obtain ⟨bs, hbs⟩ : ∃ bs, bs = stepsOf n := ⟨_, rfl⟩
      have hbl : bs.length = n := by rw [hbs, steps_len]
      have HBS := Lib.hid (And.intro hbs hbl)
      have KN := Lib.hid (cnew7_any (k := 27 * n) HSET.out.1 (by have := HSET.out.2; omega) (by have := HN.out.1; omega) w4)
      clear hbs hbl
      go_wp2_with fail
      refine KN.out.mono ?_
      rintro e w5 ⟨K, rfl, hnl, hcw, hnew, ho5⟩
      have HB5 := Lib.hid (HB4.out.trans (ho5.below HB4.out.size (fun _ h => h.elim)))
      obtain ⟨s0, hs0⟩ : ∃ s0, s0 = freshS lc lp pb dict := ⟨_, rfl⟩
      have hst : Cw K w5 none none 0 (runG (litQ bs) s0 0).1 (27 * (n - 0)) (runG (litQ bs) s0 0).2 := by
        have e : runG (litQ bs) s0 0 = s0 := rfl
        rw [e, hs0]
        unfold freshS
        rw [show probsN lc lp = 1847 + 768 * 2 ^ (lc + lp) from rfl, ← hnl]
        exact hcw
      have HST := Lib.hid hst
      have HYN := Lib.hid (show Young w1.heap.size K none (tb none (runG (litQ bs) s0 0).1.out.length 0) from ⟨by have := HB4.out.size; omega, by have := HB4.out.size; omega, by have := HB4.out.size; omega, fun _ h => by (cases h), fun _ h => by (cases h)⟩)
      have HNL := Lib.hid (show 1847 + K.nl = probsN lc lp by rw [hnl]; rfl)
      have HRUN := Lib.hid (fun j (hj : j ≤ n) => And.intro (run_ok (n := n) HSET.out.1 (fun i _ => litQ_lit bs i) (by have := HN.out.1; omega) j hj) (And.intro (run_bad (n := n) HSET.out.1 (fun i _ => litQ_lit bs i) (by have := HN.out.1; omega) j hj) (And.intro (lit_run (bs := bs) HSET.out.1 (by have := HN.out.1; have := HBS.out.2; omega) j (by have := HBS.out.2; omega)) (lit_dict (bs := bs) HSET.out.1 (by have := HN.out.1; have := HBS.out.2; omega) j (by have := HBS.out.2; omega)))))
      have HSF := Lib.hid (fun (j : Int) => show fitsP (runG (litQ bs) s0 0).1 j 0 2 = decide (j = 0 ∨ j = 7) by rw [show runG (litQ bs) s0 0 = s0 from rfl, hs0]; exact start_fits lc lp pb dict j)
      rw [← hs0] at HRUN
      clear hnl hcw hnew ho5 hst hs0 KN o0 o1 o2 o3
      go_wp2_with fail
      go_loopw [11] (fun i wr => ∃ j : Int, -1 ≤ j ∧ j ≤ 10 ∧ i = .int .i64 j ∧ Cw K wr none none 0 (runG (litQ bs) s0 0).1 (27 * (n - 0)) (runG (litQ bs) s0 0).2 ∧ Below w1.heap.size w1 wr) (fun i _ => (10 - intOf i).toNat)
      case atStart => exact ⟨-1, by omega, by omega, rfl, HST.out, HB5.out⟩
      case round =>
        clear HST HB5
        obtain ⟨j, hj0, hj1, rfl, hz, hb⟩ := hrel
        by_cases hlt : j ≤ 9
        · have ej : IntKind.i64.wrap (j + 1) = j + 1 := IntWalk.i64_in _ (by omega)
          have h0 := (HRUN.out 0 (Nat.zero_le _)).1.1
          have KF := (show Calls Try.prog 31 #[.pointer (some ⟨K.g, 0, none⟩), .agg #[.int .i64 j, .int .u8 0, .int .i64 2, .int .u32 0]] wr fun e w' => e = .returned (.bool (fitsP (runG (litQ bs) s0 0).1 j 0 2)) ∧ Only (fun _ => False) wr w' from cfits_any (by_ := 0) (d := 0) hz (by decide) ⟨h0.r0, h0.r1, h0.r2, h0.r3⟩)
          rw [HSF.out j] at KF
          have HZ := Lib.hid hz
          have HB := Lib.hid hb
          clear hz hb h0
          by_cases e0 : j = 0
          · subst e0
            rw [decide_eq_true (.inl rfl)] at KF
            have KF := Lib.hid KF
            go_wp2_with fail
            refine KF.out.mono ?_
            rintro e w6 ⟨rfl, ho6⟩
            have HZ6 := Lib.hid (HZ.out.quiet ho6)
            have HB6 := Lib.hid (HB.out.trans (ho6.below HB.out.size (fun _ h => h.elim)))
            clear ho6 KF
            go_wp2_with fail
            go_roundw
            case rel => exact ⟨0 + 1, by omega, by omega, by go_num, HZ6.out, HB6.out⟩
            case measure => simp [intOf]
          · by_cases e7 : j = 7
            · subst e7
              rw [decide_eq_true (.inr rfl)] at KF
              have KF := Lib.hid KF
              go_wp2_with fail
              refine KF.out.mono ?_
              rintro e w6 ⟨rfl, ho6⟩
              have HZ6 := Lib.hid (HZ.out.quiet ho6)
              have HB6 := Lib.hid (HB.out.trans (ho6.below HB.out.size (fun _ h => h.elim)))
              clear ho6 KF
              go_wp2_with fail
              go_roundw
              case rel => exact ⟨7 + 1, by omega, by omega, by go_num, HZ6.out, HB6.out⟩
              case measure => simp [intOf]
            · rw [decide_eq_false (by omega)] at KF
              have KF := Lib.hid KF
              have f0 : (j == 0) = false := by simpa using e0
              have f7 : (j == 7) = false := by simpa using e7
              go_wp2_with fail
              refine KF.out.mono ?_
              rintro e w6 ⟨rfl, ho6⟩
              have HZ6 := Lib.hid (HZ.out.quiet ho6)
              have HB6 := Lib.hid (HB.out.trans (ho6.below HB.out.size (fun _ h => h.elim)))
              clear ho6 KF
              go_wp2_with fail
              go_roundw
              case rel => exact ⟨j + 1, by omega, by omega, by go_num, HZ6.out, HB6.out⟩
              case measure => simp [intOf]; omega
        · have HST := Lib.hid hz
          have HB5 := Lib.hid hb
          have en : IntKind.i64.wrap (n : Int) = (n : Int) := IntWalk.i64_in _ (by have := HN.out.1; omega)
          clear hz hb
          go_wp2_with fail
          clear hlt hj0 hj1
          go_loopw [12] (fun i wr => ∃ (l : Nat) (Ge : Option Nat) (A1 : Option Addr) (c1 : Nat), l ≤ n ∧ i = .int .i64 (l : Int) ∧ Cw K wr Ge A1 c1 (runG (litQ bs) s0 l).1 (27 * (n - l)) (runG (litQ bs) s0 l).2 ∧ Young w1.heap.size K Ge (tb A1 (runG (litQ bs) s0 l).1.out.length c1) ∧ Below w1.heap.size w1 wr) (fun i _ => n - (intOf i).toNat)
          case atStart => exact ⟨0, none, none, 0, Nat.zero_le _, rfl, HST.out, HYN.out, HB5.out⟩
          case round =>
            clear HST HB5
            obtain ⟨l, Ge, A1, c1, hl, rfl, hz, hy, hb⟩ := hrel
            obtain ⟨⟨hnr, hpm⟩, hbad, ⟨hout, hen⟩, hdi⟩ := HRUN.out l hl
            by_cases hlt : l < n
            · have glt : (l : Int) < (n : Int) := by omega
              have el : IntKind.i64.wrap ((l : Int) + 1) = (l : Int) + 1 := IntWalk.i64_in _ (by have := HN.out.1; omega)
              have eu : IntKind.u8.wrap (l : Int) = (l : Int) := by have := HN.out.1; simp [IntKind.wrap, IntKind.bits, IntKind.signed]; omega
              have hsuc := lit_succ bs s0 l hen
              have hx : bs.getD l 0 = UInt8.ofNat l := by rw [HBS.out.1]; exact steps_get hlt
              have hxn : (((UInt8.ofNat l).toNat : Nat) : Int) = (l : Int) := by
                have := HN.out.1
                have e : (UInt8.ofNat l).toNat = l := by simp; omega
                rw [e]
              rw [hx] at hsuc
              have KC := ccode_any (k := 27 * (n - (l + 1))) (kd := 0) (len := 0) (d := 0) (b := UInt8.ofNat l) (by rw [show 27 * (n - (l + 1)) + 27 = 27 * (n - l) by omega]; exact hz) (by rw [HNL.out]; exact hnr) (by have := HN.out.1; omega) hbad (by decide)
              have hpair : ((runG (litQ bs) s0 l).1, (runG (litQ bs) s0 l).2) = runG (litQ bs) s0 l := rfl
              rw [hpair, ← hsuc, lit_fits hen, hxn] at KC
              have KC := Lib.hid KC
              have HY := Lib.hid hy
              have HB := Lib.hid hb
              have HSZ := Lib.hid hb.size
              clear hnr hpm hbad hen hsuc hpair hz hy hb hl hlt hx hxn hout hdi
              go_wp2_with fail
              refine KC.out.mono ?_
              rintro e w6 ⟨rfl, G3, A3, c3, hz3, hn3, hnt3, ho3⟩
              have HZ3 := Lib.hid hz3
              have HY3 := Lib.hid (HY.out.step hn3 hnt3 HSZ.out)
              have HB3 := Lib.hid (HB.out.trans (ho3.below HSZ.out (fun i hi => HY.out.all hi)))
              clear hz3 hn3 hnt3 ho3 HY HB KC
              go_wp2_with fail
              go_roundw
              case rel => exact ⟨l + 1, G3, A3, c3, by omega, by go_num, HZ3.out, HY3.out, HB3.out⟩
              case measure => simp [intOf]; omega
            · obtain rfl : l = n := by omega
              have hol : (runG (litQ bs) s0 l).1.out.length = l := by rw [hout, List.length_take, HBS.out.2]; omega
              have KF := (show Calls Try.prog 31 #[.pointer (some ⟨K.g, 0, none⟩), .agg #[.int .i64 1, .int .u8 0, .int .i64 len, .int .u32 (dist : Int)]] wr fun e w' => e = .returned (.bool (fitsP (runG (litQ bs) s0 l).1 1 dist len)) ∧ Only (fun _ => False) wr w' from cfits_any (by_ := 0) (d := dist) hz HN.out.2 ⟨hnr.r0, hnr.r1, hnr.r2, hnr.r3⟩)
              rw [match_fits hen] at KF
              have HB := Lib.hid hb
              have ed : IntKind.i64.wrap (dist : Int) = (dist : Int) := IntWalk.i64_in _ (by have := HN.out.2; omega)
              have gl : ¬ (l : Int) < (l : Int) := by omega
              clear hz hy hb hnr hpm hbad hen hout hl hlt
              by_cases c1' : 2 ≤ len
              · by_cases c2' : len ≤ 273
                · by_cases c3' : dist < l
                  · have c3i : (dist : Int) < (l : Int) := by omega
                    by_cases c4' : dist < dict
                    · have c4i : (dist : Int) < (dict : Int) := by omega
                      have hv : (decide (2 ≤ len) && decide (len ≤ 273) && decide (dist < (runG (litQ bs) s0 l).1.out.length) && decide (dist < (runG (litQ bs) s0 l).1.dict)) = true := by rw [hol, hdi]; simp [c1', c2', c3', c4']
                      rw [hv] at KF
                      have KF := Lib.hid KF
                      clear hv hol hdi
                      go_wp2_with fail
                      refine KF.out.mono ?_
                      rintro e w7 ⟨rfl, ho7⟩
                      have HB7 := Lib.hid (HB.out.trans (ho7.below HB.out.size (fun _ h => h.elim)))
                      have q3 : w7.cell? ⟨w.heap.size, 3, none⟩ = some (.int .i64 (dict : Int)) := (HBK.out.below HB7.out).cell 3
                      clear ho7 KF
                      go_wp2_with fail
                      go_ret
                      exact ⟨rfl, HB1.out.trans (HB7.out.mono HB1.out.size)⟩
                    · have c4i : ¬ (dist : Int) < (dict : Int) := by omega
                      have hv : (decide (2 ≤ len) && decide (len ≤ 273) && decide (dist < (runG (litQ bs) s0 l).1.out.length) && decide (dist < (runG (litQ bs) s0 l).1.dict)) = false := by rw [hol, hdi]; simp [c4']
                      rw [hv] at KF
                      have KF := Lib.hid KF
                      clear hv hol hdi
                      go_wp2_with fail
                      refine KF.out.mono ?_
                      rintro e w7 ⟨rfl, ho7⟩
                      have HB7 := Lib.hid (HB.out.trans (ho7.below HB.out.size (fun _ h => h.elim)))
                      have q3 : w7.cell? ⟨w.heap.size, 3, none⟩ = some (.int .i64 (dict : Int)) := (HBK.out.below HB7.out).cell 3
                      clear ho7 KF
                      go_wp2_with fail
                      go_ret
                      exact ⟨rfl, HB1.out.trans (HB7.out.mono HB1.out.size)⟩
                  · have c3i : ¬ (dist : Int) < (l : Int) := by omega
                    have hv : (decide (2 ≤ len) && decide (len ≤ 273) && decide (dist < (runG (litQ bs) s0 l).1.out.length) && decide (dist < (runG (litQ bs) s0 l).1.dict)) = false := by rw [hol, hdi]; simp [c3']
                    rw [hv] at KF
                    have KF := Lib.hid KF
                    clear hv hol hdi
                    go_wp2_with fail
                    refine KF.out.mono ?_
                    rintro e w7 ⟨rfl, ho7⟩
                    have HB7 := Lib.hid (HB.out.trans (ho7.below HB.out.size (fun _ h => h.elim)))
                    have q3 : w7.cell? ⟨w.heap.size, 3, none⟩ = some (.int .i64 (dict : Int)) := (HBK.out.below HB7.out).cell 3
                    clear ho7 KF
                    go_wp2_with fail
                    go_ret
                    exact ⟨rfl, HB1.out.trans (HB7.out.mono HB1.out.size)⟩
                · have hv : (decide (2 ≤ len) && decide (len ≤ 273) && decide (dist < (runG (litQ bs) s0 l).1.out.length) && decide (dist < (runG (litQ bs) s0 l).1.dict)) = false := by rw [hol, hdi]; simp [c2']
                  rw [hv] at KF
                  have KF := Lib.hid KF
                  clear hv hol hdi
                  go_wp2_with fail
                  refine KF.out.mono ?_
                  rintro e w7 ⟨rfl, ho7⟩
                  have HB7 := Lib.hid (HB.out.trans (ho7.below HB.out.size (fun _ h => h.elim)))
                  have q3 : w7.cell? ⟨w.heap.size, 3, none⟩ = some (.int .i64 (dict : Int)) := (HBK.out.below HB7.out).cell 3
                  clear ho7 KF
                  go_wp2_with fail
                  go_ret
                  exact ⟨rfl, HB1.out.trans (HB7.out.mono HB1.out.size)⟩
              · have hv : (decide (2 ≤ len) && decide (len ≤ 273) && decide (dist < (runG (litQ bs) s0 l).1.out.length) && decide (dist < (runG (litQ bs) s0 l).1.dict)) = false := by rw [hol, hdi]; simp [c1']
                rw [hv] at KF
                have KF := Lib.hid KF
                clear hv hol hdi
                go_wp2_with fail
                refine KF.out.mono ?_
                rintro e w7 ⟨rfl, ho7⟩
                have HB7 := Lib.hid (HB.out.trans (ho7.below HB.out.size (fun _ h => h.elim)))
                have q3 : w7.cell? ⟨w.heap.size, 3, none⟩ = some (.int .i64 (dict : Int)) := (HBK.out.below HB7.out).cell 3
                clear ho7 KF
                go_wp2_with fail
                go_ret
                exact ⟨rfl, HB1.out.trans (HB7.out.mono HB1.out.size)⟩
end Go.Proofs.Ytjgdjobhhdhfjaa
