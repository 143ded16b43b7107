/-
  B2CodsW: put together.
-/
import Derived.Test.YtdnkoeafnnohnaaY14
import Derived.Test.YtdnkoeafnnohnaaY16
import Derived.Test.YtdnkoeafnnohnaaY07
set_option linter.unusedVariables false
set_option linter.unusedSimpArgs false
/-
  The law Bcj2Codes: its walk.
-/
namespace Go.Proofs.Ytdnkoeafnnohnaa
set_option linter.unusedVariables false
set_option linter.unusedSimpArgs false
open Go.RowKit

/-- what is coded is told by the bytes -/
theorem holds_same {b : List UInt8} {l m : Nat → List UInt8} (h : Holds b l) (k : Holds b m) : ∀ i, i < 4 → m i = l i := by
  obtain ⟨h0, h1, h2, h3, h4⟩ := h
  obtain ⟨k0, k1, k2, k3, k4⟩ := k
  intro i hi
  have : i = 0 ∨ i = 1 ∨ i = 2 ∨ i = 3 := by omega
  rcases this with rfl | rfl | rfl | rfl
  · rw [h0, k0]
  · rw [h1, k1]
  · rw [h2, k2]
  · exact be_inj _ _ (by rw [h4, k4]) (by rw [h3, k3])
set_option maxRecDepth 100000 in
set_option maxHeartbeats 8000000 in
theorem same_any {w : World} {A B : Nat → Option Addr} {c d : Nat → Nat} {l m : Nat → List UInt8} (hA : FourOk w A c l) (hB : FourOk w B d m) (hlm : ∀ i, i < 4 → m i = l i) :
    Calls Try.prog 12 #[.agg (fourA A c l), .agg (fourA B d m)] w fun e w' => e = .returned (.bool true) ∧ Below w.heap.size w w' := by
  obtain ⟨w1, hw1⟩ : ∃ w1, w1 = w.alloc (.cells (fourA A c l) 24) := ⟨_, rfl⟩
  obtain ⟨w2, hw2⟩ : ∃ w2, w2 = w1.alloc (.cells (fourA B d m) 24) := ⟨_, rfl⟩
  have hb1 : Below w.heap.size w w1 := by rw [hw1]; exact (Below.refl _ _).alloc (Nat.le_refl _) _
  have hs1 : w1.heap.size = w.heap.size + 1 := by rw [hw1]; simp
  have hb2 : Below w1.heap.size w1 w2 := by rw [hw2]; exact (Below.refl _ _).alloc (Nat.le_refl _) _
  have hB1 : Blk w2 w.heap.size 24 (fourA A c l) := by
    have : Blk w1 w.heap.size 24 (fourA A c l) := by rw [hw1]; exact Blk.fresh _ _ _
    exact this.below hb2
  have hB2 : Blk w2 (w.heap.size + 1) 24 (fourA B d m) := by rw [hw2, ← hs1]; exact Blk.fresh _ _ _
  have hbb : Below w.heap.size w w2 := hb1.trans (hb2.mono (by omega))
  have hA2 := hA.below hbb
  have hC2 := hB.below hbb
  have HX := Lib.hid (show ∀ W, Below w2.heap.size w2 W → (W.cell? ⟨w.heap.size, 0, none⟩ = some (.slice (A 0) (l 0).length (c 0)) ∧ W.cell? ⟨w.heap.size, 1, none⟩ = some (.slice (A 1) (l 1).length (c 1)) ∧ W.cell? ⟨w.heap.size, 2, none⟩ = some (.slice (A 2) (l 2).length (c 2)) ∧ W.cell? ⟨w.heap.size, 3, none⟩ = some (.slice (A 3) (l 3).length (c 3))) ∧
      (W.cell? ⟨w.heap.size + 1, 0, none⟩ = some (.slice (B 0) (m 0).length (d 0)) ∧ W.cell? ⟨w.heap.size + 1, 1, none⟩ = some (.slice (B 1) (m 1).length (d 1)) ∧ W.cell? ⟨w.heap.size + 1, 2, none⟩ = some (.slice (B 2) (m 2).length (d 2)) ∧ W.cell? ⟨w.heap.size + 1, 3, none⟩ = some (.slice (B 3) (m 3).length (d 3))) from fun W hW => by
    have h1 := hB1.below hW
    have h2 := hB2.below hW
    exact ⟨⟨h1.cell 0, h1.cell 1, h1.cell 2, h1.cell 3⟩, ⟨h2.cell 0, h2.cell 1, h2.cell 2, h2.cell 3⟩⟩)
  have hK : ∀ i, i < 4 → ∀ W, Below w2.heap.size w2 W → Calls Try.prog 11 #[.slice (A i) (l i).length (c i), .slice (B i) (m i).length (d i)] W (fun e w' => e = .returned (.bool true) ∧ Below w2.heap.size w2 w') := fun i hi W hW => by
    have hs := (hC2.sl i hi).below hW
    have hl := hA2.len i hi
    rw [hlm i hi] at hs ⊢
    refine (bytesSame_any ((hA2.sl i hi).below hW) hs (by omega)).mono ?_
    rintro e w' ⟨h1, n, rfl⟩
    exact ⟨h1, below_drewN hW n⟩
  have K0 := Lib.hid (fun W hW => hK 0 (by decide) W hW)
  have K1 := Lib.hid (fun W hW => hK 1 (by decide) W hW)
  have K2 := Lib.hid (fun W hW => hK 2 (by decide) W hW)
  have K3 := Lib.hid (fun W hW => hK 3 (by decide) W hW)
  have HB := Lib.hid hbb
  unfold fourA at hw1 hw2
  have HW := Lib.hid (And.intro hw1 (And.intro hw2 hs1))
  clear hA hB hlm hb1 hb2 hB1 hB2 hbb hA2 hC2 hK hw1 hw2 hs1
  unfold fourA
  go_enter Try.func12, Try.ntmps12
  go_upto_region 1 with fail
  rw [← HW.out.1, ← HW.out.2.1]
  try rw [HW.out.2.2]
  clear HW
  obtain ⟨⟨x0, x1, x2, x3⟩, y0, y1, y2, y3⟩ := HX.out w2 (Below.refl _ _)
  go_wp2_with fail
  refine (K0.out w2 (Below.refl _ _)).mono ?_
  rintro e v3 ⟨rfl, hb3⟩
  obtain ⟨⟨x0, x1, x2, x3⟩, y0, y1, y2, y3⟩ := HX.out v3 hb3
  have HB3 := Lib.hid hb3
  clear hb3
  go_wp2_with fail
  refine (K1.out v3 HB3.out).mono ?_
  rintro e v4 ⟨rfl, hb4⟩
  obtain ⟨⟨x0, x1, x2, x3⟩, y0, y1, y2, y3⟩ := HX.out v4 hb4
  have HB4 := Lib.hid hb4
  clear hb4
  go_wp2_with fail
  refine (K2.out v4 HB4.out).mono ?_
  rintro e v5 ⟨rfl, hb5⟩
  obtain ⟨⟨x0, x1, x2, x3⟩, y0, y1, y2, y3⟩ := HX.out v5 hb5
  have HB5 := Lib.hid hb5
  clear hb5
  go_wp2_with fail
  refine (K3.out v5 HB5.out).mono ?_
  rintro e v6 ⟨rfl, hb6⟩
  have HB6 := Lib.hid hb6
  clear hb6
  go_wp2_with fail
  go_ret
  exact ⟨rfl, HB.out.trans (HB6.out.mono HB.out.size)⟩
set_option maxRecDepth 100000 in
set_option maxHeartbeats 8000000 in
theorem bcj2Codes_walk {A : Option Addr} {n c : Nat} {bs : List UInt8} {w : World} (hS : Sl w A n (bv bs)) (hnc : n ≤ c) (hc : c ≤ maxLen) :
    Calls Try.prog 4 #[.slice A n c] w fun e w' => e = .returned (.bool true) ∧ Below w.heap.size w w' := by
  obtain ⟨i8, hi8, hz0, hz1, hz2⟩ := info_parts info_u8
  unfold maxLen at hc
  have hl : bs.length = n := by rw [← bv_length]; exact hS.1
  subst hl
  have HS := Lib.hid hS
  have HC := Lib.hid (And.intro hnc hc)
  have KA := Lib.hid (awake15_any w)
  by_cases h1 : (bs.length : Int) > 16384
  · clear hS hnc hc
    go_enter Try.func4, Try.ntmps4
    go_wp2_with fail
    refine KA.out.mono ?_
    rintro e w1 ⟨rfl, hb⟩
    have HB := Lib.hid hb
    clear hb
    go_wp2_with fail
    go_ret
    exact ⟨rfl, HB.out⟩
  · have HD := Lib.hid (show bs.length ≤ 16384 by omega)
    have hap : (0 + bs.length) * 1 ≤ 140737488355328 := by omega
    clear hS hnc hc
    go_enter Try.func4, Try.ntmps4
    go_wp2_with fail
    refine KA.out.mono ?_
    rintro e w1 ⟨rfl, hb⟩
    have HB := Lib.hid hb
    have HS1 := Lib.hid (HS.out.below hb)
    clear hb KA
    go_wp2_with (first
      | (at_builtin; refine wpList_appO _ rfl (.tmp 9) (.tmp 10) 22 rfl w1.heap.size 5 i8 _ 1 Try.underlying22 hi8 hz0 hz1 hz2 rfl _ 0 [] rfl (own_empty w1 (Nat.le_refl _) _) _ bs.length c (bv bs) rfl (HS1.out.alloc _) (bv_one _) hap (by decide) (by simp) ?_)
      | fail)
    intro O c2 w2 ho hg _
    have hO2 : Only (fun i => w1.heap.size ≤ i) w1 w2 := ((Only.refl (fun i => w1.heap.size ≤ i) w1).alloc _).trans (Only.of_grown (S := fun i => w1.heap.size ≤ i) hg (Nat.le_refl _))
    have hB2 : Below w1.heap.size w1 w2 := hO2.below (Nat.le_refl _) (fun i hi => hi)
    have HB2 := Lib.hid (HB.out.trans (hB2.mono HB.out.size))
    have HO := Lib.hid (own_facts ho)
    clear ho hg hO2 hB2 hap HB HS1
    go_wp2_with fail
    refine (b2code_holds HO.out.1 HO.out.2.1 HD.out).mono ?_
    rintro e w3 ⟨A3, c3, l3, rfl, hb3, hF3, hH3⟩
    have HB3 := Lib.hid (HB2.out.trans (hb3.mono HB2.out.size))
    have HF3 := Lib.hid (And.intro hF3 (And.intro hH3 (HO.out.1.below hb3)))
    clear hb3 hF3 hH3
    unfold fourA
    go_wp2_with fail
    refine (rcode_any (HS.out.below HB3.out) HC.out.1 HD.out).mono ?_
    rintro e w4 ⟨A4, c4, l4, rfl, hb4, hF4, hH4⟩
    have HB4 := Lib.hid (HB3.out.trans (hb4.mono HB3.out.size))
    have KS := same_any (HF3.out.1.below hb4) hF4 (holds_same HF3.out.2.1 hH4)
    have HOS := Lib.hid (HF3.out.2.2.below hb4)
    clear hb4 hF4 hH4
    unfold fourA at KS ⊢
    go_wp2_with fail
    refine KS.mono ?_
    rintro e w5 ⟨rfl, hb5⟩
    have HB5 := Lib.hid (HB4.out.trans (hb5.mono HB4.out.size))
    have HOS5 := Lib.hid (HOS.out.below hb5)
    clear KS hb5
    go_wp2_with fail
    refine (bytesSame_any HOS5.out (HS.out.below HB5.out) (by have := HD.out; omega)).mono ?_
    rintro e w6 ⟨rfl, d6, rfl⟩
    go_wp2_with fail
    go_ret
    exact ⟨rfl, below_drewN HB5.out _⟩
end Go.Proofs.Ytdnkoeafnnohnaa
