/-
  The filter's properties; the beginning of the laws of stage 13.
-/
import Derived.Test.YtnmihkimkbiakaaDlRefC
namespace Go.Proofs.Ytnmihkimkbiakaa
set_option linter.unusedVariables false
set_option linter.unusedSimpArgs false
open Go.RowKit

set_option maxHeartbeats 1000000 in
theorem dparse_any {A : Option Addr} {n c : Nat} {b : List UInt8} {w : World} (hS : Sl w A n (bv b)) (hn : n ≤ 1000000000) (h1 : n = 1) :
    Calls Try.prog 13 #[.slice A n c] w fun e w' => e = .returned (.tuple #[.int .i64 (((b.getD 0 0).toNat : Int) + 1), .int .i64 0]) ∧ w = w' := by
  subst h1
  obtain ⟨ba, oa, rfl, hba, hca⟩ := hS.2 (by omega)
  have hbl : b.length = 1 := by rw [← bv_length]; exact hS.1
  have k1 : w.cell? ⟨ba, oa, none⟩ = some (.int .u8 ((b.getD 0 0).toNat : Int)) := by
    have := hca 0 (by omega)
    rw [Nat.add_zero] at this
    rw [this, bv_get b _ (by omega)]
  generalize b.getD 0 0 = x at *
  have hx := x.toNat_lt
  have e1 : IntKind.i64.wrap (x.toNat : Int) = (x.toNat : Int) := IntWalk.i64_in _ (by omega)
  have e2 : wrap64 ((x.toNat : Int) + 1) = (x.toNat : Int) + 1 := IntWalk.wrap64_in _ (by omega)
  have e3 : IntKind.i64.wrap ((x.toNat : Int) + 1) = (x.toNat : Int) + 1 := IntWalk.i64_in _ (by omega)
  clear hS hca hba hbl hx
  go_enter Try.func13, Try.ntmps13
  go_wp2_with fail
  go_ret2
  exact ⟨rfl, rfl⟩
set_option maxHeartbeats 1000000 in
theorem dparseBad_any {A : Option Addr} {n c : Nat} {w : World} (h1 : ¬ n = 1) :
    Calls Try.prog 13 #[.slice A n c] w fun e w' => e = .returned (.tuple #[.int .i64 0, .int .i64 11]) ∧ w = w' := by
  have g1 : ¬ (n : Int) = 1 := by omega
  go_enter Try.func13, Try.ntmps13
  go_wp2_with fail
  go_ret2
  exact ⟨rfl, rfl⟩
theorem w_mod (x : UInt8) : wrap64 (x.toNat : Int) % 256 = (x.toNat : Int) := by
  rw [w_u8]
  have := x.toNat_lt
  omega
set_option maxHeartbeats 1000000 in
theorem dprops_any {x : UInt8} {w : World} :
    Calls Try.prog 14 #[.int .i64 ((x.toNat : Int) + 1)] w fun e w' => ∃ q, e = .returned (.slice (some ⟨q, 0, none⟩) 1 1) ∧ Sl w' (some ⟨q, 0, none⟩) 1 (bv [x]) ∧ w.heap.size ≤ q ∧ Below w.heap.size w w' := by
  have hx := x.toNat_lt
  have hm : mayD ((x.toNat : Int) + 1) = true := decide_eq_true (by omega)
  have KM := Lib.hid (dmay_any ((x.toNat : Int) + 1) w)
  rw [hm] at KM
  have e2 : wrap64 ((x.toNat : Int) + 1 - 1) = (x.toNat : Int) := by rw [IntWalk.wrap64_in _ (by omega)]; omega
  have e1 : IntKind.i64.wrap ((x.toNat : Int) + 1 - 1) = (x.toNat : Int) := by rw [IntWalk.i64_in _ (by omega)]; omega
  have e3 : IntKind.u8.wrap (x.toNat : Int) = (x.toNat : Int) := by simp [IntKind.wrap, IntKind.bits, IntKind.signed]; omega
  clear hm hx
  go_enter Try.func14, Try.ntmps14
  go_wp2_with fail
  refine KM.out.mono ?_
  rintro e w1 ⟨rfl, rfl⟩
  go_wp2_with fail
  go_ret
  refine ⟨_, rfl, ?_, Nat.le_refl _, (Below.refl _ _).alloc (Nat.le_refl _) _⟩
  rw [w_mod x]
  exact sl_one _ _ _
set_option maxHeartbeats 1000000 in
theorem dpropsBad_any {d : Int} {w : World} (hm : mayD d = false) :
    Calls Try.prog 14 #[.int .i64 d] w fun e w' => e = .returned (.slice none 0 0) ∧ w = w' := by
  have KM := Lib.hid (dmay_any d w)
  rw [hm] at KM
  go_enter Try.func14, Try.ntmps14
  go_wp2_with fail
  refine KM.out.mono ?_
  rintro e w1 ⟨rfl, rfl⟩
  go_wp2_with fail
  go_ret
  exact ⟨rfl, rfl⟩

theorem lit4 (w : World) (a b c d : UInt8) : Sl (w.alloc (.cells #[.int .u8 (a.toNat : Int), .int .u8 (b.toNat : Int), .int .u8 (c.toNat : Int), .int .u8 (d.toNat : Int)] 5)) (some ⟨w.heap.size, 0, none⟩) 4 (bv [a, b, c, d]) :=
  sl_lit w 5 #[.int .u8 (a.toNat : Int), .int .u8 (b.toNat : Int), .int .u8 (c.toNat : Int), .int .u8 (d.toNat : Int)] (by simp)
theorem cod_awk : codN 1 [1, 2, 4, 7] = [1, 1, 2, 3] := by decide
theorem dec_awk : decN 2 [1, 1, 2, 3] = [1, 1, 3, 4] := by
  have h : codN 2 [1, 1, 3, 4] = [1, 1, 2, 3] := by decide
  rw [← h]
  exact dec_cod (by decide) _
set_option maxRecDepth 100000 in
set_option maxHeartbeats 4000000 in
theorem awake13_any (w : World) : Calls Try.prog 8 #[] w fun e w' => e = .returned (.bool true) ∧ Below w.heap.size w w' := by
  have H0 := Lib.hid (lit4 w 1 2 4 7)
  have HB0 := Lib.hid ((Below.refl w.heap.size w).alloc (Nat.le_refl _) (.cells #[.int .u8 1, .int .u8 2, .int .u8 4, .int .u8 7] 5))
  go_enter Try.func8, Try.ntmps8
  go_wp2_with fail
  refine (dCode_any (d := 1) H0.out (by decide) (by decide)).mono ?_
  rintro e w1 ⟨q1, rfl, h1, h2, h3⟩
  rw [cod_awk] at h1
  have H1 := Lib.hid h1
  have HB1 := Lib.hid (HB0.out.trans (h3.mono HB0.out.size))
  clear h1 h2 h3 H0 HB0
  go_wp2_with fail
  refine (dDecode_any (d := 2) H1.out (by decide) (by decide)).mono ?_
  rintro e w2 ⟨q2, rfl, h1, h2, h3⟩
  rw [dec_awk] at h1
  have H2 := Lib.hid h1
  have H1 := Lib.hid (H1.out.below h3)
  have HB2 := Lib.hid (HB1.out.trans (h3.mono HB1.out.size))
  clear h1 h2 h3 HB1
  go_wp2_with fail
  have K3 := bytesSame_any (ca := 4) (cb := 4) (H1.out.alloc (.cells #[.int .u8 1, .int .u8 1, .int .u8 2, .int .u8 3] 5)) (lit4 w2 1 1 2 3) (by decide)
  refine K3.mono ?_
  rintro e w3 ⟨rfl, d3, rfl⟩
  have H2 := Lib.hid ((H2.out.alloc (.cells #[.int .u8 1, .int .u8 1, .int .u8 2, .int .u8 3] 5)).drewN d3)
  have HB3 := Lib.hid (below_drewN (HB2.out.alloc HB2.out.size (.cells #[.int .u8 1, .int .u8 1, .int .u8 2, .int .u8 3] 5)) d3)
  clear K3 HB2
  generalize (w2.alloc (.cells #[.int .u8 1, .int .u8 1, .int .u8 2, .int .u8 3] 5)).drewN d3 = w4 at *
  go_wp2_with fail
  have K4 := bytesSame_any (ca := 4) (cb := 4) (H2.out.alloc (.cells #[.int .u8 1, .int .u8 1, .int .u8 3, .int .u8 4] 5)) (lit4 w4 1 1 3 4) (by decide)
  refine K4.mono ?_
  rintro e w5 ⟨rfl, d5, rfl⟩
  have HB5 := Lib.hid (below_drewN (HB3.out.alloc HB3.out.size (.cells #[.int .u8 1, .int .u8 1, .int .u8 3, .int .u8 4] 5)) d5)
  clear K4 HB3 H2
  go_wp2_with fail
  go_ret
  exact ⟨rfl, HB5.out⟩
end Go.Proofs.Ytnmihkimkbiakaa
