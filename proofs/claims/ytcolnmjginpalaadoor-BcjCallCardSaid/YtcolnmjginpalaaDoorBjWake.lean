/-
  The beginning of the laws of stage 14.
-/
import Derived.Test.YtcolnmjginpalaaDoorBjThru
import Derived.Test.YtcolnmjginpalaaDoorBytN
namespace Go.Proofs.YtcolnmjginpalaaDoor
set_option linter.unusedVariables false
set_option linter.unusedSimpArgs false
open Go.RowKit

theorem lit5 (w : World) (a b c d f : UInt8) : Sl (w.alloc (.cells #[.int .u8 (a.toNat : Int), .int .u8 (b.toNat : Int), .int .u8 (c.toNat : Int), .int .u8 (d.toNat : Int), .int .u8 (f.toNat : Int)] 5)) (some ⟨w.heap.size, 0, none⟩) 5 (bv [a, b, c, d, f]) :=
  sl_lit w 5 #[.int .u8 (a.toNat : Int), .int .u8 (b.toNat : Int), .int .u8 (c.toNat : Int), .int .u8 (d.toNat : Int), .int .u8 (f.toNat : Int)] (by simp)
theorem cod_awk : gN true 0 0 [232, 0, 0, 0, 0] = [232, 5, 0, 0, 0] := by
  rw [gN_turn (by decide) (by decide)]
  have h : ([0, 0, 0, 0] : List UInt8).drop 4 = [] := rfl
  rw [h, gN_nil]
  decide
theorem dec_awk : gN false 0 0 [232, 5, 0, 0, 0] = [232, 0, 0, 0, 0] := by
  rw [← cod_awk]
  exact gN_back _ _ _ _ rfl (by decide)
set_option maxRecDepth 100000 in
set_option maxHeartbeats 4000000 in
theorem awake14_any {w : World} (hT : Tabs w) : Calls Tryd.prog 8 #[] w fun e w' => e = .returned (.bool true) ∧ Below w.heap.size w w' := by
  have H0 := Lib.hid (lit5 w 232 0 0 0 0)
  have HB0 := Lib.hid ((Below.refl w.heap.size w).alloc (Nat.le_refl _) (.cells #[.int .u8 232, .int .u8 0, .int .u8 0, .int .u8 0, .int .u8 0] 5))
  have HT := Lib.hid hT
  clear hT
  go_enter Tryd.func8, Tryd.ntmps8
  go_wp2_with fail
  refine (bCode_any (cp := 5) H0.out (by decide) (HT.out.below HB0.out)).mono ?_
  rintro e w1 ⟨q1, rfl, h1, h2, h3⟩
  rw [cod_awk] at h1
  have H1 := Lib.hid h1
  have HB1 := Lib.hid (HB0.out.trans (h3.mono HB0.out.size))
  clear h1 h2 h3 H0 HB0
  go_wp2_with fail
  have K3 := bytesSame_any (ca := 5) (cb := 5) (H1.out.alloc (.cells #[.int .u8 232, .int .u8 5, .int .u8 0, .int .u8 0, .int .u8 0] 5)) (lit5 w1 232 5 0 0 0) (by decide)
  refine K3.mono ?_
  rintro e w3 ⟨rfl, d3, rfl⟩
  have H1 := Lib.hid ((H1.out.alloc (.cells #[.int .u8 232, .int .u8 5, .int .u8 0, .int .u8 0, .int .u8 0] 5)).drewN d3)
  have HB3 := Lib.hid (below_drewN (HB1.out.alloc HB1.out.size (.cells #[.int .u8 232, .int .u8 5, .int .u8 0, .int .u8 0, .int .u8 0] 5)) d3)
  clear K3 HB1
  generalize (w1.alloc (.cells #[.int .u8 232, .int .u8 5, .int .u8 0, .int .u8 0, .int .u8 0] 5)).drewN d3 = w4 at *
  go_wp2_with fail
  refine (bDecode_any (cp := 5) H1.out (by decide) (HT.out.below HB3.out)).mono ?_
  rintro e w5 ⟨q5, rfl, h1, h2, h3⟩
  rw [dec_awk] at h1
  have H5 := Lib.hid h1
  have HB5 := Lib.hid (HB3.out.trans (h3.mono HB3.out.size))
  clear h1 h2 h3 H1 HB3
  go_wp2_with fail
  have K6 := bytesSame_any (ca := 5) (cb := 5) (H5.out.alloc (.cells #[.int .u8 232, .int .u8 0, .int .u8 0, .int .u8 0, .int .u8 0] 5)) (lit5 w5 232 0 0 0 0) (by decide)
  refine K6.mono ?_
  rintro e w6 ⟨rfl, d6, rfl⟩
  have HB6 := Lib.hid (below_drewN (HB5.out.alloc HB5.out.size (.cells #[.int .u8 232, .int .u8 0, .int .u8 0, .int .u8 0, .int .u8 0] 5)) d6)
  clear K6 HB5 H5
  go_wp2_with fail
  go_ret
  exact ⟨rfl, HB6.out⟩
end Go.Proofs.YtcolnmjginpalaaDoor
