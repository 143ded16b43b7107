/-
  The law BcjBack, walked.
-/
import Derived.Test.YtcolnmjginpalaaDoorBjWake
namespace Go.Proofs.YtcolnmjginpalaaDoor
set_option linter.unusedVariables false
set_option linter.unusedSimpArgs false
open Go.RowKit

set_option maxRecDepth 100000 in
set_option maxHeartbeats 8000000 in
theorem bcjBack_walk {A : Option Addr} {n c : Nat} {bs : List UInt8} {w : World} (hS : Sl w A n (bv bs)) (hnc : n ≤ c) (hc : c ≤ maxLen) (hT : Tabs w) :
    Calls Tryd.prog 4 #[.slice A n c] w fun e w' => e = .returned (.bool true) ∧ Below w.heap.size w w' := by
  unfold maxLen at hc
  have HS := Lib.hid hS
  have HT := Lib.hid hT
  have KA := Lib.hid (awake14_any hT)
  by_cases h1 : (n : Int) > 32768
  · clear hS hnc hc hT
    go_enter Tryd.func4, Tryd.ntmps4
    go_wp2_with fail
    refine KA.out.mono ?_
    rintro e w1 ⟨rfl, hb⟩
    have HB := Lib.hid hb
    clear hb
    go_wp2_with fail
    go_ret
    exact ⟨rfl, HB.out⟩
  have HN := Lib.hid (show n ≤ 1000000 by omega)
  clear hS hnc hc hT
  go_enter Tryd.func4, Tryd.ntmps4
  go_wp2_with fail
  refine KA.out.mono ?_
  rintro e w1 ⟨rfl, hb⟩
  have HB := Lib.hid hb
  clear hb KA
  go_wp2_with fail
  refine (bCode_any (cp := c) (HS.out.below HB.out) HN.out (HT.out.below HB.out)).mono ?_
  rintro e w2 ⟨q2, rfl, h1, h2, h3⟩
  have H2 := Lib.hid h1
  have HB2 := Lib.hid (HB.out.trans (h3.mono HB.out.size))
  clear h1 h2 h3 HB
  go_wp2_with fail
  refine (bDecode_any (cp := n) H2.out HN.out (HT.out.below HB2.out)).mono ?_
  rintro e w3 ⟨q3, rfl, h1, h2, h3⟩
  rw [gN_back _ _ _ _ rfl (by decide)] at h1
  have H3 := Lib.hid h1
  have HB3 := Lib.hid (HB2.out.trans (h3.mono HB2.out.size))
  clear h1 h2 h3 HB2 H2
  go_wp2_with fail
  refine (bytesSame_any (ca := n) (cb := c) H3.out (HS.out.below HB3.out) (by have := HN.out; omega)).mono ?_
  rintro e w4 ⟨rfl, d, rfl⟩
  have HB4 := Lib.hid (below_drewN HB3.out d)
  clear H3 HB3
  go_wp2_with fail
  go_ret
  exact ⟨rfl, HB4.out⟩
end Go.Proofs.YtcolnmjginpalaaDoor
