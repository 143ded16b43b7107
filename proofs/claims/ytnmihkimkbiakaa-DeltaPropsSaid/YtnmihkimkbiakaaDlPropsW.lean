/-
  The law DeltaProps: its walk.
-/
import Derived.Test.YtnmihkimkbiakaaDlAwk
namespace Go.Proofs.Ytnmihkimkbiakaa
set_option linter.unusedVariables false
set_option linter.unusedSimpArgs false
open Go.RowKit

set_option maxRecDepth 100000 in
set_option maxHeartbeats 4000000 in
theorem deltaProps_walk {A : Option Addr} {n c : Nat} {bs : List UInt8} {w : World} (hS : Sl w A n (bv bs)) (hnc : n ≤ c) (hc : c ≤ maxLen) :
    Calls Try.prog 6 #[.slice A n c] w fun e w' => e = .returned (.bool true) ∧ Below w.heap.size w w' := by
  unfold maxLen at hc
  have HS := Lib.hid hS
  have HC := Lib.hid (And.intro hnc hc)
  have KA := Lib.hid (awake13_any w)
  by_cases h1 : n = 1
  · subst h1
    have hbl : bs.length = 1 := by rw [← bv_length]; exact hS.1
    have hb1 : bs = [bs.getD 0 0] := dlist_ext (by rw [hbl]; rfl) fun i hi => by
      obtain rfl : i = 0 := by omega
      rfl
    obtain ⟨ba, oa, rfl, hba, hca⟩ := hS.2 (by omega)
    have hk1 : ∀ W, Below w.heap.size w W → W.cell? ⟨ba, oa, none⟩ = some (.int .u8 ((bs.getD 0 0).toNat : Int)) := fun W hW => by
      rw [hW.cell (p := ⟨ba, oa, none⟩) hba]
      have := hca 0 (by omega)
      rw [Nat.add_zero] at this
      rw [this, bv_get bs _ (by omega)]
    have HK1 := Lib.hid hk1
    have HB1 := Lib.hid hb1
    clear hS hba hca hbl hb1 hk1 hnc hc
    go_enter Try.func6, Try.ntmps6
    go_wp2_with fail
    refine KA.out.mono ?_
    rintro e w1 ⟨rfl, hb⟩
    have HB := Lib.hid hb
    have K2 := Lib.hid (dparse_any (c := c) (HS.out.below hb) (by decide) rfl)
    have k1 := HK1.out w1 hb
    generalize bs.getD 0 0 = x at *
    have e1 : wrap64 ((x.toNat : Int) + 1) = (x.toNat : Int) + 1 := IntWalk.wrap64_in _ (by have := x.toNat_lt; omega)
    have e2 : wrap64 (x.toNat : Int) = (x.toNat : Int) := w_u8 x
    have K3 := Lib.hid (fun W => dprops_any (x := x) (w := W))
    clear hb KA
    go_wp2_with fail
    refine K2.out.mono ?_
    rintro e w2 ⟨rfl, rfl⟩
    go_wp2_with fail
    refine (K3.out w1).mono ?_
    rintro e w3 ⟨q, rfl, h2, _, h3⟩
    have HB3 := Lib.hid (HB.out.trans (h3.mono HB.out.size))
    rw [← HB1.out] at h2
    have K4 := Lib.hid (bytesSame_any (ca := 1) (cb := c) h2 (HS.out.below HB3.out) (by decide))
    clear h2 h3
    go_wp2_with fail
    refine K4.out.mono ?_
    rintro e w4 ⟨rfl, d, rfl⟩
    go_wp2_with fail
    go_ret
    exact ⟨rfl, below_drewN HB3.out d⟩
  · have g1 : ¬ (n : Int) = 1 := by omega
    clear hS hnc hc
    go_enter Try.func6, Try.ntmps6
    go_wp2_with fail
    refine KA.out.mono ?_
    rintro e w1 ⟨rfl, hb⟩
    have HB := Lib.hid hb
    clear hb
    go_wp2_with fail
    refine (dparseBad_any (c := c) h1).mono ?_
    rintro e w2 ⟨rfl, rfl⟩
    go_wp2_with fail
    go_ret
    exact ⟨rfl, HB.out⟩
end Go.Proofs.Ytnmihkimkbiakaa
