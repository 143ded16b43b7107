/-
  The answers that each law asks first: awake is true.
-/
import Derived.Test.YtolkgljbphgacaaNumber
import Derived.Test.YtolkgljbphgacaaPutNumber
import Derived.Test.YtolkgljbphgacaaBytes
namespace Go.Proofs.Ytolkgljbphgacaa
open Go.RowKit

set_option maxHeartbeats 1000000 in
theorem awake_any (w : World) :
    Calls Try.prog 11 #[] w fun e w' => e = .returned (.bool true) ∧ Below w.heap.size w w' := by
  have hS := sl_lit w 5 #[.int .u8 128, .int .u8 128, .int .u8 127] (by decide)
  have HN := Lib.hid (new_any (c := 3) (bs := [128, 128, 127]) hS (by decide))
  have s1 : shortAt (leftOf [128, 128, 127] 0 0) = some (128, 2) := by decide +kernel
  have s2 : shortAt (leftOf [128, 128, 127] (0 + 2) 0) = some (127, 1) := by decide +kernel
  have S1 := Lib.hid s1
  have S2 := Lib.hid s2
  clear hS s1 s2
  go_enter Try.func11, Try.ntmps11
  go_wp2_with fail
  refine HN.out.mono ?_
  rintro e w1 ⟨g, rfl, hg, hc, hb⟩
  have HG := Lib.hid hg
  have HC := Lib.hid hc
  have HB := Lib.hid hb
  clear hg hc hb
  go_wp2_with fail
  have hn := number_any HC.out (by decide)
  rw [S1.out] at hn
  refine hn.mono ?_
  clear hn
  rintro e w2 ⟨rfl, hc, hb⟩
  have HC2 := Lib.hid hc
  have HB2 := Lib.hid hb
  clear hc hb
  go_wp2_with fail
  have hn := number_any HC2.out (by decide)
  rw [S2.out] at hn
  refine hn.mono ?_
  clear hn
  rintro e w3 ⟨rfl, hc, hb⟩
  have HC3 := Lib.hid hc
  have HB3 := Lib.hid hb
  clear hc hb
  go_wp2_with fail
  have hl := left_any HC3.out
  rw [show ((leftOf [128, 128, 127] (0 + 2 + 1) 0).length : Int) = 0 by decide +kernel] at hl
  refine hl.mono ?_
  clear hl
  rintro e w4 ⟨rfl, d, rfl⟩
  go_wp2_with fail
  refine (code_any (HC3.out.drewN d)).mono ?_
  rintro e w4 ⟨rfl, rfl⟩
  go_wp2_with fail
  have hp := putNumber_any (A := none) (n := 0) (bs := []) (c := 0) (v := 128) (w := w3.drewN d) Sl.nil (by decide) (by decide)
  rw [show (shortBytes 128) = [128, 128] by decide +kernel] at hp
  refine hp.mono ?_
  clear hp
  rintro e w5 ⟨A, c, rfl, ho, hb⟩
  have HO := Lib.hid ho
  have HB5 := Lib.hid hb
  clear ho hb
  have hS := sl_lit w5 5 #[.int .u8 128, .int .u8 128] (by decide)
  have hq := bytes_any (c := c) (d := 2) (xs := [128, 128]) (ys := [128, 128]) ((own_facts HO.out).1.alloc _) hS (by decide) (by decide)
  rw [decide_eq_true (rfl : ([128, 128] : List UInt8) = [128, 128])] at hq
  have HQ := Lib.hid hq
  clear hS hq
  go_wp2_with fail
  refine HQ.out.mono ?_
  rintro e w6 ⟨rfl, d6, rfl⟩
  go_wp2_with fail
  go_ret
  refine ⟨rfl, below_drewN ?_ _⟩
  have hgz : w.heap.size ≤ g := by have := HG.out; simp at this; omega
  have b0 : Below w.heap.size w (w.alloc (.cells #[.int .u8 128, .int .u8 128, .int .u8 127] 5)) := (Below.refl _ _).alloc (Nat.le_refl _) _
  have b1 := b0.trans (HB.out.mono (by simp))
  have b2 := b1.trans (below_of_only (B := w.heap.size) HB2.out hgz b1.size)
  have b3 := b2.trans (below_of_only (B := w.heap.size) HB3.out hgz b2.size)
  have b4 := (below_drewN b3 d).trans (HB5.out.mono b3.size)
  exact b4.alloc b4.size _
end Go.Proofs.Ytolkgljbphgacaa
