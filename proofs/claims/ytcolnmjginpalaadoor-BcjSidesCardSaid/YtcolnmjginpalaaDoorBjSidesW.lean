/-
  The law BcjSides, walked.
-/
import Derived.Test.YtcolnmjginpalaaDoorBjWake
import Derived.Test.YtcolnmjginpalaaDoorBjRfs
namespace Go.Proofs.YtcolnmjginpalaaDoor
set_option linter.unusedVariables false
set_option linter.unusedSimpArgs false
open Go.RowKit

set_option maxRecDepth 100000 in
set_option maxHeartbeats 8000000 in
theorem bcjSides_walk {A : Option Addr} {n c : Nat} {bs : List UInt8} {w : World} (hS : Sl w A n (bv bs)) (hnc : n ≤ c) (hc : c ≤ maxLen) (hT : Tabs w) :
    Calls Tryd.prog 3 #[.slice A n c] w fun e w' => e = .returned (.bool true) ∧ Below w.heap.size w w' := by
  unfold maxLen at hc
  obtain ⟨i, hi, hz0, hz1, hz2⟩ := info_parts info_u8
  have HS := Lib.hid hS
  have HT := Lib.hid hT
  have KA := Lib.hid (awake14_any hT)
  by_cases h1 : (n : Int) > 32768
  · clear hS hnc hc hT
    go_enter Tryd.func3, Tryd.ntmps3
    go_wp2_with fail
    refine KA.out.mono ?_
    rintro e w1 ⟨rfl, hb⟩
    have HB := Lib.hid hb
    clear hb
    go_wp2_with fail
    go_ret
    exact ⟨rfl, HB.out⟩
  have HN := Lib.hid (show n ≤ 1000000 by omega)
  have HN9 := Lib.hid (show n ≤ 1000000000 by omega)
  clear hS hnc hc hT
  go_enter Tryd.func3, Tryd.ntmps3
  go_wp2_with fail
  refine KA.out.mono ?_
  rintro e w1 ⟨rfl, hb⟩
  have HB := Lib.hid hb
  clear hb KA
  go_wp2_with (at_builtin; refine wpList_app _ rfl (.tmp 9) (.tmp 10) 22 rfl w1.heap.size 5 i _ 1 Tryd.underlying22 hi hz0 hz1 hz2 rfl _ 0 [] rfl (own_empty w1 (Nat.le_refl _) _) A n c (bv bs) rfl ((HS.out.below HB.out).alloc _) (bv_one bs) (by have := HN9.out; omega) Nat.one_pos (by simp) ?_)
  intro Ao co w2 ho hg
  have HB2 := Lib.hid (show Below w.heap.size w w2 from (HB.out.alloc HB.out.size _).grown hg (by have := HB.out.size; simp; omega) (fun k e => by have := HB.out.size; simp [Value.ownBlock] at e; omega))
  have HO := Lib.hid (own_facts ho).1
  clear ho hg HB
  go_wp2_with fail
  refine (bDecode_any (cp := co) HO.out HN.out (HT.out.below HB2.out)).mono ?_
  rintro e w3 ⟨q3, rfl, h3, _, b3⟩
  have HB3 := Lib.hid (HB2.out.trans (b3.mono HB2.out.size))
  have HO := Lib.hid (HO.out.below b3)
  have H3 := Lib.hid h3
  clear h3 b3 HB2
  go_wp2_with fail
  refine (rDec_any (cp := c) (HS.out.below HB3.out) HN.out).mono ?_
  rintro e w4 ⟨A4, c4, rfl, h4, _, b4⟩
  have HB4 := Lib.hid (HB3.out.trans (b4.mono HB3.out.size))
  have HO := Lib.hid (HO.out.below b4)
  have H3 := Lib.hid (H3.out.below b4)
  have H4 := Lib.hid h4
  clear h4 b4 HB3
  go_wp2_with fail
  refine (bytesSame_any (ca := n) (cb := c4) H3.out H4.out HN9.out).mono ?_
  rintro e w5 ⟨rfl, d5, rfl⟩
  have HB5 := Lib.hid (below_drewN HB4.out d5)
  have HO := Lib.hid (HO.out.drewN d5)
  clear HB4 H3 H4
  generalize w4.drewN d5 = w5 at *
  go_wp2_with fail
  refine (bCode_any (cp := co) HO.out HN.out (HT.out.below HB5.out)).mono ?_
  rintro e w6 ⟨q6, rfl, h6, _, b6⟩
  have HB6 := Lib.hid (HB5.out.trans (b6.mono HB5.out.size))
  have HO := Lib.hid (HO.out.below b6)
  have H6 := Lib.hid h6
  clear h6 b6 HB5
  go_wp2_with fail
  refine (rCod_any (cp := c) (HS.out.below HB6.out) HN.out).mono ?_
  rintro e w7 ⟨A7, c7, rfl, h7, _, b7⟩
  have HB7 := Lib.hid (HB6.out.trans (b7.mono HB6.out.size))
  have HO := Lib.hid (HO.out.below b7)
  have H6 := Lib.hid (H6.out.below b7)
  have H7 := Lib.hid h7
  clear h7 b7 HB6
  go_wp2_with fail
  refine (bytesSame_any (ca := n) (cb := c7) H6.out H7.out HN9.out).mono ?_
  rintro e w8 ⟨rfl, d8, rfl⟩
  have HB8 := Lib.hid (below_drewN HB7.out d8)
  have HO := Lib.hid (HO.out.drewN d8)
  clear HB7 H6 H7
  generalize w7.drewN d8 = w8 at *
  go_wp2_with fail
  refine (bytesSame_any (ca := co) (cb := c) HO.out (HS.out.below HB8.out) HN9.out).mono ?_
  rintro e w9 ⟨rfl, d9, rfl⟩
  have HB9 := Lib.hid (below_drewN HB8.out d9)
  go_wp2_with fail
  go_ret
  exact ⟨rfl, HB9.out⟩
end Go.Proofs.YtcolnmjginpalaaDoor
