/-
  The law DeltaSides: its walk.
-/
import Derived.Test.YtnmihkimkbiakaaDlAwk
namespace Go.Proofs.Ytnmihkimkbiakaa
set_option linter.unusedVariables false
set_option linter.unusedSimpArgs false
open Go.RowKit

section
variable {A : Option Addr} {n c : Nat} {w : World} {d : Int}
set_option maxHeartbeats 1000000 in
theorem rdecodeBad_any (hd : mayD d = false) : Calls Try.prog 12 #[.slice A n c, .int .i64 d] w fun e w' => e = .returned (.tuple #[.slice none 0 0, .int .i64 11]) ∧ w = w' := by
  have h := of_decide_eq_false hd
  by_cases h1 : d < 1
  · clear hd h
    go_enter Try.func12, Try.ntmps12
    go_wp2_with fail
    go_ret2
    exact ⟨rfl, rfl⟩
  · have h2 : d > 256 := by omega
    clear hd h
    go_enter Try.func12, Try.ntmps12
    go_wp2_with fail
    go_ret2
    exact ⟨rfl, rfl⟩
set_option maxHeartbeats 1000000 in
theorem rcodeBad_any (hd : mayD d = false) : Calls Try.prog 10 #[.slice A n c, .int .i64 d] w fun e w' => e = .returned (.tuple #[.slice none 0 0, .int .i64 11]) ∧ w = w' := by
  have h := of_decide_eq_false hd
  by_cases h1 : d < 1
  · clear hd h
    go_enter Try.func10, Try.ntmps10
    go_wp2_with fail
    go_ret2
    exact ⟨rfl, rfl⟩
  · have h2 : d > 256 := by omega
    clear hd h
    go_enter Try.func10, Try.ntmps10
    go_wp2_with fail
    go_ret2
    exact ⟨rfl, rfl⟩
end

set_option maxRecDepth 100000 in
set_option maxHeartbeats 8000000 in
theorem deltaSides_walk {A : Option Addr} {n c : Nat} {bs : List UInt8} {d : Int} {w : World} (hS : Sl w A n (bv bs)) (hnc : n ≤ c) (hc : c ≤ maxLen) :
    Calls Try.prog 3 #[.slice A n c, .int .i64 d] w fun e w' => e = .returned (.bool true) ∧ Below w.heap.size w w' := by
  unfold maxLen at hc
  obtain ⟨i, hi, hz0, hz1, hz2⟩ := info_parts info_u8
  have HS := Lib.hid hS
  have KA := Lib.hid (awake13_any w)
  by_cases h1 : (n : Int) > 32768
  · clear hS hnc hc
    go_enter Try.func3, Try.ntmps3
    go_wp2_with fail
    refine KA.out.mono ?_
    rintro e w1 ⟨rfl, hb⟩
    have HB := Lib.hid hb
    clear hb
    go_wp2_with fail
    go_ret
    exact ⟨rfl, HB.out⟩
  have hn9 : n ≤ 1000000000 := by omega
  have HN := Lib.hid hn9
  clear hS hnc hc
  by_cases hm : mayD d = true
  · have h := of_decide_eq_true hm
    obtain ⟨k, rfl⟩ : ∃ k : Nat, d = (k : Int) := Int.eq_ofNat_of_zero_le (by omega)
    obtain ⟨x, hx⟩ : ∃ x : UInt8, (x.toNat : Int) + 1 = (k : Int) := ⟨UInt8.ofNat (k - 1), by rw [UInt8.toNat_ofNat']; omega⟩
    have HM := Lib.hid (And.intro hm hx)
    have g1 : (k : Int) ≥ 1 := h.1
    have g2 : (k : Int) ≤ 256 := h.2
    clear hm hx h hn9
    go_enter Try.func3, Try.ntmps3
    go_wp2_with fail
    refine KA.out.mono ?_
    rintro e w1 ⟨rfl, hb⟩
    have HB := Lib.hid hb
    clear hb KA
    go_wp2_with (at_builtin; refine wpList_app _ rfl (.tmp 22) (.tmp 23) 22 rfl w1.heap.size 5 i _ 1 Try.underlying22 hi hz0 hz1 hz2 rfl _ 0 [] rfl (own_empty w1 (Nat.le_refl _) _) A n c (bv bs) rfl ((HS.out.below HB.out).alloc _) (bv_one bs) (by have := HN.out; omega) Nat.one_pos (by simp) ?_)
    intro Ao co w2 ho hg
    have HB2 := Lib.hid (show Below w.heap.size w w2 from (HB.out.alloc HB.out.size _).grown hg (by have := HB.out.size; simp; omega) (fun k e => by have := HB.out.size; simp [Value.ownBlock] at e; omega))
    have HO := Lib.hid (own_facts ho).1
    clear ho hg HB
    go_wp2_with fail
    refine (dCode_any (c := co) HO.out HN.out HM.out.1).mono ?_
    rintro e w3 ⟨q3, rfl, h3, _, b3⟩
    have HB3 := Lib.hid (HB2.out.trans (b3.mono HB2.out.size))
    have HO := Lib.hid (HO.out.below b3)
    have H3 := Lib.hid h3
    clear h3 b3 HB2
    go_wp2_with fail
    refine (rcode_any (c := c) (HS.out.below HB3.out) HN.out HM.out.1).mono ?_
    rintro e w4 ⟨A4, c4, rfl, h4, _, b4⟩
    have HB4 := Lib.hid (HB3.out.trans (b4.mono HB3.out.size))
    have HO := Lib.hid (HO.out.below b4)
    have H3 := Lib.hid (H3.out.below b4)
    have H4 := Lib.hid h4
    clear h4 b4 HB3
    go_wp2_with fail
    refine (dDecode_any (c := co) HO.out HN.out HM.out.1).mono ?_
    rintro e w5 ⟨q5, rfl, h5, _, b5⟩
    have HB5 := Lib.hid (HB4.out.trans (b5.mono HB4.out.size))
    have HO := Lib.hid (HO.out.below b5)
    have H3 := Lib.hid (H3.out.below b5)
    have H4 := Lib.hid (H4.out.below b5)
    have H5 := Lib.hid h5
    clear h5 b5 HB4
    go_wp2_with fail
    refine (rdecode_any (c := c) (HS.out.below HB5.out) HN.out HM.out.1).mono ?_
    rintro e w6 ⟨A6, c6, rfl, h6, _, b6⟩
    have HB6 := Lib.hid (HB5.out.trans (b6.mono HB5.out.size))
    have HO := Lib.hid (HO.out.below b6)
    have H3 := Lib.hid (H3.out.below b6)
    have H4 := Lib.hid (H4.out.below b6)
    have H5 := Lib.hid (H5.out.below b6)
    have H6 := Lib.hid h6
    have KP := dprops_any (x := x) (w := w6)
    rw [HM.out.2] at KP
    have KP := Lib.hid KP
    clear h6 b6 HB5
    go_wp2_with fail
    refine KP.out.mono ?_
    rintro e w7 ⟨q7, rfl, h7, _, b7⟩
    have HB7 := Lib.hid (HB6.out.trans (b7.mono HB6.out.size))
    have HO := Lib.hid (HO.out.below b7)
    have H3 := Lib.hid (H3.out.below b7)
    have H4 := Lib.hid (H4.out.below b7)
    have H5 := Lib.hid (H5.out.below b7)
    have H6 := Lib.hid (H6.out.below b7)
    have KQ := dparse_any (c := 1) h7 (by decide) rfl
    rw [show ([x] : List UInt8).getD 0 0 = x from rfl, HM.out.2] at KQ
    have KQ := Lib.hid KQ
    have hw : wrap64 (k : Int) = (k : Int) := IntWalk.wrap64_in _ (by omega)
    clear h7 b7 HB6 KP
    go_wp2_with fail
    refine KQ.out.mono ?_
    rintro e w8 ⟨rfl, rfl⟩
    have K1 := Lib.hid (fun j => bytesSame_any (ca := n) (cb := c4) (H3.out.drewN j) (H4.out.drewN j) HN.out)
    have K2 := Lib.hid (fun j => bytesSame_any (ca := n) (cb := c6) (H5.out.drewN j) (H6.out.drewN j) HN.out)
    have K3 := Lib.hid (fun j => bytesSame_any (ca := co) (cb := c) (HO.out.drewN j) ((HS.out.below HB7.out).drewN j) HN.out)
    have KM := (fun W => dmay_any (k : Int) W)
    rw [HM.out.1] at KM
    have KM := Lib.hid KM
    clear KQ H3 H4 H5 H6 HO
    go_wp2_with fail
    refine (K1.out 0).mono ?_
    rintro e w9 ⟨rfl, j1, rfl⟩
    go_wp2_with fail
    refine (K2.out _).mono ?_
    rintro e w10 ⟨rfl, j2, rfl⟩
    go_wp2_with fail
    refine (K3.out _).mono ?_
    rintro e w11 ⟨rfl, j3, rfl⟩
    go_wp2_with fail
    refine (KM.out _).mono ?_
    rintro e w12 ⟨rfl, rfl⟩
    go_wp2_with fail
    go_ret
    exact ⟨rfl, below_drewN HB7.out _⟩
  · have hm : mayD d = false := by revert hm; cases mayD d <;> simp
    have HM := Lib.hid hm
    have h := of_decide_eq_false hm
    have KM := (fun W => dmay_any d W)
    rw [hm] at KM
    have KM := Lib.hid KM
    clear hm hn9
    by_cases g1 : d ≥ 1
    · have g2 : ¬ d ≤ 256 := by omega
      clear h
      go_enter Try.func3, Try.ntmps3
      go_wp2_with fail
      refine KA.out.mono ?_
      rintro e w1 ⟨rfl, hb⟩
      have HB := Lib.hid hb
      clear hb KA
      go_wp2_with (at_builtin; refine wpList_app _ rfl (.tmp 22) (.tmp 23) 22 rfl w1.heap.size 5 i _ 1 Try.underlying22 hi hz0 hz1 hz2 rfl _ 0 [] rfl (own_empty w1 (Nat.le_refl _) _) A n c (bv bs) rfl ((HS.out.below HB.out).alloc _) (bv_one bs) (by have := HN.out; omega) Nat.one_pos (by simp) ?_)
      intro Ao co w2 ho hg
      have HB2 := Lib.hid (show Below w.heap.size w w2 from (HB.out.alloc HB.out.size _).grown hg (by have := HB.out.size; simp; omega) (fun k e => by have := HB.out.size; simp [Value.ownBlock] at e; omega))
      have HO := Lib.hid (own_facts ho).1
      clear ho hg HB
      go_wp2_with fail
      refine (dCodeBad_any (A := Ao) (n := n) (c := co) HM.out).mono ?_
      rintro e w3 ⟨rfl, rfl⟩
      go_wp2_with fail
      refine (rcodeBad_any (A := A) (n := n) (c := c) HM.out).mono ?_
      rintro e w3 ⟨rfl, rfl⟩
      go_wp2_with fail
      refine (dDecodeBad_any (A := Ao) (n := n) (c := co) HM.out).mono ?_
      rintro e w3 ⟨rfl, rfl⟩
      go_wp2_with fail
      refine (rdecodeBad_any (A := A) (n := n) (c := c) HM.out).mono ?_
      rintro e w3 ⟨rfl, rfl⟩
      go_wp2_with fail
      refine (dpropsBad_any HM.out).mono ?_
      rintro e w3 ⟨rfl, rfl⟩
      go_wp2_with fail
      refine (dparseBad_any (A := none) (n := 0) (c := 0) (by decide)).mono ?_
      rintro e w3 ⟨rfl, rfl⟩
      have K1 := Lib.hid (fun j => bytesSame_any (A := none) (B := none) (n := 0) (ca := 0) (cb := 0) (w := w2.drewN j) (bs := []) Sl.nil Sl.nil (by decide))
      have K3 := Lib.hid (fun j => bytesSame_any (ca := co) (cb := c) (HO.out.drewN j) ((HS.out.below HB2.out).drewN j) HN.out)
      go_wp2_with fail
      refine (K1.out 0).mono ?_
      rintro e w9 ⟨rfl, j1, rfl⟩
      go_wp2_with fail
      refine (K1.out _).mono ?_
      rintro e w10 ⟨rfl, j2, rfl⟩
      go_wp2_with fail
      refine (K3.out _).mono ?_
      rintro e w11 ⟨rfl, j3, rfl⟩
      go_wp2_with fail
      refine (KM.out _).mono ?_
      rintro e w12 ⟨rfl, rfl⟩
      go_wp2_with fail
      go_ret
      exact ⟨rfl, below_drewN HB2.out _⟩
    · clear h
      go_enter Try.func3, Try.ntmps3
      go_wp2_with fail
      refine KA.out.mono ?_
      rintro e w1 ⟨rfl, hb⟩
      have HB := Lib.hid hb
      clear hb KA
      go_wp2_with (at_builtin; refine wpList_app _ rfl (.tmp 22) (.tmp 23) 22 rfl w1.heap.size 5 i _ 1 Try.underlying22 hi hz0 hz1 hz2 rfl _ 0 [] rfl (own_empty w1 (Nat.le_refl _) _) A n c (bv bs) rfl ((HS.out.below HB.out).alloc _) (bv_one bs) (by have := HN.out; omega) Nat.one_pos (by simp) ?_)
      intro Ao co w2 ho hg
      have HB2 := Lib.hid (show Below w.heap.size w w2 from (HB.out.alloc HB.out.size _).grown hg (by have := HB.out.size; simp; omega) (fun k e => by have := HB.out.size; simp [Value.ownBlock] at e; omega))
      have HO := Lib.hid (own_facts ho).1
      clear ho hg HB
      go_wp2_with fail
      refine (dCodeBad_any (A := Ao) (n := n) (c := co) HM.out).mono ?_
      rintro e w3 ⟨rfl, rfl⟩
      go_wp2_with fail
      refine (rcodeBad_any (A := A) (n := n) (c := c) HM.out).mono ?_
      rintro e w3 ⟨rfl, rfl⟩
      go_wp2_with fail
      refine (dDecodeBad_any (A := Ao) (n := n) (c := co) HM.out).mono ?_
      rintro e w3 ⟨rfl, rfl⟩
      go_wp2_with fail
      refine (rdecodeBad_any (A := A) (n := n) (c := c) HM.out).mono ?_
      rintro e w3 ⟨rfl, rfl⟩
      go_wp2_with fail
      refine (dpropsBad_any HM.out).mono ?_
      rintro e w3 ⟨rfl, rfl⟩
      go_wp2_with fail
      refine (dparseBad_any (A := none) (n := 0) (c := 0) (by decide)).mono ?_
      rintro e w3 ⟨rfl, rfl⟩
      have K1 := Lib.hid (fun j => bytesSame_any (A := none) (B := none) (n := 0) (ca := 0) (cb := 0) (w := w2.drewN j) (bs := []) Sl.nil Sl.nil (by decide))
      have K3 := Lib.hid (fun j => bytesSame_any (ca := co) (cb := c) (HO.out.drewN j) ((HS.out.below HB2.out).drewN j) HN.out)
      go_wp2_with fail
      refine (K1.out 0).mono ?_
      rintro e w9 ⟨rfl, j1, rfl⟩
      go_wp2_with fail
      refine (K1.out _).mono ?_
      rintro e w10 ⟨rfl, j2, rfl⟩
      go_wp2_with fail
      refine (K3.out _).mono ?_
      rintro e w11 ⟨rfl, j3, rfl⟩
      go_wp2_with fail
      refine (KM.out _).mono ?_
      rintro e w12 ⟨rfl, rfl⟩
      go_wp2_with fail
      go_ret
      exact ⟨rfl, below_drewN HB2.out _⟩
end Go.Proofs.Ytnmihkimkbiakaa
