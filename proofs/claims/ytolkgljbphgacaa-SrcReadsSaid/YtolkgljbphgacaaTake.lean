/-
  Bytes that are taken, and numbers of a size.
-/
import Derived.Test.YtolkgljbphgacaaNums
namespace Go.Proofs.Ytolkgljbphgacaa
open Go.RowKit

theorem left_le {T : TypeId} {w : World} {g : Nat} {lo : Nat → Prop} {bs : List UInt8} {k : Nat} {code : Int} (h : Cur T w g lo bs k code) : k + (leftOf bs k code).length ≤ bs.length := by
  obtain ⟨_, _, _, _, _, _, h3, _⟩ := h
  unfold leftOf
  split
  · rw [List.length_drop]; omega
  · simp; omega

set_option maxHeartbeats 1000000 in
theorem take_fail {g : Nat} {lo : Nat → Prop} {bs : List UInt8} {k n : Nat} {code : Int} {w : World} (h : Cur 65 w g lo bs k code) (hm : bs.length ≤ 1000000000) (hn : (leftOf bs k code).length < n) :
    Calls Try.prog 17 #[.pointer (some ⟨g, 0, none⟩), .int .u64 (n : Int)] w fun e w' =>
      e = .returned (.slice none 0 0) ∧ Cur 65 w' g lo bs k (over code 3) ∧ w.grownBy w' (some g) := by
  have hl := left_le h
  have HR := Lib.hid (rest_any h)
  have HC := Lib.hid h
  clear h
  generalize leftOf bs k code = r at *
  have e1 : IntKind.u64.wrap (r.length : Int) = (r.length : Int) := u64_in _ (by omega)
  go_enter Try.func17, Try.ntmps17
  go_wp2_with (first
    | (go_at_call 45; refine HR.out.mono ?_; rintro e w1 ⟨B, c, rfl, hcl, hcm, hS, hbg, d, rfl⟩; clear hcl hcm hS hbg)
    | (go_at_call 47; refine (fail_any (HC.out.drewN _)).mono ?_; rintro e w2 ⟨rfl, hc, hg⟩; have HC2 := Lib.hid hc; have HG := Lib.hid hg; clear hc hg))
  go_ret
  exact ⟨rfl, HC2.out, only_of_drewN HG.out⟩

set_option maxHeartbeats 1000000 in
theorem take_ok {g : Nat} {lo : Nat → Prop} {bs : List UInt8} {k n : Nat} {code : Int} {w : World} (h : Cur 65 w g lo bs k code) (hm : bs.length ≤ 1000000000) (hn : n ≤ (leftOf bs k code).length) :
    Calls Try.prog 17 #[.pointer (some ⟨g, 0, none⟩), .int .u64 (n : Int)] w fun e w' =>
      ∃ A' c', e = .returned (.slice A' n c') ∧ w'.ownsRow w.heap.size 5 1 (.slice A' n c') n (bv ((leftOf bs k code).take n)) ∧ Cur 65 w' g lo bs (k + n) code ∧ w.grownBy w' (some g) := by
  have hl := left_le h
  have HR := Lib.hid (rest_any h)
  have HC := Lib.hid h
  clear h
  generalize leftOf bs k code = r at *
  have e1 : IntKind.u64.wrap (r.length : Int) = (r.length : Int) := u64_in _ (by omega)
  go_enter Try.func17, Try.ntmps17
  go_wp2_with (first
    | (go_at_call 45; refine HR.out.mono ?_; rintro e w1 ⟨B, c, rfl, hcl, hcm, hS, hbg, d, rfl⟩; have HS := Lib.hid hS; have HBG := Lib.hid hbg; clear hS hbg)
    | (go_at_call 48; refine (pass_any (n := n) (HC.out.drewN _) rfl (by omega)).mono ?_; rintro e w2 ⟨rfl, hc, hg⟩; have HC2 := Lib.hid hc; have HG := Lib.hid (only_of_drewN hg); clear hc hg))
  have hS2 : Sl w2 B n (bv (r.take n)) := by
    rw [bv_take]
    exact (HS.out.first hn).grown HG.out (fun h0 b o e => (HBG.out (by omega) b o e).2)
  refine (clone_any hS2 (by omega)).mono ?_
  rintro e w3 ⟨A', c', rfl, ho, hb⟩
  have HO := Lib.hid (own_mono ho HG.out.size)
  have HC3 := Lib.hid (HC2.out.below hb)
  have HG3 := Lib.hid (only_then HG.out hb)
  clear ho hb hS2
  go_wp2
  go_ret
  exact ⟨A', c', rfl, HO.out, HC3.out, HG3.out⟩

set_option maxHeartbeats 1000000 in
theorem num_fail {g : Nat} {lo : Nat → Prop} {bs : List UInt8} {k : Nat} {x code : Int} {w : World} (h : Cur 65 w g lo bs k code) (hm : bs.length ≤ 1000000000) (hn : ¬ (x = 1 ∨ x = 2 ∨ x = 4 ∨ x = 8) ∨ ((leftOf bs k code).length : Int) < x) :
    Calls Try.prog 13 #[.pointer (some ⟨g, 0, none⟩), .int .i64 x] w fun e w' =>
      e = .returned (.int .u64 0) ∧ Cur 65 w' g lo bs k (over code 3) ∧ w.grownBy w' (some g) := by
  have hl := left_le h
  have HR := Lib.hid (rest_any h)
  have HC := Lib.hid h
  clear h
  generalize leftOf bs k code = r at *
  have hz := fun w => isSize_any x w
  by_cases hs : x = 1 ∨ x = 2 ∨ x = 4 ∨ x = 8
  · rw [decide_eq_true hs] at hz
    have hlt : (r.length : Int) < x := by
      rcases hn with h | h
      · exact absurd hs h
      · exact h
    have HZ := Lib.hid hz
    clear hz hn hs
    go_enter Try.func13, Try.ntmps13
    go_wp2_with (first
      | (go_at_call 45; refine HR.out.mono ?_; rintro e w1 ⟨B, c, rfl, hcl, hcm, hS, hbg, d, rfl⟩; clear hcl hcm hS hbg)
      | (go_at_call 46; refine (HZ.out _).mono ?_; rintro e w2 ⟨rfl, rfl⟩)
      | (go_at_call 47; refine (fail_any (HC.out.drewN _)).mono ?_; rintro e w2 ⟨rfl, hc, hg⟩; have HC2 := Lib.hid hc; have HG := Lib.hid hg; clear hc hg))
    go_ret
    exact ⟨rfl, HC2.out, only_of_drewN HG.out⟩
  · rw [decide_eq_false hs] at hz
    have HZ := Lib.hid hz
    clear hz hn hs
    go_enter Try.func13, Try.ntmps13
    go_wp2_with (first
      | (go_at_call 45; refine HR.out.mono ?_; rintro e w1 ⟨B, c, rfl, hcl, hcm, hS, hbg, d, rfl⟩; clear hcl hcm hS hbg)
      | (go_at_call 46; refine (HZ.out _).mono ?_; rintro e w2 ⟨rfl, rfl⟩)
      | (go_at_call 47; refine (fail_any (HC.out.drewN _)).mono ?_; rintro e w2 ⟨rfl, hc, hg⟩; have HC2 := Lib.hid hc; have HG := Lib.hid hg; clear hc hg))
    go_ret
    exact ⟨rfl, HC2.out, only_of_drewN HG.out⟩

set_option maxHeartbeats 1000000 in
theorem num_ok {g : Nat} {lo : Nat → Prop} {bs : List UInt8} {k n : Nat} {code : Int} {w : World} (h : Cur 65 w g lo bs k code) (hm : bs.length ≤ 1000000000) (hs : n = 1 ∨ n = 2 ∨ n = 4 ∨ n = 8) (hn : n ≤ (leftOf bs k code).length) :
    Calls Try.prog 13 #[.pointer (some ⟨g, 0, none⟩), .int .i64 (n : Int)] w fun e w' =>
      e = .returned (.int .u64 (leVal ((leftOf bs k code).take n) : Int)) ∧ Cur 65 w' g lo bs (k + n) code ∧ w.grownBy w' (some g) := by
  have hl := left_le h
  have HR := Lib.hid (rest_any h)
  have HC := Lib.hid h
  clear h
  generalize leftOf bs k code = r at *
  have hz := fun w => isSize_any (n : Int) w
  rw [decide_eq_true (by omega)] at hz
  have HZ := Lib.hid hz
  have h8 : n ≤ 8 := by omega
  clear hz hs
  go_enter Try.func13, Try.ntmps13
  go_wp2_with (first
    | (go_at_call 45; refine HR.out.mono ?_; rintro e w1 ⟨B, c, rfl, hcl, hcm, hS, hbg, d, rfl⟩; have HS := Lib.hid hS; have HBG := Lib.hid hbg; clear hS hbg)
    | (go_at_call 46; refine (HZ.out _).mono ?_; rintro e w2 ⟨rfl, rfl⟩)
    | (go_at_call 48; refine (pass_any (n := n) (HC.out.drewN _) rfl (by omega)).mono ?_; rintro e w2 ⟨rfl, hc, hg⟩; have HC2 := Lib.hid hc; have HG := Lib.hid (only_of_drewN hg); clear hc hg))
  have hS2 : Sl w2 B n (bv (r.take n)) := by
    rw [bv_take]
    exact (HS.out.first hn).grown HG.out (fun h0 b o e => (HBG.out (by omega) b o e).2)
  refine (least_any hS2 h8).mono ?_
  rintro e w3 ⟨rfl, rfl⟩
  clear hS2
  go_wp2
  go_ret
  exact ⟨rfl, HC2.out, HG.out⟩
/-- so many bytes: what is told, and where the cursor stands then -/
def takeM (bs : List UInt8) (k : Nat) (code : Int) (n : Nat) : List UInt8 × Nat × Int :=
  if n ≤ (leftOf bs k code).length then ((leftOf bs k code).take n, k + n, code) else ([], k, over code 3)

theorem take_any {g : Nat} {lo : Nat → Prop} {bs : List UInt8} {k n : Nat} {code x : Int} {w : World} (h : Cur 65 w g lo bs k code) (hm : bs.length ≤ 1000000000) (hx : x = (n : Int)) :
    Calls Try.prog 17 #[.pointer (some ⟨g, 0, none⟩), .int .u64 x] w fun e w' =>
      ∃ A' c', e = .returned (.slice A' (takeM bs k code n).1.length c') ∧ w'.ownsRow w.heap.size 5 1 (.slice A' (takeM bs k code n).1.length c') (takeM bs k code n).1.length (bv (takeM bs k code n).1) ∧
        Cur 65 w' g lo bs (takeM bs k code n).2.1 (takeM bs k code n).2.2 ∧ w.grownBy w' (some g) := by
  subst hx
  unfold takeM
  by_cases hn : n ≤ (leftOf bs k code).length
  · rw [if_pos hn]
    refine (take_ok h hm hn).mono ?_
    rintro e w' ⟨A', c', rfl, ho, hc, hg⟩
    have hl : ((leftOf bs k code).take n).length = n := by rw [List.length_take]; omega
    simp only [hl]
    exact ⟨A', c', rfl, ho, hc, hg⟩
  · rw [if_neg hn]
    refine (take_fail h hm (by omega)).mono ?_
    rintro e w' ⟨rfl, hc, hg⟩
    exact ⟨none, 0, rfl, World.ownsRow_nil _ _ _ _, hc, hg⟩
end Go.Proofs.Ytolkgljbphgacaa
