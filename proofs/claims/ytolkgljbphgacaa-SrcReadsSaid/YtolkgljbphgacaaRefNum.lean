/-
  The reference's cursor: bytes that are taken, as one answer, and numbers of a size.
-/
import Derived.Test.YtolkgljbphgacaaRefTake
namespace Go.Proofs.Ytolkgljbphgacaa
open Go.RowKit

theorem curTake_any {g : Nat} {lo : Nat → Prop} {bs : List UInt8} {k n : Nat} {code x : Int} {w : World} (h : Cur 30 w g lo bs k code) (hm : bs.length ≤ 1000000000) (hx : x = (n : Int)) :
    Calls Try.prog 19 #[.pointer (some ⟨g, 0, none⟩), .int .u64 x] w fun e w' =>
      ∃ A' c', e = .returned (.slice A' (takeM bs k code n).1.length c') ∧ w'.ownsRow w.heap.size 5 1 (.slice A' (takeM bs k code n).1.length c') (takeM bs k code n).1.length (bv (takeM bs k code n).1) ∧
        Cur 30 w' g lo bs (takeM bs k code n).2.1 (takeM bs k code n).2.2 ∧ w.grownBy w' (some g) := by
  subst hx
  unfold takeM
  by_cases hz : code = 0
  · subst hz
    by_cases hn : n ≤ (leftOf bs k 0).length
    · rw [if_pos hn]
      refine (curTake_ok h hm hn).mono ?_
      rintro e w' ⟨A', c', rfl, ho, hc, hg⟩
      have hl : ((leftOf bs k 0).take n).length = n := by rw [List.length_take]; omega
      simp only [hl]
      exact ⟨A', c', rfl, ho, hc, hg⟩
    · rw [if_neg hn]
      refine (curTake_none h hm (.inr (by omega))).mono ?_
      rintro e w' ⟨rfl, hc, hg⟩
      exact ⟨none, 0, rfl, World.ownsRow_nil _ _ _ _, hc, hg⟩
  · have hle : leftOf bs k code = [] := by simp [leftOf, hz]
    refine (curTake_none h hm (.inl hz)).mono ?_
    rintro e w' ⟨rfl, hc, hg⟩
    rw [over_ne _ hz] at hc
    by_cases hn : n ≤ (leftOf bs k code).length
    · rw [if_pos hn]
      rw [hle] at hn
      obtain rfl : n = 0 := by simpa using hn
      exact ⟨none, 0, rfl, World.ownsRow_nil _ _ _ _, hc, hg⟩
    · rw [if_neg hn, over_ne _ hz]
      exact ⟨none, 0, rfl, World.ownsRow_nil _ _ _ _, hc, hg⟩

set_option maxHeartbeats 1000000 in
theorem curNum_bad {g : Nat} {lo : Nat → Prop} {bs : List UInt8} {k : Nat} {x code : Int} {w : World} (h : Cur 30 w g lo bs k code) (hn : ¬ (x = 1 ∨ x = 2 ∨ x = 4 ∨ x = 8)) :
    Calls Try.prog 14 #[.pointer (some ⟨g, 0, none⟩), .int .i64 x] w fun e w' =>
      e = .returned (.int .u64 0) ∧ Cur 30 w' g lo bs k (over code 3) ∧ w.grownBy w' (some g) := by
  have HC := Lib.hid h
  have d1 : (x != 1) = true := by simp; omega
  have d2 : (x != 2) = true := by simp; omega
  have d3 : (x != 4) = true := by simp; omega
  have d4 : (x != 8) = true := by simp; omega
  clear h hn
  go_enter Try.func14, Try.ntmps14
  go_wp2_with fail
  refine (curFail_any HC.out).mono ?_
  rintro e w2 ⟨rfl, hc, hg⟩
  have HC2 := Lib.hid hc
  have HG := Lib.hid hg
  clear hc hg
  go_wp2_with fail
  go_ret
  exact ⟨rfl, HC2.out, HG.out⟩

set_option maxHeartbeats 1000000 in
theorem curNum_any {g : Nat} {lo : Nat → Prop} {bs : List UInt8} {k n : Nat} {code : Int} {w : World} (h : Cur 30 w g lo bs k code) (hm : bs.length ≤ 1000000000) (hs : n = 1 ∨ n = 2 ∨ n = 4 ∨ n = 8) :
    Calls Try.prog 14 #[.pointer (some ⟨g, 0, none⟩), .int .i64 (n : Int)] w fun e w' =>
      e = .returned (.int .u64 (leVal (takeM bs k code n).1 : Int)) ∧ Cur 30 w' g lo bs (takeM bs k code n).2.1 (takeM bs k code n).2.2 ∧ w.grownBy w' (some g) := by
  have HT := Lib.hid (fun x hx => curTake_any (n := n) (x := x) h hm hx)
  have h8 : (takeM bs k code n).1.length ≤ 8 := by
    unfold takeM
    split
    · simp; omega
    · simp
  generalize takeM bs k code n = m at HT h8
  have f2 : IntKind.u64.wrap (n : Int) = (n : Int) := u64_in _ (by omega)
  have hcases : ((n : Int) != 1) = false ∨ ((n : Int) != 1) = true ∧ ((n : Int) != 2) = false ∨ ((n : Int) != 1) = true ∧ ((n : Int) != 2) = true ∧ ((n : Int) != 4) = false ∨ ((n : Int) != 1) = true ∧ ((n : Int) != 2) = true ∧ ((n : Int) != 4) = true ∧ ((n : Int) != 8) = false := by
    rcases hs with rfl | rfl | rfl | rfl <;> simp
  have HCS := Lib.hid hcases
  clear hcases h hs
  rcases HCS.out with d1 | ⟨d1, d2⟩ | ⟨d1, d2, d3⟩ | ⟨d1, d2, d3, d4⟩
  all_goals
    go_enter Try.func14, Try.ntmps14
    go_wp2_with fail
    refine (HT.out _ (by first | rfl | exact f2)).mono ?_
    rintro e w2 ⟨A1, c1, rfl, ho, hc, hg⟩
    have HS := Lib.hid (own_facts ho).1
    have HC2 := Lib.hid hc
    have HG := Lib.hid hg
    clear ho hc hg
    go_wp2_with fail
    refine (value_any HS.out h8).mono ?_
    rintro e w3 ⟨rfl, d, rfl⟩
    go_wp2_with fail
    go_ret
    exact ⟨rfl, HC2.out.drewN d, only_drewN HG.out d⟩
end Go.Proofs.Ytolkgljbphgacaa
