/-
  The reference's cursor: fail, what is left.
-/
import Derived.Test.YtolkgljbphgacaaTake
import Derived.Deep.RegionHeld3
namespace Go.Proofs.Ytolkgljbphgacaa
open Go.RowKit

set_option maxHeartbeats 400000 in
theorem curFail_any {g : Nat} {lo : Nat → Prop} {bs : List UInt8} {k : Nat} {code x : Int} {w : World} (h : Cur 30 w g lo bs k code) :
    Calls Try.prog 50 #[.pointer (some ⟨g, 0, none⟩), .int .i64 x] w fun e w' =>
      e = .returned (.tuple #[]) ∧ Cur 30 w' g lo bs k (over code x) ∧ w.grownBy w' (some g) := by
  obtain ⟨A, c, hB, hS, r⟩ := h
  have h2 : w.cell? ⟨g, 2, none⟩ = some (.int .i64 code) := hB.cell 2
  have hf : w.frozen? ⟨g, 2, none⟩ = false := hB.free 2
  have HB := Lib.hid hB
  have HS := Lib.hid hS
  have HR := Lib.hid r
  clear hB hS r
  by_cases hz : code = 0
  · subst hz
    go_enter Try.func50, Try.ntmps50
    go_wp2
    go_end0
    rw [over_zero]
    refine ⟨rfl, ⟨A, c, HB.out.put 2 _, ?_, HR.out⟩, only_setCell (World.grownBy.refl w _) (.inl rfl) _⟩
    refine HS.out.grown (only_setCell (World.grownBy.refl w _) (.inl rfl) _) (fun hn b o e => (HR.out.2.2.2 hn b o e).2)
  · go_enter Try.func50, Try.ntmps50
    go_wp2
    go_end0
    rw [over_ne _ hz]
    exact ⟨rfl, ⟨A, c, HB.out, HS.out, HR.out⟩, World.grownBy.refl w _⟩

set_option maxHeartbeats 400000 in
theorem curLeft_any {g : Nat} {lo : Nat → Prop} {bs : List UInt8} {k : Nat} {code : Int} {w : World} (h : Cur 30 w g lo bs k code) :
    Calls Try.prog 26 #[.pointer (some ⟨g, 0, none⟩)] w fun e w' => e = .returned (.int .i64 ((leftOf bs k code).length : Int)) ∧ ∃ d, w.drewN d = w' := by
  obtain ⟨A, c, hB, hS, r1, r2, r3, r4⟩ := h
  have h0 : w.cell? ⟨g, 0, none⟩ = some (.slice A bs.length c) := hB.cell 0
  have h1 : w.cell? ⟨g, 1, none⟩ = some (.int .i64 k) := hB.cell 1
  have h2 : w.cell? ⟨g, 2, none⟩ = some (.int .i64 code) := hB.cell 2
  unfold maxLen at r2
  clear hB hS r4
  by_cases hz : code = 0
  · have hl : ((leftOf bs k code).length : Int) = (bs.length : Int) - (k : Int) := by
      unfold leftOf
      rw [if_pos hz, List.length_drop]; omega
    rw [hl]
    subst hz
    clear hl
    go_enter Try.func26, Try.ntmps26
    go_wp2_with fail
    go_quiet (fail)
    go_wp2
    go_ret
    exact ⟨rfl, _, rfl⟩
  · have hl : ((leftOf bs k code).length : Int) = 0 := by
      unfold leftOf
      rw [if_neg hz]; rfl
    rw [hl]
    clear hl
    go_enter Try.func26, Try.ntmps26
    go_wp2_with fail
    go_ret
    exact ⟨rfl, 0, rfl⟩
end Go.Proofs.Ytolkgljbphgacaa
