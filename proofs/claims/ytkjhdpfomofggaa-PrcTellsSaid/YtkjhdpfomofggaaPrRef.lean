/-
  The reference's decoder: each call a contract.
-/
import Derived.Test.YtkjhdpfomofggaaRows
import Derived.Test.YtkjhdpfomofggaaArith
import Derived.Test.YtkjhdpfomofggaaPrPure
import Derived.Test.YtkjhdpfomofggaaMem
import Derived.Tactics
import Derived.Tactics2
import Derived.Laws.Pointers
import Derived.RegionTactic
import Derived.RegionCalls
import Derived.BigQuiet
import Derived.Deep.RegionLaw
namespace Go.Proofs.Ytkjhdpfomofggaa
open Go.RowKit

def decCells (A : Option Addr) (n c at_ r k : Nat) (b : Bool) : Array Value := #[.slice A n c, .int .i64 (at_ : Int), .int .u64 (r : Int), .int .u64 (k : Int), .bool b]

section
variable {g n c at_ r k : Nat} {A : Option Addr} {w : World} {bs : List UInt8} {bad : Bool}

set_option maxHeartbeats 1000000 in
theorem next_bad (hB : Blk w g 40 (decCells A n c at_ r k true)) :
    Calls Try.prog 32 #[.pointer (some ⟨g, 0, none⟩)] w fun e w' => e = .returned (.int .u64 0) ∧ Blk w' g 40 (decCells A n c at_ r k true) ∧ w.grownBy w' (some g) := by
  have h1 : w.cell? ⟨g, 1, none⟩ = some (.int .i64 (at_ : Int)) := hB.cell 1
  have h0 : w.cell? ⟨g, 0, none⟩ = some (.slice A n c) := hB.cell 0
  have h4 : w.cell? ⟨g, 4, none⟩ = some (.bool true) := hB.cell 4
  have f4 : w.frozen? ⟨g, 4, none⟩ = false := hB.free 4
  have HB := Lib.hid hB
  clear hB
  go_enter Try.func32, Try.ntmps32
  go_wp2_with fail
  go_quiet (fail)
  go_wp2_with fail
  go_ret
  exact ⟨rfl, HB.out.put 4 _, only_setCell (only_drewN (World.grownBy.refl w _) _) (.inl rfl) _⟩

set_option maxHeartbeats 1000000 in
theorem next_end (hB : Blk w g 40 (decCells A n c n r k false)) (hn : n ≤ 1000000000) :
    Calls Try.prog 32 #[.pointer (some ⟨g, 0, none⟩)] w fun e w' => e = .returned (.int .u64 0) ∧ Blk w' g 40 (decCells A n c n r k true) ∧ w.grownBy w' (some g) := by
  have h1 : w.cell? ⟨g, 1, none⟩ = some (.int .i64 (n : Int)) := hB.cell 1
  have h0 : w.cell? ⟨g, 0, none⟩ = some (.slice A n c) := hB.cell 0
  have h4 : w.cell? ⟨g, 4, none⟩ = some (.bool false) := hB.cell 4
  have f4 : w.frozen? ⟨g, 4, none⟩ = false := hB.free 4
  have HB := Lib.hid hB
  clear hB
  go_enter Try.func32, Try.ntmps32
  go_wp2_with fail
  go_quiet (fail)
  go_wp2_with fail
  go_ret
  exact ⟨rfl, HB.out.put 4 _, only_setCell (only_drewN (World.grownBy.refl w _) _) (.inl rfl) _⟩

set_option maxHeartbeats 1000000 in
theorem next_ok {b o : Nat} {x : UInt8} (hB : Blk w g 40 (decCells (some ⟨b, o, none⟩) n c at_ r k false)) (ha : at_ < n) (hn : n ≤ 1000000000) (hx : w.cell? ⟨b, o + at_, none⟩ = some (.int .u8 (x.toNat : Int))) (hne : b ≠ g) :
    Calls Try.prog 32 #[.pointer (some ⟨g, 0, none⟩)] w fun e w' => e = .returned (.int .u64 (x.toNat : Int)) ∧ Blk w' g 40 (decCells (some ⟨b, o, none⟩) n c (at_ + 1) r k false) ∧ w.grownBy w' (some g) := by
  have h1 : w.cell? ⟨g, 1, none⟩ = some (.int .i64 (at_ : Int)) := hB.cell 1
  have h0 : w.cell? ⟨g, 0, none⟩ = some (.slice (some ⟨b, o, none⟩) n c) := hB.cell 0
  have h4 : w.cell? ⟨g, 4, none⟩ = some (.bool false) := hB.cell 4
  have f1 : w.frozen? ⟨g, 1, none⟩ = false := hB.free 1
  have hlt : ¬ (at_ : Int) ≥ (n : Int) := by omega
  have hi0 : (0 : Int) ≤ (at_ : Int) := by omega
  have hi1 : (at_ : Int) < (n : Int) := by omega
  have e1 : IntKind.i64.wrap ((at_ : Int) + 1) = (at_ : Int) + 1 := IntWalk.i64_in _ (by omega)
  have e2 : IntKind.i64.wrap ((at_ : Int) + 1 - 1) = (at_ : Int) := by rw [show (at_ : Int) + 1 - 1 = at_ by omega]; exact IntWalk.i64_in _ (by omega)
  have hxl := x.toNat_lt
  have HB := Lib.hid hB
  clear hB
  go_enter Try.func32, Try.ntmps32
  go_wp2_with fail
  go_quiet (fail)
  go_wp2_with fail
  have hB2 : Blk ((w.drewN nq).setCell ⟨g, 1, none⟩ (.int .i64 ((at_ : Int) + 1))) g 40 (decCells (some ⟨b, o, none⟩) n c (at_ + 1) r k false) := by
    have := Blk.put (w := w.drewN nq) HB.out 1 (.int .i64 ((at_ : Int) + 1))
    rw [← show ((at_ + 1 : Nat) : Int) = (at_ : Int) + 1 by omega] at this ⊢
    exact this
  have hg2 : w.grownBy ((w.drewN nq).setCell ⟨g, 1, none⟩ (.int .i64 ((at_ : Int) + 1))) (some g) := only_setCell (only_drewN (World.grownBy.refl w _) _) (.inl rfl) _
  have hx2 : ((w.drewN nq).setCell ⟨g, 1, none⟩ (.int .i64 ((at_ : Int) + 1))).cell? ⟨b, o + at_, none⟩ = some (.int .u8 (x.toNat : Int)) := by
    rw [World.cell?_setCell_other _ _ _ _ (by first | (simp; done) | (simp; omega))]
    exact hx
  generalize (w.drewN nq).setCell ⟨g, 1, none⟩ (.int .i64 ((at_ : Int) + 1)) = w2 at hB2 hg2 hx2 ⊢
  have j0 : w2.cell? ⟨g, 0, none⟩ = some (.slice (some ⟨b, o, none⟩) n c) := hB2.cell 0
  have j1 : w2.cell? ⟨g, 1, none⟩ = some (.int .i64 ((at_ : Int) + 1)) := (hB2.cell 1).trans rfl
  have HB2 := Lib.hid hB2
  have HG2 := Lib.hid hg2
  clear hB2 hg2 h0 h1 h4 f1 hx HB
  go_quiet (fail)
  go_wp2_with fail
  go_ret
  exact ⟨rfl, HB2.out, only_drewN HG2.out _⟩
end

/-- Block g is a decoder of the reference over bs; what lies in the source's memory is apart from it. -/
def DecAt (w : World) (g : Nat) (lo : Nat → Prop) (bs : List UInt8) (d : Dc) : Prop :=
  ∃ A c at_ r k bad, Blk w g 40 (decCells A bs.length c at_ r k bad) ∧ Sl w A bs.length (bv bs) ∧ bs.length ≤ c ∧ c ≤ maxLen ∧ at_ ≤ bs.length ∧ (0 < bs.length → ∀ b o, A = some ⟨b, o, none⟩ → lo b ∧ b ≠ g) ∧
    r < 4294967296 ∧ k < 4294967296 ∧ ((bad = true ∧ d = none) ∨ (bad = false ∧ d = some (r, k, bs.drop at_)))

/-- A byte is asked for: the rest of the decoder stays. -/
theorem next_any {g c at_ r k : Nat} {A : Option Addr} {w : World} {bs : List UInt8} {bad : Bool} (hB : Blk w g 40 (decCells A bs.length c at_ r k bad)) (hS : Sl w A bs.length (bv bs)) (ha : at_ ≤ bs.length) (hn : bs.length ≤ 1000000000)
    (hne : 0 < bs.length → ∀ b o, A = some ⟨b, o, none⟩ → b ≠ g) :
    Calls Try.prog 32 #[.pointer (some ⟨g, 0, none⟩)] w fun e w' =>
      (∃ x t, bad = false ∧ bs.drop at_ = x :: t ∧ e = .returned (.int .u64 (x.toNat : Int)) ∧ Blk w' g 40 (decCells A bs.length c (at_ + 1) r k false) ∧ at_ + 1 ≤ bs.length ∧ bs.drop (at_ + 1) = t ∧ w.grownBy w' (some g)) ∨
      ((bad = true ∨ bs.drop at_ = []) ∧ e = .returned (.int .u64 0) ∧ Blk w' g 40 (decCells A bs.length c at_ r k true) ∧ w.grownBy w' (some g)) := by
  cases bad
  · by_cases hlt : at_ < bs.length
    · obtain ⟨b, o, rfl, hb, hc⟩ := hS.2 (by omega)
      have hd : bs.drop at_ = bs[at_] :: bs.drop (at_ + 1) := List.drop_eq_getElem_cons hlt
      refine (next_ok (x := bs[at_]) hB hlt hn ?_ (hne (by omega) b o rfl)).mono ?_
      · rw [hc at_ hlt, bv_get _ _ hlt]
        simp [List.getD, hlt]
      · rintro e w' ⟨rfl, h1, h2⟩
        exact .inl ⟨_, _, rfl, hd, rfl, h1, hlt, rfl, h2⟩
    · obtain rfl : at_ = bs.length := by omega
      refine (next_end hB hn).mono ?_
      rintro e w' ⟨rfl, h1, h2⟩
      exact .inr ⟨.inr (by simp), rfl, h1, h2⟩
  · refine (next_bad hB).mono ?_
    rintro e w' ⟨rfl, h1, h2⟩
    exact .inr ⟨.inl rfl, rfl, h1, h2⟩
end Go.Proofs.Ytkjhdpfomofggaa
