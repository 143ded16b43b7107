/-
  Two cursors over the same bytes, the program's and the reference's, at the same place: what a reading of one leaves of the other.
-/
import Derived.Test.YtolkgljbphgacaaScript
import Derived.Test.YtolkgljbphgacaaRefTell
namespace Go.Proofs.Ytolkgljbphgacaa
open Go.RowKit

/-- The two cursors' blocks and rows lie apart, and all that was there at w0 from the program's. -/
structure Apart (w0 : World) (g gr : Nat) (lo lr : Nat → Prop) : Prop where
  src : w0.heap.size ≤ g
  ref : w0.heap.size ≤ gr
  ne : g ≠ gr
  lo : ∀ b, lo b → w0.heap.size ≤ b ∧ b < gr
  lr : ∀ b, lr b → b < w0.heap.size

/-- Both cursors have read k bytes and have this code. -/
structure Both (w0 : World) (g gr : Nat) (lo lr : Nat → Prop) (bs : List UInt8) (k : Nat) (code : Int) (W : World) : Prop where
  src : Cur 65 W g lo bs k code
  ref : Cur 30 W gr lr bs k code
  below : Below w0.heap.size w0 W

section
variable {w0 W W' : World} {g gr : Nat} {lo lr : Nat → Prop} {bs : List UInt8} {k : Nat} {code : Int}
theorem Both.drewN (h : Both w0 g gr lo lr bs k code W) (n : Nat) : Both w0 g gr lo lr bs k code (W.drewN n) := ⟨h.src.drewN n, h.ref.drewN n, below_drewN h.below n⟩
/-- the program's cursor was read: the reference's stays -/
theorem Both.read (h : Both w0 g gr lo lr bs k code W) (a : Apart w0 g gr lo lr) (hg : W.grownBy W' (some g)) :
    Cur 30 W' gr lr bs k code ∧ Below w0.heap.size w0 W' := by
  refine ⟨h.ref.grown hg fun j hj => ?_, h.below.grown hg h.below.size fun j hj => ?_⟩
  · injection hj with hj
    subst hj
    exact ⟨fun e => a.ne e.symm, fun hl => by have := a.lr _ hl; have := a.src; omega⟩
  · injection hj with hj
    subst hj
    exact a.src
/-- then the reference's: the program's stays -/
theorem Both.then_ {k' : Nat} {code' : Int} (a : Apart w0 g gr lo lr) (h1 : Cur 65 W g lo bs k' code') (hb : Below w0.heap.size w0 W)
    (hg : W.grownBy W' (some gr)) (h2 : Cur 30 W' gr lr bs k' code') : Both w0 g gr lo lr bs k' code' W' := by
  refine ⟨h1.grown hg fun j hj => ?_, h2, hb.grown hg hb.size fun j hj => ?_⟩
  · injection hj with hj
    subst hj
    exact ⟨a.ne, fun hl => Nat.lt_irrefl _ (a.lo _ hl).2⟩
  · injection hj with hj
    subst hj
    exact a.ref
/-- a store into a block that is neither cursor's nor a row of theirs, and was not there at w0 -/
theorem Both.store (h : Both w0 g gr lo lr bs k code W) {p : Addr} (h0 : w0.heap.size ≤ p.block) (h1 : p.block ≠ g) (h2 : p.block ≠ gr) (h3 : ¬ lo p.block) (h4 : ¬ lr p.block) (u : Value) :
    Both w0 g gr lo lr bs k code (W.setCell p u) := by
  have hg : W.grownBy (W.setCell p u) (some p.block) := only_setCell (World.grownBy.refl W _) (.inl rfl) u
  refine ⟨h.src.grown hg fun j hj => ?_, h.ref.grown hg fun j hj => ?_, h.below.setCell h0 u⟩
  · injection hj with hj
    subst hj
    exact ⟨fun e => h1 e.symm, h3⟩
  · injection hj with hj
    subst hj
    exact ⟨fun e => h2 e.symm, h4⟩
theorem Both.onward (h : Both w0 g gr lo lr bs k code W) (hb : Below W.heap.size W W') : Both w0 g gr lo lr bs k code W' :=
  ⟨h.src.below hb, h.ref.below hb, h.below.trans (hb.mono h.below.size)⟩
end
end Go.Proofs.Ytolkgljbphgacaa
