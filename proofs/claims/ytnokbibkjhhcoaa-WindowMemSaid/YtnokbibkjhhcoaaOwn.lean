/-
  What is owned: a call leaves all but its own blocks as they were.
-/
import Derived.Test.YtnokbibkjhhcoaaOnly
namespace Go.Proofs.Ytnokbibkjhhcoaa
open Go.RowKit

/-- what a call leaves: blocks that are owned then were so ahead, or are new; no other has turned -/
def OwnPost (Own : World → (Nat → Prop) → Prop) (w : World) (G : Nat → Prop) (v : Value) (x : Ending) (w' : World) : Prop :=
  x = .returned v ∧ ∃ G', Own w' G' ∧ (∀ i, G' i → G i ∨ w.heap.size ≤ i) ∧ Only G w w'

theorem con_below {w w1 w2 : World} {B : Nat} {G : Nat → Prop} (hB : B ≤ w.heap.size) (h : Below B w w1) (hG : ∀ i, G i → B ≤ i) (hO : Only G w1 w2) : Below B w w2 :=
  h.trans (hO.below (Nat.le_trans hB h.size) hG)
theorem con_new {w w1 : World} {B : Nat} {G G' : Nat → Prop} (hB : B ≤ w.heap.size) (h : Below B w w1) (hG : ∀ i, G i → B ≤ i) (hN : ∀ i, G' i → G i ∨ w1.heap.size ≤ i) : ∀ i, G' i → B ≤ i := fun i hi => by
  rcases hN i hi with h1 | h1
  · exact hG i h1
  · have := h.size; omega
/-- what two own is apart, and stays so behind a call of the first -/
theorem con_apart {w1 w2 : World} {G G' K : Nat → Prop} (hK : ∀ i, K i → i < w1.heap.size) (hd : ∀ i, G i → ¬ K i) (hN : ∀ i, G' i → G i ∨ w1.heap.size ≤ i) (_ : Only G w1 w2) : ∀ i, G' i → ¬ K i := fun i hi hk => by
  rcases hN i hi with h1 | h1
  · exact hd i h1 hk
  · have := hK i hk; omega
end Go.Proofs.Ytnokbibkjhhcoaa
