/-
  The program's decoder of shares and the reference's, side by side; a share in a box beside them.
-/
import Derived.Test.YtkjhdpfomofggaaPrCon
namespace Go.Proofs.Ytkjhdpfomofggaa
open Go.RowKit

structure Tl (Pd : World → Nat → Nat → (Nat → Prop) → List UInt8 → Dc → Prop) (w wr : World) (g f gr na : Nat) (A : Option Addr) (bs : List UInt8) (bx : Array Value) (d1 d2 : Dc) (G : Nat → Prop) : Prop where
  pd : Pd wr g f G bs d1
  dr : Dr wr gr A bs d2
  gB : ∀ i, G i → w.heap.size ≤ i
  n1 : ¬ G gr
  n2 : ¬ G na
  n3 : na ≠ gr
  b1 : w.heap.size ≤ gr
  b2 : w.heap.size ≤ na
  hA : 0 < bs.length → ∀ b o, A = some ⟨b, o, none⟩ → b < w.heap.size
  bx : Blk wr na 33 bx
  bel : Below w.heap.size w wr

section
variable {Pd : World → Nat → Nat → (Nat → Prop) → List UInt8 → Dc → Prop} {w wr w' : World} {g f gr na : Nat} {A : Option Addr} {bs : List UInt8} {bx : Array Value} {d1 d2 d' : Dc} {G : Nat → Prop} {x : Ending} {v : Value}

theorem tl_prog (D : DecCon Pd) (h : Tl Pd w wr g f gr na A bs bx d1 d2 G) (hc : OwnPost (fun w' G' => Pd w' g f G' bs d') wr G v x w') : x = .returned v ∧ ∃ G', Tl Pd w w' g f gr na A bs bx d' d2 G' := by
  obtain ⟨rfl, G', hP, hN, hO⟩ := hc
  obtain ⟨h1, h2, h3, h4, h5, h6, h7, h8, h9, h10, h11⟩ := h
  have l1 := h2.lt
  have l2 := h10.lt
  refine ⟨rfl, G', hP, h2.only hO h4 (fun hl b o e hg => by have := h9 hl b o e; have := h3 b hg; omega), con_new (Nat.le_refl _) h11 h3 hN, fun hg => ?_, fun hg => ?_, h6, h7, h8, h9, h10.only hO h5, con_below (Nat.le_refl _) h11 h3 hO⟩
  · rcases hN gr hg with h | h
    · exact h4 h
    · omega
  · rcases hN na hg with h | h
    · exact h5 h
    · omega
theorem tl_ref (D : DecCon Pd) (h : Tl Pd w wr g f gr na A bs bx d1 d2 G) (hc : DrPost wr gr A bs v d' x w') : x = .returned v ∧ Tl Pd w w' g f gr na A bs bx d1 d' G := by
  obtain ⟨rfl, hR, hg⟩ := hc
  obtain ⟨h1, h2, h3, h4, h5, h6, h7, h8, h9, h10, h11⟩ := h
  have hO : Only (fun i => i = gr) wr w' := Only.of_grown hg rfl
  exact ⟨rfl, D.only h1 hO (fun i hi e => h4 (e ▸ hi)), hR, h3, h4, h5, h6, h7, h8, h9, h10.only hO h6, h11.trans (hO.below h11.size (fun i hi => by rw [hi]; exact h7))⟩
theorem Tl.only (D : DecCon Pd) (h : Tl Pd w wr g f gr na A bs bx d1 d2 G) (hO : Only (fun _ => False) wr w') : Tl Pd w w' g f gr na A bs bx d1 d2 G := by
  obtain ⟨h1, h2, h3, h4, h5, h6, h7, h8, h9, h10, h11⟩ := h
  exact ⟨D.only h1 hO (fun _ _ h => h), h2.only hO (fun h => h) (fun _ _ _ _ h => h), h3, h4, h5, h6, h7, h8, h9, h10.only hO (fun h => h), h11.trans (hO.below h11.size (fun _ h => h.elim))⟩
/-- a new box -/
theorem Tl.box (D : DecCon Pd) (h : Tl Pd w wr g f gr na A bs bx d1 d2 G) (bx' : Array Value) : Tl Pd w (wr.alloc (.cells bx' 33)) g f gr wr.heap.size A bs bx' d1 d2 G := by
  have h0 := h.only D ((Only.refl (fun _ => False) wr).alloc (.cells bx' 33))
  have l1 := h.dr.lt
  exact ⟨h0.pd, h0.dr, h0.gB, h0.n1, fun hg => by have := D.old h.pd hg; omega, by omega, h0.b1, h.bel.size, h0.hA, Blk.fresh wr _ _, h0.bel⟩
theorem Dr.cells {w : World} {d : Dc} (h : Dr w gr A bs d) : ∃ at_ k bad, w.cell? ⟨gr, 4, none⟩ = some (.bool bad) ∧ w.cell? ⟨gr, 1, none⟩ = some (.int .i64 ((at_ : Nat) : Int)) ∧ w.cell? ⟨gr, 3, none⟩ = some (.int .u64 ((k : Nat) : Int)) ∧ bad = d.isNone ∧ at_ ≤ bs.length ∧ (∀ r c s, d = some (r, c, s) → c = k ∧ s = bs.drop at_) := by
  obtain ⟨c, at_, r, k, bad, hB, _, _, ha, _, _, hc⟩ := h
  refine ⟨at_, k, bad, hB.cell 4, hB.cell 1, hB.cell 3, ?_, ha, ?_⟩
  · rcases hc with ⟨rfl, rfl⟩ | ⟨rfl, rfl⟩ <;> rfl
  · intro r' c' s' he
    rcases hc with ⟨_, rfl⟩ | ⟨_, rfl⟩
    · cases he
    · injection he with he
      injection he with _ he
      injection he with h1 h2
      exact ⟨h1.symm, h2.symm⟩
end
end Go.Proofs.Ytkjhdpfomofggaa
