/-
  The program's coder of shares and the reference's, side by side.
-/
import Derived.Test.YtkjhdpfomofggaaPrCon
namespace Go.Proofs.Ytkjhdpfomofggaa
open Go.RowKit

structure Two6 (Pn : World → Nat → (Nat → Prop) → En → Prop) (w wr : World) (B g ba gr : Nat) (cs : Array Value) (P R : En) (G : Nat → Prop) (q : Nat) : Prop where
  pn : Pn wr g G P
  rn : Rn wr gr q R
  al : Blk wr ba 23 cs
  gB : ∀ i, G i → B ≤ i
  n1 : ¬ G gr
  n2 : ¬ G q
  n3 : ¬ G ba
  d1 : ba ≠ gr
  d2 : ba ≠ q
  b1 : B ≤ gr
  b2 : B ≤ q
  bel : Below B w wr

section
variable {Pn : World → Nat → (Nat → Prop) → En → Prop} {w wr w' : World} {B g ba gr q : Nat} {cs : Array Value} {P R T : En} {G : Nat → Prop} {x : Ending}

theorem two6_put (C : CoderCon Pn) (hw : B ≤ w.heap.size) (h : Two6 Pn w wr B g ba gr cs P R G q) (hc : OwnPost (fun w' G' => Pn w' g G' T) wr G (.tuple #[]) x w') :
    x = .returned (.tuple #[]) ∧ ∃ G', Two6 Pn w w' B g ba gr cs T R G' q := by
  obtain ⟨rfl, G', hP, hN, hO⟩ := hc
  obtain ⟨h1, h2, h3, h4, h5, h6, h7, h8, h9, h10, h11, h12⟩ := h
  have l1 := h2.lt.1
  have l2 := h2.lt.2
  have l3 := h3.lt
  have nn : ∀ i, i < wr.heap.size → ¬ G i → ¬ G' i := fun i hi hn hg => by
    rcases hN i hg with h | h
    · exact hn h
    · omega
  exact ⟨rfl, G', hP, h2.only hO h5 h6, h3.only hO h7, con_new hw h12 h4 hN, nn gr l1 h5, nn q l2 h6, nn ba l3 h7, h8, h9, h10, h11, con_below hw h12 h4 hO⟩
theorem two6_ask (C : CoderCon Pn) (hw : B ≤ w.heap.size) (h : Two6 Pn w wr B g ba gr cs P R G q) (hc : PutPost wr gr q T x w') :
    x = .returned (.tuple #[]) ∧ ∃ q', Two6 Pn w w' B g ba gr cs P T G q' := by
  obtain ⟨rfl, q', hR, hq, hO⟩ := hc
  obtain ⟨h1, h2, h3, h4, h5, h6, h7, h8, h9, h10, h11, h12⟩ := h
  have l3 := h3.lt
  have hs := h12.size
  refine ⟨rfl, q', C.only h1 hO (fun i hi hd => ?_), hR, h3.only hO (fun hd => ?_), h4, h5, ?_, h7, h8, ?_, h10, ?_, ?_⟩
  · rcases hd with hd | hd
    · exact h5 (hd ▸ hi)
    · exact h6 (hd ▸ hi)
  · rcases hd with hd | hd
    · exact h8 hd
    · exact h9 hd
  · intro hg
    rcases hq with h | h
    · exact h6 (h ▸ hg)
    · have := C.old h1 hg; omega
  · rcases hq with h | h
    · rw [h]; exact h9
    · omega
  · rcases hq with h | h
    · rw [h]; exact h11
    · omega
  · refine h12.trans (hO.below (Nat.le_trans hw hs) (fun i hi => ?_))
    rcases hi with hi | hi
    · rw [hi]; exact h10
    · rw [hi]; exact h11
theorem Two6.only (C : CoderCon Pn) (hw : B ≤ w.heap.size) (h : Two6 Pn w wr B g ba gr cs P R G q) (hO : Only (fun _ => False) wr w') : Two6 Pn w w' B g ba gr cs P R G q := by
  obtain ⟨h1, h2, h3, h4, h5, h6, h7, h8, h9, h10, h11, h12⟩ := h
  exact ⟨C.only h1 hO (fun _ _ h => h), h2.only hO (fun h => h) (fun h => h), h3.only hO (fun h => h), h4, h5, h6, h7, h8, h9, h10, h11, h12.trans (hO.below (Nat.le_trans hw h12.size) (fun _ h => h.elim))⟩

theorem rn6_told {w : World} {gr q : Nat} {e : En} {bs : List UInt8} (h : Rn w gr q e) (h1 : be bs = e.n) (h2 : bs.length = e.l) : Sl w (some ⟨q, 0, none⟩) e.l (bv bs) := by
  obtain ⟨c, ds, hB, hY, k1, k2, _⟩ := h
  obtain rfl : bs = ds := be_inj _ _ (by omega) (by omega)
  rw [← k2]
  exact hY.sl
theorem rn6_cell {w : World} {gr q : Nat} {e : En} (h : Rn w gr q e) : ∃ c, w.cell? ⟨gr, 0, none⟩ = some (.slice (some ⟨q, 0, none⟩) e.l c) := by
  obtain ⟨c, ds, hB, hY, k1, k2, _⟩ := h
  exact ⟨c, by rw [← k2]; exact hB.cell 0⟩

/-- Behind the finish. -/
structure Done6 (Pn : World → Nat → (Nat → Prop) → En → Prop) (w wr : World) (B g ba gr q l cq : Nat) (cs : Array Value) (G : Nat → Prop) : Prop where
  pn : Pn wr g G En.new
  al : Blk wr ba 23 cs
  gB : ∀ i, G i → B ≤ i
  n3 : ¬ G ba
  bel : Below B w wr
  ce : wr.cell? ⟨gr, 0, none⟩ = some (.slice (some ⟨q, 0, none⟩) l cq)
theorem Done6.drewN (C : CoderCon Pn) {l cq : Nat} (h : Done6 Pn w wr B g ba gr q l cq cs G) (n : Nat) : Done6 Pn w (wr.drewN n) B g ba gr q l cq cs G :=
  ⟨C.only h.pn ((Only.refl (fun _ => False) wr).drewN n) (fun _ _ h => h), h.al.drewN n, h.gB, h.n3, below_drewN h.bel n, h.ce⟩
def FinTwo6 (Pn : World → Nat → (Nat → Prop) → En → Prop) (w : World) (B g ba gr q l cq : Nat) (cs : Array Value) (x : Ending) (w' : World) : Prop :=
  ∃ A m bs G', x = .returned (.slice A l m) ∧ Sl w' A l (bv bs) ∧ Sl w' (some ⟨q, 0, none⟩) l (bv bs) ∧ Done6 Pn w w' B g ba gr q l cq cs G'
theorem two6_fin (C : CoderCon Pn) {cq : Nat} (hw : B ≤ w.heap.size) (h : Two6 Pn w wr B g ba gr cs P P G q) (hlen : P.l ≤ 999999990) (hcq : wr.cell? ⟨gr, 0, none⟩ = some (.slice (some ⟨q, 0, none⟩) P.l cq)) :
    Calls Try.prog 28 #[.pointer (some ⟨g, 0, none⟩)] wr (FinTwo6 Pn w B g ba gr q P.l cq cs) := by
  obtain ⟨h1, h2, h3, h4, h5, h6, h7, h8, h9, h10, h11, h12⟩ := h
  refine (C.finish h1 hlen).mono ?_
  rintro x w' ⟨A, m, bs, G', rfl, hsl, hbe, hbl, hP, hN, hO⟩
  have l3 := h3.lt
  have hs2 := rn6_told (h2.only hO h5 h6) hbe hbl
  rw [hbl] at hsl
  refine ⟨A, m, bs, G', by rw [hbl], hsl, hs2, hP, h3.only hO h7, con_new hw h12 h4 hN, fun hg => ?_, con_below hw h12 h4 hO, (hO.cell (p := ⟨gr, 0, none⟩) h2.lt.1 h5).trans hcq⟩
  rcases hN ba hg with h | h
  · exact h7 h
  · omega
end
end Go.Proofs.Ytkjhdpfomofggaa
