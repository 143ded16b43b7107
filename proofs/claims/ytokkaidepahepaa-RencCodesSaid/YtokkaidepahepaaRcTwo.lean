/-
  The program's coder and the reference's, side by side.
-/
import Derived.Test.YtokkaidepahepaaPcAwake
import Derived.Test.YtokkaidepahepaaRcAsk
import Derived.Test.YtokkaidepahepaaRdFresh
import Derived.Test.YtokkaidepahepaaRdCells
namespace Go.Proofs.Ytokkaidepahepaa
open Go.RowKit

/-- The program's coder (block g, its bytes' block G, probabilities b) has come to P, the reference's (block gr, bytes q, probabilities b2) to R; block ba holds cs. -/
structure Two (w wr : World) (B g ba q0 gr b b2 c2 : Nat) (cs : Array Value) (P R : List Nat × En) (G : Option Nat) (q : Nat) : Prop where
  pn : Pn wr g G P.2
  r1 : Row wr b P.1 600
  rn : Rn wr gr q R.2
  r2 : Row wr b2 R.1 c2
  al : Blk wr ba 22 cs
  gG : ∀ x, G = some x → b2 < x
  qq : q = q0 ∨ b2 < q
  ne : G ≠ some q
  bel : Below B w wr
/-- how the blocks lie -/
def Lie (w : World) (B g ba q0 gr b b2 : Nat) : Prop := B ≤ w.heap.size ∧ B ≤ g ∧ g < ba ∧ ba < q0 ∧ q0 < gr ∧ gr < b ∧ b < b2

section
variable {w wr w' : World} {B g ba q0 gr b b2 c2 q : Nat} {cs : Array Value} {P R P' R' : List Nat × En} {G : Option Nat} {x : Ending}

theorem two_put (hL : Lie w B g ba q0 gr b b2) (h : Two w wr B g ba q0 gr b b2 c2 cs P R G q) (hc : CodPost wr g G b 600 P'.1 P'.2 x w') :
    x = .returned (.tuple #[]) ∧ ∃ G', Two w w' B g ba q0 gr b b2 c2 cs P' R G' q := by
  obtain ⟨rfl, G', hP, hN, hR, hO⟩ := hc
  obtain ⟨l0, l1, l2, l3, l4, l5, l6⟩ := hL
  obtain ⟨h1, h2, h3, h4, h5, h6, h7, h8, h9⟩ := h
  have hs := h4.lt
  have hql := h3.lt.2
  have hG : ∀ i, i ≤ b2 → G ≠ some i := fun i hi e => by have := h6 i e; omega
  have out : ∀ i, i ≠ g → G ≠ some i → i ≠ b → ¬ qset g G b i := fun i a1 a2 a3 hh => by
    rcases hh with hh | hh | hh
    · exact a1 hh
    · exact a2 hh
    · exact a3 hh
  refine ⟨rfl, G', hP, hR, h3.only hO (out gr (by omega) (hG gr (by omega)) (by omega)) (out q (by omega) h8 (by omega)), h4.only hO (out b2 (by omega) (hG b2 (by omega)) (by omega)), h5.only hO (out ba (by omega) (hG ba (by omega)) (by omega)), ?_, h7, ?_, ?_⟩
  · intro y hy
    rcases hN y hy with h | h
    · exact h6 y h
    · omega
  · intro e
    rcases hN q e with h | h
    · exact h8 h
    · omega
  · refine below_only h9 hO l0 (fun i hi => ?_)
    rcases hi with hi | hi | hi
    · omega
    · have := h6 i hi; omega
    · omega

theorem two_ask (hL : Lie w B g ba q0 gr b b2) (h : Two w wr B g ba q0 gr b b2 c2 cs P R G q) (hc : AskEPost wr gr q b2 c2 R'.1 R'.2 x w') :
    x = .returned (.tuple #[]) ∧ ∃ q', Two w w' B g ba q0 gr b b2 c2 cs P R' G q' := by
  obtain ⟨rfl, q', hRn, hq, hRow, hO⟩ := hc
  obtain ⟨l0, l1, l2, l3, l4, l5, l6⟩ := hL
  obtain ⟨h1, h2, h3, h4, h5, h6, h7, h8, h9⟩ := h
  have hs := h4.lt
  have out : ∀ i, i ≠ gr → i ≠ q → i ≠ b2 → ¬ three gr q b2 i := fun i a1 a2 a3 hh => by
    rcases hh with hh | hh | hh
    · exact a1 hh
    · exact a2 hh
    · exact a3 hh
  refine ⟨rfl, q', h1.only hO (out g (by omega) (by omega) (by omega)) (fun i hi => out i (by have := h6 i hi; omega) (fun e => h8 (e ▸ hi)) (by have := h6 i hi; omega)), h2.only hO (out b (by omega) (by omega) (by omega)), hRn, hRow, h5.only hO (out ba (by omega) (by omega) (by omega)), h6, ?_, ?_, ?_⟩
  · rcases hq with h | h
    · rw [h]; exact h7
    · right; omega
  · intro e
    rcases hq with h | h
    · exact h8 (h ▸ e)
    · have := h1.old e; omega
  · refine below_only h9 hO l0 (fun i hi => ?_)
    rcases hi with hi | hi | hi <;> omega

theorem Two.only (hL : Lie w B g ba q0 gr b b2) (h : Two w wr B g ba q0 gr b b2 c2 cs P R G q) (hO : Only (fun _ => False) wr w') : Two w w' B g ba q0 gr b b2 c2 cs P R G q := by
  obtain ⟨h1, h2, h3, h4, h5, h6, h7, h8, h9⟩ := h
  exact ⟨h1.only hO (fun h => h) (fun _ _ h => h), h2.only hO (fun h => h), h3.only hO (fun h => h) (fun h => h), h4.only hO (fun h => h), h5.only hO (fun h => h), h6, h7, h8, below_only h9 hO hL.1 (fun _ h => h.elim)⟩
end

/-- The reference's fresh row has a block. -/
theorem ref_row {w : World} {base n c : Nat} {A : Option Addr} (hn : 0 < n) (h : w.ownsRow base 52 1 (.slice A n c) n (pv (List.replicate n 1024))) : ∃ b, A = some ⟨b, 0, none⟩ ∧ base ≤ b ∧ Row w b (List.replicate n 1024) c := by
  have h0 := h
  rcases h.2 with ⟨hv, _⟩ | ⟨g', cap, cur, hv, hb', _⟩
  · injection hv with h1 h2 h3
    omega
  · injection hv with h1 h2 h3
    subst h1
    refine ⟨g', rfl, hb', ?_⟩
    unfold Row
    rw [List.length_replicate]
    obtain ⟨k1, k2⟩ := h0
    refine ⟨k1, ?_⟩
    rcases k2 with k2 | ⟨a1, a2, a3, a4, a5, a6⟩
    · exact .inl k2
    · exact .inr ⟨a1, a2, a3, a4, Nat.zero_le _, a6⟩
/-- What is in its cells when all is coded: equal bytes. -/
theorem rn_told {w : World} {gr q : Nat} {e : En} {bs : List UInt8} (h : Rn w gr q e) (h1 : be bs = e.n) (h2 : bs.length = e.l) : ∃ c, w.cell? ⟨gr, 0, none⟩ = some (.slice (some ⟨q, 0, none⟩) e.l c) ∧ Sl w (some ⟨q, 0, none⟩) e.l (bv bs) := by
  obtain ⟨c, ds, hB, hY, k1, k2, _⟩ := h
  obtain rfl : bs = ds := be_inj _ _ (by omega) (by omega)
  refine ⟨c, ?_, ?_⟩
  · rw [← k2]; exact hB.cell 0
  · rw [← k2]; exact hY.sl
theorem rn_cell {w : World} {gr q : Nat} {e : En} (h : Rn w gr q e) : ∃ c, w.cell? ⟨gr, 0, none⟩ = some (.slice (some ⟨q, 0, none⟩) e.l c) ∧ ∀ w', Only (fun _ => False) w w' → w'.cell? ⟨gr, 0, none⟩ = some (.slice (some ⟨q, 0, none⟩) e.l c) := by
  obtain ⟨c, ds, hB, hY, k1, k2, _⟩ := h
  exact ⟨c, by rw [← k2]; exact hB.cell 0, fun w' hO => by rw [← k2]; exact (hB.only hO (fun h => h)).cell 0⟩

/-- Behind the finish. -/
structure Done (w wr : World) (B g ba gr q l cq : Nat) (cs : Array Value) : Prop where
  pn : Pn wr g none En.new
  al : Blk wr ba 22 cs
  bel : Below B w wr
  ce : wr.cell? ⟨gr, 0, none⟩ = some (.slice (some ⟨q, 0, none⟩) l cq)
theorem Done.drewN {w wr : World} {B g ba gr q l cq : Nat} {cs : Array Value} (h : Done w wr B g ba gr q l cq cs) (n : Nat) : Done w (wr.drewN n) B g ba gr q l cq cs := ⟨h.pn.drewN n, h.al.drewN n, below_drewN h.bel n, h.ce⟩
def FinTwo (w : World) (B g ba gr q l cq : Nat) (cs : Array Value) (x : Ending) (w' : World) : Prop :=
  ∃ A m bs, x = .returned (.slice A l m) ∧ Sl w' A l (bv bs) ∧ Sl w' (some ⟨q, 0, none⟩) l (bv bs) ∧ Done w w' B g ba gr q l cq cs
theorem two_fin {w wr : World} {B g ba q0 gr b b2 c2 q cq : Nat} {cs : Array Value} {P : List Nat × En} {G : Option Nat} (hL : Lie w B g ba q0 gr b b2) (h : Two w wr B g ba q0 gr b b2 c2 cs P P G q) (hlen : P.2.l ≤ 999999990)
    (hcq : wr.cell? ⟨gr, 0, none⟩ = some (.slice (some ⟨q, 0, none⟩) P.2.l cq)) :
    Calls Try.prog 17 #[.pointer (some ⟨g, 0, none⟩)] wr (FinTwo w B g ba gr q P.2.l cq cs) := by
  obtain ⟨l0, l1, l2, l3, l4, l5, l6⟩ := hL
  obtain ⟨h1, h2, h3, h4, h5, h6, h7, h8, h9⟩ := h
  refine (finish_any h1 hlen).mono ?_
  rintro x w' ⟨A, m, bs, rfl, hown, hbe, hbl, hnw, hne, hPn, hO⟩
  have out : ∀ i, i ≠ g → G ≠ some i → ¬ pset g G i := fun i a1 a2 hh => by
    rcases hh with hh | hh
    · exact a1 hh
    · exact a2 hh
  have hG : ∀ i, i ≤ b2 → G ≠ some i := fun i hi e => by have := h6 i e; omega
  have hgr := out gr (by omega) (fun e => by have := h6 gr e; omega)
  obtain ⟨cq', hc, hs⟩ := rn_told (h3.only hO hgr (out q (by omega) h8)) hbe hbl
  have hs2 := (own_facts hown).1
  rw [hbl] at hs2
  refine ⟨A, m, bs, by rw [hbl], hs2, hs, hPn, h5.only hO (out ba (by omega) (fun e => by have := h6 ba e; omega)), ?_, ?_⟩
  · refine below_only h9 hO l0 (fun i hi => ?_)
    rcases hi with hi | hi
    · omega
    · have := h6 i hi; omega
  · exact (hO.cell (p := ⟨gr, 0, none⟩) h3.lt.1 hgr).trans hcq
end Go.Proofs.Ytokkaidepahepaa
