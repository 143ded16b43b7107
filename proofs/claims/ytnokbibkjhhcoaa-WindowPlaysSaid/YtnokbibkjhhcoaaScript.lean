/-
  The script of readings, opened: each element has two numbers.
-/
import Derived.Test.YtnokbibkjhhcoaaOpen
import Derived.Deep.SlicePairs
namespace Go.Proofs.Ytnokbibkjhhcoaa
open Go.ChangeShapes Go.WideShapes Go.ChangeAt Go.RowKit

/-- a slice of pairs of numbers -/
def Script (w : World) (B : Option Addr) (m : Nat) (q : Nat → Int × Int) : Prop :=
  0 < m → ∃ b o, B = some ⟨b, o, none⟩ ∧ b < w.heap.size ∧ ∀ i, i < m → w.cell? ⟨b, o + i * 2, none⟩ = some (.int .i64 (q i).1) ∧ w.cell? ⟨b, o + i * 2 + 1, none⟩ = some (.int .i64 (q i).2)

theorem Script.below {w w' : World} {B : Option Addr} {m : Nat} {q : Nat → Int × Int} (h : Script w B m q) (hb : Below w.heap.size w w') : Script w' B m q := by
  intro hm
  obtain ⟨b, o, e, hlt, hc⟩ := h hm
  refine ⟨b, o, e, Nat.lt_of_lt_of_le hlt hb.size, fun i hi => ?_⟩
  rw [hb.cell hlt, hb.cell hlt]
  exact hc i hi

section
variable {H : Type} {enc : TypeId × Value → H} {P : Program} {w : World} {held : Bool}
theorem open_script {t e : TypeId} {f0 f1 : Field} (ht : P.underlying t = some (.slice e)) (he : P.underlying e = some (.struct #[f0, f1]))
    (ce : P.cellsOf e = 2) (o0 : f0.offset = 0) (o1 : f1.offset = 1) (c0 : P.cellsOf f0.type = 1) (c1 : P.cellsOf f1.type = 1) (t0 : P.underlying f0.type = some (.int .i64)) (t1 : P.underlying f1.type = some (.int .i64))
    {B : Option Addr} {len cap : Nat} {d : DataW H} {ps : List MemPlace} (h : DataW.Trod enc P w 0 (fun _ => true) held t (.slice B len cap) d ps) :
    ∃ q : Nat → Int × Int, Script w B len q ∧ (∀ i, i < len → (Lit.int .i64 (q i).1).wf = true ∧ (Lit.int .i64 (q i).2).wf = true) ∧ len ≤ cap ∧ cap ≤ maxLen := by
  obtain ⟨fuel, hf⟩ := h
  rcases Go.Deep.open_slice_pairs ht he ce o0 o1 c0 c1 hf with ⟨hcs, _⟩ | ⟨a, l, c, m, n, V0, V1, D0, D1, P0, P1, hcs, _, hl, hm, hmm, _, hcell⟩
  · simp [Value.cells] at hcs
    obtain ⟨rfl, rfl, rfl⟩ := hcs
    exact ⟨fun _ => (0, 0), fun h => absurd h (by omega), fun i hi => absurd hi (by omega), Nat.le_refl _, by unfold maxLen; omega⟩
  · simp [Value.cells] at hcs
    obtain ⟨rfl, rfl, rfl⟩ := hcs
    simp only [if_true] at hmm
    subst hmm
    have each : ∀ i, i < len → ∃ q : Int × Int, w.cell? (a.add (i * 2)) = some (.int .i64 q.1) ∧ w.cell? (a.add (i * 2 + 1)) = some (.int .i64 q.2) ∧ (Lit.int .i64 q.1).wf = true ∧ (Lit.int .i64 q.2).wf = true := by
      intro i hi
      obtain ⟨h0, h1, g0, g1⟩ := hcell i (by omega)
      obtain ⟨n0, e0, _, w0⟩ := DataW.trod_int t0 g0
      obtain ⟨n1, e1, _, w1⟩ := DataW.trod_int t1 g1
      injection e0 with e0
      injection e1 with e1
      rw [e0] at h0
      rw [e1] at h1
      exact ⟨(n0, n1), h0, h1, w0, w1⟩
    obtain ⟨q, hq⟩ := Go.Deep.choose_lt each
    refine ⟨q, fun hpos => ?_, fun i hi => ⟨(hq i hi).2.2.1, (hq i hi).2.2.2⟩, hl, hm⟩
    have h0 := (hq 0 hpos).1
    have ha : a.add (0 * 2) = a := by simp [Addr.add]
    rw [ha] at h0
    have hs := World.cell?_spot h0
    have hb := World.block_lt_of_cell? _ _ h0
    obtain ⟨b, o, r⟩ := a
    simp only at hs hb
    subst hs
    have hadd : ∀ j, (⟨b, o, none⟩ : Addr).add j = ⟨b, o + j, none⟩ := fun j => by
      unfold Addr.add
      by_cases h : j = 0
      · subst h; simp
      · simp [h]
    refine ⟨b, o, rfl, hb, fun i hi => ?_⟩
    have h1 := (hq i hi).1
    have h2 := (hq i hi).2.1
    rw [hadd] at h1 h2
    exact ⟨h1, h2⟩
end
end Go.Proofs.Ytnokbibkjhhcoaa
