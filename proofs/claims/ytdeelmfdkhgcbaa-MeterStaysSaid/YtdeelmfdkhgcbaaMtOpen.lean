/-
  What comes in, opened: a quota by value.
-/
import Derived.Test.YtdeelmfdkhgcbaaMtAsk
import Derived.Test.YtdeelmfdkhgcbaaScript
import Derived.Lib.SmallJoins
namespace Go.Proofs.Ytdeelmfdkhgcbaa
open Go.ChangeShapes Go.WideShapes Go.ChangeAt Go.RowKit

theorem array5 {α : Type} {cs : Array α} (h : cs.size = 5) : ∃ c0 c1 c2 c3 c4, cs = #[c0, c1, c2, c3, c4] := by
  obtain ⟨l⟩ := cs
  match l, h with
  | [c0, c1, c2, c3, c4], _ => exact ⟨c0, c1, c2, c3, c4, rfl⟩

section
variable {H : Type} {enc : TypeId × Value → H} {P : Program} {w : World} {base : Nat} {spare : Nat → Bool} {held : Bool}
theorem open_quota {r : Reach} {b0 : Nat} {t e : TypeId} {f0 f1 f2 f3 f4 : Field} {v : Value} {d : DataW H} {p : List MemPlace} (hs : P.underlying t = some (.struct #[f0, f1, f2, f3, f4])) (hC : P.cellsOf t = 5) (he : P.underlying e = some (.int .i64)) (hc : P.cellsOf e = 1)
    (k0 : f0.type = e ∧ f0.offset = 0) (k1 : f1.type = e ∧ f1.offset = 1) (k2 : f2.type = e ∧ f2.offset = 2) (k3 : f3.type = e ∧ f3.offset = 3) (k4 : f4.type = e ∧ f4.offset = 4)
    (hv : Value.okWide P w r b0 t v) (h : DataW.Trod enc P w base spare held t v d p) :
    ∃ q : Quo, v = .agg (qArr q) ∧ Lit64 q := by
  obtain ⟨cs, rfl, hsz⟩ := okWide_struct hs hv
  obtain ⟨c0, c1, c2, c3, c4, rfl⟩ := array5 (hsz.trans hC)
  obtain ⟨fuel, hf⟩ := h
  obtain ⟨xs, n, _, _, _, hlen, hff⟩ := DataW.trod_struct hs hf
  match xs, hlen with
  | [y0, y1, y2, y3, y4], _ =>
    have g0 := hff 0 f0 rfl
    have g1 := hff 1 f1 rfl
    have g2 := hff 2 f2 rfl
    have g3 := hff 3 f3 rfl
    have g4 := hff 4 f4 rfl
    simp [Value.cells, k0.1, k0.2, hc] at g0
    simp [Value.cells, k1.1, k1.2, hc] at g1
    simp [Value.cells, k2.1, k2.2, hc] at g2
    simp [Value.cells, k3.1, k3.2, hc] at g3
    simp [Value.cells, k4.1, k4.2, hc] at g4
    obtain ⟨n0, e0, _, w0⟩ := DataW.trod_int he g0
    obtain ⟨n1, e1, _, w1⟩ := DataW.trod_int he g1
    obtain ⟨n2, e2, _, w2⟩ := DataW.trod_int he g2
    obtain ⟨n3, e3, _, w3⟩ := DataW.trod_int he g3
    obtain ⟨n4, e4, _, w4⟩ := DataW.trod_int he g4
    simp only [List.cons.injEq, and_true] at e0 e1 e2 e3 e4
    subst e0 e1 e2 e3 e4
    exact ⟨⟨n0, n1, n2, n3, n4⟩, rfl, ⟨bounds_i64 w0, bounds_i64 w1, bounds_i64 w2, bounds_i64 w3, bounds_i64 w4⟩⟩
end

/-- A quota's cells, in the law's own variable. -/
theorem quota_cells {w w1 : World} {t : TypeId} {q : Quo} (hb : Below (w.alloc (.cells (qArr q) t)).heap.size (w.alloc (.cells (qArr q) t)) w1) : Blk w1 w.heap.size t (qArr q) :=
  (Blk.fresh w t (qArr q)).below hb
theorem Fine.code_in {q : Quo} {s : Tel} (h : Fine q s) : s.code = 0 ∨ (101 ≤ s.code ∧ s.code ≤ 105) := h.c0
end Go.Proofs.Ytdeelmfdkhgcbaa
