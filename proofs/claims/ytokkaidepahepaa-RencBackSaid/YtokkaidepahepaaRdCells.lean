/-
  Questions that came in, read in a later world.
-/
import Derived.Test.YtokkaidepahepaaAsks
import Derived.Test.YtokkaidepahepaaOnly
namespace Go.Proofs.Ytokkaidepahepaa
open Go.RowKit

theorem Asks.cells {w wr : World} {B : Option Addr} {m j : Nat} {qs : Nat → Qn} (h : Asks w B m qs) (hb : Below w.heap.size w wr) (hj : j < m) :
    ∃ b o, B = some ⟨b, o, none⟩ ∧ b < w.heap.size ∧ wr.cell? ⟨b, o + j * 4, none⟩ = some (.int .i64 (qs j).k) ∧ wr.cell? ⟨b, o + j * 4 + 1, none⟩ = some (.int .i64 (qs j).a) ∧
      wr.cell? ⟨b, o + j * 4 + 2, none⟩ = some (.int .i64 (qs j).n) ∧ wr.cell? ⟨b, o + j * 4 + 3, none⟩ = some (.int .u32 (qs j).v) := by
  obtain ⟨b, o, e, hlt, hc⟩ := h (by omega)
  obtain ⟨h1, h2, h3, h4⟩ := hc j hj
  exact ⟨b, o, e, hlt, (hb.cell (p := ⟨b, o + j * 4, none⟩) hlt).trans h1, (hb.cell (p := ⟨b, o + j * 4 + 1, none⟩) hlt).trans h2, (hb.cell (p := ⟨b, o + j * 4 + 2, none⟩) hlt).trans h3, (hb.cell (p := ⟨b, o + j * 4 + 3, none⟩) hlt).trans h4⟩
theorem cell_on {w wr wt : World} {b o : Nat} {v : Value} (hb : Below w.heap.size wr wt) (hlt : b < w.heap.size) (h : wr.cell? ⟨b, o, none⟩ = some v) : wt.cell? ⟨b, o, none⟩ = some v := (hb.cell (p := ⟨b, o, none⟩) hlt).trans h
end Go.Proofs.Ytokkaidepahepaa
