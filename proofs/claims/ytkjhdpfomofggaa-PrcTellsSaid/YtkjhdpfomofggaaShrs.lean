/-
  A list of shares, opened: each element has four numbers (int, uint32, uint32, uint32).
-/
import Derived.ProofKit
import Derived.OpenShut
import Derived.ShutString
import Derived.ChangeOld
import Derived.Below
import Derived.Deep.Grids
import Derived.Deep.SlicePairs
import Derived.Test.YtkjhdpfomofggaaPrPure
namespace Go.Proofs.Ytkjhdpfomofggaa
open Go.ChangeShapes Go.WideShapes Go.ChangeAt Go.RowKit

/-- a slice of shares -/
def Shrs (w : World) (B : Option Addr) (m : Nat) (q : Nat → Shr) : Prop :=
  0 < m → ∃ b o, B = some ⟨b, o, none⟩ ∧ b < w.heap.size ∧ ∀ i, i < m → w.cell? ⟨b, o + i * 4, none⟩ = some (.int .i64 (q i).k) ∧ w.cell? ⟨b, o + i * 4 + 1, none⟩ = some (.int .u32 (q i).s) ∧
    w.cell? ⟨b, o + i * 4 + 2, none⟩ = some (.int .u32 (q i).z) ∧ w.cell? ⟨b, o + i * 4 + 3, none⟩ = some (.int .u32 (q i).t)
structure ShrLit (q : Shr) : Prop where
  k : -9223372036854775808 ≤ q.k ∧ q.k ≤ 9223372036854775807
  s : 0 ≤ q.s ∧ q.s ≤ 4294967295
  z : 0 ≤ q.z ∧ q.z ≤ 4294967295
  t : 0 ≤ q.t ∧ q.t ≤ 4294967295

theorem Shrs.below {w w' : World} {B : Option Addr} {m : Nat} {q : Nat → Shr} (h : Shrs w B m q) (hb : Below w.heap.size w w') : Shrs w' B m q := by
  intro hm
  obtain ⟨b, o, e, hlt, hc⟩ := h hm
  refine ⟨b, o, e, Nat.lt_of_lt_of_le hlt hb.size, fun i hi => ?_⟩
  rw [hb.cell hlt, hb.cell hlt, hb.cell hlt, hb.cell hlt]
  exact hc i hi

theorem Shrs.cells {w wr : World} {B : Option Addr} {m j : Nat} {q : Nat → Shr} (h : Shrs w B m q) (hb : Below w.heap.size w wr) (hj : j < m) :
    ∃ b o, B = some ⟨b, o, none⟩ ∧ b < w.heap.size ∧ wr.cell? ⟨b, o + j * 4, none⟩ = some (.int .i64 (q j).k) ∧ wr.cell? ⟨b, o + j * 4 + 1, none⟩ = some (.int .u32 (q j).s) ∧
      wr.cell? ⟨b, o + j * 4 + 2, none⟩ = some (.int .u32 (q j).z) ∧ wr.cell? ⟨b, o + j * 4 + 3, none⟩ = some (.int .u32 (q j).t) := by
  obtain ⟨b, o, e, hlt, hc⟩ := h (by omega)
  obtain ⟨h1, h2, h3, h4⟩ := hc j hj
  exact ⟨b, o, e, hlt, (hb.cell (p := ⟨b, o + j * 4, none⟩) hlt).trans h1, (hb.cell (p := ⟨b, o + j * 4 + 1, none⟩) hlt).trans h2, (hb.cell (p := ⟨b, o + j * 4 + 2, none⟩) hlt).trans h3, (hb.cell (p := ⟨b, o + j * 4 + 3, none⟩) hlt).trans h4⟩

theorem shr_on {w wr wt : World} {b o : Nat} {v : Value} (hb : Below w.heap.size wr wt) (hlt : b < w.heap.size) (h : wr.cell? ⟨b, o, none⟩ = some v) : wt.cell? ⟨b, o, none⟩ = some v := (hb.cell (p := ⟨b, o, none⟩) hlt).trans h

section
variable {H : Type} {enc : TypeId × Value → H} {P : Program} {w : World} {held : Bool}
theorem open_shrs {t e : TypeId} {f0 f1 f2 f3 : Field} (ht : P.underlying t = some (.slice e)) (he : P.underlying e = some (.struct #[f0, f1, f2, f3]))
    (ce : P.cellsOf e = 4) (o0 : f0.offset = 0) (o1 : f1.offset = 1) (o2 : f2.offset = 2) (o3 : f3.offset = 3)
    (c0 : P.cellsOf f0.type = 1) (c1 : P.cellsOf f1.type = 1) (c2 : P.cellsOf f2.type = 1) (c3 : P.cellsOf f3.type = 1)
    (t0 : P.underlying f0.type = some (.int .i64)) (t1 : P.underlying f1.type = some (.int .u32)) (t2 : P.underlying f2.type = some (.int .u32)) (t3 : P.underlying f3.type = some (.int .u32))
    {B : Option Addr} {len cap : Nat} {d : DataW H} {ps : List MemPlace} (h : DataW.Trod enc P w 0 (fun _ => true) held t (.slice B len cap) d ps) :
    ∃ q : Nat → Shr, Shrs w B len q ∧ (∀ i, i < len → ShrLit (q i)) ∧ len ≤ cap ∧ cap ≤ maxLen := by
  obtain ⟨fuel, hf⟩ := h
  rcases Go.Deep.open_slice ht hf with ⟨hcs, _⟩ | ⟨a, l, c, m, n, D, Pl, hcs, _, hl, hm, hmm, _, hx⟩
  · simp [Value.cells] at hcs
    obtain ⟨rfl, rfl, rfl⟩ := hcs
    exact ⟨fun _ => ⟨0, 0, 0, 0⟩, fun h => absurd h (by omega), fun i hi => absurd hi (by omega), Nat.le_refl _, by unfold maxLen; omega⟩
  · simp [Value.cells] at hcs
    obtain ⟨rfl, rfl, rfl⟩ := hcs
    simp only [if_true] at hmm
    subst hmm
    have each : ∀ i, i < len → ∃ q : Shr, w.cell? (a.add (i * 4)) = some (.int .i64 q.k) ∧ w.cell? (a.add (i * 4 + 1)) = some (.int .u32 q.s) ∧ w.cell? (a.add (i * 4 + 2)) = some (.int .u32 q.z) ∧ w.cell? (a.add (i * 4 + 3)) = some (.int .u32 q.t) ∧ ShrLit q := by
      intro i hi
      obtain ⟨cs', h1, h2⟩ := hx i (by omega)
      rw [ce] at h1
      obtain ⟨_, hlen, hcell⟩ := World.cells?_some h1
      obtain ⟨xs, k, hk, hxy, _, hxl, hff⟩ := DataW.trod_struct he h2
      match xs, hxl, cs', hlen with
      | [y0, y1, y2, y3], _, [v0, v1, v2, v3], _ =>
        have g0 := hff 0 f0 rfl
        have g1 := hff 1 f1 rfl
        have g2 := hff 2 f2 rfl
        have g3 := hff 3 f3 rfl
        simp [o0, o1, o2, o3, c0, c1, c2, c3] at g0 g1 g2 g3
        have e0 := hcell 0 (by omega)
        have e1 := hcell 1 (by omega)
        have e2 := hcell 2 (by omega)
        have e3 := hcell 3 (by omega)
        rw [Go.Deep.add_add] at e0 e1 e2 e3
        obtain ⟨n0, z0, _, w0⟩ := DataW.trod_int t0 g0
        obtain ⟨n1, z1, _, w1⟩ := DataW.trod_int t1 g1
        obtain ⟨n2, z2, _, w2⟩ := DataW.trod_int t2 g2
        obtain ⟨n3, z3, _, w3⟩ := DataW.trod_int t3 g3
        simp only [List.cons.injEq, and_true] at z0 z1 z2 z3
        subst z0 z1 z2 z3
        exact ⟨⟨n0, n1, n2, n3⟩, by simpa using e0, by simpa using e1, by simpa using e2, by simpa using e3, ⟨bounds_i64 w0, bounds_u32 w1, bounds_u32 w2, bounds_u32 w3⟩⟩
    obtain ⟨q, hq⟩ := Go.Deep.choose_lt each
    refine ⟨q, fun hpos => ?_, fun i hi => (hq i hi).2.2.2.2, hl, hm⟩
    have h0 := (hq 0 hpos).1
    have ha : a.add (0 * 4) = a := by simp [Addr.add]
    rw [ha] at h0
    have hs := World.cell?_spot h0
    have hb := World.block_lt_of_cell? _ _ h0
    obtain ⟨b, o, r⟩ := a
    simp only at hs hb
    subst hs
    have hadd : ∀ j, (⟨b, o, none⟩ : Addr).add j = ⟨b, o + j, none⟩ := fun j => by
      unfold Addr.add
      by_cases h : j = 0
      · subst h; simp
      · simp [h]
    refine ⟨b, o, rfl, hb, fun i hi => ?_⟩
    obtain ⟨h1, h2, h3, h4, _⟩ := hq i hi
    rw [hadd] at h1 h2 h3 h4
    exact ⟨h1, h2, h3, h4⟩
end
end Go.Proofs.Ytkjhdpfomofggaa
