/-
  What comes in, opened: bytes, flags and numbers of 64 bits, as slices that read as lists.
-/
import Derived.Test.YtcolnmjginpalaaDoorMem
import Derived.ProofKit
import Derived.OpenShut
import Derived.ShutString
import Derived.ChangeOld
import Derived.Below
import Derived.Deep.Grids
namespace Go.Proofs.YtcolnmjginpalaaDoor
open Go.ChangeShapes Go.WideShapes Go.ChangeAt Go.RowKit

theorem sl_row {w : World} {a : Addr} {len : Nat} {xs : List Value} (hl : len ≤ xs.length) (hcell : ∀ i, i < xs.length → w.cell? (a.add i) = xs[i]?) : Sl w (some a) len (xs.take len) := by
  refine ⟨by rw [List.length_take]; omega, fun hn => ?_⟩
  have h0 := hcell 0 (by omega)
  rw [List.getElem?_eq_getElem (by omega)] at h0
  have hs := World.cell?_spot h0
  have ha : a.add 0 = a := by simp [Addr.add]
  rw [ha] at hs h0
  have hb := World.block_lt_of_cell? _ _ h0
  obtain ⟨b, o, s⟩ := a
  simp only at hs hb
  subst hs
  refine ⟨b, o, rfl, hb, fun j hj => ?_⟩
  rw [List.getElem?_take_of_lt hj, ← hcell j (by omega)]
  unfold Addr.add
  by_cases h : j = 0
  · subst h; simp
  · simp [h]

/-- bytes out of numbers that are bytes -/
def toBytes (zs : List Int) : List UInt8 := zs.map fun z => UInt8.ofNat z.toNat
theorem bv_toBytes {zs : List Int} (h : ∀ n ∈ zs, (Lit.int .u8 n).wf = true) : bv (toBytes zs) = zs.map (Value.int .u8) := by
  induction zs with
  | nil => rfl
  | cons z r ih =>
    have hz := bounds_u8 (h z (by simp))
    have hr := ih (fun n hn => h n (by simp [hn]))
    simp only [bv, toBytes, List.map_cons, List.cons.injEq]
    refine ⟨?_, hr⟩
    congr 1
    rw [UInt8.toNat_ofNat']
    omega

section
variable {H : Type} {enc : TypeId × Value → H} {P : Program} {w : World} {held : Bool}
theorem open_bytes {t e : TypeId} (ht : P.underlying t = some (.slice e)) (he : P.underlying e = some (.int .u8)) (hc : P.cellsOf e = 1)
    {A : Option Addr} {len cap : Nat} {d : DataW H} {ps : List MemPlace} (h : DataW.Trod enc P w 0 (fun _ => true) held t (.slice A len cap) d ps) :
    ∃ bs : List UInt8, Sl w A len (bv bs) ∧ len ≤ cap ∧ cap ≤ maxLen := by
  obtain ⟨fuel, hf⟩ := h
  rcases open_ints ht he hc hf with ⟨hcs, _⟩ | ⟨x, l, c, zs, hcs, _, hl, hm, hz, _, hcell, hwz⟩
  · simp [Value.cells] at hcs
    obtain ⟨rfl, rfl, rfl⟩ := hcs
    exact ⟨[], Sl.nil, Nat.le_refl _, by unfold maxLen; omega⟩
  · simp [Value.cells] at hcs
    obtain ⟨rfl, rfl, rfl⟩ := hcs
    simp only [if_true] at hz
    refine ⟨toBytes (zs.take len), ?_, hl, hm⟩
    rw [bv_toBytes (fun n hn => hwz n (List.mem_of_mem_take hn)), List.map_take]
    refine sl_row (xs := zs.map (Value.int .u8)) (by rw [List.length_map, hz]; exact hl) (fun i hi => ?_)
    simp only [List.length_map] at hi
    rw [hcell i hi]
    simp [List.getD, hi]
theorem open_u64s {t e : TypeId} (ht : P.underlying t = some (.slice e)) (he : P.underlying e = some (.int .u64)) (hc : P.cellsOf e = 1)
    {A : Option Addr} {len cap : Nat} {d : DataW H} {ps : List MemPlace} (h : DataW.Trod enc P w 0 (fun _ => true) held t (.slice A len cap) d ps) :
    ∃ vs : List Nat, Sl w A len (vs.map fun (v : Nat) => Value.int .u64 (v : Int)) ∧ (∀ v ∈ vs, v < 18446744073709551616) ∧ len ≤ cap ∧ cap ≤ maxLen := by
  obtain ⟨fuel, hf⟩ := h
  rcases open_ints ht he hc hf with ⟨hcs, _⟩ | ⟨x, l, c, zs, hcs, _, hl, hm, hz, _, hcell, hwz⟩
  · simp [Value.cells] at hcs
    obtain ⟨rfl, rfl, rfl⟩ := hcs
    exact ⟨[], Sl.nil, by simp, Nat.le_refl _, by unfold maxLen; omega⟩
  · simp [Value.cells] at hcs
    obtain ⟨rfl, rfl, rfl⟩ := hcs
    simp only [if_true] at hz
    refine ⟨(zs.take len).map Int.toNat, ?_, ?_, hl, hm⟩
    · have e1 : ((zs.take len).map Int.toNat).map (fun (v : Nat) => Value.int .u64 (v : Int)) = (zs.map (Value.int .u64)).take len := by
        rw [List.map_map, ← List.map_take]
        refine List.map_congr_left fun z hz' => ?_
        have hb := bounds_u64 (hwz z (List.mem_of_mem_take hz'))
        simp only [Function.comp]
        rw [Int.toNat_of_nonneg hb.1]
      rw [e1]
      refine sl_row (xs := zs.map (Value.int .u64)) (by rw [List.length_map, hz]; exact hl) (fun i hi => ?_)
      simp only [List.length_map] at hi
      rw [hcell i hi]
      simp [List.getD, hi]
    · intro v hv
      obtain ⟨z, hz', rfl⟩ := List.mem_map.1 hv
      have hb := bounds_u64 (hwz z (List.mem_of_mem_take hz'))
      omega
theorem open_flags {t e : TypeId} (ht : P.underlying t = some (.slice e)) (he : P.underlying e = some .bool) (hc : P.cellsOf e = 1)
    {A : Option Addr} {len cap : Nat} {d : DataW H} {ps : List MemPlace} (h : DataW.Trod enc P w 0 (fun _ => true) held t (.slice A len cap) d ps) :
    ∃ bs : List Bool, Sl w A len (fv bs) ∧ len ≤ cap ∧ cap ≤ maxLen := by
  obtain ⟨fuel, hf⟩ := h
  rcases Go.Deep.open_bools ht he hc hf with ⟨hcs, _⟩ | ⟨x, l, c, B, hcs, _, hl, hm, _, hcell⟩
  · simp [Value.cells] at hcs
    obtain ⟨rfl, rfl, rfl⟩ := hcs
    exact ⟨[], Sl.nil, Nat.le_refl _, by unfold maxLen; omega⟩
  · simp [Value.cells] at hcs
    obtain ⟨rfl, rfl, rfl⟩ := hcs
    refine ⟨((List.range cap).map B).take len, ?_, hl, hm⟩
    have e1 : fv (((List.range cap).map B).take len) = ((List.range cap).map fun i => Value.bool (B i)).take len := by
      unfold fv
      rw [← List.map_take, ← List.map_take, List.map_map]
      rfl
    rw [e1]
    refine sl_row (xs := (List.range cap).map fun i => Value.bool (B i)) (by simpa using hl) (fun i hi => ?_)
    simp only [List.length_map, List.length_range] at hi
    rw [hcell i hi]
    simp [hi]
end
end Go.Proofs.YtcolnmjginpalaaDoor
