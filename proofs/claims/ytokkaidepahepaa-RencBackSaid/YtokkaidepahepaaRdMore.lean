/-
  A decoder asked whether it is bad, or done; small laws on frames and fresh rows.
-/
import Derived.Test.YtokkaidepahepaaRdNew
import Derived.Deep.AppendLies
namespace Go.Proofs.Ytokkaidepahepaa
open Go.RowKit

theorem madeBytes (n : Nat) : (madeCells #[Value.int .u8 0] n).toList = bv (List.replicate n 0) := by
  rw [toList_madeCells_one]
  simp [bv]

theorem below_only {S : Nat → Prop} {B : Nat} {a b c : World} (h : Below B a b) (k : Only S b c) (hB : B ≤ a.heap.size) (hS : ∀ i, S i → B ≤ i) : Below B a c :=
  h.trans (k.below (Nat.le_trans hB h.size) hS)
theorem Pd.cells {w : World} {g f lo : Nat} {bs s : List UInt8} {r c : Nat} (h : Pd w g f lo bs (some (r, c, s))) : Blk w g 71 (pdCells f r c false) := by
  obtain ⟨at_, r', c', bad, hB, _, _, _, _, _, h⟩ := h
  rcases h with ⟨_, h⟩ | ⟨rfl, h⟩
  · cases h
  · injection h with h
    injection h with h1 h
    injection h with h2 h
    subst h1 h2
    exact hB
theorem Pd.cells_bad {w : World} {g f lo : Nat} {bs : List UInt8} (h : Pd w g f lo bs none) : ∃ r c, Blk w g 71 (pdCells f r c true) := by
  obtain ⟨at_, r', c', bad, hB, _, _, _, _, _, h⟩ := h
  rcases h with ⟨rfl, h⟩ | ⟨rfl, h⟩
  · exact ⟨r', c', hB⟩
  · cases h
/-- whether a decoder is done -/
def doneD (d : Dc) : Bool := match d with | none => false | some (_, c, _) => decide (c = 0)
theorem isBad_any {w : World} {g f lo : Nat} {bs : List UInt8} {d : Dc} (h : Pd w g f lo bs d) : Calls Try.prog 24 #[.pointer (some ⟨g, 0, none⟩)] w fun e w' => e = .returned (.bool d.isNone) ∧ w = w' := by
  cases d with
  | none =>
    obtain ⟨r, c, hB⟩ := h.cells_bad
    exact bad_any hB
  | some x => exact bad_any h.cells
theorem isDone_any {w : World} {g f lo : Nat} {bs : List UInt8} {d : Dc} (h : Pd w g f lo bs d) : Calls Try.prog 25 #[.pointer (some ⟨g, 0, none⟩)] w fun e w' => e = .returned (.bool (doneD d)) ∧ w = w' := by
  cases d with
  | none =>
    obtain ⟨r, c, hB⟩ := h.cells_bad
    exact done_any hB
  | some x => exact done_any h.cells

theorem psOk_fresh (n : Nat) : PsOk (List.replicate n 1024) := fun p hp => by rw [(List.mem_replicate.1 hp).2]; exact pOk_fresh
end Go.Proofs.Ytokkaidepahepaa
