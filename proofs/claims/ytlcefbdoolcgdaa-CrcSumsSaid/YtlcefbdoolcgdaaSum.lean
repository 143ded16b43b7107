/-
  A sum: its cells, its steps, and what its once does.
-/
import Derived.Test.YtlcefbdoolcgdaaSync
import Derived.Test.YtlcefbdoolcgdaaHalved
import Derived.StillTailTactics
namespace Go.Proofs.Ytlcefbdoolcgdaa
open Go.RowKit

theorem still_same {P : Program} {f : FuncId} {args : Array Value} {w : World} {v : Value} (h : Calls P f args w fun e w' => e = .returned v ∧ w = w') :
    Calls P f args w fun e w' => e = .returned v ∧ w' = w := h.mono fun _ _ ⟨he, hm⟩ => ⟨he, hm.symm⟩

/-- The cells of a sum: whether its steps are reckoned, and, if so, what they are; the sum; the count. -/
def SumCells (cs : Array Value) (d s n : Nat) : Prop :=
  cs.size = 261 ∧ (d = 0 ∨ d = 1) ∧ cs[0]? = some (.int .u32 (d : Int)) ∧ cs[1]? = some (.int .i32 0) ∧ (d = 1 → ∀ i, i < 256 → cs[3 + i]? = some (.int .u32 (tick i : Int))) ∧
    cs[259]? = some (.int .u32 (s : Int)) ∧ cs[260]? = some (.int .i64 (n : Int)) ∧ s < 4294967296

theorem set_get {cs : Array Value} {i j : Nat} {v : Value} (h : i ≠ j) : (cs.setIfInBounds i v)[j]? = cs[j]? := by
  rw [Array.getElem?_setIfInBounds, if_neg h]
theorem set_same {cs : Array Value} {i : Nat} {v : Value} (h : i < cs.size) : (cs.setIfInBounds i v)[i]? = some v := by
  rw [Array.getElem?_setIfInBounds, if_pos rfl, if_pos h]

set_option maxRecDepth 100000 in
set_option maxHeartbeats 1000000 in
theorem reckon_any {g : Nat} {cs : Array Value} {w : World} (hB : Blk w g 55 cs) (hsz : cs.size = 261) :
    Calls Try.prog 18 #[.pointer (some ⟨g, 0, none⟩)] w fun e w' =>
      e = .returned (.tuple #[]) ∧ ∃ cs', Blk w' g 55 cs' ∧ cs'.size = 261 ∧ (∀ i, i < 256 → cs'[3 + i]? = some (.int .u32 (tick i : Int))) ∧ (∀ j, j < 3 ∨ 259 ≤ j → cs'[j]? = cs[j]?) ∧ w.grownBy w' (some g) := by
  have HB := Lib.hid hB
  have HZ := Lib.hid hsz
  clear hB hsz
  go_enter Try.func18, Try.ntmps18
  go_wp2
  go_loopw [3] (fun i wr => ∃ (k : Nat) (cs' : Array Value), k ≤ 256 ∧ i = .int .i64 k ∧ Blk wr g 55 cs' ∧ cs'.size = 261 ∧ (∀ i, i < k → cs'[3 + i]? = some (.int .u32 (tick i : Int))) ∧ (∀ j, j < 3 ∨ 259 ≤ j → cs'[j]? = cs[j]?) ∧ w.grownBy wr (some g)) (fun i _ => 256 - (intOf i).toNat)
  case atStart => exact ⟨0, cs, Nat.zero_le _, rfl, HB.out, HZ.out, fun i h => absurd h (by omega), fun _ _ => rfl, World.grownBy.refl w _⟩
  case round =>
    clear HB HZ
    obtain ⟨k, cs', hk, rfl, hB, hsz, hT, hO, hg⟩ := hrel
    by_cases hlt : k < 256
    · have hcell : wr.cell? ⟨g, 3 + k, none⟩ = some cs'[3 + k] := by rw [hB.cell, Array.getElem?_eq_getElem (by omega)]
      generalize cs'[3 + k] = old at hcell
      have hfree : wr.frozen? ⟨g, 3 + k, none⟩ = false := hB.free _
      have q1 : IntKind.u32.wrap (k : Int) = (k : Int) := u32_in k (by omega)
      have HB := Lib.hid hB
      have HZ := Lib.hid hsz
      have HT := Lib.hid hT
      have HO := Lib.hid hO
      have HG := Lib.hid hg
      clear hB hsz hT hO hg
      go_wp2_with fail
      go_still_tail 8, (by kernel_rfl)
      still_call (still_same (halved_any k (by omega) _))
      repeat still_step
      refine wpStill_nil ?_
      change wpList _ _ _ _ _ wr.drew
      go_wp2
      go_roundw
      case rel =>
        refine ⟨k + 1, cs'.setIfInBounds (3 + k) (.int .u32 (tick k : Int)), by omega, by go_num, ?_, by rw [Array.size_setIfInBounds]; exact HZ.out, ?_, ?_, ?_⟩
        · have hB := HB.out
          exact Blk.put (w := wr.drew) hB (3 + k) _
        · intro i hi
          by_cases e : i = k
          · subst e; exact set_same (by have := HZ.out; omega)
          · rw [set_get (by omega)]; exact HT.out i (by omega)
        · intro j hj
          rw [set_get (by omega)]
          exact HO.out j hj
        · exact only_setCell (only_drewN HG.out 1) (.inl rfl) _
      case measure => simp [intOf]; omega
    · obtain rfl : k = 256 := by omega
      have HB := Lib.hid hB
      have HT := Lib.hid hT
      have HO := Lib.hid hO
      have HG := Lib.hid hg
      have HZ := Lib.hid hsz
      clear hB hsz hT hO hg
      go_wp2
      go_end0
      exact ⟨rfl, cs', HB.out, HZ.out, HT.out, HO.out, HG.out⟩
end Go.Proofs.Ytlcefbdoolcgdaa
