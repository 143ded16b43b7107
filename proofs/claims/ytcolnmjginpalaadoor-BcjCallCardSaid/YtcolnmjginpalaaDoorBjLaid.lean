/-
  The tables of masks, as the row lists them, are in the cells that the walks read.
-/
import Derived.Test.YtcolnmjginpalaaDoorBjMem
import Derived.Lib.LaidTab
import Derived.FnData
namespace Go.Proofs.YtcolnmjginpalaaDoor
set_option linter.unusedVariables false
set_option linter.unusedSimpArgs false
open Go.RowKit Go.ChangeShapes Go.WideShapes

theorem flag_of_trod {H : Type} {enc : TypeId × Value → H} {P : Program} {w : World} {base : Nat} {sp : Nat → Bool} {held : Bool} {fuel : Nat} {t : TypeId} {c : List Value} {y : DataW H × List MemPlace}
    (ht : P.underlying t = some .bool) (h : DataW.trod enc P w base sp held fuel t c = some y) : ∃ b, c = [.bool b] ∧ y.1 = .lit (.bool b) := by
  cases fuel with
  | zero => simp [DataW.trod] at h
  | succ fuel =>
    match c with
    | [] => simp [DataW.trod, ht] at h
    | [v] => cases v <;> simp [DataW.trod, ht] at h <;> (obtain rfl := h; exact ⟨_, rfl, rfl⟩)
    | u :: v :: r => simp [DataW.trod, ht] at h
theorem flags_of_tab {H : Type} {enc : TypeId × Value → H} {P : Program} {w : World} {base : Nat} {sp : Nat → Bool} {held : Bool} {fuel : Nat} {t e : TypeId} {n : Nat} {cs : List Value} {bs : List Bool} {p : List MemPlace}
    (ht : P.underlying t = some (.array n e)) (he : P.underlying e = some .bool) (hce : P.cellsOf e = 1) (hct : P.cellsOf t = n)
    (h : DataW.trod enc P w base sp held fuel t cs = some (.agg (bs.map fun b => .lit (.bool b)), p)) : ∀ i, i < n → cs[i]? = some (.bool (bs.getD i false)) := by
  cases fuel with
  | zero => simp [DataW.trod] at h
  | succ fuel =>
    simp only [DataW.trod, ht, hce, hct, Nat.mul_one] at h
    split at h
    · rename_i hl
      obtain ⟨xs, hm, hx⟩ := Option.map_eq_some_iff.1 h
      have hxs : xs.map (·.1) = bs.map fun b => (DataW.lit (.bool b) : DataW H) := by
        have := congrArg Prod.fst hx
        simpa using this
      intro i hi
      obtain ⟨y, hy, hf⟩ := Lib.mapM_at hm i i (by simp [hi])
      obtain ⟨b, hc, hb⟩ := flag_of_trod he hf
      have h1 : cs[i]? = some (.bool b) := by
        have := congrArg (·[0]?) hc
        simpa [List.getElem?_take, List.getElem?_drop] using this
      have h2 : (xs.map (·.1))[i]? = some (DataW.lit (.bool b) : DataW H) := by simp [hy, hb]
      rw [hxs] at h2
      simp only [List.getElem?_map, Option.map_eq_some_iff, DataW.lit.injEq, Lit.bool.injEq] at h2
      obtain ⟨z, hz, rfl⟩ := h2
      rw [h1, List.getD_eq_getElem?_getD, hz]
      rfl
    · cases h
theorem g_allowed : Tryd.prog.globalNamed "garbler/bcj.allowed" = some 0 := by kernel_rfl
theorem g_bits : Tryd.prog.globalNamed "garbler/bcj.bits" = some 1 := by kernel_rfl
theorem t_allowed : (Tryd.prog.globals[0]?).map (·.type) = some 59 := by kernel_rfl
theorem t_bits : (Tryd.prog.globals[1]?).map (·.type) = some 60 := by kernel_rfl
theorem n_allowed : Tryd.prog.cellsOf 59 = 8 := by kernel_rfl
theorem n_bits : Tryd.prog.cellsOf 60 = 8 := by kernel_rfl
theorem n_bool : Tryd.prog.cellsOf 4 = 1 := by kernel_rfl
theorem n_int : Tryd.prog.cellsOf 3 = 1 := by kernel_rfl
theorem tabs_of_laid {W : World} (h : laidMetH Tryd.prog [("garbler/bcj.allowed", Rows.laid_garbler_bcj_allowed), ("garbler/bcj.bits", Rows.laid_garbler_bcj_bits)] W) : Tabs W := by
  have h' : laidMet Tryd.prog [("garbler/bcj.allowed", Rows.laid_garbler_bcj_allowed), ("garbler/bcj.bits", Rows.laid_garbler_bcj_bits)] W := h
  obtain ⟨ps, ⟨g, t, cs, fuel, p, q, hg, ht, hvar, hd, ⟨g2, t2, cs2, fuel2, p2, q2, hg2, ht2, hvar2, hd2, _, _⟩, _⟩, _, hps⟩ := h'
  obtain rfl := Option.some.inj (g_allowed.symm.trans hg)
  obtain rfl := Option.some.inj (g_bits.symm.trans hg2)
  obtain rfl := Option.some.inj (t_allowed.symm.trans ht)
  obtain rfl := Option.some.inj (t_bits.symm.trans ht2)
  have k1 := flags_of_tab (bs := [true, true, true, false, true, false, false, false]) Tryd.underlying59 Tryd.underlying4 n_bool n_allowed hd
  have k2 := Lib.cells_of_tab (k := .i64) (zs := [0, 1, 2, 2, 3, 3, 3, 3]) Tryd.underlying60 Tryd.underlying3 n_int n_bits hd2
  have c1 : ∀ i, W.cell? ⟨0, i, none⟩ = cs[i]? := World.var?_cell g_allowed hvar
  have c2 : ∀ i, W.cell? ⟨1, i, none⟩ = cs2[i]? := World.var?_cell g_bits hvar2
  refine ⟨fun a ha => ?_, fun a ha => ?_, ?_⟩
  · rw [c1, ← Array.getElem?_toList, k1 a ha]
    have hc : a = 0 ∨ a = 1 ∨ a = 2 ∨ a = 3 ∨ a = 4 ∨ a = 5 ∨ a = 6 ∨ a = 7 := by omega
    rcases hc with rfl | rfl | rfl | rfl | rfl | rfl | rfl | rfl <;> rfl
  · rw [c2, ← Array.getElem?_toList, k2]
    have hc : a = 0 ∨ a = 1 ∨ a = 2 ∨ a = 3 ∨ a = 4 ∨ a = 5 ∨ a = 6 ∨ a = 7 := by omega
    rcases hc with rfl | rfl | rfl | rfl | rfl | rfl | rfl | rfl <;> rfl
  · have h1 : W.cell? ⟨1, 0, none⟩ = some (.int .i64 0) := by rw [c2, ← Array.getElem?_toList, k2]; rfl
    have := World.block_lt_of_cell? _ _ h1
    show 1 < W.heap.size
    exact this
end Go.Proofs.YtcolnmjginpalaaDoor
