/-
  The filter of differences as numbers.
-/
import Derived.Test.YtnmihkimkbiakaaMem
namespace Go.Proofs.Ytnmihkimkbiakaa
set_option linter.unusedVariables false
set_option linter.unusedSimpArgs false

/-- the plain byte d ahead of place i; 0 where there is none -/
def aheadN (p : List UInt8) (d i : Nat) : UInt8 := if d ≤ i then p.getD (i - d) 0 else 0
def codN (d : Nat) (b : List UInt8) : List UInt8 := (List.range b.length).map fun i => b.getD i 0 - aheadN b d i
def decAt (d : Nat) (b : List UInt8) (i : Nat) : UInt8 := b.getD i 0 + (if _h : 0 < d ∧ d ≤ i then decAt d b (i - d) else 0)
termination_by i
decreasing_by omega
def decN (d : Nat) (b : List UInt8) : List UInt8 := (List.range b.length).map (decAt d b)

theorem codN_len (d : Nat) (b : List UInt8) : (codN d b).length = b.length := by simp [codN]
theorem decN_len (d : Nat) (b : List UInt8) : (decN d b).length = b.length := by simp [decN]
theorem dmap_get {f : Nat → UInt8} {n i : Nat} (h : i < n) : ((List.range n).map f).getD i 0 = f i := by
  rw [List.getD_eq_getElem?_getD, List.getElem?_map, List.getElem?_range h]
  rfl
theorem codN_get {d : Nat} {b : List UInt8} {i : Nat} (h : i < b.length) : (codN d b).getD i 0 = b.getD i 0 - aheadN b d i := dmap_get h
theorem decN_get {d : Nat} {b : List UInt8} {i : Nat} (hd : 0 < d) (h : i < b.length) : (decN d b).getD i 0 = b.getD i 0 + aheadN (decN d b) d i := by
  have e : (decN d b).getD i 0 = decAt d b i := dmap_get h
  rw [e, decAt]
  unfold aheadN
  by_cases hdi : d ≤ i
  · rw [dif_pos ⟨hd, hdi⟩, if_pos hdi]
    have e2 : (decN d b).getD (i - d) 0 = decAt d b (i - d) := dmap_get (by omega)
    rw [e2]
  · rw [dif_neg (by omega), if_neg hdi]
theorem dlist_ext {a b : List UInt8} (hl : a.length = b.length) (h : ∀ i, i < a.length → a.getD i 0 = b.getD i 0) : a = b := by
  refine List.ext_getElem hl fun i h1 h2 => ?_
  have := h i h1
  rwa [List.getD_eq_getElem?_getD, List.getD_eq_getElem?_getD, List.getElem?_eq_getElem h1, List.getElem?_eq_getElem h2] at this
theorem du8_back (x y : UInt8) : x - y + y = x := UInt8.sub_add_cancel x y
theorem du8_back2 (x y : UInt8) : x + y - y = x := UInt8.add_sub_cancel x y
theorem dec_cod {d : Nat} (hd : 0 < d) (b : List UInt8) : decN d (codN d b) = b := by
  have key : ∀ i, i < b.length → (decN d (codN d b)).getD i 0 = b.getD i 0 := by
    intro i
    induction i using Nat.strongRecOn with
    | _ i ih =>
      intro hi
      rw [decN_get hd (by rw [codN_len]; exact hi), codN_get hi]
      have e : aheadN (decN d (codN d b)) d i = aheadN b d i := by
        unfold aheadN
        split
        · exact ih (i - d) (by omega) (by omega)
        · rfl
      rw [e, du8_back]
  exact dlist_ext (by rw [decN_len, codN_len]) fun i hi => key i (by rwa [decN_len, codN_len] at hi)
theorem cod_dec {d : Nat} (hd : 0 < d) (b : List UInt8) : codN d (decN d b) = b :=
  dlist_ext (by rw [codN_len, decN_len]) fun i hi => by
    rw [codN_len, decN_len] at hi
    rw [codN_get (by rw [decN_len]; exact hi), decN_get hd hi, du8_back2]
theorem dtake_ext {a b : List UInt8} {k : Nat} (hl : a.length = b.length) (h : ∀ i, i < k → i < a.length → a.getD i 0 = b.getD i 0) : a.take k = b.take k := by
  refine dlist_ext (by rw [List.length_take, List.length_take, hl]) fun i hi => ?_
  rw [List.length_take] at hi
  rw [List.getD_eq_getElem?_getD, List.getD_eq_getElem?_getD, List.getElem?_take_of_lt (by omega), List.getElem?_take_of_lt (by omega), ← List.getD_eq_getElem?_getD, ← List.getD_eq_getElem?_getD]
  exact h i (by omega) (by omega)
theorem cod_first (d : Nat) (b : List UInt8) {k : Nat} (hk : k ≤ d) : (codN d b).take k = b.take k :=
  dtake_ext (codN_len _ _) fun i hi hl => by
    rw [codN_len] at hl
    rw [codN_get hl]
    unfold aheadN
    rw [if_neg (by omega)]
    exact UInt8.sub_zero _
theorem dec_first {d : Nat} (hd : 0 < d) (b : List UInt8) {k : Nat} (hk : k ≤ d) : (decN d b).take k = b.take k :=
  dtake_ext (decN_len _ _) fun i hi hl => by
    rw [decN_len] at hl
    rw [decN_get hd hl]
    unfold aheadN
    rw [if_neg (by omega)]
    exact UInt8.add_zero _
theorem du8_add (x y : UInt8) : (((x.toNat + y.toNat) % 256 : Nat) : Int) = ((x + y).toNat : Int) := by rw [UInt8.toNat_add]
theorem du8_sub (x y : UInt8) : ((x.toNat : Int) - (y.toNat : Int)) % 256 = ((x - y).toNat : Int) := by
  rw [UInt8.toNat_sub]
  have := x.toNat_lt
  have := y.toNat_lt
  omega
/-- the next place of a ring of d -/
theorem ring_next {k d : Nat} (hd : 0 < d) : (k + 1) % d = if k % d + 1 = d then 0 else k % d + 1 := by
  have h := Nat.mod_lt k hd
  rw [Nat.add_mod]
  rcases Nat.lt_or_ge 1 d with h1 | h1
  · rw [Nat.mod_eq_of_lt h1]
    split
    · rename_i e; rw [e, Nat.mod_self]
    · rw [Nat.mod_eq_of_lt (by omega)]
  · obtain rfl : d = 1 := by omega
    simp [Nat.mod_one]
theorem ring_other {k d i : Nat} (hi : 0 < i) (hid : i < d) : (k + i) % d ≠ k % d := by
  intro h
  have := Nat.sub_mod_eq_zero_of_mod_eq h
  rw [Nat.add_sub_cancel_left, Nat.mod_eq_of_lt hid] at this
  omega
theorem ring_all {k d j : Nat} (hj : j < d) : ∃ i, i < d ∧ (k + i) % d = j := by
  have hk := Nat.mod_lt k (show 0 < d by omega)
  have hkd := Nat.div_add_mod k d
  by_cases h : k % d ≤ j
  · refine ⟨j - k % d, by omega, ?_⟩
    rw [show k + (j - k % d) = j + d * (k / d) by omega, Nat.add_mul_mod_self_left, Nat.mod_eq_of_lt hj]
  · refine ⟨j + d - k % d, by omega, ?_⟩
    rw [show k + (j + d - k % d) = j + d + d * (k / d) by omega, Nat.add_mul_mod_self_left, Nat.add_mod_right, Nat.mod_eq_of_lt hj]
end Go.Proofs.Ytnmihkimkbiakaa
