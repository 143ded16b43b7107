/-
  What is put is read as it was: plain mathematics over the words of the contracts.
-/
import Derived.Test.YtolkgljbphgacaaTold
import Derived.Test.YtolkgljbphgacaaNumber
import Derived.Test.YtolkgljbphgacaaPuts
namespace Go.Proofs.Ytolkgljbphgacaa
open Go.RowKit

theorem lead_of : ∀ (q : Fin 9) (y : Fin 128), y.val < 2 ^ (7 - q.val) → (q.val = 8 → y.val = 0) → lead (256 - 2 ^ (8 - q.val) + y.val) = q.val ∧ (256 - 2 ^ (8 - q.val) + y.val) % 2 ^ (7 - q.val) = y.val ∧ 256 - 2 ^ (8 - q.val) + y.val < 256 := by decide +kernel

theorem short_back (v : Nat) (hv : v < 18446744073709551616) (rest : List UInt8) : shortAt (shortBytes v ++ rest) = some (v, (shortBytes v).length) := by
  have hf := fol_is v
  have hq := hf.le
  obtain ⟨ht, ht7⟩ := hf.top hv
  have hp : (2 : Nat) ^ (7 - fol v) ≤ 128 := Nat.pow_le_pow_right (n := 2) (by omega) (show 7 - fol v ≤ 7 by omega)
  obtain ⟨h1, h2, h3⟩ := lead_of ⟨fol v, by omega⟩ ⟨v / 256 ^ fol v, by omega⟩ ht (fun e => ht7 (by simp only at e; omega))
  simp only at h1 h2 h3
  have hb : (UInt8.ofNat (256 - 2 ^ (8 - fol v) + v / 256 ^ fol v)).toNat = 256 - 2 ^ (8 - fol v) + v / 256 ^ fol v := by
    rw [UInt8.toNat_ofNat']
    exact Nat.mod_eq_of_lt h3
  rw [shortBytes_length]
  unfold shortBytes
  rw [List.cons_append]
  unfold shortAt
  simp only
  rw [hb, h1, h2, if_neg (by rw [List.length_append, leBytes_length]; omega)]
  have e : (leBytes (fol v) v ++ rest).take (fol v) = leBytes (fol v) v := by
    have := List.take_left (l₁ := leBytes (fol v) v) (l₂ := rest)
    rwa [leBytes_length] at this
  rw [e, leVal_leBytes, Nat.mul_comm, Nat.div_add_mod]

theorem le4_back (v : Nat) (rest : List UInt8) : leVal ((leBytes 4 v ++ rest).take 4) = v % 4294967296 := by
  have e : (leBytes 4 v ++ rest).take 4 = leBytes 4 v := by
    have := List.take_left (l₁ := leBytes 4 v) (l₂ := rest)
    rwa [leBytes_length] at this
  rw [e, leVal_leBytes]

theorem bitAt_append (a b : List UInt8) (i : Nat) (h : i / 8 < a.length) : bitAt (a ++ b) i = bitAt a i := by
  unfold bitAt
  simp only [List.getD]
  rw [List.getElem?_append_left h]
theorem row_back (row : List Bool) (rest : List UInt8) : readM (rowBytes row ++ rest) (row.length : Int) = (row, 0) := by
  have hl : (rowBytes row).length = rowLenN row.length := rowBytes_length row
  have hbit : ∀ i, i < 8 * rowLenN row.length → bitAt (rowBytes row ++ rest) i = row.getD i false := by
    intro i hi
    rw [bitAt_append _ _ _ (by rw [hl]; omega)]
    exact bitAt_row _ _ _ (by omega)
  unfold readM
  rw [Int.toNat_natCast, if_neg (by rw [List.length_append, hl]; omega)]
  have ht : tailBad (rowBytes row ++ rest) row.length = false := by
    unfold tailBad
    rw [List.any_eq_false]
    intro i hi
    rw [List.mem_range] at hi
    rw [hbit i hi]
    by_cases h : row.length ≤ i
    · rw [getD_past row i h]; simp
    · simp [h]
  rw [ht, if_neg (by simp)]
  congr 1
  apply List.ext_getElem
  · simp [rowOf]
  · intro i h1 h2
    simp only [rowOf, List.getElem_map, List.getElem_range]
    rw [hbit i (by unfold rowLenN; omega)]
    simp [List.getD, h2]

/-- numbers, one behind the other: each short, and in four bytes -/
def enc (vs : List Nat) : List UInt8 := vs.flatMap fun v => shortBytes v ++ leBytes 4 v
theorem enc_snoc (vs : List Nat) (v : Nat) : enc (vs ++ [v]) = enc vs ++ (shortBytes v ++ leBytes 4 v) := by simp [enc]
theorem enc_split (vs : List Nat) (k : Nat) (h : k < vs.length) : enc vs = enc (vs.take k) ++ (shortBytes (vs.getD k 0) ++ (leBytes 4 (vs.getD k 0) ++ enc (vs.drop (k + 1)))) := by
  have e : vs = vs.take k ++ (vs.getD k 0 :: vs.drop (k + 1)) := by
    have h1 := List.take_append_drop k vs
    rw [List.drop_eq_getElem_cons h] at h1
    simp [List.getD, h]
  conv => lhs; rw [e]
  simp [enc]
theorem short_len (v : Nat) : (shortBytes v).length ≤ 9 := by
  rw [shortBytes_length]
  have := (fol_is v).le
  omega
theorem enc_len (vs : List Nat) : (enc vs).length ≤ 13 * vs.length := by
  induction vs with
  | nil => simp [enc]
  | cons v r ih =>
    have e : enc (v :: r) = shortBytes v ++ leBytes 4 v ++ enc r := by simp [enc]
    have := short_len v
    rw [e, List.length_append, List.length_append, leBytes_length, List.length_cons]
    omega
theorem left_zero (bs : List UInt8) (k : Nat) : leftOf bs k 0 = bs.drop k := by simp [leftOf]
theorem bits_back {bs rest : List UInt8} {k : Nat} {row : List Bool} (h : leftOf bs k 0 = rowBytes row ++ rest) : bitsM bs k 0 (row.length : Int) = (row, k + rowLenN row.length, 0) := by
  unfold bitsM
  rw [h, row_back, if_pos rfl, Int.toNat_natCast]
theorem told_back {bs : List UInt8} {k : Nat} {row : List Bool} (h : leftOf bs k 0 = toldBytes row) : toldM bs k 0 (row.length : Int) = (row, k + (toldBytes row).length, 0) := by
  unfold toldM
  rw [h]
  unfold toldBytes
  by_cases hf : false ∈ row
  · rw [if_pos hf]
    simp only
    have hr := row_back row []
    rw [List.append_nil] at hr
    rw [if_neg (by omega), if_pos True.intro, hr, if_pos rfl, Int.toNat_natCast, List.length_cons, rowBytes_length, Nat.add_comm 1]
  · rw [if_neg hf]
    simp only
    rw [if_neg (by omega), if_neg (by decide), if_pos True.intro, Int.toNat_natCast, List.length_singleton]
    congr 1
    symm
    rw [List.eq_replicate_iff]
    refine ⟨rfl, fun b hb => ?_⟩
    cases b
    · exact absurd hb hf
    · rfl
/-- all that is put -/
def full (vs : List Nat) (row : List Bool) : List UInt8 := enc vs ++ (rowBytes row ++ toldBytes row)
theorem back_at (vs : List Nat) (row : List Bool) (i : Nat) (h : i < vs.length) : ∃ X Y,
    leftOf (full vs row) (enc (vs.take i)).length 0 = shortBytes (vs.getD i 0) ++ X ∧
    leftOf (full vs row) ((enc (vs.take i)).length + (shortBytes (vs.getD i 0)).length) 0 = leBytes 4 (vs.getD i 0) ++ Y ∧
    (enc (vs.take (i + 1))).length = (enc (vs.take i)).length + (shortBytes (vs.getD i 0)).length + 4 := by
  refine ⟨leBytes 4 (vs.getD i 0) ++ (enc (vs.drop (i + 1)) ++ (rowBytes row ++ toldBytes row)), enc (vs.drop (i + 1)) ++ (rowBytes row ++ toldBytes row), ?_, ?_, ?_⟩
  · rw [left_zero]
    unfold full
    rw [enc_split vs i h]
    simp only [List.append_assoc]
    rw [List.drop_left]
  · rw [left_zero]
    unfold full
    rw [enc_split vs i h]
    simp only [List.append_assoc]
    rw [← List.length_append, ← List.append_assoc, List.drop_left]
  · rw [take_snoc vs i h 0, enc_snoc]
    simp only [List.length_append, leBytes_length]
    omega
theorem back_row (vs : List Nat) (row : List Bool) : leftOf (full vs row) (enc vs).length 0 = rowBytes row ++ toldBytes row := by
  rw [left_zero]
  unfold full
  rw [List.drop_left]
theorem back_told (vs : List Nat) (row : List Bool) : leftOf (full vs row) ((enc vs).length + rowLenN row.length) 0 = toldBytes row := by
  rw [left_zero]
  unfold full
  rw [← rowBytes_length, ← List.length_append, ← List.append_assoc, List.drop_left]
theorem full_length (vs : List Nat) (row : List Bool) : (full vs row).length = (enc vs).length + rowLenN row.length + (toldBytes row).length := by
  unfold full
  rw [List.length_append, List.length_append, rowBytes_length]
  omega
theorem told_len (row : List Bool) : (toldBytes row).length ≤ 1 + rowLenN row.length := by
  unfold toldBytes
  split
  · rw [List.length_cons, rowBytes_length]; omega
  · simp
end Go.Proofs.Ytolkgljbphgacaa
