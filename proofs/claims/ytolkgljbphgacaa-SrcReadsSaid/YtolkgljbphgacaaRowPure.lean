/-
  Rows of bits as bytes: plain mathematics, no program.
-/
import Derived.Test.YtolkgljbphgacaaPure
namespace Go.Proofs.Ytolkgljbphgacaa

/-- byte j of a row of bits -/
def byteOf (row : List Bool) (j : Nat) : Nat :=
  128 * (row.getD (8 * j) false).toNat + 64 * (row.getD (8 * j + 1) false).toNat + 32 * (row.getD (8 * j + 2) false).toNat + 16 * (row.getD (8 * j + 3) false).toNat +
  8 * (row.getD (8 * j + 4) false).toNat + 4 * (row.getD (8 * j + 5) false).toNat + 2 * (row.getD (8 * j + 6) false).toNat + (row.getD (8 * j + 7) false).toNat
theorem byteOf_lt (row : List Bool) (j : Nat) : byteOf row j < 256 := by
  unfold byteOf
  have := fun b : Bool => Bool.toNat_le b
  have h0 := this (row.getD (8 * j) false)
  have h1 := this (row.getD (8 * j + 1) false)
  have h2 := this (row.getD (8 * j + 2) false)
  have h3 := this (row.getD (8 * j + 3) false)
  have h4 := this (row.getD (8 * j + 4) false)
  have h5 := this (row.getD (8 * j + 5) false)
  have h6 := this (row.getD (8 * j + 6) false)
  have h7 := this (row.getD (8 * j + 7) false)
  omega
theorem byteOf_bit (row : List Bool) (j t : Nat) (ht : t < 8) : byteOf row j / 2 ^ (7 - t) % 2 = (row.getD (8 * j + t) false).toNat := by
  unfold byteOf
  have := fun b : Bool => Bool.toNat_le b
  have h0 := this (row.getD (8 * j) false)
  have h1 := this (row.getD (8 * j + 1) false)
  have h2 := this (row.getD (8 * j + 2) false)
  have h3 := this (row.getD (8 * j + 3) false)
  have h4 := this (row.getD (8 * j + 4) false)
  have h5 := this (row.getD (8 * j + 5) false)
  have h6 := this (row.getD (8 * j + 6) false)
  have h7 := this (row.getD (8 * j + 7) false)
  have : t = 0 ∨ t = 1 ∨ t = 2 ∨ t = 3 ∨ t = 4 ∨ t = 5 ∨ t = 6 ∨ t = 7 := by omega
  rcases this with rfl | rfl | rfl | rfl | rfl | rfl | rfl | rfl <;> simp only [Nat.add_zero, Nat.reduceSub, Nat.reducePow] <;> omega
theorem getD_take (row : List Bool) (m k : Nat) : (row.take m).getD k false = if k < m then row.getD k false else false := by
  by_cases h : k < m
  · simp [List.getD, h, List.getElem?_take]
  · simp [List.getD, h, List.getElem?_take]
theorem getD_past (row : List Bool) (k : Nat) (h : row.length ≤ k) : row.getD k false = false := by
  simp [List.getD, List.getElem?_eq_none h]
/-- one bit more -/
theorem byteOf_step (row : List Bool) (i j : Nat) :
    byteOf (row.take (i + 1)) j = byteOf (row.take i) j + (if j = i / 8 then (row.getD i false).toNat * 2 ^ (7 - i % 8) else 0) := by
  obtain ⟨q, t, rfl, ht⟩ : ∃ q t, i = 8 * q + t ∧ t < 8 := ⟨i / 8, i % 8, by omega, by omega⟩
  rw [show (8 * q + t) / 8 = q by omega, show (8 * q + t) % 8 = t by omega]
  unfold byteOf
  simp only [getD_take]
  by_cases hj : j = q
  · subst hj
    have L : ∀ s r, (8 * j + s < 8 * j + r) = (s < r) := fun s r => propext (by omega)
    have L0 : ∀ r, (8 * j < 8 * j + r) = (0 < r) := fun r => propext (by omega)
    have L1 : ∀ s, (8 * j + s < 8 * j) = False := fun s => eq_false (by omega)
    have : t = 0 ∨ t = 1 ∨ t = 2 ∨ t = 3 ∨ t = 4 ∨ t = 5 ∨ t = 6 ∨ t = 7 := by omega
    rcases this with rfl | rfl | rfl | rfl | rfl | rfl | rfl | rfl <;> simp [Nat.add_assoc, L, L0, L1, -List.getD_eq_getElem?_getD] <;> omega
  · rw [if_neg hj]
    have e : ∀ s, s < 8 → ((8 * j + s < 8 * q + t + 1) = (8 * j + s < 8 * q + t)) := fun s hs => propext (by omega)
    have e0 : ((8 * j < 8 * q + t + 1) = (8 * j < 8 * q + t)) := propext (by omega)
    simp only [e0, e 1 (by omega), e 2 (by omega), e 3 (by omega), e 4 (by omega), e 5 (by omega), e 6 (by omega), e 7 (by omega), Nat.add_zero]
/-- what stands behind the bits that were set is 0 -/
theorem byteOf_low (row : List Bool) (i : Nat) : byteOf (row.take i) (i / 8) % 2 ^ (8 - i % 8) = 0 := by
  obtain ⟨q, t, rfl, ht⟩ : ∃ q t, i = 8 * q + t ∧ t < 8 := ⟨i / 8, i % 8, by omega, by omega⟩
  rw [show (8 * q + t) / 8 = q by omega, show (8 * q + t) % 8 = t by omega]
  unfold byteOf
  simp only [getD_take]
  have L : ∀ s r, (8 * q + s < 8 * q + r) = (s < r) := fun s r => propext (by omega)
  have L0 : ∀ r, (8 * q < 8 * q + r) = (0 < r) := fun r => propext (by omega)
  have L1 : ∀ s, (8 * q + s < 8 * q) = False := fun s => eq_false (by omega)
  have : t = 0 ∨ t = 1 ∨ t = 2 ∨ t = 3 ∨ t = 4 ∨ t = 5 ∨ t = 6 ∨ t = 7 := by omega
  rcases this with rfl | rfl | rfl | rfl | rfl | rfl | rfl | rfl <;> simp [L, L0, L1, -List.getD_eq_getElem?_getD] <;> omega

/-- how many bytes a row of n bits has -/
def rowLenN (n : Nat) : Nat := (n + 7) / 8
/-- R bytes of a row -/
def rowB (R : Nat) (row : List Bool) : List UInt8 := (List.range R).map fun j => UInt8.ofNat (byteOf row j)
def rowBytes (row : List Bool) : List UInt8 := rowB (rowLenN row.length) row
theorem rowB_length (R : Nat) (row : List Bool) : (rowB R row).length = R := by simp [rowB]
theorem rowB_get (R : Nat) (row : List Bool) (j : Nat) (h : j < R) : (rowB R row).getD j 0 = UInt8.ofNat (byteOf row j) := by
  simp [rowB, List.getD, h]
theorem rowB_nil (R : Nat) : rowB R [] = List.replicate R 0 := by
  unfold rowB
  rw [List.eq_replicate_iff]
  refine ⟨by simp, fun b hb => ?_⟩
  obtain ⟨j, _, rfl⟩ := List.mem_map.1 hb
  simp [byteOf]
theorem rowB_snoc (R : Nat) (row : List Bool) : rowB (R + 1) row = rowB R row ++ [UInt8.ofNat (byteOf row R)] := by
  simp [rowB, List.range_succ]
theorem rowB_off (R : Nat) (row : List Bool) (i : Nat) (h : row.getD i false = false) : rowB R (row.take (i + 1)) = rowB R (row.take i) := by
  unfold rowB
  refine List.map_congr_left fun j _ => ?_
  rw [byteOf_step, h]
  simp
theorem rowB_on (R : Nat) (row : List Bool) (i : Nat) (h : row.getD i false = true) (hR : i / 8 < R) :
    rowB R (row.take (i + 1)) = (rowB R (row.take i)).set (i / 8) (UInt8.ofNat (byteOf (row.take i) (i / 8) + 2 ^ (7 - i % 8))) := by
  apply List.ext_getElem
  · simp [rowB_length]
  · intro j h1 h2
    rw [rowB_length] at h1
    rw [List.getElem_set]
    by_cases hj : i / 8 = j
    · subst hj
      simp [rowB, byteOf_step, -List.getD_eq_getElem?_getD, h]
    · rw [if_neg hj]
      simp only [rowB, List.getElem_map, List.getElem_range, byteOf_step]
      rw [if_neg (fun e => hj e.symm)]
      simp
/-- bit i of bytes -/
def bitAt (bs : List UInt8) (i : Nat) : Bool := (bs.getD (i / 8) 0).toNat / 2 ^ (7 - i % 8) % 2 == 1
theorem bitAt_row (R : Nat) (row : List Bool) (i : Nat) (h : i / 8 < R) : bitAt (rowB R row) i = row.getD i false := by
  unfold bitAt
  rw [rowB_get _ _ _ h]
  have hlt := byteOf_lt row (i / 8)
  have e : (UInt8.ofNat (byteOf row (i / 8))).toNat = byteOf row (i / 8) := by
    rw [UInt8.toNat_ofNat']
    omega
  rw [e, byteOf_bit row (i / 8) (i % 8) (by omega), show 8 * (i / 8) + i % 8 = i by omega]
  cases row.getD i false <;> rfl
end Go.Proofs.Ytolkgljbphgacaa
