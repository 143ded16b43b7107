/-
  Arithmetic of bits, more.
-/
import Derived.Test.YtolkgljbphgacaaArith
import Derived.Test.YtolkgljbphgacaaRowPure
namespace Go.Proofs.Ytolkgljbphgacaa
open Go.RowKit

/-- a bit of a byte, as the code asks it -/
theorem and_bit (x t : Nat) (hx : x < 256) (ht : t < 8) : ∃ z : Nat, bits .and .u8 (x : Int) (128 / 2 ^ t) = (z : Int) ∧ z ≤ 255 ∧ ((z : Int) != 0) = (x / 2 ^ (7 - t) % 2 == 1) ∧ ((z : Int) == 0) = !(x / 2 ^ (7 - t) % 2 == 1) := by
  obtain ⟨h1, h2, h3⟩ := shr128 ⟨t, ht⟩
  simp only at h1 h2 h3
  have e : (128 / 2 ^ t : Int) = ((128 / 2 ^ t : Nat) : Int) := by rw [cast_pow2]; exact (Int.natCast_ediv 128 (2 ^ t)).symm
  have hle : (2 : Nat) ^ (7 - t) ≤ 128 := Nat.pow_le_pow_right (n := 2) (by omega) (show 7 - t ≤ 7 by omega)
  have hpos : 0 < 2 ^ (7 - t) := Nat.two_pow_pos _
  have hb : x / 2 ^ (7 - t) % 2 = 0 ∨ x / 2 ^ (7 - t) % 2 = 1 := by omega
  refine ⟨x / 2 ^ (7 - t) % 2 * 2 ^ (7 - t), ?_, ?_, ?_, ?_⟩
  · rw [e, h1, u8_and_nat x _ hx (by omega), nat_bit]
  · rcases hb with h | h <;> rw [h] <;> omega
  · generalize 2 ^ (7 - t) = p at hb hpos
    rcases hb with h | h <;> rw [h] <;> simp
    omega
  · generalize 2 ^ (7 - t) = p at hb hpos
    rcases hb with h | h <;> rw [h] <;> simp
    omega
theorem low_bits : ∀ (x : Fin 256) (t : Fin 8), (x.val * 2 ^ t.val % 256 = 0) ↔ ∀ s : Fin 8, t.val ≤ s.val → x.val / 2 ^ (7 - s.val) % 2 = 0 := by decide +kernel
/-- what stands behind the row's end -/
theorem tail_test (x t : Nat) (hx : x < 256) (ht : t < 8) : ∃ z : Nat, IntKind.u8.wrap ((x : Int) * 2 ^ t) = (z : Int) ∧ ((x : Int) * 2 ^ t % 256) = (z : Int) ∧ z ≤ 255 ∧ (z = 0 ↔ ∀ s, t ≤ s → s < 8 → x / 2 ^ (7 - s) % 2 = 0) := by
  have e : (x : Int) * 2 ^ t % 256 = ((x * 2 ^ t % 256 : Nat) : Int) := by
    rw [cast_pow2, ← Int.natCast_mul]
    omega
  refine ⟨x * 2 ^ t % 256, ?_, e, by omega, ?_⟩
  · rw [IntKind.wrap_u8']; exact e
  · have h := low_bits ⟨x, hx⟩ ⟨t, ht⟩
    simp only at h
    rw [h]
    exact ⟨fun h s h1 h2 => h ⟨s, h2⟩ h1, fun h s hs => h s.val hs s.isLt⟩
/-- The row of n bits at the beginning of bytes; or the code. -/
def tailBad (bs : List UInt8) (n : Nat) : Bool := (List.range (8 * rowLenN n)).any fun i => decide (n ≤ i) && bitAt bs i
theorem tailBad_iff (bs : List UInt8) (n : Nat) (h : n % 8 ≠ 0) : tailBad bs n = true ↔ ¬ ∀ s, n % 8 ≤ s → s < 8 → (bs.getD (n / 8) 0).toNat / 2 ^ (7 - s) % 2 = 0 := by
  have hr : 8 * rowLenN n = 8 * (n / 8) + 8 := by unfold rowLenN; omega
  unfold tailBad
  rw [List.any_eq_true]
  constructor
  · rintro ⟨i, hi, hb⟩ hall
    rw [List.mem_range, hr] at hi
    simp only [Bool.and_eq_true, decide_eq_true_eq] at hb
    have h8 : i / 8 = n / 8 := by omega
    have := hall (i % 8) (by omega) (by omega)
    have hb2 := hb.2
    unfold bitAt at hb2
    rw [h8, this] at hb2
    simp at hb2
  · intro hn
    simp only [Classical.not_forall] at hn
    obtain ⟨s, h1, h2, h3⟩ := hn
    refine ⟨8 * (n / 8) + s, List.mem_range.2 (by omega), ?_⟩
    have e1 : (8 * (n / 8) + s) / 8 = n / 8 := by omega
    have e2 : (8 * (n / 8) + s) % 8 = s := by omega
    have e3 : (bs.getD (n / 8) 0).toNat / 2 ^ (7 - s) % 2 = 1 := by omega
    unfold bitAt
    rw [e1, e2, e3]
    simp
    omega
theorem tailBad_none (bs : List UInt8) (n : Nat) (h : n % 8 = 0) : tailBad bs n = false := by
  have hr : 8 * rowLenN n = n := by unfold rowLenN; omega
  unfold tailBad
  rw [List.any_eq_false]
  intro i hi
  rw [List.mem_range, hr] at hi
  simp
  omega
/-- n bits of bytes -/
def rowOf (bs : List UInt8) (n : Nat) : List Bool := (List.range n).map (bitAt bs)
theorem rowOf_length (bs : List UInt8) (n : Nat) : (rowOf bs n).length = n := by simp [rowOf]
theorem rowOf_succ (bs : List UInt8) (n : Nat) : rowOf bs (n + 1) = rowOf bs n ++ [bitAt bs n] := by simp [rowOf, List.range_succ]
end Go.Proofs.Ytolkgljbphgacaa
