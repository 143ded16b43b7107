/-
  Arithmetic of fixed width as the walk writes it: shifts, or, and, and sums that do not wrap.
-/
import Derived.WalkKit
import Derived.Laws.BitsAllLaws
import Derived.Laws.BitsLemmas
import Derived.Test.YtcolnmjginpalaaDoorPure
namespace Go.Proofs.YtcolnmjginpalaaDoor
open Go.RowKit

theorem u64_in (x : Nat) (h : x < 18446744073709551616) : IntKind.u64.wrap (x : Int) = (x : Int) := by
  rw [IntKind.wrap_u64]; omega
theorem u64_of (x : Int) (h0 : 0 ≤ x) (h : x < 18446744073709551616) : IntKind.u64.wrap x = x := by
  rw [IntKind.wrap_u64]; omega
theorem cast_pow2 (k : Nat) : ((2 : Int) ^ k) = ((2 ^ k : Nat) : Int) := by
  rw [Int.natCast_pow]; rfl

/-- a byte shifted to its place, or-ed onto the lesser ones -/
theorem or_step (v x k : Nat) (hv : v < 256 ^ k) (hx : x < 256) (hk : k < 8) :
    bits .or .u64 (v : Int) (IntKind.u64.wrap (IntKind.u64.wrap (x : Int) * 2 ^ (8 * k))) = ((v + x * 256 ^ k : Nat) : Int) := by
  have h256 : (256 : Nat) ^ k ≤ 256 ^ 7 := Nat.pow_le_pow_right (by omega) (by omega)
  have hp : x * 256 ^ k ≤ 255 * 256 ^ k := Nat.mul_le_mul_right _ (by omega)
  have hlt : x * 256 ^ k < 18446744073709551616 := by omega
  rw [u64_in x (by omega), cast_pow2, ← pow256, ← Int.natCast_mul, u64_in _ hlt, u64_or_nat _ _ (by omega) hlt]
  congr 1
  rw [Nat.or_comm, nat_join (8 * k) (x * 256 ^ k) v (by rw [pow256]; exact Nat.mul_mod_left _ _) (by rw [← pow256]; exact hv)]
  omega

theorem sum_step (v x k : Nat) (hv : v < 256 ^ k) (hx : x < 256) (hk : k < 8) :
    IntKind.u64.wrap ((v : Int) + IntKind.u64.wrap (IntKind.u64.wrap (x : Int) * 256 ^ k)) = ((v + x * 256 ^ k : Nat) : Int) := by
  have h256 : (256 : Nat) ^ k ≤ 256 ^ 7 := Nat.pow_le_pow_right (by omega) (by omega)
  have hp : x * 256 ^ k ≤ 255 * 256 ^ k := Nat.mul_le_mul_right _ (by omega)
  have e : ((256 : Int) ^ k) = ((256 ^ k : Nat) : Int) := by rw [Int.natCast_pow]; rfl
  rw [u64_in x (by omega), e, ← Int.natCast_mul, u64_in _ (by omega), ← Int.natCast_add, u64_in _ (by omega)]

theorem xor255 : ∀ x : Fin 256, 255 ^^^ x.val = 255 - x.val := by decide +kernel
theorem not_u8 (x : Nat) (hx : x < 256) : bits .xor .u8 IntKind.u8.max (x : Int) = ((255 - x : Nat) : Int) := by
  have h := u8_xor_nat 255 x (by omega) hx
  rw [xor255 ⟨x, hx⟩] at h
  exact h

theorem and_low : ∀ (f : Fin 256) (q : Fin 9), f.val &&& (127 / 2 ^ q.val) = f.val % 2 ^ (7 - q.val) := by decide +kernel
theorem and_shift (f q : Nat) (hf : f < 256) (hq : q ≤ 8) : bits .and .u8 (f : Int) (127 / 2 ^ q) = ((f % 2 ^ (7 - q) : Nat) : Int) := by
  have e : (127 / 2 ^ q : Int) = ((127 / 2 ^ q : Nat) : Int) := by rw [cast_pow2]; exact (Int.natCast_ediv 127 (2 ^ q)).symm
  have hl : 127 / 2 ^ q ≤ 127 := Nat.div_le_self _ _
  rw [e, u8_and_nat f (127 / 2 ^ q) hf (by omega)]
  congr 1
  exact and_low ⟨f, hf⟩ ⟨q, by omega⟩
theorem num_step (f q v : Nat) (hf : f < 256) (hq : q ≤ 8) (hv : v < 256 ^ q) :
    bits .or .u64 (IntKind.u64.wrap (IntKind.u64.wrap (bits .and .u8 (f : Int) (127 / 2 ^ q)) * 2 ^ (8 * q))) (v : Int) = ((f % 2 ^ (7 - q) * 256 ^ q + v : Nat) : Int) := by
  have hx : f % 2 ^ (7 - q) * 256 ^ q + v < 18446744073709551616 := by
    have : q = 0 ∨ q = 1 ∨ q = 2 ∨ q = 3 ∨ q = 4 ∨ q = 5 ∨ q = 6 ∨ q = 7 ∨ q = 8 := by omega
    rcases this with rfl | rfl | rfl | rfl | rfl | rfl | rfl | rfl | rfl <;> simp at hv ⊢ <;> omega
  have h1 : f % 2 ^ (7 - q) < 256 := by have := Nat.mod_le f (2 ^ (7 - q)); omega
  rw [and_shift f q hf hq, u64_in _ (by omega), cast_pow2, ← pow256, ← Int.natCast_mul, u64_in _ (by omega), u64_or_nat _ _ (by omega) (by omega)]
  congr 1
  exact nat_join (8 * q) (f % 2 ^ (7 - q) * 256 ^ q) v (by rw [pow256]; exact Nat.mul_mod_left _ _) (by rw [← pow256]; exact hv)

theorem put_byte (v k : Nat) : ((v : Int) / 2 ^ (8 * k) % 256) = (((UInt8.ofNat (v / 256 ^ k % 256)).toNat : Nat) : Int) := by
  have hb : (UInt8.ofNat (v / 256 ^ k % 256)).toNat = v / 256 ^ k % 256 := by simp
  rw [hb, cast_pow2, ← pow256]
  omega

theorem first_nat : ∀ j : Fin 9, 255 - 255 / 2 ^ j.val = 256 - 2 ^ (8 - j.val) ∧ (256 - 2 ^ (8 - j.val)) % 2 ^ (7 - j.val) = 0 ∧ 256 - 2 ^ (8 - j.val) + 2 ^ (7 - j.val) ≤ 256 := by decide +kernel
/-- the first byte of the shortest short number -/
theorem first_byte (v j : Nat) (hv : v < 18446744073709551616) (h : IsFol v j) :
    bits .or .u8 (bits .xor .u8 IntKind.u8.max (255 / 2 ^ j)) ((v : Int) / 2 ^ (8 * j) % 256) = (((UInt8.ofNat (256 - 2 ^ (8 - j) + v / 256 ^ j)).toNat : Nat) : Int) := by
  have hj := h.le
  have ht := (h.top hv).1
  obtain ⟨h1, h2, h3⟩ := first_nat ⟨j, by omega⟩
  simp only at h1 h2 h3
  have e : (255 / 2 ^ j : Int) = ((255 / 2 ^ j : Nat) : Int) := by rw [cast_pow2]; exact (Int.natCast_ediv 255 (2 ^ j)).symm
  have hl : 255 / 2 ^ j ≤ 255 := Nat.div_le_self _ _
  have e2 : ((v : Int) / 2 ^ (8 * j) % 256) = ((v / 256 ^ j : Nat) : Int) := by
    have e3 : (v : Int) / ((256 ^ j : Nat) : Int) = ((v / 256 ^ j : Nat) : Int) := (Int.natCast_ediv v (256 ^ j)).symm
    rw [cast_pow2, ← pow256, e3]
    have : v / 256 ^ j < 256 := by omega
    generalize v / 256 ^ j = y at this ⊢
    omega
  rw [e, not_u8 _ (by omega), e2, u8_or_nat _ _ (by omega) (by omega), h1, nat_join (7 - j) _ _ h2 ht]
  congr 1
  rw [UInt8.toNat_ofNat']
  omega

theorem shr128 : ∀ t : Fin 8, 128 / 2 ^ t.val = 2 ^ (7 - t.val) ∧ 2 ^ (7 - t.val) < 2 ^ (8 - t.val) ∧ 2 ^ (8 - t.val) ∣ 256 := by decide +kernel
/-- a bit that was 0, and what is behind it, set -/
theorem or_bit (old t : Nat) (ho : old < 256) (ht : t < 8) (hl : old % 2 ^ (8 - t) = 0) : bits .or .u8 (old : Int) (128 / 2 ^ t) = (((UInt8.ofNat (old + 2 ^ (7 - t))).toNat : Nat) : Int) := by
  obtain ⟨h1, h2, h3⟩ := shr128 ⟨t, ht⟩
  simp only at h1 h2 h3
  have e : (128 / 2 ^ t : Int) = ((128 / 2 ^ t : Nat) : Int) := by rw [cast_pow2]; exact (Int.natCast_ediv 128 (2 ^ t)).symm
  have hle : (2 : Nat) ^ (7 - t) ≤ 128 := Nat.pow_le_pow_right (n := 2) (by omega) (show 7 - t ≤ 7 by omega)
  rw [e, h1, u8_or_nat old _ ho (by omega), nat_join (8 - t) old _ hl h2]
  obtain ⟨q, hq⟩ := h3
  obtain ⟨p, hp⟩ := Nat.dvd_of_mod_eq_zero hl
  have hpos : 0 < 2 ^ (8 - t) := Nat.two_pow_pos _
  have hpq : p < q := by
    rcases Nat.lt_or_ge p q with h | h
    · exact h
    · have := Nat.mul_le_mul_left (2 ^ (8 - t)) h
      omega
  have : 2 ^ (8 - t) * (p + 1) ≤ 2 ^ (8 - t) * q := Nat.mul_le_mul_left _ hpq
  rw [Nat.mul_add] at this
  have hlt : old + 2 ^ (7 - t) < 256 := by omega
  congr 1
  rw [UInt8.toNat_ofNat']
  exact (Nat.mod_eq_of_lt hlt).symm

/-- a bit of a byte, as the text asks it -/
theorem bit_test (x t : Nat) (hx : x < 256) (ht : t < 8) : ∃ dd y : Nat, (128 : Int) / 2 ^ t = (dd : Int) ∧ 1 ≤ dd ∧ dd ≤ 128 ∧ (x : Int) / (dd : Int) = (y : Int) ∧ y ≤ 255 ∧ ((y : Int) % 2 == 1) = (x / 2 ^ (7 - t) % 2 == 1) ∧ ((y : Int).tmod 2 == 1) = (x / 2 ^ (7 - t) % 2 == 1) := by
  obtain ⟨h1, h2, h3⟩ := shr128 ⟨t, ht⟩
  simp only at h1 h2 h3
  have hl := Nat.div_le_self x (2 ^ (7 - t))
  have e : (x : Int) / ((2 ^ (7 - t) : Nat) : Int) = ((x / 2 ^ (7 - t) : Nat) : Int) := (Int.natCast_ediv x (2 ^ (7 - t))).symm
  refine ⟨2 ^ (7 - t), x / 2 ^ (7 - t), ?_, Nat.two_pow_pos _, Nat.pow_le_pow_right (n := 2) (by omega) (show 7 - t ≤ 7 by omega), e, by omega, ?_, ?_⟩
  · rw [cast_pow2, ← h1]; exact (Int.natCast_ediv 128 (2 ^ t)).symm
  · generalize x / 2 ^ (7 - t) = y
    rw [Bool.eq_iff_iff]
    simp
    omega
  · generalize x / 2 ^ (7 - t) = y
    rw [Int.tmod_eq_emod_of_nonneg (by omega), Bool.eq_iff_iff]
    simp
    omega

end Go.Proofs.YtcolnmjginpalaaDoor
