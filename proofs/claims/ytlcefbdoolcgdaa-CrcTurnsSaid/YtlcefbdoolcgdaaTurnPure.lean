/-
  Bytes that are changed within 32 bits, one behind the other, have another sum: plain mathematics.
-/
import Derived.Test.YtlcefbdoolcgdaaCrcPure
namespace Go.Proofs.Ytlcefbdoolcgdaa

/-- the first j of five bytes from k on, each xored with its byte of x -/
def turned (l : List UInt8) (k x : Nat) : Nat → List UInt8
  | 0 => l
  | j + 1 => (turned l k x j).set (k + j) ((turned l k x j).getD (k + j) 0 ^^^ UInt8.ofNat (x / 256 ^ j % 256))
theorem turned_length (l : List UInt8) (k x j : Nat) : (turned l k x j).length = l.length := by
  induction j with
  | zero => rfl
  | succ j ih => rw [turned, List.length_set, ih]

theorem turned_five (p q : List UInt8) (a b c d e : UInt8) (x : Nat) :
    turned (p ++ a :: b :: c :: d :: e :: q) p.length x 5 =
      p ++ (a ^^^ UInt8.ofNat (x % 256)) :: (b ^^^ UInt8.ofNat (x / 256 % 256)) :: (c ^^^ UInt8.ofNat (x / 65536 % 256)) :: (d ^^^ UInt8.ofNat (x / 16777216 % 256)) :: (e ^^^ UInt8.ofNat (x / 4294967296 % 256)) :: q := by
  simp only [turned]
  simp [List.set_append_right, List.getD_eq_getElem?_getD, List.getElem?_append_right]

theorem split_five (l : List UInt8) (k : Nat) (h : k + 5 ≤ l.length) : ∃ (p q : List UInt8) (a b c d e : UInt8), l = p ++ a :: b :: c :: d :: e :: q ∧ p.length = k := by
  have hd : (l.drop k).length = l.length - k := List.length_drop
  rcases hq : l.drop k with _ | ⟨a, _ | ⟨b, _ | ⟨c, _ | ⟨d, _ | ⟨e, q⟩⟩⟩⟩⟩
  all_goals (rw [hq] at hd; try (simp at hd; omega))
  refine ⟨l.take k, q, a, b, c, d, e, ?_, by rw [List.length_take]; omega⟩
  rw [← hq, List.take_append_drop]

theorem reg_inj (q : List UInt8) (r s : Nat) (hr : r < 4294967296) (hs : s < 4294967296) (h : reg r q = reg s q) : r = s := by
  induction q generalizing r s with
  | nil => exact h
  | cons b q ih =>
    have hb := b.toNat_lt
    have h1 : r ^^^ b.toNat < 4294967296 := Nat.xor_lt_two_pow (n := 32) hr (by omega)
    have h2 : s ^^^ b.toNat < 4294967296 := Nat.xor_lt_two_pow (n := 32) hs (by omega)
    have h3 := ih (tick (r ^^^ b.toNat)) (tick (s ^^^ b.toNat)) (tick_lt _ h1) (tick_lt _ h2) h
    have h4 := halves_inj 8 h1 h2 h3
    have := congrArg (· ^^^ b.toNat) h4
    simpa [xor_cancel] using this

theorem reg_cons (r : Nat) (b : UInt8) (l : List UInt8) : reg r (b :: l) = reg (tick (r ^^^ b.toNat)) l := by
  unfold reg
  rw [List.foldl_cons]
theorem xor_swap (r d a x : Nat) : r ^^^ d ^^^ (a ^^^ x) = (r ^^^ a) ^^^ (d ^^^ x) := by
  apply Nat.eq_of_testBit_eq
  intro i
  simp only [Nat.testBit_xor]
  cases r.testBit i <;> cases d.testBit i <;> cases a.testBit i <;> cases x.testBit i <;> rfl
theorem tick_turn (r d : Nat) (a : UInt8) (x : Nat) : tick (r ^^^ d ^^^ (a ^^^ UInt8.ofNat (x % 256)).toNat) = tick (r ^^^ a.toNat) ^^^ tick (d ^^^ x % 256) := by
  rw [UInt8.toNat_xor, ofNat_mod, xor_swap, tick_xor]

theorem five_zero (x : Nat) (hx : x < 1099511627776) :
    tick (tick (tick (tick (tick (0 ^^^ x % 256) ^^^ x / 256 % 256) ^^^ x / 65536 % 256) ^^^ x / 16777216 % 256) ^^^ x / 4294967296 % 256) = halves 40 x := by
  have e1 : x / 65536 = x / 256 / 256 := by omega
  have e2 : x / 16777216 = x / 256 / 256 / 256 := by omega
  have e3 : x / 4294967296 = x / 256 / 256 / 256 / 256 := by omega
  have e4 : x / 256 / 256 / 256 / 256 / 256 = 0 := by omega
  rw [e1, e2, e3, tick_byte 0 x, tick_byte _ (x / 256), xor_cancel, tick_byte _ (x / 256 / 256), xor_cancel, tick_byte _ (x / 256 / 256 / 256), xor_cancel, tick_byte _ (x / 256 / 256 / 256 / 256), xor_cancel, e4, Nat.xor_zero, Nat.zero_xor]
  show tick (tick (tick (tick (tick x)))) = _
  unfold tick
  rw [← halves_add, ← halves_add, ← halves_add, ← halves_add]

theorem halves_shift (b s : Nat) (hb : b < 4294967296) (h0 : b ≠ 0) (hs : s < 8) : halves 40 (b * 2 ^ s) ≠ 0 ∧ halves 40 (b * 2 ^ s) < 4294967296 ∧ b * 2 ^ s < 1099511627776 := by
  have e : halves 40 (b * 2 ^ s) = halves (40 - s) b := by
    rw [show (40 : Nat) = (40 - s) + s by omega, halves_add, Nat.mul_comm, halves_pow]
    congr 1
    omega
  refine ⟨?_, ?_, ?_⟩
  · rw [e]
    intro h
    rw [← halves_zero (40 - s)] at h
    exact h0 (halves_inj _ hb (by decide) h)
  · rw [e]; exact halves_lt _ _ hb
  · have : (2 : Nat) ^ s ≤ 2 ^ 7 := Nat.pow_le_pow_right (by omega) (by omega)
    have h2 : b * 2 ^ s ≤ 4294967295 * 2 ^ 7 := Nat.mul_le_mul (by omega) this
    omega

theorem sumOf_turned (l : List UInt8) (k b s : Nat) (h : k + 5 ≤ l.length) (hb : b < 4294967296) (h0 : b ≠ 0) (hs : s < 8) : sumOf (turned l k (b * 2 ^ s) 5) ≠ sumOf l := by
  obtain ⟨hne, hlt, hx⟩ := halves_shift b s hb h0 hs
  have hz := five_zero (b * 2 ^ s) hx
  generalize b * 2 ^ s = x at hne hlt hx hz
  obtain ⟨p, q, a0, a1, a2, a3, a4, rfl, rfl⟩ := split_five l k h
  rw [turned_five]
  intro he
  have h1 := flip_inj he
  rw [reg_append, reg_append] at h1
  have hr : reg 4294967295 p < 4294967296 := reg_lt _ _ (by decide)
  generalize reg 4294967295 p = r at h1 hr
  simp only [reg_cons] at h1
  have t0 := tick_turn r 0 a0 x
  rw [Nat.xor_zero] at t0
  rw [t0, tick_turn, tick_turn, tick_turn, tick_turn, hz] at h1
  have c : ∀ (y : Nat) (a : UInt8), y < 4294967296 → tick (y ^^^ a.toNat) < 4294967296 := fun y a hy => tick_lt _ (Nat.xor_lt_two_pow (n := 32) hy (by have := a.toNat_lt; omega))
  have hu := c _ a4 (c _ a3 (c _ a2 (c _ a1 (c r a0 hr))))
  generalize tick (tick (tick (tick (tick (r ^^^ a0.toNat) ^^^ a1.toNat) ^^^ a2.toNat) ^^^ a3.toNat) ^^^ a4.toNat) = u at h1 hu
  have h2 := reg_inj q _ _ (Nat.xor_lt_two_pow (n := 32) hu hlt) hu h1
  apply hne
  have := congrArg (u ^^^ ·) h2
  simpa [xor_twice] using this
end Go.Proofs.Ytlcefbdoolcgdaa
