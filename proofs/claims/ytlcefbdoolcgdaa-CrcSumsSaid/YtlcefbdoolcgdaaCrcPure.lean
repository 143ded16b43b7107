/-
  The check sum as the document has it, over lists of bytes: plain mathematics, no program.
-/
namespace Go.Proofs.Ytlcefbdoolcgdaa

/-- one halving of the register -/
def halve (x : Nat) : Nat := if x % 2 = 1 then (x / 2) ^^^ 3988292384 else x / 2
/-- n halvings -/
def halves : Nat → Nat → Nat
  | 0, x => x
  | n + 1, x => halve (halves n x)
/-- the register behind a byte that was xored in -/
def tick (x : Nat) : Nat := halves 8 x
/-- the register behind bytes -/
def reg (r : Nat) (l : List UInt8) : Nat := l.foldl (fun r b => tick (r ^^^ b.toNat)) r
/-- all bits turned -/
def flip (x : Nat) : Nat := 4294967295 ^^^ x
/-- the check sum -/
def sumOf (l : List UInt8) : Nat := flip (reg 4294967295 l)

theorem flip_sub (x : Nat) (h : x < 4294967296) : flip x = 4294967295 - x := by
  have h1 : (BitVec.allOnes 32).toNat = 4294967295 := by decide
  have h2 : (BitVec.ofNat 32 x).toNat = x := by simp; omega
  have h3 : (BitVec.allOnes 32 ^^^ BitVec.ofNat 32 x) = ~~~ (BitVec.ofNat 32 x) := BitVec.allOnes_xor
  have h4 := congrArg BitVec.toNat h3
  rw [BitVec.toNat_xor, h1, h2, BitVec.toNat_not, h2] at h4
  unfold flip
  omega
theorem xor_twice (a x : Nat) : a ^^^ (a ^^^ x) = x := by rw [← Nat.xor_assoc, Nat.xor_self, Nat.zero_xor]
theorem flip_eq (x : Nat) : flip x = 4294967295 ^^^ x := rfl
theorem flip_flip (x : Nat) : flip (flip x) = x := by rw [flip_eq, flip_eq, xor_twice]
theorem flip_lt (x : Nat) (h : x < 4294967296) : flip x < 4294967296 := Nat.xor_lt_two_pow (n := 32) (by decide) h
theorem flip_inj {x y : Nat} (h : flip x = flip y) : x = y := by rw [← flip_flip x, h, flip_flip]

theorem halve_zero : halve 0 = 0 := by decide
theorem halve_xor (x y : Nat) : halve (x ^^^ y) = halve x ^^^ halve y := by
  have h2 : (x ^^^ y) / 2 = x / 2 ^^^ y / 2 := Nat.xor_div_two
  have h1 : (x ^^^ y) % 2 = 1 ↔ ¬ (x % 2 = 1 ↔ y % 2 = 1) := Nat.xor_mod_two_eq_one
  unfold halve
  rw [h2]
  rcases Nat.mod_two_eq_zero_or_one x with hx | hx <;> rcases Nat.mod_two_eq_zero_or_one y with hy | hy
  · rw [if_neg (by rw [h1]; omega), if_neg (by omega), if_neg (by omega)]
  · rw [if_pos (by rw [h1]; omega), if_neg (by omega), if_pos hy, Nat.xor_assoc]
  · rw [if_pos (by rw [h1]; omega), if_pos hx, if_neg (by omega), Nat.xor_assoc, Nat.xor_assoc, Nat.xor_comm (y / 2)]
  · rw [if_neg (by rw [h1]; omega), if_pos hx, if_pos hy]
    have e : x / 2 ^^^ 3988292384 ^^^ (y / 2 ^^^ 3988292384) = x / 2 ^^^ y / 2 ^^^ (3988292384 ^^^ 3988292384) := by
      rw [Nat.xor_assoc, Nat.xor_assoc, Nat.xor_comm (y / 2) 3988292384, ← Nat.xor_assoc 3988292384, Nat.xor_self, Nat.zero_xor, Nat.xor_zero]
    rw [e, Nat.xor_self, Nat.xor_zero]
theorem halve_even (x : Nat) : halve (2 * x) = x := by
  unfold halve
  rw [if_neg (by omega)]
  omega
theorem halve_lt (x : Nat) (h : x < 4294967296) : halve x < 4294967296 := by
  unfold halve
  split
  · exact Nat.xor_lt_two_pow (n := 32) (by omega) (by decide)
  · omega
theorem taps_top (y : Nat) (h : y < 2147483648) : 2147483648 ≤ y ^^^ 3988292384 := by
  have h1 : (y ^^^ 3988292384).testBit 31 = true := by
    rw [Nat.testBit_xor, Nat.testBit_lt_two_pow (by simpa using h)]
    decide
  have := Nat.ge_two_pow_of_testBit h1
  simpa using this
theorem halve_inj {x y : Nat} (hx : x < 4294967296) (hy : y < 4294967296) (h : halve x = halve y) : x = y := by
  unfold halve at h
  have tx := taps_top (x / 2) (by omega)
  have ty := taps_top (y / 2) (by omega)
  split at h <;> split at h
  · have e : x / 2 = y / 2 := by
      have := congrArg (· ^^^ 3988292384) h
      simpa [Nat.xor_assoc] using this
    omega
  · omega
  · omega
  · omega

theorem halves_zero (n : Nat) : halves n 0 = 0 := by
  induction n with
  | zero => rfl
  | succ n ih => rw [halves, ih, halve_zero]
theorem halves_xor (n x y : Nat) : halves n (x ^^^ y) = halves n x ^^^ halves n y := by
  induction n with
  | zero => rfl
  | succ n ih => rw [halves, ih, halve_xor]; rfl
theorem halves_add (m n x : Nat) : halves (m + n) x = halves m (halves n x) := by
  induction m with
  | zero => simp [halves]
  | succ m ih => rw [Nat.succ_add, halves, ih]; rfl
theorem halves_lt (n x : Nat) (h : x < 4294967296) : halves n x < 4294967296 := by
  induction n with
  | zero => exact h
  | succ n ih => exact halve_lt _ ih
theorem halves_inj (n : Nat) {x y : Nat} (hx : x < 4294967296) (hy : y < 4294967296) (h : halves n x = halves n y) : x = y := by
  induction n with
  | zero => exact h
  | succ n ih => exact ih (halve_inj (halves_lt n x hx) (halves_lt n y hy) h)
/-- what has n bits 0 at its least end only moves down -/
theorem halves_pow (n x : Nat) : halves n (2 ^ n * x) = x := by
  induction n generalizing x with
  | zero => simp [halves]
  | succ n ih =>
    rw [halves, Nat.pow_succ, Nat.mul_assoc, ih, halve_even]

theorem split_at (n z : Nat) : 2 ^ n * (z / 2 ^ n) ^^^ z % 2 ^ n = z := by
  apply Nat.eq_of_testBit_eq
  intro i
  rw [Nat.testBit_xor, Nat.testBit_mod_two_pow, Nat.testBit_two_pow_mul, Nat.testBit_div_two_pow]
  by_cases h : n ≤ i
  · rw [show i - n + n = i by omega]
    simp [h, show ¬ i < n by omega]
  · simp [h, show i < n by omega]

theorem tick_lt (x : Nat) (h : x < 4294967296) : tick x < 4294967296 := halves_lt 8 x h
theorem tick_xor (x y : Nat) : tick (x ^^^ y) = tick x ^^^ tick y := halves_xor 8 x y
/-- One look does eight halvings. -/
theorem tick_look (r b : Nat) (hb : b < 256) : r / 256 ^^^ tick ((r % 256) ^^^ b) = tick (r ^^^ b) := by
  have e1 : (r ^^^ b) = 2 ^ 8 * (r / 2 ^ 8) ^^^ ((r % 2 ^ 8) ^^^ b) := by
    rw [← Nat.xor_assoc, split_at]
  have e2 : tick (2 ^ 8 * (r / 2 ^ 8)) = r / 2 ^ 8 := halves_pow 8 _
  rw [e1, tick_xor (2 ^ 8 * (r / 2 ^ 8)), e2]

theorem reg_lt (r : Nat) (l : List UInt8) (h : r < 4294967296) : reg r l < 4294967296 := by
  induction l generalizing r with
  | nil => exact h
  | cons b t ih =>
    refine ih _ (tick_lt _ (Nat.xor_lt_two_pow (n := 32) h ?_))
    have := b.toNat_lt
    omega
theorem reg_snoc (r : Nat) (l : List UInt8) (b : UInt8) : reg r (l ++ [b]) = tick (reg r l ^^^ b.toNat) := by simp [reg]
theorem reg_append (r : Nat) (l m : List UInt8) : reg r (l ++ m) = reg (reg r l) m := by simp [reg]
theorem reg_take (r : Nat) (l : List UInt8) (k : Nat) (h : k < l.length) : reg r (l.take (k + 1)) = tick (reg r (l.take k) ^^^ (l.getD k 0).toNat) := by
  rw [List.take_succ_eq_append_getElem h, reg_snoc]
  simp [List.getD, h]
theorem sumOf_lt (l : List UInt8) : sumOf l < 4294967296 := flip_lt _ (reg_lt _ _ (by decide))
theorem sumOf_eq (l : List UInt8) : sumOf l = 4294967295 - reg 4294967295 l := flip_sub _ (reg_lt _ _ (by decide))
theorem sumOf_append (l m : List UInt8) : sumOf (l ++ m) = flip (reg (flip (sumOf l)) m) := by
  unfold sumOf
  rw [reg_append, flip_flip]
theorem sumOf_nil : sumOf [] = 0 := by decide

/-- Rows of as many bytes: the registers go together as the bytes do. -/
theorem reg_three (r : Nat) (a b c : List UInt8) (h1 : a.length = b.length) (h2 : a.length = c.length) (x y z : Nat) (h : r = x ^^^ y ^^^ z) :
    reg r ((a.zip (b.zip c)).map fun p => p.1 ^^^ p.2.1 ^^^ p.2.2) = reg x a ^^^ reg y b ^^^ reg z c := by
  subst h
  induction a generalizing b c x y z with
  | nil =>
    obtain rfl := List.eq_nil_of_length_eq_zero h1.symm
    obtain rfl := List.eq_nil_of_length_eq_zero h2.symm
    rfl
  | cons p a ih =>
    rcases b with _ | ⟨q, b⟩
    · simp at h1
    rcases c with _ | ⟨s, c⟩
    · simp at h2
    simp only [List.length_cons, Nat.add_right_cancel_iff] at h1 h2
    have e : tick (x ^^^ y ^^^ z ^^^ (p ^^^ q ^^^ s).toNat) = tick (x ^^^ p.toNat) ^^^ tick (y ^^^ q.toNat) ^^^ tick (z ^^^ s.toNat) := by
      rw [← tick_xor, ← tick_xor]
      congr 1
      simp only [UInt8.toNat_xor]
      generalize p.toNat = p
      generalize q.toNat = q
      generalize s.toNat = s
      apply Nat.eq_of_testBit_eq
      intro i
      simp only [Nat.testBit_xor]
      cases x.testBit i <;> cases y.testBit i <;> cases z.testBit i <;> cases p.testBit i <;> cases q.testBit i <;> cases s.testBit i <;> rfl
    have := ih b c h1 h2 (tick (x ^^^ p.toNat)) (tick (y ^^^ q.toNat)) (tick (z ^^^ s.toNat))
    rw [← e] at this
    exact this
theorem sumOf_three (a b c : List UInt8) (h1 : a.length = b.length) (h2 : a.length = c.length) :
    sumOf ((a.zip (b.zip c)).map fun p => p.1 ^^^ p.2.1 ^^^ p.2.2) = sumOf a ^^^ sumOf b ^^^ sumOf c := by
  unfold sumOf
  rw [reg_three 4294967295 a b c h1 h2 4294967295 4294967295 4294967295 (by decide)]
  unfold flip
  generalize reg 4294967295 a = x
  generalize reg 4294967295 b = y
  generalize reg 4294967295 c = z
  apply Nat.eq_of_testBit_eq
  intro i
  simp only [Nat.testBit_xor]
  cases x.testBit i <;> cases y.testBit i <;> cases z.testBit i <;> cases (4294967295 : Nat).testBit i <;> rfl

/-- A number's bytes, the least first, are its bits moved through. -/
theorem tick_byte (r s : Nat) : tick (r ^^^ s % 256) = tick (r ^^^ s) ^^^ s / 256 := by
  have e : r ^^^ s = (2 ^ 8 * (s / 2 ^ 8)) ^^^ (r ^^^ s % 2 ^ 8) := by
    rw [Nat.xor_comm, Nat.xor_comm (2 ^ 8 * (s / 2 ^ 8)), Nat.xor_assoc, Nat.xor_comm (s % 2 ^ 8), split_at, Nat.xor_comm]
  have e2 : tick (2 ^ 8 * (s / 2 ^ 8)) = s / 2 ^ 8 := halves_pow 8 _
  rw [e, tick_xor (2 ^ 8 * (s / 2 ^ 8)), e2, Nat.xor_comm (s / 2 ^ 8), Nat.xor_assoc]
  show _ = _ ^^^ (s / 256 ^^^ s / 256)
  rw [Nat.xor_self, Nat.xor_zero]
/-- the four bytes of a number, the least first -/
def four (s : Nat) : List UInt8 := [UInt8.ofNat (s % 256), UInt8.ofNat (s / 256 % 256), UInt8.ofNat (s / 65536 % 256), UInt8.ofNat (s / 16777216 % 256)]
theorem ofNat_mod (x : Nat) : (UInt8.ofNat (x % 256)).toNat = x % 256 := by simp
theorem xor_cancel (x y : Nat) : (x ^^^ y) ^^^ y = x := by rw [Nat.xor_assoc, Nat.xor_self, Nat.xor_zero]
theorem reg_four (r s : Nat) (hs : s < 4294967296) : reg r (four s) = halves 32 (r ^^^ s) := by
  have h0 : reg r (four s) = tick (tick (tick (tick (r ^^^ s % 256) ^^^ s / 256 % 256) ^^^ s / 65536 % 256) ^^^ s / 16777216 % 256) := by
    simp only [reg, four, List.foldl_cons, List.foldl_nil, ofNat_mod]
  have e1 : s / 65536 = s / 256 / 256 := by omega
  have e2 : s / 16777216 = s / 256 / 256 / 256 := by omega
  have e3 : s / 256 / 256 / 256 / 256 = 0 := by omega
  rw [h0, e1, e2]
  rw [tick_byte r s, tick_byte _ (s / 256), xor_cancel, tick_byte _ (s / 256 / 256), xor_cancel, tick_byte _ (s / 256 / 256 / 256), xor_cancel, e3, Nat.xor_zero]
  show tick (tick (tick (tick (r ^^^ s)))) = _
  unfold tick
  rw [← halves_add, ← halves_add, ← halves_add]
theorem sumOf_tail (l : List UInt8) : sumOf (l ++ four (sumOf l)) = 558161692 := by
  rw [sumOf_append, reg_four _ _ (sumOf_lt l)]
  have e : flip (sumOf l) ^^^ sumOf l = 4294967295 := by
    unfold flip
    rw [Nat.xor_assoc, Nat.xor_self, Nat.xor_zero]
  rw [e]
  decide +kernel
end Go.Proofs.Ytlcefbdoolcgdaa
