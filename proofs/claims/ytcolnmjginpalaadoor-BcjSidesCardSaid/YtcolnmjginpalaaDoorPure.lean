/-
  Numbers and rows as the document has them, over lists of bytes: plain mathematics, no program.
-/
namespace Go.Proofs.YtcolnmjginpalaaDoor

/-- bytes as a number, the least first -/
def leVal : List UInt8 → Nat
  | [] => 0
  | b :: r => b.toNat + 256 * leVal r

theorem leVal_snoc (l : List UInt8) (b : UInt8) : leVal (l ++ [b]) = leVal l + b.toNat * 256 ^ l.length := by
  induction l with
  | nil => simp [leVal]
  | cons a r ih =>
    simp only [List.cons_append, leVal, ih, List.length_cons, Nat.pow_succ, Nat.mul_add]
    have : 256 * (b.toNat * 256 ^ r.length) = b.toNat * (256 ^ r.length * 256) := by
      rw [Nat.mul_comm 256, Nat.mul_assoc]
    omega
theorem leVal_lt (l : List UInt8) : leVal l < 256 ^ l.length := by
  induction l with
  | nil => simp [leVal]
  | cons a r ih =>
    have := a.toNat_lt
    simp only [leVal, List.length_cons, Nat.pow_succ]
    omega
theorem take_snoc {α : Type} (l : List α) (k : Nat) (h : k < l.length) (d : α) : l.take (k + 1) = l.take k ++ [l.getD k d] := by
  rw [List.take_succ_eq_append_getElem h]
  simp [List.getD, h]
theorem leVal_take (l : List UInt8) (k : Nat) (h : k < l.length) : leVal (l.take (k + 1)) = leVal (l.take k) + (l.getD k 0).toNat * 256 ^ k := by
  rw [take_snoc l k h 0, leVal_snoc]
  simp [Nat.min_eq_left (Nat.le_of_lt h)]
theorem leVal_take_lt (l : List UInt8) (k : Nat) : leVal (l.take k) < 256 ^ k := by
  have h := leVal_lt (l.take k)
  have : (256 : Nat) ^ (l.take k).length ≤ 256 ^ k := Nat.pow_le_pow_right (by omega) (by simp; omega)
  omega
theorem pow256 (k : Nat) : (256 : Nat) ^ k = 2 ^ (8 * k) := by
  rw [Nat.pow_mul]
theorem pow_le_64 (k : Nat) (h : k ≤ 8) : (256 : Nat) ^ k ≤ 18446744073709551616 := by
  have : (256 : Nat) ^ k ≤ 256 ^ 8 := Nat.pow_le_pow_right (by omega) h
  omega
/-- the size least bytes of v, the least first -/
def leBytes (size v : Nat) : List UInt8 := (List.range size).map fun i => UInt8.ofNat (v / 256 ^ i % 256)
theorem leBytes_length (size v : Nat) : (leBytes size v).length = size := by simp [leBytes]
theorem leBytes_succ (k v : Nat) : leBytes (k + 1) v = leBytes k v ++ [UInt8.ofNat (v / 256 ^ k % 256)] := by
  simp [leBytes, List.range_succ]
theorem leVal_leBytes (size v : Nat) : leVal (leBytes size v) = v % 256 ^ size := by
  induction size with
  | zero => simp [leBytes, leVal, Nat.mod_one]
  | succ k ih =>
    rw [leBytes_succ, leVal_snoc, ih, leBytes_length]
    have hb : (UInt8.ofNat (v / 256 ^ k % 256)).toNat = v / 256 ^ k % 256 := by
      simp
    rw [hb, Nat.pow_succ, Nat.mod_mul, Nat.mul_comm (256 ^ k)]

/-- how many bytes follow the first of the shortest short number that is v: k -/
structure IsFol (v k : Nat) : Prop where
  le : k ≤ 8
  lt : k < 8 → v < 2 ^ (7 * k + 7)
  ge : ∀ j, j < k → 2 ^ (7 * j + 7) ≤ v
theorem IsFol.uniq {v a b : Nat} (h : IsFol v a) (k : IsFol v b) : a = b := by
  rcases Nat.lt_trichotomy a b with hl | he | hl
  · have h1 := h.lt (by have := k.le; omega)
    have h2 := k.ge a hl
    omega
  · exact he
  · have h1 := k.lt (by have := h.le; omega)
    have h2 := h.ge b hl
    omega
def folAux (v : Nat) : Nat → Nat → Nat
  | 0, k => k
  | f + 1, k => if v < 2 ^ (7 * k + 7) then k else folAux v f (k + 1)
def fol (v : Nat) : Nat := folAux v 8 0
theorem folAux_is (v : Nat) : ∀ f k, f + k = 8 → (∀ j, j < k → 2 ^ (7 * j + 7) ≤ v) → IsFol v (folAux v f k) := by
  intro f
  induction f with
  | zero => intro k hk hj; exact ⟨by simp [folAux]; omega, by simp [folAux]; omega, hj⟩
  | succ f ih =>
    intro k hk hj
    unfold folAux
    by_cases hlt : v < 2 ^ (7 * k + 7)
    · rw [if_pos hlt]
      exact ⟨by omega, fun _ => hlt, hj⟩
    · rw [if_neg hlt]
      refine ih (k + 1) (by omega) (fun j h => ?_)
      by_cases e : j = k
      · subst e; omega
      · exact hj j (by omega)
theorem fol_is (v : Nat) : IsFol v (fol v) := folAux_is v 8 0 rfl (by omega)
theorem fol_eq {v k : Nat} (h : IsFol v k) : fol v = k := (fol_is v).uniq h
/-- what stands above the following bytes -/
theorem IsFol.top {v k : Nat} (h : IsFol v k) (hv : v < 18446744073709551616) : v / 256 ^ k < 2 ^ (7 - k) ∧ (7 ≤ k → v / 256 ^ k = 0) := by
  have hk := h.le
  have h1 := h.lt
  have : k = 0 ∨ k = 1 ∨ k = 2 ∨ k = 3 ∨ k = 4 ∨ k = 5 ∨ k = 6 ∨ k = 7 ∨ k = 8 := by omega
  rcases this with rfl | rfl | rfl | rfl | rfl | rfl | rfl | rfl | rfl <;> simp at h1 ⊢ <;> omega
/-- the shortest short number that is v -/
def shortBytes (v : Nat) : List UInt8 := UInt8.ofNat (256 - 2 ^ (8 - fol v) + v / 256 ^ fol v) :: leBytes (fol v) v
theorem shortBytes_length (v : Nat) : (shortBytes v).length = 1 + fol v := by simp [shortBytes, leBytes_length]; omega
end Go.Proofs.YtcolnmjginpalaaDoor
