/-
  Bytes as a number, the greatest first.
-/
namespace Go.Proofs.YtcolnmjginpalaaDoor

/-- bytes as a number, the greatest first -/
def be (l : List UInt8) : Nat := l.foldl (fun a b => a * 256 + b.toNat) 0
theorem be_nil : be [] = 0 := rfl
theorem be_snoc (l : List UInt8) (x : UInt8) : be (l ++ [x]) = be l * 256 + x.toNat := by simp [be]
theorem be_append (l k : List UInt8) : be (l ++ k) = be l * 256 ^ k.length + be k := by
  generalize hn : k.length = n
  induction n generalizing k with
  | zero => rw [List.eq_nil_of_length_eq_zero hn]; simp [be]
  | succ n ih =>
    have hne : k ≠ [] := by intro e; rw [e] at hn; cases hn
    rw [← List.dropLast_concat_getLast hne, ← List.append_assoc, be_snoc, be_snoc, ih k.dropLast (by simp [hn]), Nat.pow_succ, ← Nat.mul_assoc, Nat.add_mul]
    omega
theorem be_lt (l : List UInt8) : ∀ n, l.length = n → be l < 256 ^ n := by
  intro n
  induction n generalizing l with
  | zero => intro h; rw [List.eq_nil_of_length_eq_zero h]; decide
  | succ n ih =>
    intro h
    have hne : l ≠ [] := by intro e; rw [e] at h; cases h
    rw [← List.dropLast_concat_getLast hne, be_snoc, Nat.pow_succ]
    have := ih l.dropLast (by simp [h])
    have := (l.getLast hne).toNat_lt
    omega
theorem be_inj : ∀ (l k : List UInt8), l.length = k.length → be l = be k → l = k := by
  intro l
  generalize hn : l.length = n
  induction n generalizing l with
  | zero => intro k h _; rw [List.eq_nil_of_length_eq_zero hn, List.eq_nil_of_length_eq_zero h.symm]
  | succ n ih =>
    intro k h e
    have hl : l ≠ [] := by intro e; rw [e] at hn; cases hn
    have hk : k ≠ [] := by intro e; rw [e] at h; cases h
    rw [← List.dropLast_concat_getLast hl, ← List.dropLast_concat_getLast hk, be_snoc, be_snoc] at e
    have h1 := (l.getLast hl).toNat_lt
    have h2 := (k.getLast hk).toNat_lt
    have h3 := ih l.dropLast (by simp [hn]) k.dropLast (by simp [← h]) (by omega)
    have h4 : l.getLast hl = k.getLast hk := UInt8.toNat_inj.1 (by omega)
    rw [← List.dropLast_concat_getLast hl, ← List.dropLast_concat_getLast hk, h3, h4]
theorem be_zeros (n : Nat) : be (List.replicate n 0) = 0 := by
  induction n with
  | zero => rfl
  | succ n ih => rw [List.replicate_succ', be_snoc, ih]; rfl
/-- the first l of the bytes, and what is behind -/
theorem be_take (bs : List UInt8) (l : Nat) : be (bs.take l) * 256 ^ (bs.length - l) ≤ be bs ∧ be bs < (be (bs.take l) + 1) * 256 ^ (bs.length - l) := by
  have e := be_append (bs.take l) (bs.drop l)
  rw [List.take_append_drop, List.length_drop] at e
  have h := be_lt (bs.drop l) (bs.length - l) (by simp)
  rw [Nat.add_mul]
  omega
theorem be_take_succ {bs : List UInt8} {l : Nat} (h : l < bs.length) : be (bs.take (l + 1)) = be (bs.take l) * 256 + (bs[l]).toNat := by
  rw [List.take_succ_eq_append_getElem h, be_snoc]
/-- a number of few digits begins with a byte 0 -/
theorem be_head {z : UInt8} {t : List UInt8} (h : be (z :: t) < 256 ^ t.length) : z = 0 := by
  have e : z :: t = [z] ++ t := rfl
  rw [e, be_append] at h
  have : be [z] = z.toNat := by simp [be]
  rw [this] at h
  apply UInt8.toNat_inj.1
  rcases Nat.eq_zero_or_pos z.toNat with h0 | h0
  · exact h0
  · have := Nat.mul_le_mul_right (256 ^ t.length) h0
    omega
end Go.Proofs.YtcolnmjginpalaaDoor
