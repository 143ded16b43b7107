/-
  A ring of bytes as numbers: where a byte lies, and what a put does.
-/
import Derived.Test.YtnokbibkjhhcoaaWnPure
namespace Go.Proofs.Ytnokbibkjhhcoaa

/-- the ring holds the window's bytes: byte number i at place i modulo the size, as far back as the size goes -/
def RingOk (s : Ws) (ring : List UInt8) : Prop :=
  1 ≤ s.sz ∧ ring.length ≤ s.sz ∧ s.l.length % s.sz ≤ ring.length ∧ (s.sz ≤ s.l.length → ring.length = s.sz) ∧
    ∀ i, i < s.l.length → s.l.length ≤ i + s.sz → i % s.sz < ring.length ∧ ring.getD (i % s.sz) 0 = s.l.getD i 0

theorem mod_apart {i n z : Nat} (h1 : i < n) (h2 : n < i + z) : i % z ≠ n % z := by
  intro h
  obtain ⟨k, hk⟩ : ∃ k, n = i + k := ⟨n - i, by omega⟩
  have hk0 : 0 < k := by omega
  have hkz : k < z := by omega
  subst hk
  have e : (i + k) % z = (i % z + k) % z := by rw [Nat.add_mod, Nat.mod_eq_of_lt hkz]
  rw [e] at h
  have hi : i % z < z := Nat.mod_lt _ (by omega)
  by_cases hw : i % z + k < z
  · rw [Nat.mod_eq_of_lt hw] at h; omega
  · have e2 : (i % z + k) % z = i % z + k - z := by
      rw [Nat.mod_eq_sub_mod (by omega), Nat.mod_eq_of_lt (by omega)]
    omega

theorem mod_next {n z : Nat} (hz : 1 ≤ z) : (n + 1) % z = if n % z + 1 = z then 0 else n % z + 1 := by
  have hn : n % z < z := Nat.mod_lt _ hz
  by_cases h1 : z = 1
  · subst h1
    rw [Nat.mod_one, Nat.mod_one]
    simp
  · have e : (n + 1) % z = (n % z + 1) % z := by rw [Nat.add_mod, Nat.mod_eq_of_lt (a := 1) (by omega)]
    rw [e]
    split
    · next h => rw [h, Nat.mod_self]
    · next h => exact Nat.mod_eq_of_lt (by omega)

section
variable {s : Ws} {ring : List UInt8}
theorem ring_new {n : Int} (h : n ≤ 1048576) : RingOk (Ws.new n) [] := by
  have e : (Ws.new n).l = [] := rfl
  refine ⟨by show 1 ≤ (max n 1).toNat; omega, by simp, ?_, ?_, ?_⟩
  · rw [e]; simp
  · rw [e]
    intro h
    have : 1 ≤ (Ws.new n).sz := by show 1 ≤ (max n 1).toNat; omega
    simp at h
    omega
  · rw [e]
    intro i hi
    simp at hi
theorem ring_empty (h : RingOk s ring) : RingOk s.empty ring := by
  obtain ⟨h1, h2, h3, h4, h5⟩ := h
  refine ⟨h1, h2, ?_, ?_, ?_⟩
  · show 0 % s.sz ≤ ring.length
    rw [Nat.zero_mod]; exact Nat.zero_le _
  · intro hc
    exfalso
    have : s.sz ≤ 0 := hc
    omega
  · intro i hi
    have : i < 0 := hi
    omega
theorem ring_grow {k : Nat} (h : RingOk s ring) (hk : ring.length + k ≤ s.sz) : RingOk s (ring ++ List.replicate k 0) := by
  obtain ⟨h1, h2, h3, h4, h5⟩ := h
  refine ⟨h1, by simpa using hk, by simp; omega, ?_, ?_⟩
  · intro hc
    have := h4 hc
    simp; omega
  · intro i hi hn
    obtain ⟨a, b⟩ := h5 i hi hn
    refine ⟨by simp; omega, ?_⟩
    rw [← b]
    simp only [List.getD]
    rw [List.getElem?_append_left a]
theorem ring_put {b : UInt8} (h : RingOk s ring) (hn : s.l.length % s.sz < ring.length) : RingOk ⟨s.sz, s.l ++ [b], s.shut⟩ (ring.set (s.l.length % s.sz) b) := by
  obtain ⟨h1, h2, h3, h4, h5⟩ := h
  have hm := mod_next (n := s.l.length) h1
  refine ⟨h1, by simpa using h2, ?_, ?_, ?_⟩
  · show (s.l ++ [b]).length % s.sz ≤ _
    rw [List.length_append, List.length_singleton, hm, List.length_set]
    split <;> omega
  · intro hc
    have hc : s.sz ≤ (s.l ++ [b]).length := hc
    rw [List.length_append, List.length_singleton] at hc
    show (ring.set (s.l.length % s.sz) b).length = s.sz
    rw [List.length_set]
    by_cases hz : s.sz ≤ s.l.length
    · exact h4 hz
    · rw [Nat.mod_eq_of_lt (by omega)] at hn
      omega
  · intro i hi hc
    have hi : i < (s.l ++ [b]).length := hi
    have hc : (s.l ++ [b]).length ≤ i + s.sz := hc
    rw [List.length_append, List.length_singleton] at hi hc
    show i % s.sz < (ring.set (s.l.length % s.sz) b).length ∧ (ring.set (s.l.length % s.sz) b).getD (i % s.sz) 0 = (s.l ++ [b]).getD i 0
    rw [List.length_set]
    by_cases hil : i = s.l.length
    · subst hil
      refine ⟨hn, ?_⟩
      simp only [List.getD]
      rw [List.getElem?_set_self hn, List.getElem?_append_right (Nat.le_refl _), Nat.sub_self]
      rfl
    · obtain ⟨a, e⟩ := h5 i (by omega) (by omega)
      refine ⟨a, ?_⟩
      have hne := mod_apart (i := i) (n := s.l.length) (z := s.sz) (by omega) (by omega)
      simp only [List.getD] at e ⊢
      rw [List.getElem?_set_ne (fun h => hne h.symm), e, List.getElem?_append_left (by omega)]
/-- where a byte lies that is there -/
theorem ring_place {d : Nat} (h : RingOk s ring) (hd : d < s.sz) (hl : d < s.l.length) :
    ∃ p, p < ring.length ∧ ring.getD p 0 = s.l.getD (s.l.length - 1 - d) 0 ∧ (p : Int) = if ((s.l.length % s.sz : Nat) : Int) - 1 - (d : Int) < 0 then ((s.l.length % s.sz : Nat) : Int) - 1 - (d : Int) + (s.sz : Int) else ((s.l.length % s.sz : Nat) : Int) - 1 - (d : Int) := by
  obtain ⟨h1, h2, h3, h4, h5⟩ := h
  obtain ⟨a, b⟩ := h5 (s.l.length - 1 - d) (by omega) (by omega)
  refine ⟨_, a, b, ?_⟩
  generalize s.l.length = n at *
  generalize s.sz = z at *
  have hn : n % z < z := Nat.mod_lt _ h1
  have hq := Nat.div_add_mod n z
  by_cases hc : n % z < d + 1
  · rw [if_pos (by omega)]
    have hq0 : n / z ≠ 0 := by
      intro h0
      rw [h0, Nat.mul_zero, Nat.zero_add] at hq
      rw [hq] at hc
      omega
    obtain ⟨k, hk⟩ : ∃ k, n / z = k + 1 := Nat.exists_eq_succ_of_ne_zero hq0
    rw [hk, Nat.mul_add, Nat.mul_one] at hq
    obtain ⟨t, ht⟩ : ∃ t, t = z * k := ⟨_, rfl⟩
    obtain ⟨u, hu⟩ : ∃ u, u = n % z := ⟨_, rfl⟩
    rw [← hu] at hn hc ⊢
    rw [← ht, ← hu] at hq
    have e : n - 1 - d = u + z - 1 - d + z * k := by rw [← ht]; omega
    rw [e, Nat.add_mul_mod_self_left, Nat.mod_eq_of_lt (by omega)]
    omega
  · rw [if_neg (by omega)]
    obtain ⟨t, ht⟩ : ∃ t, t = z * (n / z) := ⟨_, rfl⟩
    obtain ⟨u, hu⟩ : ∃ u, u = n % z := ⟨_, rfl⟩
    rw [← hu] at hn hc ⊢
    rw [← ht, ← hu] at hq
    have e : n - 1 - d = u - 1 - d + z * (n / z) := by rw [← ht]; omega
    rw [e, Nat.add_mul_mod_self_left, Nat.mod_eq_of_lt (by omega)]
    omega
end
end Go.Proofs.Ytnokbibkjhhcoaa
