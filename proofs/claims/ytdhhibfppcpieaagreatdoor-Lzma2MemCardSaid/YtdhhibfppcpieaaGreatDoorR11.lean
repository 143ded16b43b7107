/-
  WnPure, WnRing, Own: put together.
-/
import Derived.Test.YtdhhibfppcpieaaGreatDoorR01
import Derived.Test.YtdhhibfppcpieaaGreatDoorR02
set_option linter.unusedVariables false
set_option linter.unusedSimpArgs false
/-
  A window as numbers: its size, all that was put since it was emptied, whether it is closed.
-/
namespace Go.Proofs.YtdhhibfppcpieaaGreatDoor

structure Ws where
  sz : Nat
  l : List UInt8
  shut : Bool

def Ws.has (s : Ws) (d : Int) : Bool := !s.shut && decide (0 ≤ d ∧ d < (s.sz : Int) ∧ d < (s.l.length : Int))
def Ws.at_ (s : Ws) (d : Int) : UInt8 := if s.has d = true then s.l.getD (s.l.length - 1 - d.toNat) 0 else 0
def Ws.put (s : Ws) (b : UInt8) : Ws := if s.shut = true then s else ⟨s.sz, s.l ++ [b], false⟩
def Ws.copy (s : Ws) (d : Int) : Ws := if s.has d = true then s.put (s.at_ d) else s
def Ws.empty (s : Ws) : Ws := ⟨s.sz, [], s.shut⟩
def Ws.close (s : Ws) : Ws := ⟨s.sz, s.l, true⟩
def Ws.count (s : Ws) : Nat := if s.shut = true then 0 else min s.sz s.l.length
def Ws.new (n : Int) : Ws := ⟨(max n 1).toNat, [], false⟩

section
variable {s : Ws}
theorem put_sz (b : UInt8) : (s.put b).sz = s.sz := by unfold Ws.put; split <;> rfl
theorem at_not {d : Int} (h : s.has d = false) : s.at_ d = 0 := by unfold Ws.at_; rw [if_neg (by rw [h]; simp)]
theorem at_has {d : Int} (h : s.has d = true) : s.at_ d = s.l.getD (s.l.length - 1 - d.toNat) 0 := by unfold Ws.at_; rw [if_pos h]
theorem has_iff {d : Int} : s.has d = true ↔ s.shut = false ∧ 0 ≤ d ∧ d < (s.sz : Int) ∧ d < (s.l.length : Int) := by
  unfold Ws.has
  cases s.shut <;> simp
theorem shut_has {d : Int} (h : s.shut = true) : s.has d = false := by unfold Ws.has; rw [h]; rfl
theorem shut_count (h : s.shut = true) : s.count = 0 := by unfold Ws.count; rw [if_pos h]
theorem open_count (h : s.shut = false) : s.count = min s.sz s.l.length := by unfold Ws.count; rw [if_neg (by rw [h]; simp)]
theorem open_put {b : UInt8} (h : s.shut = false) : s.put b = ⟨s.sz, s.l ++ [b], false⟩ := by unfold Ws.put; rw [if_neg (by rw [h]; simp)]
theorem shut_put {b : UInt8} (h : s.shut = true) : s.put b = s := by unfold Ws.put; rw [if_pos h]
theorem count_le : s.count ≤ s.sz := by
  unfold Ws.count
  split
  · exact Nat.zero_le _
  · exact Nat.min_le_left _ _
end

/-- the bytes bs are put, one behind the other -/
def Ws.puts (s : Ws) (bs : List UInt8) : Ws := ⟨s.sz, s.l ++ bs, s.shut⟩
/-- k copies from one distance -/
def Ws.turns (s : Ws) (d : Int) : Nat → Ws
  | 0 => s
  | k + 1 => (s.turns d k).copy d
/-- what is copied from one distance again and again repeats the bytes up to there -/
theorem turns_ok {bs : List UInt8} {k Z : Nat} (hk : k < bs.length) (hz : k < Z) : ∀ i,
    ∃ m : List UInt8, (Ws.puts ⟨Z, [], false⟩ bs).turns (k : Int) i = ⟨Z, bs ++ m, false⟩ ∧ m.length = i ∧
      (⟨Z, bs ++ m, false⟩ : Ws).has (k : Int) = true ∧ (⟨Z, bs ++ m, false⟩ : Ws).at_ (k : Int) = bs.getD (bs.length - 1 - k + i % (k + 1)) 0 ∧
      ∀ j, j < i → m.getD j 0 = bs.getD (bs.length - 1 - k + j % (k + 1)) 0
  | 0 => by
    have hh : (⟨Z, bs ++ [], false⟩ : Ws).has (k : Int) = true := has_iff.2 ⟨rfl, by omega, by show (k : Int) < (Z : Int); omega, by show (k : Int) < ((bs ++ []).length : Int); simp; omega⟩
    refine ⟨[], by simp [Ws.turns, Ws.puts], rfl, hh, ?_, fun j hj => by omega⟩
    rw [at_has hh]
    simp
  | i + 1 => by
    obtain ⟨m, h1, h2, h3, h4, h5⟩ := turns_ok hk hz i
    have hstep : (Ws.puts ⟨Z, [], false⟩ bs).turns (k : Int) (i + 1) = ⟨Z, bs ++ (m ++ [bs.getD (bs.length - 1 - k + i % (k + 1)) 0]), false⟩ := by
      show ((Ws.puts ⟨Z, [], false⟩ bs).turns (k : Int) i).copy (k : Int) = _
      rw [h1]
      unfold Ws.copy
      rw [if_pos h3, h4, open_put rfl, List.append_assoc]
    obtain ⟨x, hx⟩ : ∃ x, x = bs.getD (bs.length - 1 - k + i % (k + 1)) 0 := ⟨_, rfl⟩
    rw [← hx] at hstep
    have hnew : ∀ j, j < i + 1 → (m ++ [x]).getD j 0 = bs.getD (bs.length - 1 - k + j % (k + 1)) 0 := by
      intro j hj
      by_cases hji : j < i
      · rw [← h5 j hji]
        simp only [List.getD]
        rw [List.getElem?_append_left (by omega)]
      · obtain rfl : j = i := by omega
        simp only [List.getD]
        rw [List.getElem?_append_right (by omega), h2, Nat.sub_self]
        show x = _
        rw [hx]
        rfl
    have hh : (⟨Z, bs ++ (m ++ [x]), false⟩ : Ws).has (k : Int) = true := has_iff.2 ⟨rfl, by omega, by show (k : Int) < (Z : Int); omega, by show (k : Int) < ((bs ++ (m ++ [x])).length : Int); simp; omega⟩
    refine ⟨m ++ [x], hstep, by simp [h2], hh, ?_, hnew⟩
    rw [at_has hh]
    show (bs ++ (m ++ [x])).getD ((bs ++ (m ++ [x])).length - 1 - (k : Int).toNat) 0 = _
    have hl : (bs ++ (m ++ [x])).length = bs.length + (i + 1) := by simp [h2]
    rw [hl, Int.toNat_natCast]
    by_cases hlt : i + 1 ≤ k
    · rw [Nat.mod_eq_of_lt (by omega)]
      simp only [List.getD]
      rw [List.getElem?_append_left (by omega)]
      congr 2
      omega
    · have e1 : bs.length + (i + 1) - 1 - k - bs.length = i - k := by omega
      have := hnew (i - k) (by omega)
      simp only [List.getD] at this ⊢
      rw [List.getElem?_append_right (by omega), e1, this]
      have e2 : (i - k) % (k + 1) = (i + 1) % (k + 1) := by
        have : i + 1 = i - k + (k + 1) := by omega
        rw [this, Nat.add_mod_right]
      rw [e2]
end Go.Proofs.YtdhhibfppcpieaaGreatDoor

/-
  A ring of bytes as numbers: where a byte lies, and what a put does.
-/
namespace Go.Proofs.YtdhhibfppcpieaaGreatDoor

/-- the ring holds the window's bytes: byte number i at place i modulo the size, as far back as the size goes -/
def RingOk (s : Ws) (ring : List UInt8) : Prop :=
  1 ≤ s.sz ∧ ring.length ≤ s.sz ∧ s.l.length % s.sz ≤ ring.length ∧ (s.sz ≤ s.l.length → ring.length = s.sz) ∧
    ∀ i, i < s.l.length → s.l.length ≤ i + s.sz → i % s.sz < ring.length ∧ ring.getD (i % s.sz) 0 = s.l.getD i 0

theorem mod_apart {i n z : Nat} (h1 : i < n) (h2 : n < i + z) : i % z ≠ n % z := by
  intro h
  obtain ⟨k, hk⟩ : ∃ k, n = i + k := ⟨n - i, by omega⟩
  have hk0 : 0 < k := by omega
  have hkz : k < z := by omega
  subst hk
  have e : (i + k) % z = (i % z + k) % z := by rw [Nat.add_mod, Nat.mod_eq_of_lt hkz]
  rw [e] at h
  have hi : i % z < z := Nat.mod_lt _ (by omega)
  by_cases hw : i % z + k < z
  · rw [Nat.mod_eq_of_lt hw] at h; omega
  · have e2 : (i % z + k) % z = i % z + k - z := by
      rw [Nat.mod_eq_sub_mod (by omega), Nat.mod_eq_of_lt (by omega)]
    omega

theorem mod_next {n z : Nat} (hz : 1 ≤ z) : (n + 1) % z = if n % z + 1 = z then 0 else n % z + 1 := by
  have hn : n % z < z := Nat.mod_lt _ hz
  by_cases h1 : z = 1
  · subst h1
    rw [Nat.mod_one, Nat.mod_one]
    simp
  · have e : (n + 1) % z = (n % z + 1) % z := by rw [Nat.add_mod, Nat.mod_eq_of_lt (a := 1) (by omega)]
    rw [e]
    split
    · next h => rw [h, Nat.mod_self]
    · next h => exact Nat.mod_eq_of_lt (by omega)

section
variable {s : Ws} {ring : List UInt8}
theorem ring_new {n : Int} (h : n ≤ 1048576) : RingOk (Ws.new n) [] := by
  have e : (Ws.new n).l = [] := rfl
  refine ⟨by show 1 ≤ (max n 1).toNat; omega, by simp, ?_, ?_, ?_⟩
  · rw [e]; simp
  · rw [e]
    intro h
    have : 1 ≤ (Ws.new n).sz := by show 1 ≤ (max n 1).toNat; omega
    simp at h
    omega
  · rw [e]
    intro i hi
    simp at hi
theorem ring_empty (h : RingOk s ring) : RingOk s.empty ring := by
  obtain ⟨h1, h2, h3, h4, h5⟩ := h
  refine ⟨h1, h2, ?_, ?_, ?_⟩
  · show 0 % s.sz ≤ ring.length
    rw [Nat.zero_mod]; exact Nat.zero_le _
  · intro hc
    exfalso
    have : s.sz ≤ 0 := hc
    omega
  · intro i hi
    have : i < 0 := hi
    omega
theorem ring_grow {k : Nat} (h : RingOk s ring) (hk : ring.length + k ≤ s.sz) : RingOk s (ring ++ List.replicate k 0) := by
  obtain ⟨h1, h2, h3, h4, h5⟩ := h
  refine ⟨h1, by simpa using hk, by simp; omega, ?_, ?_⟩
  · intro hc
    have := h4 hc
    simp; omega
  · intro i hi hn
    obtain ⟨a, b⟩ := h5 i hi hn
    refine ⟨by simp; omega, ?_⟩
    rw [← b]
    simp only [List.getD]
    rw [List.getElem?_append_left a]
theorem ring_put {b : UInt8} (h : RingOk s ring) (hn : s.l.length % s.sz < ring.length) : RingOk ⟨s.sz, s.l ++ [b], s.shut⟩ (ring.set (s.l.length % s.sz) b) := by
  obtain ⟨h1, h2, h3, h4, h5⟩ := h
  have hm := mod_next (n := s.l.length) h1
  refine ⟨h1, by simpa using h2, ?_, ?_, ?_⟩
  · show (s.l ++ [b]).length % s.sz ≤ _
    rw [List.length_append, List.length_singleton, hm, List.length_set]
    split <;> omega
  · intro hc
    have hc : s.sz ≤ (s.l ++ [b]).length := hc
    rw [List.length_append, List.length_singleton] at hc
    show (ring.set (s.l.length % s.sz) b).length = s.sz
    rw [List.length_set]
    by_cases hz : s.sz ≤ s.l.length
    · exact h4 hz
    · rw [Nat.mod_eq_of_lt (by omega)] at hn
      omega
  · intro i hi hc
    have hi : i < (s.l ++ [b]).length := hi
    have hc : (s.l ++ [b]).length ≤ i + s.sz := hc
    rw [List.length_append, List.length_singleton] at hi hc
    show i % s.sz < (ring.set (s.l.length % s.sz) b).length ∧ (ring.set (s.l.length % s.sz) b).getD (i % s.sz) 0 = (s.l ++ [b]).getD i 0
    rw [List.length_set]
    by_cases hil : i = s.l.length
    · subst hil
      refine ⟨hn, ?_⟩
      simp only [List.getD]
      rw [List.getElem?_set_self hn, List.getElem?_append_right (Nat.le_refl _), Nat.sub_self]
      rfl
    · obtain ⟨a, e⟩ := h5 i (by omega) (by omega)
      refine ⟨a, ?_⟩
      have hne := mod_apart (i := i) (n := s.l.length) (z := s.sz) (by omega) (by omega)
      simp only [List.getD] at e ⊢
      rw [List.getElem?_set_ne (fun h => hne h.symm), e, List.getElem?_append_left (by omega)]
/-- where a byte lies that is there -/
theorem ring_place {d : Nat} (h : RingOk s ring) (hd : d < s.sz) (hl : d < s.l.length) :
    ∃ p, p < ring.length ∧ ring.getD p 0 = s.l.getD (s.l.length - 1 - d) 0 ∧ (p : Int) = if ((s.l.length % s.sz : Nat) : Int) - 1 - (d : Int) < 0 then ((s.l.length % s.sz : Nat) : Int) - 1 - (d : Int) + (s.sz : Int) else ((s.l.length % s.sz : Nat) : Int) - 1 - (d : Int) := by
  obtain ⟨h1, h2, h3, h4, h5⟩ := h
  obtain ⟨a, b⟩ := h5 (s.l.length - 1 - d) (by omega) (by omega)
  refine ⟨_, a, b, ?_⟩
  generalize s.l.length = n at *
  generalize s.sz = z at *
  have hn : n % z < z := Nat.mod_lt _ h1
  have hq := Nat.div_add_mod n z
  by_cases hc : n % z < d + 1
  · rw [if_pos (by omega)]
    have hq0 : n / z ≠ 0 := by
      intro h0
      rw [h0, Nat.mul_zero, Nat.zero_add] at hq
      rw [hq] at hc
      omega
    obtain ⟨k, hk⟩ : ∃ k, n / z = k + 1 := Nat.exists_eq_succ_of_ne_zero hq0
    rw [hk, Nat.mul_add, Nat.mul_one] at hq
    obtain ⟨t, ht⟩ : ∃ t, t = z * k := ⟨_, rfl⟩
    obtain ⟨u, hu⟩ : ∃ u, u = n % z := ⟨_, rfl⟩
    rw [← hu] at hn hc ⊢
    rw [← ht, ← hu] at hq
    have e : n - 1 - d = u + z - 1 - d + z * k := by rw [← ht]; omega
    rw [e, Nat.add_mul_mod_self_left, Nat.mod_eq_of_lt (by omega)]
    omega
  · rw [if_neg (by omega)]
    obtain ⟨t, ht⟩ : ∃ t, t = z * (n / z) := ⟨_, rfl⟩
    obtain ⟨u, hu⟩ : ∃ u, u = n % z := ⟨_, rfl⟩
    rw [← hu] at hn hc ⊢
    rw [← ht, ← hu] at hq
    have e : n - 1 - d = u - 1 - d + z * (n / z) := by rw [← ht]; omega
    rw [e, Nat.add_mul_mod_self_left, Nat.mod_eq_of_lt (by omega)]
    omega
end
end Go.Proofs.YtdhhibfppcpieaaGreatDoor

/-
  What is owned: a call leaves all but its own blocks as they were.
-/
namespace Go.Proofs.YtdhhibfppcpieaaGreatDoor
open Go.RowKit

/-- what a call leaves: blocks that are owned then were so ahead, or are new; no other has turned -/
def OwnPost (Own : World → (Nat → Prop) → Prop) (w : World) (G : Nat → Prop) (v : Value) (x : Ending) (w' : World) : Prop :=
  x = .returned v ∧ ∃ G', Own w' G' ∧ (∀ i, G' i → G i ∨ w.heap.size ≤ i) ∧ Only G w w'

end Go.Proofs.YtdhhibfppcpieaaGreatDoor
