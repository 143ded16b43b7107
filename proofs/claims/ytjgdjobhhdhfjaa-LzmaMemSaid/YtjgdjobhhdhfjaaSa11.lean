/-
  WnPure, WnRing, Own, WnWin: put together.
-/
import Derived.Test.YtjgdjobhhdhfjaaSa01
import Derived.Test.YtjgdjobhhdhfjaaSa10
import Derived.Lib.MinMax
import Derived.Deep.RegionLaw
import Derived.StillTailTactics
set_option linter.unusedVariables false
set_option linter.unusedSimpArgs false
/-
  A window as numbers: its size, all that was put since it was emptied, whether it is closed.
-/
namespace Go.Proofs.Ytjgdjobhhdhfjaa

structure Ws where
  sz : Nat
  l : List UInt8
  shut : Bool

def Ws.has (s : Ws) (d : Int) : Bool := !s.shut && decide (0 ≤ d ∧ d < (s.sz : Int) ∧ d < (s.l.length : Int))
def Ws.at_ (s : Ws) (d : Int) : UInt8 := if s.has d = true then s.l.getD (s.l.length - 1 - d.toNat) 0 else 0
def Ws.put (s : Ws) (b : UInt8) : Ws := if s.shut = true then s else ⟨s.sz, s.l ++ [b], false⟩
def Ws.copy (s : Ws) (d : Int) : Ws := if s.has d = true then s.put (s.at_ d) else s
def Ws.empty (s : Ws) : Ws := ⟨s.sz, [], s.shut⟩
def Ws.close (s : Ws) : Ws := ⟨s.sz, s.l, true⟩
def Ws.count (s : Ws) : Nat := if s.shut = true then 0 else min s.sz s.l.length
def Ws.new (n : Int) : Ws := ⟨(max n 1).toNat, [], false⟩

section
variable {s : Ws}
theorem put_sz (b : UInt8) : (s.put b).sz = s.sz := by unfold Ws.put; split <;> rfl
theorem at_not {d : Int} (h : s.has d = false) : s.at_ d = 0 := by unfold Ws.at_; rw [if_neg (by rw [h]; simp)]
theorem at_has {d : Int} (h : s.has d = true) : s.at_ d = s.l.getD (s.l.length - 1 - d.toNat) 0 := by unfold Ws.at_; rw [if_pos h]
theorem has_iff {d : Int} : s.has d = true ↔ s.shut = false ∧ 0 ≤ d ∧ d < (s.sz : Int) ∧ d < (s.l.length : Int) := by
  unfold Ws.has
  cases s.shut <;> simp
theorem shut_has {d : Int} (h : s.shut = true) : s.has d = false := by unfold Ws.has; rw [h]; rfl
theorem shut_count (h : s.shut = true) : s.count = 0 := by unfold Ws.count; rw [if_pos h]
theorem open_count (h : s.shut = false) : s.count = min s.sz s.l.length := by unfold Ws.count; rw [if_neg (by rw [h]; simp)]
theorem open_put {b : UInt8} (h : s.shut = false) : s.put b = ⟨s.sz, s.l ++ [b], false⟩ := by unfold Ws.put; rw [if_neg (by rw [h]; simp)]
theorem shut_put {b : UInt8} (h : s.shut = true) : s.put b = s := by unfold Ws.put; rw [if_pos h]
theorem count_le : s.count ≤ s.sz := by
  unfold Ws.count
  split
  · exact Nat.zero_le _
  · exact Nat.min_le_left _ _
end

/-- the bytes bs are put, one behind the other -/
def Ws.puts (s : Ws) (bs : List UInt8) : Ws := ⟨s.sz, s.l ++ bs, s.shut⟩
/-- k copies from one distance -/
def Ws.turns (s : Ws) (d : Int) : Nat → Ws
  | 0 => s
  | k + 1 => (s.turns d k).copy d
/-- what is copied from one distance again and again repeats the bytes up to there -/
theorem turns_ok {bs : List UInt8} {k Z : Nat} (hk : k < bs.length) (hz : k < Z) : ∀ i,
    ∃ m : List UInt8, (Ws.puts ⟨Z, [], false⟩ bs).turns (k : Int) i = ⟨Z, bs ++ m, false⟩ ∧ m.length = i ∧
      (⟨Z, bs ++ m, false⟩ : Ws).has (k : Int) = true ∧ (⟨Z, bs ++ m, false⟩ : Ws).at_ (k : Int) = bs.getD (bs.length - 1 - k + i % (k + 1)) 0 ∧
      ∀ j, j < i → m.getD j 0 = bs.getD (bs.length - 1 - k + j % (k + 1)) 0
  | 0 => by
    have hh : (⟨Z, bs ++ [], false⟩ : Ws).has (k : Int) = true := has_iff.2 ⟨rfl, by omega, by show (k : Int) < (Z : Int); omega, by show (k : Int) < ((bs ++ []).length : Int); simp; omega⟩
    refine ⟨[], by simp [Ws.turns, Ws.puts], rfl, hh, ?_, fun j hj => by omega⟩
    rw [at_has hh]
    simp
  | i + 1 => by
    obtain ⟨m, h1, h2, h3, h4, h5⟩ := turns_ok hk hz i
    have hstep : (Ws.puts ⟨Z, [], false⟩ bs).turns (k : Int) (i + 1) = ⟨Z, bs ++ (m ++ [bs.getD (bs.length - 1 - k + i % (k + 1)) 0]), false⟩ := by
      show ((Ws.puts ⟨Z, [], false⟩ bs).turns (k : Int) i).copy (k : Int) = _
      rw [h1]
      unfold Ws.copy
      rw [if_pos h3, h4, open_put rfl, List.append_assoc]
    obtain ⟨x, hx⟩ : ∃ x, x = bs.getD (bs.length - 1 - k + i % (k + 1)) 0 := ⟨_, rfl⟩
    rw [← hx] at hstep
    have hnew : ∀ j, j < i + 1 → (m ++ [x]).getD j 0 = bs.getD (bs.length - 1 - k + j % (k + 1)) 0 := by
      intro j hj
      by_cases hji : j < i
      · rw [← h5 j hji]
        simp only [List.getD]
        rw [List.getElem?_append_left (by omega)]
      · obtain rfl : j = i := by omega
        simp only [List.getD]
        rw [List.getElem?_append_right (by omega), h2, Nat.sub_self]
        show x = _
        rw [hx]
        rfl
    have hh : (⟨Z, bs ++ (m ++ [x]), false⟩ : Ws).has (k : Int) = true := has_iff.2 ⟨rfl, by omega, by show (k : Int) < (Z : Int); omega, by show (k : Int) < ((bs ++ (m ++ [x])).length : Int); simp; omega⟩
    refine ⟨m ++ [x], hstep, by simp [h2], hh, ?_, hnew⟩
    rw [at_has hh]
    show (bs ++ (m ++ [x])).getD ((bs ++ (m ++ [x])).length - 1 - (k : Int).toNat) 0 = _
    have hl : (bs ++ (m ++ [x])).length = bs.length + (i + 1) := by simp [h2]
    rw [hl, Int.toNat_natCast]
    by_cases hlt : i + 1 ≤ k
    · rw [Nat.mod_eq_of_lt (by omega)]
      simp only [List.getD]
      rw [List.getElem?_append_left (by omega)]
      congr 2
      omega
    · have e1 : bs.length + (i + 1) - 1 - k - bs.length = i - k := by omega
      have := hnew (i - k) (by omega)
      simp only [List.getD] at this ⊢
      rw [List.getElem?_append_right (by omega), e1, this]
      have e2 : (i - k) % (k + 1) = (i + 1) % (k + 1) := by
        have : i + 1 = i - k + (k + 1) := by omega
        rw [this, Nat.add_mod_right]
      rw [e2]
end Go.Proofs.Ytjgdjobhhdhfjaa

/-
  A ring of bytes as numbers: where a byte lies, and what a put does.
-/
namespace Go.Proofs.Ytjgdjobhhdhfjaa

/-- the ring holds the window's bytes: byte number i at place i modulo the size, as far back as the size goes -/
def RingOk (s : Ws) (ring : List UInt8) : Prop :=
  1 ≤ s.sz ∧ ring.length ≤ s.sz ∧ s.l.length % s.sz ≤ ring.length ∧ (s.sz ≤ s.l.length → ring.length = s.sz) ∧
    ∀ i, i < s.l.length → s.l.length ≤ i + s.sz → i % s.sz < ring.length ∧ ring.getD (i % s.sz) 0 = s.l.getD i 0

theorem mod_apart {i n z : Nat} (h1 : i < n) (h2 : n < i + z) : i % z ≠ n % z := by
  intro h
  obtain ⟨k, hk⟩ : ∃ k, n = i + k := ⟨n - i, by omega⟩
  have hk0 : 0 < k := by omega
  have hkz : k < z := by omega
  subst hk
  have e : (i + k) % z = (i % z + k) % z := by rw [Nat.add_mod, Nat.mod_eq_of_lt hkz]
  rw [e] at h
  have hi : i % z < z := Nat.mod_lt _ (by omega)
  by_cases hw : i % z + k < z
  · rw [Nat.mod_eq_of_lt hw] at h; omega
  · have e2 : (i % z + k) % z = i % z + k - z := by
      rw [Nat.mod_eq_sub_mod (by omega), Nat.mod_eq_of_lt (by omega)]
    omega

theorem mod_next {n z : Nat} (hz : 1 ≤ z) : (n + 1) % z = if n % z + 1 = z then 0 else n % z + 1 := by
  have hn : n % z < z := Nat.mod_lt _ hz
  by_cases h1 : z = 1
  · subst h1
    rw [Nat.mod_one, Nat.mod_one]
    simp
  · have e : (n + 1) % z = (n % z + 1) % z := by rw [Nat.add_mod, Nat.mod_eq_of_lt (a := 1) (by omega)]
    rw [e]
    split
    · next h => rw [h, Nat.mod_self]
    · next h => exact Nat.mod_eq_of_lt (by omega)

section
variable {s : Ws} {ring : List UInt8}
theorem ring_new {n : Int} (h : n ≤ 1048576) : RingOk (Ws.new n) [] := by
  have e : (Ws.new n).l = [] := rfl
  refine ⟨by show 1 ≤ (max n 1).toNat; omega, by simp, ?_, ?_, ?_⟩
  · rw [e]; simp
  · rw [e]
    intro h
    have : 1 ≤ (Ws.new n).sz := by show 1 ≤ (max n 1).toNat; omega
    simp at h
    omega
  · rw [e]
    intro i hi
    simp at hi
theorem ring_grow {k : Nat} (h : RingOk s ring) (hk : ring.length + k ≤ s.sz) : RingOk s (ring ++ List.replicate k 0) := by
  obtain ⟨h1, h2, h3, h4, h5⟩ := h
  refine ⟨h1, by simpa using hk, by simp; omega, ?_, ?_⟩
  · intro hc
    have := h4 hc
    simp; omega
  · intro i hi hn
    obtain ⟨a, b⟩ := h5 i hi hn
    refine ⟨by simp; omega, ?_⟩
    rw [← b]
    simp only [List.getD]
    rw [List.getElem?_append_left a]
theorem ring_put {b : UInt8} (h : RingOk s ring) (hn : s.l.length % s.sz < ring.length) : RingOk ⟨s.sz, s.l ++ [b], s.shut⟩ (ring.set (s.l.length % s.sz) b) := by
  obtain ⟨h1, h2, h3, h4, h5⟩ := h
  have hm := mod_next (n := s.l.length) h1
  refine ⟨h1, by simpa using h2, ?_, ?_, ?_⟩
  · show (s.l ++ [b]).length % s.sz ≤ _
    rw [List.length_append, List.length_singleton, hm, List.length_set]
    split <;> omega
  · intro hc
    have hc : s.sz ≤ (s.l ++ [b]).length := hc
    rw [List.length_append, List.length_singleton] at hc
    show (ring.set (s.l.length % s.sz) b).length = s.sz
    rw [List.length_set]
    by_cases hz : s.sz ≤ s.l.length
    · exact h4 hz
    · rw [Nat.mod_eq_of_lt (by omega)] at hn
      omega
  · intro i hi hc
    have hi : i < (s.l ++ [b]).length := hi
    have hc : (s.l ++ [b]).length ≤ i + s.sz := hc
    rw [List.length_append, List.length_singleton] at hi hc
    show i % s.sz < (ring.set (s.l.length % s.sz) b).length ∧ (ring.set (s.l.length % s.sz) b).getD (i % s.sz) 0 = (s.l ++ [b]).getD i 0
    rw [List.length_set]
    by_cases hil : i = s.l.length
    · subst hil
      refine ⟨hn, ?_⟩
      simp only [List.getD]
      rw [List.getElem?_set_self hn, List.getElem?_append_right (Nat.le_refl _), Nat.sub_self]
      rfl
    · obtain ⟨a, e⟩ := h5 i (by omega) (by omega)
      refine ⟨a, ?_⟩
      have hne := mod_apart (i := i) (n := s.l.length) (z := s.sz) (by omega) (by omega)
      simp only [List.getD] at e ⊢
      rw [List.getElem?_set_ne (fun h => hne h.symm), e, List.getElem?_append_left (by omega)]
/-- where a byte lies that is there -/
theorem ring_place {d : Nat} (h : RingOk s ring) (hd : d < s.sz) (hl : d < s.l.length) :
    ∃ p, p < ring.length ∧ ring.getD p 0 = s.l.getD (s.l.length - 1 - d) 0 ∧ (p : Int) = if ((s.l.length % s.sz : Nat) : Int) - 1 - (d : Int) < 0 then ((s.l.length % s.sz : Nat) : Int) - 1 - (d : Int) + (s.sz : Int) else ((s.l.length % s.sz : Nat) : Int) - 1 - (d : Int) := by
  obtain ⟨h1, h2, h3, h4, h5⟩ := h
  obtain ⟨a, b⟩ := h5 (s.l.length - 1 - d) (by omega) (by omega)
  refine ⟨_, a, b, ?_⟩
  generalize s.l.length = n at *
  generalize s.sz = z at *
  have hn : n % z < z := Nat.mod_lt _ h1
  have hq := Nat.div_add_mod n z
  by_cases hc : n % z < d + 1
  · rw [if_pos (by omega)]
    have hq0 : n / z ≠ 0 := by
      intro h0
      rw [h0, Nat.mul_zero, Nat.zero_add] at hq
      rw [hq] at hc
      omega
    obtain ⟨k, hk⟩ : ∃ k, n / z = k + 1 := Nat.exists_eq_succ_of_ne_zero hq0
    rw [hk, Nat.mul_add, Nat.mul_one] at hq
    obtain ⟨t, ht⟩ : ∃ t, t = z * k := ⟨_, rfl⟩
    obtain ⟨u, hu⟩ : ∃ u, u = n % z := ⟨_, rfl⟩
    rw [← hu] at hn hc ⊢
    rw [← ht, ← hu] at hq
    have e : n - 1 - d = u + z - 1 - d + z * k := by rw [← ht]; omega
    rw [e, Nat.add_mul_mod_self_left, Nat.mod_eq_of_lt (by omega)]
    omega
  · rw [if_neg (by omega)]
    obtain ⟨t, ht⟩ : ∃ t, t = z * (n / z) := ⟨_, rfl⟩
    obtain ⟨u, hu⟩ : ∃ u, u = n % z := ⟨_, rfl⟩
    rw [← hu] at hn hc ⊢
    rw [← ht, ← hu] at hq
    have e : n - 1 - d = u - 1 - d + z * (n / z) := by rw [← ht]; omega
    rw [e, Nat.add_mul_mod_self_left, Nat.mod_eq_of_lt (by omega)]
    omega
end
end Go.Proofs.Ytjgdjobhhdhfjaa

/-
  What is owned: a call leaves all but its own blocks as they were.
-/
namespace Go.Proofs.Ytjgdjobhhdhfjaa
open Go.RowKit

/-- what a call leaves: blocks that are owned then were so ahead, or are new; no other has turned -/
def OwnPost (Own : World → (Nat → Prop) → Prop) (w : World) (G : Nat → Prop) (v : Value) (x : Ending) (w' : World) : Prop :=
  x = .returned v ∧ ∃ G', Own w' G' ∧ (∀ i, G' i → G i ∨ w.heap.size ≤ i) ∧ Only G w w'

end Go.Proofs.Ytjgdjobhhdhfjaa

/-
  The program's window in memory; what it tells; it is emptied, and closed.
-/
namespace Go.Proofs.Ytjgdjobhhdhfjaa
open Go.RowKit

def wnCells (z : Int) (A : Option Addr) (n c : Nat) (nx ct : Int) (mp : Option Addr) : Array Value := #[.int .i64 z, .slice A n c, .int .i64 nx, .int .i64 ct, .pointer mp]

/-- The ring's row: none yet, or the whole of a block. -/
def RingAt (w : World) (g : Nat) (G : Nat → Prop) (A : Option Addr) (c : Nat) (ring : List UInt8) : Prop :=
  (ring = [] ∧ A = none ∧ c = 0) ∨ ∃ r, A = some ⟨r, 0, none⟩ ∧ c = ring.length ∧ Blk w r 5 (bv ring).toArray ∧ G r ∧ r ≠ g

/-- An open window, its ring at hand. -/
def Po (w : World) (g : Nat) (G : Nat → Prop) (m : Nat) (s : Ws) (ring : List UInt8) : Prop :=
  s.shut = false ∧ RingOk s ring ∧ G g ∧ (∀ i, G i → i < w.heap.size) ∧
    ∃ A c, Blk w g 121 (wnCells (s.sz : Int) A ring.length c ((s.l.length % s.sz : Nat) : Int) (s.count : Int) (some ⟨m, 0, none⟩)) ∧ RingAt w g G A c ring
/-- A closed one. -/
def Px (w : World) (g : Nat) (G : Nat → Prop) (s : Ws) : Prop :=
  s.shut = true ∧ G g ∧ (∀ i, G i → i < w.heap.size) ∧ Blk w g 121 (wnCells 0 none 0 0 0 0 none)
def Pwin (w : World) (g : Nat) (G : Nat → Prop) (m : Nat) (s : Ws) : Prop := (∃ ring, Po w g G m s ring) ∨ Px w g G s

section
variable {w w' : World} {g m : Nat} {G : Nat → Prop} {s : Ws} {ring : List UInt8}
theorem RingAt.only {S : Nat → Prop} {A : Option Addr} {c : Nat} (h : RingAt w g G A c ring) (hb : Only S w w') (hS : ∀ i, G i → i ≠ g → ¬ S i) : RingAt w' g G A c ring := by
  rcases h with h | ⟨r, e, ec, hB, hr, hn⟩
  · exact .inl h
  · exact .inr ⟨r, e, ec, hB.only hb (hS r hr hn), hr, hn⟩
theorem Po.only {S : Nat → Prop} (h : Po w g G m s ring) (hb : Only S w w') (hS : ∀ i, G i → ¬ S i) : Po w' g G m s ring := by
  obtain ⟨h1, h2, h3, h4, A, c, hB, hR⟩ := h
  exact ⟨h1, h2, h3, fun i hi => Nat.lt_of_lt_of_le (h4 i hi) hb.size, A, c, hB.only hb (hS g h3), hR.only hb (fun i hi _ => hS i hi)⟩
theorem Px.only {S : Nat → Prop} (h : Px w g G s) (hb : Only S w w') (hS : ∀ i, G i → ¬ S i) : Px w' g G s := by
  obtain ⟨h1, h3, h4, hB⟩ := h
  exact ⟨h1, h3, fun i hi => Nat.lt_of_lt_of_le (h4 i hi) hb.size, hB.only hb (hS g h3)⟩
theorem Pwin.only {S : Nat → Prop} (h : Pwin w g G m s) (hb : Only S w w') (hS : ∀ i, G i → ¬ S i) : Pwin w' g G m s := by
  rcases h with ⟨ring, h⟩ | h
  · exact .inl ⟨ring, h.only hb hS⟩
  · exact .inr (h.only hb hS)
theorem Pwin.old (h : Pwin w g G m s) {i : Nat} (hi : G i) : i < w.heap.size := by
  rcases h with ⟨ring, h⟩ | h
  · exact h.2.2.2.1 i hi
  · exact h.2.2.1 i hi
theorem Pwin.cnt (h : Pwin w g G m s) : w.cell? ⟨g, 3, none⟩ = some (.int .i64 (s.count : Int)) := by
  rcases h with ⟨ring, _, _, _, _, A, c, hB, _⟩ | ⟨h1, _, _, hB⟩
  · exact hB.cell 3
  · rw [shut_count h1]; exact hB.cell 3
theorem has_cnt (d : Int) : s.has d = decide (0 ≤ d ∧ d < (s.count : Int)) := by
  cases hs : s.shut with
  | true => rw [shut_has hs, shut_count hs]; symm; simp
  | false =>
    rw [open_count hs]
    unfold Ws.has
    rw [hs]
    simp only [Bool.not_false, Bool.true_and, decide_eq_decide]
    omega

set_option maxRecDepth 100000 in
set_option maxHeartbeats 1000000 in
theorem whas_any {d : Int} (h : Pwin w g G m s) :
    Calls Try.prog 86 #[.pointer (some ⟨g, 0, none⟩), .int .i64 d] w fun x w' => x = .returned (.bool (s.has d)) ∧ w = w' := by
  have c3 := h.cnt
  rw [has_cnt]
  clear h
  generalize (s.count : Int) = n at *
  by_cases h1 : d ≥ 0
  · by_cases h2 : d < n
    · have e : decide (0 ≤ d ∧ d < n) = true := by simp; omega
      rw [e]
      go_enter Try.func86, Try.ntmps86
      go_wp2_with fail
      go_ret
      exact ⟨rfl, rfl⟩
    · have e : decide (0 ≤ d ∧ d < n) = false := by simp; omega
      rw [e]
      go_enter Try.func86, Try.ntmps86
      go_wp2_with fail
      go_ret
      exact ⟨rfl, rfl⟩
  · have e : decide (0 ≤ d ∧ d < n) = false := by simp; omega
    rw [e]
    go_enter Try.func86, Try.ntmps86
    go_wp2_with fail
    go_ret
    exact ⟨rfl, rfl⟩

set_option maxRecDepth 100000 in
set_option maxHeartbeats 1000000 in
theorem wcount_any (h : Pwin w g G m s) :
    Calls Try.prog 84 #[.pointer (some ⟨g, 0, none⟩)] w fun x w' => x = .returned (.int .i64 (s.count : Int)) ∧ w = w' := by
  have c3 := h.cnt
  clear h
  generalize (s.count : Int) = n at *
  go_enter Try.func84, Try.ntmps84
  go_wp2_with fail
  go_ret
  exact ⟨rfl, rfl⟩

set_option maxRecDepth 100000 in
set_option maxHeartbeats 1000000 in
theorem wplace_any {nx z d p : Int} (c0 : w.cell? ⟨g, 0, none⟩ = some (.int .i64 z)) (c2 : w.cell? ⟨g, 2, none⟩ = some (.int .i64 nx)) (hz : 0 ≤ z ∧ z ≤ 1048576) (hn : 0 ≤ nx ∧ nx ≤ 1048576) (hd : 0 ≤ d ∧ d ≤ 1048576)
    (hp : p = if nx - 1 - d < 0 then nx - 1 - d + z else nx - 1 - d) :
    Calls Try.prog 118 #[.pointer (some ⟨g, 0, none⟩), .int .i64 d] w fun x w' => x = .returned (.int .i64 p) ∧ w = w' := by
  have e1 : IntKind.i64.wrap (nx - 1) = nx - 1 := IntWalk.i64_in _ (by omega)
  have e2 : IntKind.i64.wrap (nx - 1 - d) = nx - 1 - d := IntWalk.i64_in _ (by omega)
  have e3 : IntKind.i64.wrap (nx - 1 - d + z) = nx - 1 - d + z := IntWalk.i64_in _ (by omega)
  by_cases h : nx - 1 - d < 0
  · rw [if_pos h] at hp
    subst hp
    clear hz hn hd
    go_enter Try.func118, Try.ntmps118
    go_wp2_with fail
    go_ret
    exact ⟨rfl, rfl⟩
  · rw [if_neg h] at hp
    subst hp
    clear hz hn hd
    go_enter Try.func118, Try.ntmps118
    go_wp2_with fail
    go_ret
    exact ⟨rfl, rfl⟩

set_option maxRecDepth 100000 in
set_option maxHeartbeats 1000000 in
theorem wat_any {d : Int} (h : Pwin w g G m s) (hz : s.sz ≤ 1048576) :
    Calls Try.prog 77 #[.pointer (some ⟨g, 0, none⟩), .int .i64 d] w fun x w' => x = .returned (.int .u8 ((s.at_ d).toNat : Int)) ∧ ∃ k, w.drewN k = w' := by
  have K := Lib.hid (whas_any (d := d) h)
  by_cases hh : s.has d = true
  · obtain ⟨hs, h0, h1, h2⟩ := has_iff.1 hh
    rcases h with ⟨ring, h⟩ | h
    · obtain ⟨_, hok, _, _, A, c, hB, hR⟩ := h
      obtain ⟨e, he⟩ : ∃ e : Nat, (e : Int) = d := ⟨d.toNat, by omega⟩
      subst he
      obtain ⟨p, hp, hv, hpi⟩ := ring_place (d := e) hok (by omega) (by omega)
      have hnz : s.l.length % s.sz < s.sz := Nat.mod_lt _ hok.1
      rcases hR with ⟨rfl, _⟩ | ⟨r, rfl, rfl, hBr, _, _⟩
      · exact absurd hp (by simp)
      · have c0 : w.cell? ⟨g, 0, none⟩ = some (.int .i64 (s.sz : Int)) := hB.cell 0
        have c1 : w.cell? ⟨g, 1, none⟩ = some (.slice (some ⟨r, 0, none⟩) ring.length ring.length) := hB.cell 1
        have c2 : w.cell? ⟨g, 2, none⟩ = some (.int .i64 ((s.l.length % s.sz : Nat) : Int)) := hB.cell 2
        have cx : w.cell? ⟨r, p, none⟩ = some (.int .u8 ((s.at_ (e : Int)).toNat : Int)) := by
          rw [hBr.cell p, at_has hh, Int.toNat_natCast, ← hv]
          have := bv_get ring p hp
          simpa using this
        have KP := Lib.hid (fun n => wplace_any (w := w.drewN n) (g := g) (p := (p : Int)) c0 c2 (by omega) (by omega) (by omega : (0 : Int) ≤ (e : Int) ∧ (e : Int) ≤ 1048576) hpi)
        have i0 : (0 : Int) ≤ (p : Int) := by omega
        have i1 : (p : Int) < (ring.length : Int) := by omega
        rw [hh] at K
        clear hB hBr hv hpi hh h0 h1 h2 hz hok hnz hs c0 c2 hp
        generalize s.at_ (e : Int) = x at *
        generalize ring.length = n at *
        go_enter Try.func77, Try.ntmps77
        go_wp2_with fail
        refine K.out.mono ?_
        rintro y w' ⟨rfl, rfl⟩
        clear K
        go_wp2_with fail
        go_quiet ((go_at_call 118; exact quiet_same_at (KP.out _)))
        go_wp2_with fail
        go_ret
        exact ⟨rfl, _, rfl⟩
    · rw [h.1] at hs; cases hs
  · have hf : s.has d = false := by simpa using hh
    rw [at_not hf]
    rw [hf] at K
    clear h hh hf hz
    go_enter Try.func77, Try.ntmps77
    go_wp2_with fail
    refine K.out.mono ?_
    rintro y w' ⟨rfl, rfl⟩
    clear K
    go_wp2_with fail
    go_ret
    exact ⟨rfl, 0, rfl⟩

set_option maxRecDepth 100000 in
set_option maxHeartbeats 1000000 in
theorem wclose_any {q : Quo} {t : Tel} (h : Pwin w g G m s) (hz : s.sz ≤ 1048576) (hM : MeterAt w 105 m q t) (hF : Fine q t) (hm : ¬ G m) :
    Calls Try.prog 36 #[.pointer (some ⟨g, 0, none⟩)] w fun x w' =>
      x = .returned (.tuple #[]) ∧ ∃ G', Pwin w' g G' m s.close ∧ MeterAt w' 105 m q (if s.shut = true then t else t.doFree (s.sz : Int)) ∧ (∀ i, G' i → G i ∨ w.heap.size ≤ i) ∧ Only (fun i => G i ∨ i = m) w w' := by
  rcases h with ⟨ring, h1, h2, h3, h4, A, c, hB, hR⟩ | ⟨h1, h3, h4, hB⟩
  · have c0 : w.cell? ⟨g, 0, none⟩ = some (.int .i64 (s.sz : Int)) := hB.cell 0
    have c4 : w.cell? ⟨g, 4, none⟩ = some (.pointer (some ⟨m, 0, none⟩)) := hB.cell 4
    have z0 : ((s.sz : Int) == 0) = false := by have := h2.1; simp; omega
    have hgm : g ≠ m := fun e => hm (e ▸ h3)
    have K := Lib.hid (fun n => free_any (w := w.drewN n) (n := (s.sz : Int)) hM hF (by omega))
    rw [h1]
    simp only [Bool.false_eq_true, if_false]
    have hend : ∀ (w1 : World) (n : Nat), MeterAt w1 105 m q (t.doFree (s.sz : Int)) → (w.drewN n).grownBy w1 (some m) → Blk w1 g 121 (wnCells (s.sz : Int) A ring.length c ((s.l.length % s.sz : Nat) : Int) (s.count : Int) (some ⟨m, 0, none⟩)) ∧ (∀ i, G i → i < w1.heap.size) ∧ Only (fun i => G i ∨ i = m) w w1 := by
      intro w1 n hM1 hg
      exact ⟨Blk.grown (w := w.drewN n) hB hg (by intro e; injection e with e; exact hgm e), fun i hi => Nat.lt_of_lt_of_le (h4 i hi) hg.size, Only.of_drewN (Only.of_grown hg (.inr rfl))⟩
    have HE := Lib.hid hend
    have HG := Lib.hid h3
    have HN := Lib.hid hgm
    clear h1 h2 h3 h4 hB hR hend hM hF hm hgm hz
    go_enter Try.func36, Try.ntmps36
    go_wp2_with fail
    go_region_law ((go_simp; go_at_call 53; refine (K.out _).mono ?_; rintro x w1 ⟨rfl, hM1, hg⟩; have HM := Lib.hid hM1; have HB := Lib.hid (HE.out _ _ hM1 hg); clear hM1 hg))
    all_goals
      obtain ⟨hB1, hl1, hO1⟩ := HB.out
      have hgm := HN.out
      have hsh : MeterAt (((((w1.setCell ⟨g, 0, none⟩ (.int .i64 0)).setCell ⟨g, 1, none⟩ (.slice none 0 0)).setCell ⟨g, 2, none⟩ (.int .i64 0)).setCell ⟨g, 3, none⟩ (.int .i64 0)).setCell ⟨g, 4, none⟩ (.pointer none)) 105 m q (t.doFree (s.sz : Int)) :=
        Blk.far (Blk.far (Blk.far (Blk.far (Blk.far HM.out hgm.symm _) hgm.symm _) hgm.symm _) hgm.symm _) hgm.symm _
      have hOx : ∀ S : Nat → Prop, S g → Only S w1 (((((w1.setCell ⟨g, 0, none⟩ (.int .i64 0)).setCell ⟨g, 1, none⟩ (.slice none 0 0)).setCell ⟨g, 2, none⟩ (.int .i64 0)).setCell ⟨g, 3, none⟩ (.int .i64 0)).setCell ⟨g, 4, none⟩ (.pointer none)) := fun S hS =>
        (((((Only.refl S w1).setCell (p := ⟨g, 0, none⟩) (.inl hS) _).setCell (p := ⟨g, 1, none⟩) (.inl hS) _).setCell (p := ⟨g, 2, none⟩) (.inl hS) _).setCell (p := ⟨g, 3, none⟩) (.inl hS) _).setCell (p := ⟨g, 4, none⟩) (.inl hS) _
      have hxx : Px (((((w1.setCell ⟨g, 0, none⟩ (.int .i64 0)).setCell ⟨g, 1, none⟩ (.slice none 0 0)).setCell ⟨g, 2, none⟩ (.int .i64 0)).setCell ⟨g, 3, none⟩ (.int .i64 0)).setCell ⟨g, 4, none⟩ (.pointer none)) g G s.close :=
        ⟨rfl, HG.out, fun i hi => by have := hl1 i hi; simpa [World.setCell] using this, ((((hB1.put 0 (.int .i64 0)).put 1 (.slice none 0 0)).put 2 (.int .i64 0)).put 3 (.int .i64 0)).put 4 (.pointer none)⟩
      have HX := Lib.hid (And.intro hxx (And.intro hsh (hO1.trans (hOx (fun i => G i ∨ i = m) (.inl HG.out)))))
      have d0 : w1.cell? ⟨g, 0, none⟩ = some (.int .i64 (s.sz : Int)) := hB1.cell 0
      have d1 : w1.cell? ⟨g, 1, none⟩ = some (.slice A ring.length c) := hB1.cell 1
      have d2 : w1.cell? ⟨g, 2, none⟩ = some (.int .i64 ((s.l.length % s.sz : Nat) : Int)) := hB1.cell 2
      have d3 : w1.cell? ⟨g, 3, none⟩ = some (.int .i64 (s.count : Int)) := hB1.cell 3
      have d4 : w1.cell? ⟨g, 4, none⟩ = some (.pointer (some ⟨m, 0, none⟩)) := hB1.cell 4
      have f0 := hB1.free 0
      have f1 := hB1.free 1
      have f2 := hB1.free 2
      have f3 := hB1.free 3
      have f4 := hB1.free 4
      clear K HE HB HM hB1 hl1 hO1 hgm hsh hOx hxx c0 c4
      go_wp2_with fail
      first | go_end0 | refine bodyPost_ret (results_none rfl _ _ _) rfl ?_
      exact ⟨rfl, G, .inr HX.out.1, HX.out.2.1, fun i hi => .inl hi, HX.out.2.2⟩
  · have c0 : w.cell? ⟨g, 0, none⟩ = some (.int .i64 0) := hB.cell 0
    have hx : Px w g G s.close := ⟨rfl, h3, h4, hB⟩
    rw [h1]
    simp only [if_true]
    have HX := Lib.hid hx
    have HM := Lib.hid hM
    clear h1 h3 h4 hB hx hM hF hm hz
    go_enter Try.func36, Try.ntmps36
    go_wp2_with fail
    first | go_end0 | refine bodyPost_ret (results_none rfl _ _ _) rfl ?_
    exact ⟨rfl, G, .inr HX.out, HM.out, fun i hi => .inl hi, Only.refl _ _⟩
end
end Go.Proofs.Ytjgdjobhhdhfjaa
