/-
  WnRing, Own, WnWin, WnPut, WnOne, WnCopy, LwMem: put together.
-/
import Derived.Test.YtjgdjobhhdhfjaaGreatUa06
import Derived.Test.YtjgdjobhhdhfjaaGreatUa01
import Derived.Lib.MinMax
import Derived.Deep.RegionLaw
import Derived.StillTailTactics
import Derived.Laws.CopyOwn
import Derived.Laws.MakeOwn
import Derived.Deep.Cut
import Derived.Test.YtjgdjobhhdhfjaaGreatUa05
set_option linter.unusedVariables false
set_option linter.unusedSimpArgs false
/-
  A ring of bytes as numbers: where a byte lies, and what a put does.
-/
namespace Go.Proofs.YtjgdjobhhdhfjaaGreat

/-- the ring holds the window's bytes: byte number i at place i modulo the size, as far back as the size goes -/
def RingOk (s : Ws) (ring : List UInt8) : Prop :=
  1 ≤ s.sz ∧ ring.length ≤ s.sz ∧ s.l.length % s.sz ≤ ring.length ∧ (s.sz ≤ s.l.length → ring.length = s.sz) ∧
    ∀ i, i < s.l.length → s.l.length ≤ i + s.sz → i % s.sz < ring.length ∧ ring.getD (i % s.sz) 0 = s.l.getD i 0

theorem mod_apart {i n z : Nat} (h1 : i < n) (h2 : n < i + z) : i % z ≠ n % z := by
  intro h
  obtain ⟨k, hk⟩ : ∃ k, n = i + k := ⟨n - i, by omega⟩
  have hk0 : 0 < k := by omega
  have hkz : k < z := by omega
  subst hk
  have e : (i + k) % z = (i % z + k) % z := by rw [Nat.add_mod, Nat.mod_eq_of_lt hkz]
  rw [e] at h
  have hi : i % z < z := Nat.mod_lt _ (by omega)
  by_cases hw : i % z + k < z
  · rw [Nat.mod_eq_of_lt hw] at h; omega
  · have e2 : (i % z + k) % z = i % z + k - z := by
      rw [Nat.mod_eq_sub_mod (by omega), Nat.mod_eq_of_lt (by omega)]
    omega

theorem mod_next {n z : Nat} (hz : 1 ≤ z) : (n + 1) % z = if n % z + 1 = z then 0 else n % z + 1 := by
  have hn : n % z < z := Nat.mod_lt _ hz
  by_cases h1 : z = 1
  · subst h1
    rw [Nat.mod_one, Nat.mod_one]
    simp
  · have e : (n + 1) % z = (n % z + 1) % z := by rw [Nat.add_mod, Nat.mod_eq_of_lt (a := 1) (by omega)]
    rw [e]
    split
    · next h => rw [h, Nat.mod_self]
    · next h => exact Nat.mod_eq_of_lt (by omega)

section
variable {s : Ws} {ring : List UInt8}
theorem ring_new {n : Int} (h : n ≤ 1048576) : RingOk (Ws.new n) [] := by
  have e : (Ws.new n).l = [] := rfl
  refine ⟨by show 1 ≤ (max n 1).toNat; omega, by simp, ?_, ?_, ?_⟩
  · rw [e]; simp
  · rw [e]
    intro h
    have : 1 ≤ (Ws.new n).sz := by show 1 ≤ (max n 1).toNat; omega
    simp at h
    omega
  · rw [e]
    intro i hi
    simp at hi
theorem ring_empty (h : RingOk s ring) : RingOk s.empty ring := by
  obtain ⟨h1, h2, h3, h4, h5⟩ := h
  refine ⟨h1, h2, ?_, ?_, ?_⟩
  · show 0 % s.sz ≤ ring.length
    rw [Nat.zero_mod]; exact Nat.zero_le _
  · intro hc
    exfalso
    have : s.sz ≤ 0 := hc
    omega
  · intro i hi
    have : i < 0 := hi
    omega
theorem ring_grow {k : Nat} (h : RingOk s ring) (hk : ring.length + k ≤ s.sz) : RingOk s (ring ++ List.replicate k 0) := by
  obtain ⟨h1, h2, h3, h4, h5⟩ := h
  refine ⟨h1, by simpa using hk, by simp; omega, ?_, ?_⟩
  · intro hc
    have := h4 hc
    simp; omega
  · intro i hi hn
    obtain ⟨a, b⟩ := h5 i hi hn
    refine ⟨by simp; omega, ?_⟩
    rw [← b]
    simp only [List.getD]
    rw [List.getElem?_append_left a]
theorem ring_put {b : UInt8} (h : RingOk s ring) (hn : s.l.length % s.sz < ring.length) : RingOk ⟨s.sz, s.l ++ [b], s.shut⟩ (ring.set (s.l.length % s.sz) b) := by
  obtain ⟨h1, h2, h3, h4, h5⟩ := h
  have hm := mod_next (n := s.l.length) h1
  refine ⟨h1, by simpa using h2, ?_, ?_, ?_⟩
  · show (s.l ++ [b]).length % s.sz ≤ _
    rw [List.length_append, List.length_singleton, hm, List.length_set]
    split <;> omega
  · intro hc
    have hc : s.sz ≤ (s.l ++ [b]).length := hc
    rw [List.length_append, List.length_singleton] at hc
    show (ring.set (s.l.length % s.sz) b).length = s.sz
    rw [List.length_set]
    by_cases hz : s.sz ≤ s.l.length
    · exact h4 hz
    · rw [Nat.mod_eq_of_lt (by omega)] at hn
      omega
  · intro i hi hc
    have hi : i < (s.l ++ [b]).length := hi
    have hc : (s.l ++ [b]).length ≤ i + s.sz := hc
    rw [List.length_append, List.length_singleton] at hi hc
    show i % s.sz < (ring.set (s.l.length % s.sz) b).length ∧ (ring.set (s.l.length % s.sz) b).getD (i % s.sz) 0 = (s.l ++ [b]).getD i 0
    rw [List.length_set]
    by_cases hil : i = s.l.length
    · subst hil
      refine ⟨hn, ?_⟩
      simp only [List.getD]
      rw [List.getElem?_set_self hn, List.getElem?_append_right (Nat.le_refl _), Nat.sub_self]
      rfl
    · obtain ⟨a, e⟩ := h5 i (by omega) (by omega)
      refine ⟨a, ?_⟩
      have hne := mod_apart (i := i) (n := s.l.length) (z := s.sz) (by omega) (by omega)
      simp only [List.getD] at e ⊢
      rw [List.getElem?_set_ne (fun h => hne h.symm), e, List.getElem?_append_left (by omega)]
/-- where a byte lies that is there -/
theorem ring_place {d : Nat} (h : RingOk s ring) (hd : d < s.sz) (hl : d < s.l.length) :
    ∃ p, p < ring.length ∧ ring.getD p 0 = s.l.getD (s.l.length - 1 - d) 0 ∧ (p : Int) = if ((s.l.length % s.sz : Nat) : Int) - 1 - (d : Int) < 0 then ((s.l.length % s.sz : Nat) : Int) - 1 - (d : Int) + (s.sz : Int) else ((s.l.length % s.sz : Nat) : Int) - 1 - (d : Int) := by
  obtain ⟨h1, h2, h3, h4, h5⟩ := h
  obtain ⟨a, b⟩ := h5 (s.l.length - 1 - d) (by omega) (by omega)
  refine ⟨_, a, b, ?_⟩
  generalize s.l.length = n at *
  generalize s.sz = z at *
  have hn : n % z < z := Nat.mod_lt _ h1
  have hq := Nat.div_add_mod n z
  by_cases hc : n % z < d + 1
  · rw [if_pos (by omega)]
    have hq0 : n / z ≠ 0 := by
      intro h0
      rw [h0, Nat.mul_zero, Nat.zero_add] at hq
      rw [hq] at hc
      omega
    obtain ⟨k, hk⟩ : ∃ k, n / z = k + 1 := Nat.exists_eq_succ_of_ne_zero hq0
    rw [hk, Nat.mul_add, Nat.mul_one] at hq
    obtain ⟨t, ht⟩ : ∃ t, t = z * k := ⟨_, rfl⟩
    obtain ⟨u, hu⟩ : ∃ u, u = n % z := ⟨_, rfl⟩
    rw [← hu] at hn hc ⊢
    rw [← ht, ← hu] at hq
    have e : n - 1 - d = u + z - 1 - d + z * k := by rw [← ht]; omega
    rw [e, Nat.add_mul_mod_self_left, Nat.mod_eq_of_lt (by omega)]
    omega
  · rw [if_neg (by omega)]
    obtain ⟨t, ht⟩ : ∃ t, t = z * (n / z) := ⟨_, rfl⟩
    obtain ⟨u, hu⟩ : ∃ u, u = n % z := ⟨_, rfl⟩
    rw [← hu] at hn hc ⊢
    rw [← ht, ← hu] at hq
    have e : n - 1 - d = u - 1 - d + z * (n / z) := by rw [← ht]; omega
    rw [e, Nat.add_mul_mod_self_left, Nat.mod_eq_of_lt (by omega)]
    omega
end
end Go.Proofs.YtjgdjobhhdhfjaaGreat

/-
  What is owned: a call leaves all but its own blocks as they were.
-/
namespace Go.Proofs.YtjgdjobhhdhfjaaGreat
open Go.RowKit

/-- what a call leaves: blocks that are owned then were so ahead, or are new; no other has turned -/
def OwnPost (Own : World → (Nat → Prop) → Prop) (w : World) (G : Nat → Prop) (v : Value) (x : Ending) (w' : World) : Prop :=
  x = .returned v ∧ ∃ G', Own w' G' ∧ (∀ i, G' i → G i ∨ w.heap.size ≤ i) ∧ Only G w w'

theorem con_below {w w1 w2 : World} {B : Nat} {G : Nat → Prop} (hB : B ≤ w.heap.size) (h : Below B w w1) (hG : ∀ i, G i → B ≤ i) (hO : Only G w1 w2) : Below B w w2 :=
  h.trans (hO.below (Nat.le_trans hB h.size) hG)
theorem con_new {w w1 : World} {B : Nat} {G G' : Nat → Prop} (hB : B ≤ w.heap.size) (h : Below B w w1) (hG : ∀ i, G i → B ≤ i) (hN : ∀ i, G' i → G i ∨ w1.heap.size ≤ i) : ∀ i, G' i → B ≤ i := fun i hi => by
  rcases hN i hi with h1 | h1
  · exact hG i h1
  · have := h.size; omega
/-- what two own is apart, and stays so behind a call of the first -/
theorem con_apart {w1 w2 : World} {G G' K : Nat → Prop} (hK : ∀ i, K i → i < w1.heap.size) (hd : ∀ i, G i → ¬ K i) (hN : ∀ i, G' i → G i ∨ w1.heap.size ≤ i) (_ : Only G w1 w2) : ∀ i, G' i → ¬ K i := fun i hi hk => by
  rcases hN i hi with h1 | h1
  · exact hd i h1 hk
  · have := hK i hk; omega
end Go.Proofs.YtjgdjobhhdhfjaaGreat

/-
  The program's window in memory; what it tells; it is emptied, and closed.
-/
namespace Go.Proofs.YtjgdjobhhdhfjaaGreat
open Go.RowKit

def wnCells (z : Int) (A : Option Addr) (n c : Nat) (nx ct : Int) (mp : Option Addr) : Array Value := #[.int .i64 z, .slice A n c, .int .i64 nx, .int .i64 ct, .pointer mp]

/-- The ring's row: none yet, or the whole of a block. -/
def RingAt (w : World) (g : Nat) (G : Nat → Prop) (A : Option Addr) (c : Nat) (ring : List UInt8) : Prop :=
  (ring = [] ∧ A = none ∧ c = 0) ∨ ∃ r, A = some ⟨r, 0, none⟩ ∧ c = ring.length ∧ Blk w r 5 (bv ring).toArray ∧ G r ∧ r ≠ g

/-- An open window, its ring at hand. -/
def Po (w : World) (g : Nat) (G : Nat → Prop) (m : Nat) (s : Ws) (ring : List UInt8) : Prop :=
  s.shut = false ∧ RingOk s ring ∧ G g ∧ (∀ i, G i → i < w.heap.size) ∧
    ∃ A c, Blk w g 157 (wnCells (s.sz : Int) A ring.length c ((s.l.length % s.sz : Nat) : Int) (s.count : Int) (some ⟨m, 0, none⟩)) ∧ RingAt w g G A c ring
/-- A closed one. -/
def Px (w : World) (g : Nat) (G : Nat → Prop) (s : Ws) : Prop :=
  s.shut = true ∧ G g ∧ (∀ i, G i → i < w.heap.size) ∧ Blk w g 157 (wnCells 0 none 0 0 0 0 none)
def Pwin (w : World) (g : Nat) (G : Nat → Prop) (m : Nat) (s : Ws) : Prop := (∃ ring, Po w g G m s ring) ∨ Px w g G s

section
variable {w w' : World} {g m : Nat} {G : Nat → Prop} {s : Ws} {ring : List UInt8}
theorem RingAt.only {S : Nat → Prop} {A : Option Addr} {c : Nat} (h : RingAt w g G A c ring) (hb : Only S w w') (hS : ∀ i, G i → i ≠ g → ¬ S i) : RingAt w' g G A c ring := by
  rcases h with h | ⟨r, e, ec, hB, hr, hn⟩
  · exact .inl h
  · exact .inr ⟨r, e, ec, hB.only hb (hS r hr hn), hr, hn⟩
theorem Po.only {S : Nat → Prop} (h : Po w g G m s ring) (hb : Only S w w') (hS : ∀ i, G i → ¬ S i) : Po w' g G m s ring := by
  obtain ⟨h1, h2, h3, h4, A, c, hB, hR⟩ := h
  exact ⟨h1, h2, h3, fun i hi => Nat.lt_of_lt_of_le (h4 i hi) hb.size, A, c, hB.only hb (hS g h3), hR.only hb (fun i hi _ => hS i hi)⟩
theorem Px.only {S : Nat → Prop} (h : Px w g G s) (hb : Only S w w') (hS : ∀ i, G i → ¬ S i) : Px w' g G s := by
  obtain ⟨h1, h3, h4, hB⟩ := h
  exact ⟨h1, h3, fun i hi => Nat.lt_of_lt_of_le (h4 i hi) hb.size, hB.only hb (hS g h3)⟩
theorem Pwin.only {S : Nat → Prop} (h : Pwin w g G m s) (hb : Only S w w') (hS : ∀ i, G i → ¬ S i) : Pwin w' g G m s := by
  rcases h with ⟨ring, h⟩ | h
  · exact .inl ⟨ring, h.only hb hS⟩
  · exact .inr (h.only hb hS)
theorem Pwin.old (h : Pwin w g G m s) {i : Nat} (hi : G i) : i < w.heap.size := by
  rcases h with ⟨ring, h⟩ | h
  · exact h.2.2.2.1 i hi
  · exact h.2.2.1 i hi
theorem Po.count_is (h : Po w g G m s ring) : s.count = min s.sz s.l.length := open_count h.1
theorem Pwin.cnt (h : Pwin w g G m s) : w.cell? ⟨g, 3, none⟩ = some (.int .i64 (s.count : Int)) := by
  rcases h with ⟨ring, _, _, _, _, A, c, hB, _⟩ | ⟨h1, _, _, hB⟩
  · exact hB.cell 3
  · rw [shut_count h1]; exact hB.cell 3
theorem has_cnt (d : Int) : s.has d = decide (0 ≤ d ∧ d < (s.count : Int)) := by
  cases hs : s.shut with
  | true => rw [shut_has hs, shut_count hs]; symm; simp
  | false =>
    rw [open_count hs]
    unfold Ws.has
    rw [hs]
    simp only [Bool.not_false, Bool.true_and, decide_eq_decide]
    omega

set_option maxRecDepth 100000 in
set_option maxHeartbeats 1000000 in
theorem whas_any {d : Int} (h : Pwin w g G m s) :
    Calls Tryz.prog 118 #[.pointer (some ⟨g, 0, none⟩), .int .i64 d] w fun x w' => x = .returned (.bool (s.has d)) ∧ w = w' := by
  have c3 := h.cnt
  rw [has_cnt]
  clear h
  generalize (s.count : Int) = n at *
  by_cases h1 : d ≥ 0
  · by_cases h2 : d < n
    · have e : decide (0 ≤ d ∧ d < n) = true := by simp; omega
      rw [e]
      go_enter Tryz.func118, Tryz.ntmps118
      go_wp2_with fail
      go_ret
      exact ⟨rfl, rfl⟩
    · have e : decide (0 ≤ d ∧ d < n) = false := by simp; omega
      rw [e]
      go_enter Tryz.func118, Tryz.ntmps118
      go_wp2_with fail
      go_ret
      exact ⟨rfl, rfl⟩
  · have e : decide (0 ≤ d ∧ d < n) = false := by simp; omega
    rw [e]
    go_enter Tryz.func118, Tryz.ntmps118
    go_wp2_with fail
    go_ret
    exact ⟨rfl, rfl⟩

set_option maxRecDepth 100000 in
set_option maxHeartbeats 1000000 in
theorem wcount_any (h : Pwin w g G m s) :
    Calls Tryz.prog 116 #[.pointer (some ⟨g, 0, none⟩)] w fun x w' => x = .returned (.int .i64 (s.count : Int)) ∧ w = w' := by
  have c3 := h.cnt
  clear h
  generalize (s.count : Int) = n at *
  go_enter Tryz.func116, Tryz.ntmps116
  go_wp2_with fail
  go_ret
  exact ⟨rfl, rfl⟩

set_option maxRecDepth 100000 in
set_option maxHeartbeats 1000000 in
theorem wplace_any {nx z d p : Int} (c0 : w.cell? ⟨g, 0, none⟩ = some (.int .i64 z)) (c2 : w.cell? ⟨g, 2, none⟩ = some (.int .i64 nx)) (hz : 0 ≤ z ∧ z ≤ 1048576) (hn : 0 ≤ nx ∧ nx ≤ 1048576) (hd : 0 ≤ d ∧ d ≤ 1048576)
    (hp : p = if nx - 1 - d < 0 then nx - 1 - d + z else nx - 1 - d) :
    Calls Tryz.prog 139 #[.pointer (some ⟨g, 0, none⟩), .int .i64 d] w fun x w' => x = .returned (.int .i64 p) ∧ w = w' := by
  have e1 : IntKind.i64.wrap (nx - 1) = nx - 1 := IntWalk.i64_in _ (by omega)
  have e2 : IntKind.i64.wrap (nx - 1 - d) = nx - 1 - d := IntWalk.i64_in _ (by omega)
  have e3 : IntKind.i64.wrap (nx - 1 - d + z) = nx - 1 - d + z := IntWalk.i64_in _ (by omega)
  by_cases h : nx - 1 - d < 0
  · rw [if_pos h] at hp
    subst hp
    clear hz hn hd
    go_enter Tryz.func139, Tryz.ntmps139
    go_wp2_with fail
    go_ret
    exact ⟨rfl, rfl⟩
  · rw [if_neg h] at hp
    subst hp
    clear hz hn hd
    go_enter Tryz.func139, Tryz.ntmps139
    go_wp2_with fail
    go_ret
    exact ⟨rfl, rfl⟩

set_option maxRecDepth 100000 in
set_option maxHeartbeats 1000000 in
theorem wat_any {d : Int} (h : Pwin w g G m s) (hz : s.sz ≤ 1048576) :
    Calls Tryz.prog 111 #[.pointer (some ⟨g, 0, none⟩), .int .i64 d] w fun x w' => x = .returned (.int .u8 ((s.at_ d).toNat : Int)) ∧ ∃ k, w.drewN k = w' := by
  have K := Lib.hid (whas_any (d := d) h)
  by_cases hh : s.has d = true
  · obtain ⟨hs, h0, h1, h2⟩ := has_iff.1 hh
    rcases h with ⟨ring, h⟩ | h
    · obtain ⟨_, hok, _, _, A, c, hB, hR⟩ := h
      obtain ⟨e, he⟩ : ∃ e : Nat, (e : Int) = d := ⟨d.toNat, by omega⟩
      subst he
      obtain ⟨p, hp, hv, hpi⟩ := ring_place (d := e) hok (by omega) (by omega)
      have hnz : s.l.length % s.sz < s.sz := Nat.mod_lt _ hok.1
      rcases hR with ⟨rfl, _⟩ | ⟨r, rfl, rfl, hBr, _, _⟩
      · exact absurd hp (by simp)
      · have c0 : w.cell? ⟨g, 0, none⟩ = some (.int .i64 (s.sz : Int)) := hB.cell 0
        have c1 : w.cell? ⟨g, 1, none⟩ = some (.slice (some ⟨r, 0, none⟩) ring.length ring.length) := hB.cell 1
        have c2 : w.cell? ⟨g, 2, none⟩ = some (.int .i64 ((s.l.length % s.sz : Nat) : Int)) := hB.cell 2
        have cx : w.cell? ⟨r, p, none⟩ = some (.int .u8 ((s.at_ (e : Int)).toNat : Int)) := by
          rw [hBr.cell p, at_has hh, Int.toNat_natCast, ← hv]
          have := bv_get ring p hp
          simpa using this
        have KP := Lib.hid (fun n => wplace_any (w := w.drewN n) (g := g) (p := (p : Int)) c0 c2 (by omega) (by omega) (by omega : (0 : Int) ≤ (e : Int) ∧ (e : Int) ≤ 1048576) hpi)
        have i0 : (0 : Int) ≤ (p : Int) := by omega
        have i1 : (p : Int) < (ring.length : Int) := by omega
        rw [hh] at K
        clear hB hBr hv hpi hh h0 h1 h2 hz hok hnz hs c0 c2 hp
        generalize s.at_ (e : Int) = x at *
        generalize ring.length = n at *
        go_enter Tryz.func111, Tryz.ntmps111
        go_wp2_with fail
        refine K.out.mono ?_
        rintro y w' ⟨rfl, rfl⟩
        clear K
        go_wp2_with fail
        go_quiet ((go_at_call 139; exact quiet_same_at (KP.out _)))
        go_wp2_with fail
        go_ret
        exact ⟨rfl, _, rfl⟩
    · rw [h.1] at hs; cases hs
  · have hf : s.has d = false := by simpa using hh
    rw [at_not hf]
    rw [hf] at K
    clear h hh hf hz
    go_enter Tryz.func111, Tryz.ntmps111
    go_wp2_with fail
    refine K.out.mono ?_
    rintro y w' ⟨rfl, rfl⟩
    clear K
    go_wp2_with fail
    go_ret
    exact ⟨rfl, 0, rfl⟩

theorem empty_count (s : Ws) : s.empty.count = 0 := by
  unfold Ws.count Ws.empty
  simp

set_option maxRecDepth 100000 in
set_option maxHeartbeats 1000000 in
theorem wclose_any {q : Quo} {t : Tel} (h : Pwin w g G m s) (hz : s.sz ≤ 1048576) (hM : MeterAt w 86 m q t) (hF : Fine q t) (hm : ¬ G m) :
    Calls Tryz.prog 56 #[.pointer (some ⟨g, 0, none⟩)] w fun x w' =>
      x = .returned (.tuple #[]) ∧ ∃ G', Pwin w' g G' m s.close ∧ MeterAt w' 86 m q (if s.shut = true then t else t.doFree (s.sz : Int)) ∧ (∀ i, G' i → G i ∨ w.heap.size ≤ i) ∧ Only (fun i => G i ∨ i = m) w w' := by
  rcases h with ⟨ring, h1, h2, h3, h4, A, c, hB, hR⟩ | ⟨h1, h3, h4, hB⟩
  · have c0 : w.cell? ⟨g, 0, none⟩ = some (.int .i64 (s.sz : Int)) := hB.cell 0
    have c4 : w.cell? ⟨g, 4, none⟩ = some (.pointer (some ⟨m, 0, none⟩)) := hB.cell 4
    have z0 : ((s.sz : Int) == 0) = false := by have := h2.1; simp; omega
    have hgm : g ≠ m := fun e => hm (e ▸ h3)
    have K := Lib.hid (fun n => free_any (w := w.drewN n) (n := (s.sz : Int)) hM hF (by omega))
    rw [h1]
    simp only [Bool.false_eq_true, if_false]
    have hend : ∀ (w1 : World) (n : Nat), MeterAt w1 86 m q (t.doFree (s.sz : Int)) → (w.drewN n).grownBy w1 (some m) → Blk w1 g 157 (wnCells (s.sz : Int) A ring.length c ((s.l.length % s.sz : Nat) : Int) (s.count : Int) (some ⟨m, 0, none⟩)) ∧ (∀ i, G i → i < w1.heap.size) ∧ Only (fun i => G i ∨ i = m) w w1 := by
      intro w1 n hM1 hg
      exact ⟨Blk.grown (w := w.drewN n) hB hg (by intro e; injection e with e; exact hgm e), fun i hi => Nat.lt_of_lt_of_le (h4 i hi) hg.size, Only.of_drewN (Only.of_grown hg (.inr rfl))⟩
    have HE := Lib.hid hend
    have HG := Lib.hid h3
    have HN := Lib.hid hgm
    clear h1 h2 h3 h4 hB hR hend hM hF hm hgm hz
    go_enter Tryz.func56, Tryz.ntmps56
    go_wp2_with fail
    go_region_law ((go_simp; go_at_call 60; refine (K.out _).mono ?_; rintro x w1 ⟨rfl, hM1, hg⟩; have HM := Lib.hid hM1; have HB := Lib.hid (HE.out _ _ hM1 hg); clear hM1 hg))
    all_goals
      obtain ⟨hB1, hl1, hO1⟩ := HB.out
      have hgm := HN.out
      have hsh : MeterAt (((((w1.setCell ⟨g, 0, none⟩ (.int .i64 0)).setCell ⟨g, 1, none⟩ (.slice none 0 0)).setCell ⟨g, 2, none⟩ (.int .i64 0)).setCell ⟨g, 3, none⟩ (.int .i64 0)).setCell ⟨g, 4, none⟩ (.pointer none)) 86 m q (t.doFree (s.sz : Int)) :=
        Blk.far (Blk.far (Blk.far (Blk.far (Blk.far HM.out hgm.symm _) hgm.symm _) hgm.symm _) hgm.symm _) hgm.symm _
      have hOx : ∀ S : Nat → Prop, S g → Only S w1 (((((w1.setCell ⟨g, 0, none⟩ (.int .i64 0)).setCell ⟨g, 1, none⟩ (.slice none 0 0)).setCell ⟨g, 2, none⟩ (.int .i64 0)).setCell ⟨g, 3, none⟩ (.int .i64 0)).setCell ⟨g, 4, none⟩ (.pointer none)) := fun S hS =>
        (((((Only.refl S w1).setCell (p := ⟨g, 0, none⟩) (.inl hS) _).setCell (p := ⟨g, 1, none⟩) (.inl hS) _).setCell (p := ⟨g, 2, none⟩) (.inl hS) _).setCell (p := ⟨g, 3, none⟩) (.inl hS) _).setCell (p := ⟨g, 4, none⟩) (.inl hS) _
      have hxx : Px (((((w1.setCell ⟨g, 0, none⟩ (.int .i64 0)).setCell ⟨g, 1, none⟩ (.slice none 0 0)).setCell ⟨g, 2, none⟩ (.int .i64 0)).setCell ⟨g, 3, none⟩ (.int .i64 0)).setCell ⟨g, 4, none⟩ (.pointer none)) g G s.close :=
        ⟨rfl, HG.out, fun i hi => by have := hl1 i hi; simpa [World.setCell] using this, ((((hB1.put 0 (.int .i64 0)).put 1 (.slice none 0 0)).put 2 (.int .i64 0)).put 3 (.int .i64 0)).put 4 (.pointer none)⟩
      have HX := Lib.hid (And.intro hxx (And.intro hsh (hO1.trans (hOx (fun i => G i ∨ i = m) (.inl HG.out)))))
      have d0 : w1.cell? ⟨g, 0, none⟩ = some (.int .i64 (s.sz : Int)) := hB1.cell 0
      have d1 : w1.cell? ⟨g, 1, none⟩ = some (.slice A ring.length c) := hB1.cell 1
      have d2 : w1.cell? ⟨g, 2, none⟩ = some (.int .i64 ((s.l.length % s.sz : Nat) : Int)) := hB1.cell 2
      have d3 : w1.cell? ⟨g, 3, none⟩ = some (.int .i64 (s.count : Int)) := hB1.cell 3
      have d4 : w1.cell? ⟨g, 4, none⟩ = some (.pointer (some ⟨m, 0, none⟩)) := hB1.cell 4
      have f0 := hB1.free 0
      have f1 := hB1.free 1
      have f2 := hB1.free 2
      have f3 := hB1.free 3
      have f4 := hB1.free 4
      clear K HE HB HM hB1 hl1 hO1 hgm hsh hOx hxx c0 c4
      go_wp2_with fail
      first | go_end0 | refine bodyPost_ret (results_none rfl _ _ _) rfl ?_
      exact ⟨rfl, G, .inr HX.out.1, HX.out.2.1, fun i hi => .inl hi, HX.out.2.2⟩
  · have c0 : w.cell? ⟨g, 0, none⟩ = some (.int .i64 0) := hB.cell 0
    have hx : Px w g G s.close := ⟨rfl, h3, h4, hB⟩
    rw [h1]
    simp only [if_true]
    have HX := Lib.hid hx
    have HM := Lib.hid hM
    clear h1 h3 h4 hB hx hM hF hm hz
    go_enter Tryz.func56, Tryz.ntmps56
    go_wp2_with fail
    first | go_end0 | refine bodyPost_ret (results_none rfl _ _ _) rfl ?_
    exact ⟨rfl, G, .inr HX.out, HM.out, fun i hi => .inl hi, Only.refl _ _⟩
end
end Go.Proofs.YtjgdjobhhdhfjaaGreat

/-
  The program's window: its ring grows; a byte is put, or copied.
-/
namespace Go.Proofs.YtjgdjobhhdhfjaaGreat
open Go.RowKit

section
variable {w w' : World} {g m : Nat} {G : Nat → Prop} {s : Ws} {ring : List UInt8}

theorem zeros_bv (k : Nat) : madeCells #[.int .u8 0] (k * 1) = (bv (List.replicate k 0)).toArray := by
  rw [Nat.mul_one]
  unfold madeCells bv
  apply Array.ext
  · simp
  · intro i h1 h2
    simp [Nat.mod_one]

theorem grown_bv (ring : List UInt8) (k : Nat) (_ : ring.length ≤ k) : splice (bv (List.replicate k 0)) 0 (bv ring) = bv (ring ++ List.replicate (k - ring.length) 0) := by
  unfold splice
  rw [bv_append, bv_length]
  simp [bv]

set_option maxRecDepth 100000 in
set_option maxHeartbeats 2000000 in
theorem wgrow_any (h : Po w g G m s ring) (hz : s.sz ≤ 1048576) (hl : ring.length < s.sz) :
    Calls Tryz.prog 150 #[.pointer (some ⟨g, 0, none⟩)] w fun x w' =>
      x = .returned (.tuple #[]) ∧ ∃ ring' G', Po w' g G' m s ring' ∧ ring.length < ring'.length ∧ (∀ i, G' i → G i ∨ w.heap.size ≤ i) ∧ Only (fun i => i = g) w w' := by
  obtain ⟨i, hi, hz0, hz1, hz2⟩ := info_parts info_u8
  obtain ⟨h1, h2, h3, h4, A, c, hB, hR⟩ := h
  obtain ⟨k, hk⟩ : ∃ k : Nat, (k : Int) = min (max (2 * (ring.length : Int)) 64) (s.sz : Int) := ⟨(min (max (2 * (ring.length : Int)) 64) (s.sz : Int)).toNat, by omega⟩
  have hnk : ring.length < k := by omega
  have hks : k ≤ s.sz := by omega
  have c0 : w.cell? ⟨g, 0, none⟩ = some (.int .i64 (s.sz : Int)) := hB.cell 0
  have c1 : w.cell? ⟨g, 1, none⟩ = some (.slice A ring.length c) := hB.cell 1
  have e1 : IntKind.i64.wrap (2 * (ring.length : Int)) = 2 * (ring.length : Int) := IntWalk.i64_in _ (by omega)
  have hmk : ∀ W : World, (Instr.makeSlice 22 (.int .i64 (min (max (2 * (ring.length : Int)) 64) (s.sz : Int))) (.int .i64 (min (max (2 * (ring.length : Int)) 64) (s.sz : Int)))).run Tryz.prog W = .ok (.slice (some ⟨W.heap.size, 0, none⟩) k k) (W.alloc (.cells (bv (List.replicate k 0)).toArray 5)) := by
    intro W
    have := run_make (P := Tryz.prog) W 22 5 i (.int .u8 0) Tryz.underlying22 hi hz0 .i64 .i64 (k : Int) (k : Int) (by omega) (Int.le_refl _) (by rw [hz2]; omega) (by omega)
    rw [hz1, Int.toNat_natCast] at this
    rw [← hk, this]
    rw [show (Value.int .u8 0).cells = #[.int .u8 0] from rfl, zeros_bv]
  have H := Lib.hid (And.intro h1 (And.intro h2 (And.intro h3 (And.intro h4 (And.intro hB hR)))))
  clear h1 h2 h3 h4 hB hR hk hz0 hz1 hz2 hi
  go_enter Tryz.func150, Tryz.ntmps150
  go_wp2_with fail
  go_region
  have hgl : g < w.heap.size := H.out.2.2.2.1 g H.out.2.2.1
  have hW1 : Blk (w.alloc (.cells (bv (List.replicate k 0)).toArray 5)).drew w.heap.size 5 (bv (List.replicate k 0)).toArray := Blk.fresh w _ _
  have hW2 : Below w.heap.size w (w.alloc (.cells (bv (List.replicate k 0)).toArray 5)).drew := ((Below.refl _ _).alloc (Nat.le_refl _) _).trans ⟨rfl, rfl, rfl, Nat.le_refl _, fun _ _ => rfl⟩
  have hW3 : (w.alloc (.cells (bv (List.replicate k 0)).toArray 5)).drew.heap.size = w.heap.size + 1 := by simp [World.drew]
  generalize (w.alloc (.cells (bv (List.replicate k 0)).toArray 5)).drew = W at *
  have c1W : W.cell? ⟨g, 1, none⟩ = some (.slice A ring.length c) := (World.cell?_of_block (hW2.block g hgl)).trans c1
  have hpos : 0 < ring.length → ∃ ad, A = some ad ∧ ∀ j v, (bv ring)[j]? = some v → W.cell? (ad.add j) = some v := by
    intro hp
    rcases H.out.2.2.2.2.2 with ⟨rfl, _⟩ | ⟨r, rfl, _, hBr, hGr, _⟩
    · simp at hp
    · refine ⟨_, rfl, fun j v hv => ?_⟩
      have := (Blk.below hBr hW2).cell j
      rw [show (⟨r, 0, none⟩ : Addr).add j = ⟨r, j, none⟩ by unfold Addr.add; by_cases h0 : j = 0 <;> simp [h0], this]
      simpa using hv
  have hsz1 : (Tryz.prog.info? 5).map (·.size) = some 1 := by kernel_rfl
  have hcp : ∃ w2, (Builtin.copy_ #[22, 22] 3 #[.slice (some ⟨w.heap.size, 0, none⟩) k k, .slice A ring.length c]).run Tryz.prog W = .ok (.int .i64 (ring.length : Int)) w2 ∧
      Hid (Blk w2 w.heap.size 5 (bv (ring ++ List.replicate (k - ring.length) 0)).toArray) ∧ Hid (Below w.heap.size w w2) := by
    have hmin : Nat.min ring.length k = ring.length := Nat.min_eq_left (by omega)
    rw [← grown_bv ring k (by omega)]
    by_cases h0 : ring.length = 0
    · refine ⟨W, ?_, ?_, hW2⟩
      · rw [run_copy_none (P := Tryz.prog) W 22 22 3 5 _ A k k ring.length c Tryz.underlying22 hsz1 (by rw [hmin]; exact h0), h0]
        rfl
      · have : ring = [] := List.eq_nil_of_length_eq_zero h0
        subst this
        refine Lib.hid ?_
        simpa [splice, bv] using hW1
    · obtain ⟨ad, rfl, hsrc⟩ := hpos (by omega)
      refine ⟨_, run_copy_row (P := Tryz.prog) W 22 22 3 5 w.heap.size 0 k k ad ring.length c _ 5 (bv ring) Tryz.underlying22 hsz1 hW1 (by rw [bv_length, hmin]) hsrc (by simp [bv]; omega) (bv_one _) |>.trans (by rw [bv_length]; rfl), ?_, below_setRow hW2 (Nat.le_refl _) _⟩
      have := setRow_heap W w.heap.size _ (List.take 0 (bv (List.replicate k 0)).toArray.toList ++ bv ring ++ List.drop (0 + ring.length) (bv (List.replicate k 0)).toArray.toList).toArray 5 _ hW1
      have e : (List.take 0 (bv (List.replicate k 0)).toArray.toList ++ bv ring ++ List.drop (0 + ring.length) (bv (List.replicate k 0)).toArray.toList) = splice (bv (List.replicate k 0)) 0 (bv ring) := by
        unfold splice
        rw [bv_length]
        simp
      rw [e] at this ⊢
      exact this
  obtain ⟨w2, hrun, HR, HB2⟩ := hcp
  have HK := Lib.hid hnk
  have HKS := Lib.hid hks
  have hB2 : Blk w2 g 157 (wnCells (s.sz : Int) A ring.length c ((s.l.length % s.sz : Nat) : Int) (s.count : Int) (some ⟨m, 0, none⟩)) := Blk.below H.out.2.2.2.2.1 HB2.out
  have d1 : w2.cell? ⟨g, 1, none⟩ = some (.slice A ring.length c) := hB2.cell 1
  have f1 := hB2.free 1
  have hend : ∃ ring' G', Po (w2.setCell ⟨g, 1, none⟩ (.slice (some ⟨w.heap.size, 0, none⟩) k k)) g G' m s ring' ∧ ring.length < ring'.length ∧ (∀ i, G' i → G i ∨ w.heap.size ≤ i) ∧ Only (fun i => i = g) w (w2.setCell ⟨g, 1, none⟩ (.slice (some ⟨w.heap.size, 0, none⟩) k k)) := by
    obtain ⟨h1, h2, h3, h4, hB, hR⟩ := H.out
    have hgl := h4 g h3
    have hk := HK.out
    have hks := HKS.out
    have hlen : (ring ++ List.replicate (k - ring.length) 0).length = k := by simp; omega
    have hr := HR.out
    have HB2 := HB2.out
    have hO : Only (fun i => i = g) w2 (w2.setCell ⟨g, 1, none⟩ (.slice (some ⟨w.heap.size, 0, none⟩) k k)) := (Only.refl (fun i => i = g) w2).setCell (p := ⟨g, 1, none⟩) (.inl rfl) _
    refine ⟨ring ++ List.replicate (k - ring.length) 0, fun i => G i ∨ i = w.heap.size, ⟨h1, ring_grow h2 (by omega), .inl h3, ?_, some ⟨w.heap.size, 0, none⟩, k, ?_, .inr ⟨w.heap.size, rfl, hlen.symm, hr.only hO (by show ¬ w.heap.size = g; omega), .inr rfl, by omega⟩⟩, by omega, ?_, (Only.of_below HB2).trans hO⟩
    · rintro i (hi | rfl)
      · have := h4 i hi; have := HB2.size; simp [World.setCell]; omega
      · have := hr.lt; simpa [World.setCell] using this
    · rw [hlen]
      exact hB2.put 1 (.slice (some ⟨w.heap.size, 0, none⟩) k k)
    · rintro i (hi | rfl)
      · exact .inl hi
      · exact .inr (Nat.le_refl _)
  have HE := Lib.hid hend
  clear hend hB2 HR HB2 hW1 hW2 hW3 HK HKS H hpos hsz1 hmk hgl hnk hks hz hl c0 c1 e1
  go_wp2_with fail
  first | go_end0 | refine bodyPost_ret (results_none rfl _ _ _) rfl ?_
  exact ⟨rfl, HE.out⟩
end
end Go.Proofs.YtjgdjobhhdhfjaaGreat

/-
  The program's window: a byte is put, or copied.
-/
namespace Go.Proofs.YtjgdjobhhdhfjaaGreat
open Go.RowKit

/-- the window behind the stores of a put -/
def putW (w : World) (g r nx : Nat) (b : UInt8) (last nw : Int) (wrap : Bool) : World :=
  let w1 := (w.setCell ⟨r, nx, none⟩ (.int .u8 (b.toNat : Int))).setCell ⟨g, 2, none⟩ (.int .i64 last)
  let w2 := if wrap = true then w1.setCell ⟨g, 2, none⟩ (.int .i64 0) else w1
  w2.setCell ⟨g, 3, none⟩ (.int .i64 nw)

section
variable {w w' : World} {g m : Nat} {G : Nat → Prop} {s : Ws} {ring : List UInt8} {b : UInt8}

theorem wbv_set (l : List UInt8) (k : Nat) (b : UInt8) : ((bv l).toArray.setIfInBounds k (.int .u8 (b.toNat : Int))) = (bv (l.set k b)).toArray := by
  simp [bv, List.map_set]

theorem put_count (h : s.shut = false) (b : UInt8) : (((s.put b).count : Nat) : Int) = min ((s.count : Int) + 1) (s.sz : Int) := by
  rw [open_put h, open_count h, open_count rfl]
  simp only [List.length_append, List.length_singleton]
  omega

/-- where a byte is put: the facts of the walk, and its end -/
theorem put_facts {nx : Nat} (h : Po w g G m s ring) (hx : s.l.length % s.sz = nx) (hn : nx < ring.length) :
    ∃ r c old, w.cell? ⟨g, 0, none⟩ = some (.int .i64 (s.sz : Int)) ∧ w.cell? ⟨g, 1, none⟩ = some (.slice (some ⟨r, 0, none⟩) ring.length c) ∧
      w.cell? ⟨g, 2, none⟩ = some (.int .i64 (nx : Int)) ∧ w.cell? ⟨g, 3, none⟩ = some (.int .i64 (s.count : Int)) ∧
      w.cell? ⟨r, nx, none⟩ = some old ∧ w.frozen? ⟨r, nx, none⟩ = false ∧ w.frozen? ⟨g, 2, none⟩ = false ∧ w.frozen? ⟨g, 3, none⟩ = false ∧ r ≠ g ∧
      ∀ wrap : Bool, (wrap = true ↔ nx + 1 = s.sz) →
        Pwin (putW w g r nx b ((nx : Int) + 1) (min ((s.count : Int) + 1) (s.sz : Int)) wrap) g G m (s.put b) ∧
        Only G w (putW w g r nx b ((nx : Int) + 1) (min ((s.count : Int) + 1) (s.sz : Int)) wrap) := by
  subst hx
  obtain ⟨h1, h2, h3, h4, A, c, hB, hR⟩ := h
  rcases hR with ⟨rfl, _⟩ | ⟨r, rfl, rfl, hr, hGr, hrg⟩
  · exact absurd hn (by simp)
  · refine ⟨r, ring.length, (.int .u8 ((ring.getD (s.l.length % s.sz) 0).toNat : Int)), hB.cell 0, hB.cell 1, hB.cell 2, hB.cell 3, ?_, hr.free _, hB.free 2, hB.free 3, hrg, ?_⟩
    · rw [hr.cell]
      have := bv_get ring _ hn
      simpa using this
    · intro wrap hwr
      have hm := mod_next (n := s.l.length) h2.1
      have hOr : ∀ (S : Nat → Prop) (u : Value), S r → Only S w (w.setCell ⟨r, s.l.length % s.sz, none⟩ u) := fun S u hS => (Only.refl S w).setCell (p := ⟨r, s.l.length % s.sz, none⟩) (.inl hS) u
      have hB1 : Blk (w.setCell ⟨r, s.l.length % s.sz, none⟩ (.int .u8 (b.toNat : Int))) g _ _ := hB.only (hOr (fun i => i = r) _ rfl) hrg.symm
      have hr1 := hr.put (s.l.length % s.sz) (.int .u8 (b.toNat : Int))
      rw [wbv_set] at hr1
      have hO1 := hOr G (.int .u8 (b.toNat : Int)) hGr
      have hl1 : ∀ i, G i → i < (w.setCell ⟨r, s.l.length % s.sz, none⟩ (.int .u8 (b.toNat : Int))).heap.size := fun i hi => by have := h4 i hi; simpa [World.setCell] using this
      unfold putW
      generalize w.setCell ⟨r, s.l.length % s.sz, none⟩ (.int .u8 (b.toNat : Int)) = w1 at *
      have hring : RingOk (s.put b) (ring.set (s.l.length % s.sz) b) := by
        rw [open_put h1]
        have := ring_put (b := b) h2 hn
        rw [h1] at this
        exact this
      have hlen : (s.put b).l.length = s.l.length + 1 := by rw [open_put h1]; simp
      have hsz : (s.put b).sz = s.sz := put_sz b
      have key : ∀ w2 : World, Only (fun i => i = g) w1 w2 → Blk w2 g 157 (wnCells (s.sz : Int) (some ⟨r, 0, none⟩) ring.length ring.length (((s.l.length + 1) % s.sz : Nat) : Int) (min ((s.count : Int) + 1) (s.sz : Int)) (some ⟨m, 0, none⟩)) → Pwin w2 g G m (s.put b) ∧ Only G w w2 := by
        intro w2 hO2 hB2
        refine ⟨.inl ⟨ring.set (s.l.length % s.sz) b, by rw [open_put h1], hring, h3, fun i hi => Nat.lt_of_lt_of_le (hl1 i hi) hO2.size, some ⟨r, 0, none⟩, ring.length, ?_, .inr ⟨r, rfl, by simp, hr1.only hO2 hrg, hGr, hrg⟩⟩, hO1.trans (hO2.mono (by rintro i rfl; exact h3))⟩
        rw [put_count h1, hsz, hlen, List.length_set]
        exact hB2
      have hOg : ∀ (W : World) (k : Nat) (u : Value), Only (fun i => i = g) W (W.setCell ⟨g, k, none⟩ u) := fun W k u => (Only.refl (fun i => i = g) W).setCell (p := ⟨g, k, none⟩) (.inl rfl) u
      cases wrap with
      | true =>
        have hw := hwr.1 rfl
        rw [if_pos hw] at hm
        simp only [if_true]
        refine key _ (((hOg _ 2 _).trans (hOg _ 2 _)).trans (hOg _ 3 _)) ?_
        rw [hm]
        exact ((hB1.put 2 (.int .i64 ((s.l.length % s.sz : Nat) + 1 : Int))).put 2 (.int .i64 0)).put 3 (.int .i64 (min ((s.count : Int) + 1) (s.sz : Int)))
      | false =>
        have hw : ¬ s.l.length % s.sz + 1 = s.sz := fun h => by have := hwr.2 h; cases this
        rw [if_neg hw] at hm
        simp only [Bool.false_eq_true, if_false]
        refine key _ ((hOg _ 2 _).trans (hOg _ 3 _)) ?_
        rw [hm]
        exact (hB1.put 2 (.int .i64 ((s.l.length % s.sz : Nat) + 1 : Int))).put 3 (.int .i64 (min ((s.count : Int) + 1) (s.sz : Int)))

set_option maxRecDepth 100000 in
set_option maxHeartbeats 4000000 in
theorem wput_any (h : Pwin w g G m s) (hz : s.sz ≤ 1048576) (hl : s.l.length ≤ 1000000000) :
    Calls Tryz.prog 140 #[.pointer (some ⟨g, 0, none⟩), .int .u8 (b.toNat : Int)] w (OwnPost (fun w' G' => Pwin w' g G' m (s.put b)) w G (.tuple #[])) := by
  rcases h with ⟨ring, h⟩ | h
  · have hsz := h.2.1.1
    have hle := h.2.1.2.1
    have hle2 := h.2.1.2.2.1
    have hnz : s.l.length % s.sz < s.sz := Nat.mod_lt _ hsz
    obtain ⟨nx, hx⟩ : ∃ nx, s.l.length % s.sz = nx := ⟨_, rfl⟩
    rw [hx] at hnz hle2
    have hcs : s.count ≤ s.sz := count_le
    have z0 : ((s.sz : Int) == 0) = false := by simp; omega
    have e1 : IntKind.i64.wrap ((nx : Int) + 1) = (nx : Int) + 1 := IntWalk.i64_in _ (by omega)
    have e2 : IntKind.i64.wrap ((s.count : Int) + 1) = (s.count : Int) + 1 := IntWalk.i64_in _ (by omega)
    by_cases hf : nx = ring.length
    · have K := Lib.hid (fun n => wgrow_any (w := w.drewN n) (g := g) (m := m) (G := G) (s := s) (ring := ring) h hz (by omega))
      have q0 : ((nx : Int) == (ring.length : Int)) = true := by rw [hf]; simp
      obtain ⟨A, c, hB, _⟩ := h.2.2.2.2
      rw [hx] at hB
      have c0 : w.cell? ⟨g, 0, none⟩ = some (.int .i64 (s.sz : Int)) := hB.cell 0
      have c1 : w.cell? ⟨g, 1, none⟩ = some (.slice A ring.length c) := hB.cell 1
      have c2 : w.cell? ⟨g, 2, none⟩ = some (.int .i64 (nx : Int)) := hB.cell 2
      have HF := Lib.hid hf
      have HG := Lib.hid h.2.2.1
      clear hB h hf hle hle2 hz hl hsz hcs hnz
      go_enter Tryz.func140, Tryz.ntmps140
      go_wp2_with fail
      go_region
      go_wp2_with fail
      refine (K.out _).mono ?_
      rintro y w1 ⟨rfl, ring', G1, hP, hlt, hG1, hO⟩
      have HP := Lib.hid hP
      have HN : Hid (nx < ring'.length) := Lib.hid (by have := HF.out; omega)
      have HG1 : Hid (∀ i, G1 i → G i ∨ w.heap.size ≤ i) := Lib.hid hG1
      have HO1 : Hid (∀ w2, Only G1 w1 w2 → Only G w w2) := Lib.hid (fun w2 h2 => (Only.of_drewN (hO.mono (S' := G) (by rintro i rfl; exact HG.out))).trans' h2 hG1)
      clear hP hlt hG1 hO c0 c1 c2 K q0 HF HG
      go_wp2_with fail
      obtain ⟨r, c', old, c0, c1, c2, c3, cr, fr, f2, f3, hrg, hend⟩ := put_facts (b := b) HP.out hx HN.out
      have i0 : (0 : Int) ≤ (nx : Int) := by omega
      have i1 : (nx : Int) < (ring'.length : Int) := by have := HN.out; omega
      have hgr : g ≠ r := fun e => hrg e.symm
      by_cases hw : nx + 1 = s.sz
      · have q1 : (((nx : Int) + 1) == (s.sz : Int)) = true := by simp; omega
        have HE := Lib.hid (hend true (by simp [hw]))
        clear hend hw HP HN
        go_region
        go_wp2_with fail
        go_region
        go_wp2_with fail
        go_region
        go_wp2_with fail
        first | go_end0 | refine bodyPost_ret (results_none rfl _ _ _) rfl ?_
        exact ⟨rfl, G1, HE.out.1, HG1.out, HO1.out _ HE.out.2.drew.drew.drew⟩
      · have q1 : (((nx : Int) + 1) == (s.sz : Int)) = false := by simp; omega
        have HE := Lib.hid (hend false (by simp [hw]))
        clear hend hw HP HN
        go_region
        go_wp2_with fail
        go_region
        go_wp2_with fail
        go_region
        go_wp2_with fail
        first | go_end0 | refine bodyPost_ret (results_none rfl _ _ _) rfl ?_
        exact ⟨rfl, G1, HE.out.1, HG1.out, HO1.out _ HE.out.2.drew.drew.drew⟩
    · have q0 : ((nx : Int) == (ring.length : Int)) = false := by simp; omega
      have HP := Lib.hid h
      have HN : Hid (nx < ring.length) := Lib.hid (by omega)
      obtain ⟨A, c, hB, _⟩ := h.2.2.2.2
      rw [hx] at hB
      have c0 : w.cell? ⟨g, 0, none⟩ = some (.int .i64 (s.sz : Int)) := hB.cell 0
      have c1 : w.cell? ⟨g, 1, none⟩ = some (.slice A ring.length c) := hB.cell 1
      have c2 : w.cell? ⟨g, 2, none⟩ = some (.int .i64 (nx : Int)) := hB.cell 2
      clear hB h hf hle hle2 hz hl hsz hcs hnz
      go_enter Tryz.func140, Tryz.ntmps140
      go_wp2_with fail
      go_region
      go_wp2_with fail
      clear c0 c1 c2
      obtain ⟨r, c', old, c0, c1, c2, c3, cr, fr, f2, f3, hrg, hend⟩ := put_facts (b := b) HP.out hx HN.out
      have i0 : (0 : Int) ≤ (nx : Int) := by omega
      have i1 : (nx : Int) < (ring.length : Int) := by have := HN.out; omega
      have hgr : g ≠ r := fun e => hrg e.symm
      by_cases hw : nx + 1 = s.sz
      · have q1 : (((nx : Int) + 1) == (s.sz : Int)) = true := by simp; omega
        have HE := Lib.hid (hend true (by simp [hw]))
        clear hend hw HP HN
        go_region
        go_wp2_with fail
        go_region
        go_wp2_with fail
        go_region
        go_wp2_with fail
        first | go_end0 | refine bodyPost_ret (results_none rfl _ _ _) rfl ?_
        exact ⟨rfl, G, HE.out.1, fun i hi => .inl hi, HE.out.2.drew.drew.drew.drew⟩
      · have q1 : (((nx : Int) + 1) == (s.sz : Int)) = false := by simp; omega
        have HE := Lib.hid (hend false (by simp [hw]))
        clear hend hw HP HN
        go_region
        go_wp2_with fail
        go_region
        go_wp2_with fail
        go_region
        go_wp2_with fail
        first | go_end0 | refine bodyPost_ret (results_none rfl _ _ _) rfl ?_
        exact ⟨rfl, G, HE.out.1, fun i hi => .inl hi, HE.out.2.drew.drew.drew.drew⟩
  · have c0 : w.cell? ⟨g, 0, none⟩ = some (.int .i64 0) := h.2.2.2.cell 0
    have HX := Lib.hid h
    rw [shut_put h.1]
    clear h hz hl
    go_enter Tryz.func140, Tryz.ntmps140
    go_wp2_with fail
    first | go_end0 | refine bodyPost_ret (results_none rfl _ _ _) rfl ?_
    exact ⟨rfl, G, .inr HX.out, fun i hi => .inl hi, Only.refl _ _⟩
end
end Go.Proofs.YtjgdjobhhdhfjaaGreat

/-
  The program's window: a copy, a new one.
-/
namespace Go.Proofs.YtjgdjobhhdhfjaaGreat
open Go.RowKit

section
variable {w w' : World} {g m : Nat} {G : Nat → Prop} {s : Ws}

set_option maxRecDepth 100000 in
set_option maxHeartbeats 2000000 in
theorem wcopy_any {d : Int} (h : Pwin w g G m s) (hz : s.sz ≤ 1048576) (hl : s.l.length ≤ 1000000000) :
    Calls Tryz.prog 119 #[.pointer (some ⟨g, 0, none⟩), .int .i64 d] w (OwnPost (fun w' G' => Pwin w' g G' m (s.copy d)) w G (.int .u8 ((s.at_ d).toNat : Int))) := by
  have K := Lib.hid (whas_any (d := d) h)
  by_cases hh : s.has d = true
  · have KA := Lib.hid (wat_any (d := d) h hz)
    have KP := Lib.hid (fun n => wput_any (w := w.drewN n) (b := s.at_ d) h hz hl)
    rw [show s.copy d = s.put (s.at_ d) by unfold Ws.copy; rw [if_pos hh]]
    rw [hh] at K
    clear h hh hz hl
    generalize s.at_ d = x at *
    go_enter Tryz.func119, Tryz.ntmps119
    go_wp2_with fail
    refine K.out.mono ?_
    rintro y w1 ⟨rfl, rfl⟩
    clear K
    go_wp2_with fail
    refine KA.out.mono ?_
    rintro y w1 ⟨rfl, k, rfl⟩
    clear KA
    go_wp2_with fail
    refine (KP.out _).mono ?_
    rintro y w2 ⟨rfl, G2, hP, hG, hO⟩
    have HE := Lib.hid (And.intro hP (And.intro hG (Only.of_drewN hO)))
    clear hP hG hO KP
    go_wp2_with fail
    go_ret
    exact ⟨rfl, G2, HE.out.1, HE.out.2.1, HE.out.2.2⟩
  · have hf : s.has d = false := by simpa using hh
    rw [show s.copy d = s by unfold Ws.copy; rw [if_neg hh], at_not hf]
    rw [hf] at K
    have HX := Lib.hid h
    clear h hh hf hz hl
    go_enter Tryz.func119, Tryz.ntmps119
    go_wp2_with fail
    refine K.out.mono ?_
    rintro y w1 ⟨rfl, rfl⟩
    clear K
    go_wp2_with fail
    go_ret
    exact ⟨rfl, G, HX.out, fun i hi => .inl hi, Only.refl _ _⟩

set_option maxRecDepth 100000 in
set_option maxHeartbeats 1000000 in
theorem wnew7_any {q : Quo} {t : Tel} {n : Int} (hM : MeterAt w 86 m q t) (hF : Fine q t) (h0 : -9223372036854775808 ≤ n) (h1 : n ≤ 1048576) (hfit : fits t.code t.mem q.mem (max n 1)) :
    Calls Tryz.prog 53 #[.int .i64 n, .pointer (some ⟨m, 0, none⟩)] w fun x w' =>
      ∃ g G, x = .returned (.tuple #[.pointer (some ⟨g, 0, none⟩), .int .i64 0]) ∧ Pwin w' g G m (Ws.new n) ∧ MeterAt w' 86 m q (t.doMem q (max n 1)) ∧ (∀ i, G i → w.heap.size ≤ i) ∧ Only (fun i => i = m) w w' := by
  have K := Lib.hid (mem_any hM hF (max n 1))
  have hd : decide (fits t.code t.mem q.mem (max n 1)) = true := by simp [hfit]
  rw [hd] at K
  have hend : ∀ w1 : World, MeterAt w1 86 m q (t.doMem q (max n 1)) → w.grownBy w1 (some m) →
      Pwin (w1.alloc (.cells #[.int .i64 (max n 1), .slice none 0 0, .int .i64 0, .int .i64 0, .pointer (some ⟨m, 0, none⟩)] 157)) w1.heap.size (fun i => i = w1.heap.size) m (Ws.new n) ∧
        MeterAt (w1.alloc (.cells #[.int .i64 (max n 1), .slice none 0 0, .int .i64 0, .int .i64 0, .pointer (some ⟨m, 0, none⟩)] 157)) 86 m q (t.doMem q (max n 1)) ∧ (∀ i, i = w1.heap.size → w.heap.size ≤ i) ∧
        Only (fun i => i = m) w (w1.alloc (.cells #[.int .i64 (max n 1), .slice none 0 0, .int .i64 0, .int .i64 0, .pointer (some ⟨m, 0, none⟩)] 157)) := by
    intro w1 hM1 hg
    refine ⟨.inl ⟨[], rfl, ring_new h1, rfl, ?_, none, 0, ?_, .inl ⟨rfl, rfl, rfl⟩⟩, hM1.alloc _, ?_, (Only.of_grown (S := fun i => i = m) hg rfl).alloc _⟩
    · rintro i rfl
      simp
    · have e : (((Ws.new n).sz : Nat) : Int) = max n 1 := by show (((max n 1).toNat : Nat) : Int) = _; omega
      have e2 : (Ws.new n).l.length % (Ws.new n).sz = 0 := Nat.zero_mod _
      have e3 : (Ws.new n).count = 0 := by unfold Ws.count Ws.new; simp
      rw [e, e2, e3]
      exact Blk.fresh w1 _ _
    · rintro i rfl
      exact hg.size
  have HE := Lib.hid hend
  clear hend hM hF h0 h1 hfit hd
  go_enter Tryz.func53, Tryz.ntmps53
  go_wp2_with fail
  refine K.out.mono ?_
  rintro y w1 ⟨rfl, hM1, hg⟩
  have HX := Lib.hid (HE.out w1 hM1 hg)
  clear hM1 hg K HE
  go_wp2_with fail
  go_ret2
  exact ⟨_, _, rfl, HX.out.1, HX.out.2.1, HX.out.2.2.1, HX.out.2.2.2⟩

set_option maxRecDepth 100000 in
set_option maxHeartbeats 1000000 in
theorem wshort7_any {q : Quo} {t : Tel} {n : Int} (hM : MeterAt w 86 m q t) (hF : Fine q t) (hfit : ¬ fits t.code t.mem q.mem (max n 1)) :
    Calls Tryz.prog 53 #[.int .i64 n, .pointer (some ⟨m, 0, none⟩)] w fun x w' =>
      x = .returned (.tuple #[.pointer none, .int .i64 (t.doMem q (max n 1)).code]) ∧ MeterAt w' 86 m q (t.doMem q (max n 1)) ∧ Only (fun i => i = m) w w' := by
  have K := Lib.hid (mem_any hM hF (max n 1))
  have hd : decide (fits t.code t.mem q.mem (max n 1)) = false := by simp [hfit]
  rw [hd] at K
  obtain ⟨cd, hcd⟩ : ∃ cd, cd = (t.doMem q (max n 1)).code := ⟨_, rfl⟩
  rw [← hcd]
  have HC := Lib.hid hcd
  clear hM hF hfit hd hcd
  go_enter Tryz.func53, Tryz.ntmps53
  go_wp2_with fail
  refine K.out.mono ?_
  rintro y w1 ⟨rfl, hM1, hg⟩
  have KC := mcode_any hM1
  rw [← HC.out] at KC
  have HX := Lib.hid (And.intro hM1 (Only.of_grown (S := fun i => i = m) hg rfl))
  clear hM1 hg K HC
  go_wp2_with fail
  refine KC.mono ?_
  rintro y w2 ⟨rfl, rfl⟩
  clear KC
  go_wp2_with fail
  go_ret2
  exact ⟨rfl, HX.out.1, HX.out.2⟩
end
end Go.Proofs.YtjgdjobhhdhfjaaGreat

/-
  The program's decoder of LZMA in memory: its numbers, its probabilities, its window, its decoder of ranges.
-/
namespace Go.Proofs.YtjgdjobhhdhfjaaGreat
open Go.RowKit

/-- where the number k of its fields lies, all probabilities left out -/
def fat (k : Nat) : Nat := if k < 15 then k else k + 1847
theorem fat_sg {a k : Nat} (h : a < 1847) : fat k ≠ 15 + sg a := by
  have := sg_lt h
  unfold fat
  split <;> omega
theorem fat_inj {j k : Nat} (h : fat j = fat k) : j = k := by
  unfold fat at h
  repeat' split at h
  all_goals omega

/-- Block g is a decoder: its fields, and the probabilities in it. -/
def LzAt (w : World) (g : Nat) (fs : List Value) (ps : List Nat) : Prop :=
  ∃ cs : Array Value, Blk w g 127 cs ∧ cs.size = 1866 ∧ fs.length = 19 ∧ (∀ k, k < 19 → cs[fat k]? = fs[k]?) ∧ ∀ a, a < 1847 → cs[15 + sg a]? = some (.int .u16 ((ps.getD a 0 : Nat) : Int))

section
variable {w w' : World} {g : Nat} {fs : List Value} {ps : List Nat}
theorem LzAt.lt (h : LzAt w g fs ps) : g < w.heap.size := by
  obtain ⟨cs, hB, _⟩ := h
  exact hB.lt
theorem LzAt.only {S : Nat → Prop} (h : LzAt w g fs ps) (hO : Only S w w') (hg : ¬ S g) : LzAt w' g fs ps := by
  obtain ⟨cs, hB, r⟩ := h
  exact ⟨cs, hB.only hO hg, r⟩
theorem LzAt.cell (h : LzAt w g fs ps) (k : Nat) (hk : k < 19) : w.cell? ⟨g, fat k, none⟩ = fs[k]? := by
  obtain ⟨cs, hB, _, _, h1, _⟩ := h
  rw [hB.cell, h1 k hk]
theorem LzAt.free (h : LzAt w g fs ps) (i : Nat) : w.frozen? ⟨g, i, none⟩ = false := by
  obtain ⟨cs, hB, _⟩ := h
  exact hB.free i
theorem LzAt.chance (h : LzAt w g fs ps) {a : Nat} (ha : a < 1847) : w.cell? ⟨g, 15 + sg a, none⟩ = some (.int .u16 ((ps.getD a 0 : Nat) : Int)) := by
  obtain ⟨cs, hB, _, _, _, h2⟩ := h
  rw [hB.cell, h2 a ha]
theorem LzAt.put (h : LzAt w g fs ps) (k : Nat) (hk : k < 19) (v : Value) : LzAt (w.setCell ⟨g, fat k, none⟩ v) g (fs.set k v) ps := by
  obtain ⟨cs, hB, hs, hl, h1, h2⟩ := h
  have hf : fat k < 1866 := by unfold fat; split <;> omega
  refine ⟨_, hB.put (fat k) v, by simp [hs], by simp [hl], fun j hj => ?_, fun a ha => ?_⟩
  · by_cases hjk : j = k
    · subst hjk
      rw [Array.getElem?_setIfInBounds, List.getElem?_set]
      simp [hs, hf, hl, hj]
    · rw [Array.getElem?_setIfInBounds_ne (fun e => hjk (fat_inj e.symm)), List.getElem?_set_ne (fun e => hjk e.symm)]
      exact h1 j hj
  · rw [Array.getElem?_setIfInBounds_ne (fat_sg ha)]
    exact h2 a ha
theorem LzAt.prob (h : LzAt w g fs ps) {a : Nat} (ha : a < 1847) (hl : 1847 ≤ ps.length) (q : Nat) : LzAt (w.setCell ⟨g, 15 + sg a, none⟩ (.int .u16 (q : Int))) g fs (ps.set a q) := by
  obtain ⟨cs, hB, hs, hfl, h1, h2⟩ := h
  have hf := sg_lt ha
  refine ⟨_, hB.put (15 + sg a) _, by simp [hs], hfl, fun j hj => ?_, fun b hb => ?_⟩
  · rw [Array.getElem?_setIfInBounds_ne (fat_sg ha).symm]
    exact h1 j hj
  · by_cases hab : a = b
    · subst hab
      rw [Array.getElem?_setIfInBounds]
      simp only [List.getD, List.getElem?_set]
      simp [hs, show 15 + sg a < 1866 by omega, show a < ps.length by omega]
    · rw [Array.getElem?_setIfInBounds_ne (fun e => hab (sg_inj ha hb (by omega))), h2 b hb]
      simp only [List.getD, List.getElem?_set_ne hab]
theorem LzAt.same {ps' : List Nat} (h : LzAt w g fs ps) (he : ∀ a, a < 1847 → ps'.getD a 0 = ps.getD a 0) : LzAt w g fs ps' := by
  obtain ⟨cs, hB, hs, hfl, h1, h2⟩ := h
  exact ⟨cs, hB, hs, hfl, h1, fun a ha => by rw [he a ha]; exact h2 a ha⟩
end

/-- what stays where it is: the decoder, the literals' probabilities (so many), window, meter, the decoder of ranges, its feed, its bytes; what the meter gave; the window's size -/
structure Kon where
  g : Nat
  lb : Nat
  nl : Nat
  wg : Nat
  m : Nat
  dg : Nat
  f : Nat
  lo : Nat
  bs : List UInt8
  room : Int
  sz : Nat
def Kon.Bk (K : Kon) : Nat → Prop := fun i => i = K.g ∨ i = K.lb
def Kon.ad (K : Kon) (a : Nat) : Nat × Nat := if a < 1847 then (K.g, 15 + sg a) else (K.lb, a - 1847)
def Rk (K : Kon) (fs : List Value) (w : World) (ps : List Nat) : Prop := LzAt w K.g fs ps ∧ Row w K.lb (ps.drop 1847) K.nl ∧ ps.length = 1847 + K.nl

theorem Kon.prb (K : Kon) (fs : List Value) (hn : K.g ≠ K.lb) : Prb (Rk K fs) K.Bk K.ad (1847 + K.nl) where
  blk {a} _ := by unfold Kon.ad Kon.Bk; split <;> simp
  cell {w ps a} h ha := by
    unfold Kon.ad
    split
    · rename_i h1
      exact h.1.chance h1
    · rename_i h1
      have hlen := h.2.2
      have hi : a - 1847 < (ps.drop 1847).length := by rw [List.length_drop]; omega
      have := h.2.1.cell hi
      dsimp only
      rw [this]
      simp only [List.getD, List.getElem?_drop]
      rw [show 1847 + (a - 1847) = a by omega]
  free {w ps a} h ha := by
    unfold Kon.ad
    split
    · exact h.1.free _
    · exact h.2.1.free _
  put {w ps a} h ha q := by
    have hlen := h.2.2
    unfold Kon.ad
    split
    · rename_i h1
      dsimp only
      refine ⟨h.1.prob h1 (by omega) q, ?_, by rw [List.length_set]; exact hlen⟩
      rw [List.drop_set_of_lt h1]
      exact h.2.1.only ((Only.refl (fun j => j = K.g) w).setCell (p := ⟨K.g, _, none⟩) (.inl rfl) _) (fun e => hn e.symm)
    · rename_i h1
      dsimp only
      refine ⟨(h.1.only ((Only.refl (fun j => j = K.lb) w).setCell (p := ⟨K.lb, _, none⟩) (.inl rfl) _) hn).same (fun b hb => ?_), ?_, by rw [List.length_set]; exact hlen⟩
      · simp only [List.getD]
        rw [List.getElem?_set_ne (by omega)]
      · have := h.2.1.put (a - 1847) q
        have e : (ps.set a q).drop 1847 = (ps.drop 1847).set (a - 1847) q := by
          rw [List.drop_set, if_neg (by omega)]
        rw [e]
        exact this
  only {w w' ps S} h hO hS := ⟨h.1.only hO (hS _ (.inl rfl)), h.2.1.only hO (hS _ (.inr rfl)), h.2.2⟩
  len h := h.2.2
  old {w ps i} h hi := by
    rcases hi with rfl | rfl
    · exact h.1.lt
    · exact h.2.1.lt

/-- its fields -/
def lwFs (K : Kon) (z : Lzs) (left : Nat) : List Value :=
  [.int .i64 (z.lc : Int), .int .i64 (z.lp : Int), .int .i64 (z.pb : Int), .int .i64 (z.dict : Int), .iface 63 (.pointer (some ⟨K.f, 0, none⟩)), .pointer (some ⟨K.dg, 0, none⟩), .pointer (some ⟨K.wg, 0, none⟩), .pointer (some ⟨K.m, 0, none⟩), .int .i64 K.room,
    .int .i64 (z.out.length : Int), .int .i64 (z.st : Int), .int .u32 (z.r0 : Int), .int .u32 (z.r1 : Int), .int .u32 (z.r2 : Int), .int .u32 (z.r3 : Int), .slice (some ⟨K.lb, 0, none⟩) K.nl K.nl, .int .i64 (left : Int), .bool z.ended, .bool z.bad]

/-- what lies apart -/
structure Apart (K : Kon) (Gw : Nat → Prop) : Prop where
  gl : K.g < K.lo
  ll : K.lb < K.lo
  ml : K.m < K.lo
  gn : K.g ≠ K.lb
  mg : K.m ≠ K.g
  mb : K.m ≠ K.lb
  wd : ∀ i, Gw i → i ≠ K.g ∧ i ≠ K.lb ∧ i ≠ K.m ∧ (i < K.lo ∨ K.dg < i)
theorem Apart.b0 {K : Kon} {Gw : Nat → Prop} (h : Apart K Gw) : ∀ i, K.Bk i → i < K.lo ∨ K.dg < i := by
  rintro i (rfl | rfl)
  · exact .inl h.gl
  · exact .inl h.ll

/-- The decoder, whole. -/
structure Lw (K : Kon) (w : World) (Gw : Nat → Prop) (z : Lzs) (t : Pm Dc) (left : Nat) : Prop where
  mch : Mch (Rk K (lwFs K z left)) K.dg K.f K.lo K.bs (1847 + K.nl) w t
  win : Pwin w K.wg Gw K.m ⟨K.sz, z.out, false⟩
  ap : Apart K Gw
/-- what a call turns that leaves the window alone -/
def Kon.own (K : Kon) : Nat → Prop := owns K.f K.dg K.Bk
def MidPost (K : Kon) (w : World) (Gw : Nat → Prop) (v : Value) (z : Lzs) (t : Pm Dc) (left : Nat) (e : Ending) (w' : World) : Prop :=
  e = .returned v ∧ Lw K w' Gw z t left ∧ Only K.own w w'
/-- what a call turns that puts bytes -/
def Kon.all (K : Kon) (Gw : Nat → Prop) : Nat → Prop := fun i => K.own i ∨ Gw i
def PutPost (K : Kon) (w : World) (Gw : Nat → Prop) (v : Value) (z : Lzs) (t : Pm Dc) (left : Nat) (e : Ending) (w' : World) : Prop :=
  e = .returned v ∧ ∃ Gw', Lw K w' Gw' z t left ∧ (∀ i, Gw' i → Gw i ∨ w.heap.size ≤ i) ∧ Only (K.all Gw) w w'

section
variable {K : Kon} {w w' : World} {Gw : Nat → Prop} {z : Lzs} {t : Pm Dc} {left : Nat}
theorem Lw.dec (h : Lw K w Gw z t left) : LzAt w K.g (lwFs K z left) t.ps := h.mch.row.1
theorem Apart.own (h : Apart K Gw) (hp : K.lo ≤ K.f ∧ K.f < K.dg) {i : Nat} (hi : Gw i) : ¬ K.own i := by
  have := h.wd i hi
  rintro (e | e | e | e) <;> omega
theorem Mch.prb (_ : Mch (Rk K (lwFs K z left)) K.dg K.f K.lo K.bs (1847 + K.nl) w t) (hn : K.g ≠ K.lb) : Prb (Rk K (lwFs K z left)) K.Bk K.ad (1847 + K.nl) := K.prb _ hn
theorem Lw.drewN (h : Lw K w Gw z t left) (n : Nat) : Lw K (w.drewN n) Gw z t left :=
  ⟨⟨h.mch.pd.drewN n, (K.prb _ h.ap.gn).only h.mch.row ((Only.refl (fun _ => False) w).drewN n) (fun _ _ h => h), h.mch.ok⟩, h.win.only ((Only.refl (fun _ => False) w).drewN n) (fun _ _ h => h), h.ap⟩
/-- a call of the decoder of ranges -/
theorem Lw.bits {v : Value} {t' : Pm Dc} {e : Ending} (h : Lw K w Gw z t left) (hp : MPost (Rk K (lwFs K z left)) K.Bk K.dg K.f K.lo K.bs (1847 + K.nl) w v t' e w') : MidPost K w Gw v z t' left e w' :=
  ⟨hp.1, ⟨hp.2.1, h.win.only hp.2.2 (fun _ hi => h.ap.own h.mch.pd.lo hi), h.ap⟩, hp.2.2⟩
/-- a field is stored -/
theorem Lw.put (h : Lw K w Gw z t left) (k : Nat) (hk : k < 19) (v : Value) {z' : Lzs} {left' : Nat} (hz : (lwFs K z left).set k v = lwFs K z' left') (ho : z'.out = z.out) : Lw K (w.setCell ⟨K.g, fat k, none⟩ v) Gw z' t left' := by
  have hO := (Only.refl (fun j => j = K.g) w).setCell (p := ⟨K.g, fat k, none⟩) (.inl rfl) v
  have hlo := h.mch.pd.lo
  refine ⟨⟨h.mch.pd.only hO (fun i hi => .inl (hi ▸ h.ap.gl)), ⟨?_, h.mch.row.2.1.only hO (fun e => h.ap.gn e.symm), h.mch.row.2.2⟩, h.mch.ok⟩, ?_, h.ap⟩
  · have := h.dec.put k hk v
    rw [hz] at this
    exact this
  · rw [ho]
    exact h.win.only hO (fun i hi e => (h.ap.wd i hi).1 e)
theorem Only.own_put (h : Only K.own w w') (k : Nat) (v : Value) : Only K.own w (w'.setCell ⟨K.g, fat k, none⟩ v) := h.setCell (p := ⟨K.g, fat k, none⟩) (.inl (.inr (.inr (.inl rfl)))) v
theorem MidPost.trans {w1 : World} {v : Value} {z' : Lzs} {t' : Pm Dc} {left' : Nat} {e : Ending} (h : Only K.own w w1) (hp : MidPost K w1 Gw v z' t' left' e w') : MidPost K w Gw v z' t' left' e w' := ⟨hp.1, hp.2.1, h.trans hp.2.2⟩
end
end Go.Proofs.YtjgdjobhhdhfjaaGreat
