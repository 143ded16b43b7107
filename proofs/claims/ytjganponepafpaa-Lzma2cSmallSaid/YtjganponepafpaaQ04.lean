/-
  SmLast, Pkts, PsPure, PaNum, PhNum, SmNum: put together.
-/
import Derived.Test.YtjganponepafpaaQ03
import Derived.ProofKit
import Derived.OpenShut
import Derived.ShutString
import Derived.ChangeOld
import Derived.Below
import Derived.Deep.Grids
import Derived.Deep.SlicePairs
set_option linter.unusedVariables false
set_option linter.unusedSimpArgs false
/-
  One byte again and again: what a piece's last packet costs, and what it leaves.
-/
namespace Go.Proofs.Ytjganponepafpaa

/-- from t to t' each probability from lo up to hi has turned once at most, no other -/
structure Mov (t t' : Pm En) (lo hi : Nat) : Prop where
  out : ∀ i, i < lo ∨ hi ≤ i → qAt t'.ps i = qAt t.ps i
  one : ∀ i, qAt t.ps i - qAt t.ps i / 32 ≤ qAt t'.ps i
section
variable {t t' t'' : Pm En} {c lo mid hi : Nat}
theorem Mov.refl (t : Pm En) (lo : Nat) : Mov t t lo lo := ⟨fun _ _ => rfl, fun _ => Nat.sub_le _ _⟩
theorem Mov.wide (h : Mov t t' lo mid) (hh : mid ≤ hi) : Mov t t' lo hi := ⟨fun i hi => h.out i (by omega), h.one⟩
theorem Mov.low (h : Mov t t' mid hi) (hh : lo ≤ mid) : Mov t t' lo hi := ⟨fun i hi => h.out i (by omega), h.one⟩
theorem Mov.then (h : Mov t t' lo mid) (k : Mov t' t'' mid hi) (h1 : lo ≤ mid) (h2 : mid ≤ hi) : Mov t t'' lo hi := by
  refine ⟨fun i hi => ?_, fun i => ?_⟩
  · rw [k.out i (by omega), h.out i (by omega)]
  · by_cases hm : i < mid
    · rw [k.out i (.inl hm)]
      exact h.one i
    · rw [← h.out i (.inr (by omega))]
      exact k.one i
theorem mov_bit {a w : Nat} (h : Okc t c) (ha : a < 7991) : Mov t (bE t a w) a (a + 1) := by
  refine ⟨fun i hi => qAt_other h ha (by omega), fun i => ?_⟩
  by_cases e : a = i
  · subst e
    exact qAt_turn h ha
  · rw [qAt_other h ha e]
    exact Nat.sub_le _ _
theorem tree_crude {a n v : Nat} (h : Okc t c) (ha : a + 2 ^ n ≤ 7991) : ∀ j, j ≤ n → ∃ m o u, treeG encM t a n (v : Int) j = ⟨m, o, u⟩ ∧ Okc u (c + 98 * j) ∧ 2 ^ j ≤ m ∧ m < 2 ^ (j + 1) ∧ Mov t u (a + 1) (a + m)
  | 0, _ => ⟨1, 0, t, rfl, h, Nat.le_refl _, by decide, Mov.refl _ _⟩
  | j + 1, hj => by
    obtain ⟨m, o, u, e, h1, h2, h3, h4⟩ := tree_crude h ha j (by omega)
    have hp : 2 ^ (j + 1) ≤ 2 ^ n := Nat.pow_le_pow_right (by omega) hj
    have hb := bitOf_le v (n - 1 - j)
    have h0 : 0 < 2 ^ j := Nat.two_pow_pos j
    refine ⟨2 * m + bitOf v (n - 1 - j), o + bitOf v (n - 1 - j) * 2 ^ j, bE u (a + m) (bitOf v (n - 1 - j)), ?_, ?_, ?_, ?_, ?_⟩
    · show tgStep encM a j (want (v : Int) (n - 1 - j)) (treeG encM t a n (v : Int) j) = _
      rw [want_nat, e]
      rfl
    · rw [show c + 98 * (j + 1) = c + 98 * j + 98 by omega]
      exact h1.crude (by omega)
    · rw [Nat.pow_succ]; omega
    · rw [Nat.pow_succ 2 (j + 1)]; omega
    · exact (h4.then (mov_bit h1 (by omega)) (by omega) (by omega)).wide (by omega)
theorem treeP_crude {a n v : Nat} (h : Okc t c) (ha : a + 2 ^ n ≤ 7991) : ∃ k u, treeP encM t a n (v : Int) = (k, u) ∧ Okc u (c + 98 * n) ∧ Mov t u (a + 1) (a + 2 ^ (n + 1)) := by
  obtain ⟨m, o, u, e, h1, h2, h3, h4⟩ := tree_crude (v := v) h ha n (Nat.le_refl n)
  refine ⟨m - 2 ^ n, u, ?_, h1, h4.wide (by omega)⟩
  unfold treeP
  rw [e]
theorem Okc.mono {c' : Nat} (h : Okc t c) (hc : c ≤ c') : Okc t c' := ⟨h.ps, h.len, h.x, h.bud.mono hc⟩
theorem min_div (v d : Nat) (h : v < d) : min ((v : Int).tdiv (d : Int)) 1 = ((0 : Nat) : Int) := by
  rw [Int.tdiv_eq_ediv_of_nonneg (by omega), ← Int.natCast_ediv, Nat.div_eq_of_lt h]
  rfl
theorem min_div1 (v d : Nat) (hd : 0 < d) (h : d ≤ v) : min ((v : Int).tdiv (d : Int)) 1 = ((1 : Nat) : Int) := by
  have : 1 ≤ v / d := (Nat.one_le_div_iff hd).2 h
  rw [Int.tdiv_eq_ediv_of_nonneg (by omega), ← Int.natCast_ediv]
  omega
/-- a length -/
theorem len_crude {s v : Nat} (h : Okc t c) (hs : s < 4) (hv : v < 272) : ∃ k u, lenP encM t 1333 s (v : Int) = (k, u) ∧ Okc u (c + 980) ∧ Mov t u 1333 2103 := by
  by_cases h8 : v < 8
  · have b1 := bit_at (t := t) (a := 1333) (min_div v 8 h8)
    have k1 := h.crude (a := 1333) (w := 0) (by decide)
    obtain ⟨k, u, e, g1, g2⟩ := treeP_crude (a := 1333 + 2 + 8 * s) (n := 3) (v := v) k1 (by show _ + 8 ≤ _; omega)
    refine ⟨k, u, ?_, g1.mono (by omega), ((mov_bit h (by decide)).then (g2.low (by omega)) (by decide) (by show 1334 ≤ _ + 16; omega)).wide (by show _ + 16 ≤ _; omega)⟩
    unfold lenP lenA
    rw [show (8 : Int) = ((8 : Nat) : Int) from rfl, b1]
    show (if (0 : Nat) = 0 then treeP encM (bE t 1333 0) (1333 + 2 + 8 * s) 3 (v : Int) else _) = _
    rw [if_pos rfl, e]
  · by_cases h16 : v < 16
    · have b1 := bit_at (t := t) (a := 1333) (min_div1 v 8 (by decide) (by omega))
      have k1 := h.crude (a := 1333) (w := 1) (by decide)
      have b2 := bit_at (t := bE t 1333 1) (a := 1334) (min_div v 16 h16)
      have k2 := k1.crude (a := 1334) (w := 0) (by decide)
      obtain ⟨k, u, e, g1, g2⟩ := treeP_crude (a := 1333 + 130 + 8 * s) (n := 3) (v := v - 8) k2 (by show _ + 8 ≤ _; omega)
      refine ⟨8 + k, u, ?_, g1.mono (by omega), (((mov_bit h (by decide)).then (mov_bit k1 (by decide)) (by decide) (by decide)).then (g2.low (by omega)) (by decide) (by show 1335 ≤ _ + 16; omega)).wide (by show _ + 16 ≤ _; omega)⟩
      unfold lenP lenA
      rw [show (8 : Int) = ((8 : Nat) : Int) from rfl, show (16 : Int) = ((16 : Nat) : Int) from rfl, b1]
      show (if (1 : Nat) = 0 then _ else lenB encM (bitP encM (bE t 1333 1) 1334 (min ((v : Int).tdiv ((16 : Nat) : Int)) 1)) 1333 s (v : Int)) = _
      rw [if_neg (by decide), b2]
      unfold lenB
      show (if (0 : Nat) = 0 then (8 + (treeP encM (bE (bE t 1333 1) 1334 0) (1333 + 130 + 8 * s) 3 ((v : Int) - 8)).1, (treeP encM (bE (bE t 1333 1) 1334 0) (1333 + 130 + 8 * s) 3 ((v : Int) - 8)).2) else _) = _
      rw [if_pos rfl, show (v : Int) - 8 = ((v - 8 : Nat) : Int) by omega, e]
    · have k1 := h.crude (a := 1333) (w := 1) (by decide)
      have k2 := k1.crude (a := 1334) (w := 1) (by decide)
      obtain ⟨k, u, e, g1, g2⟩ := treeP_crude (a := 1591) (n := 8) (v := v - 16) k2 (by decide)
      have b1 := bit_at (t := t) (a := 1333) (min_div1 v 8 (by decide) (by omega))
      have b2 := bit_at (t := bE t 1333 1) (a := 1334) (min_div1 v 16 (by decide) (by omega))
      rw [show ((v - 16 : Nat) : Int) = (v : Int) - 16 by omega] at e
      exact ⟨16 + k, u, len_high b1 b2 e, g1.mono (by omega), ((mov_bit h (by decide)).then (mov_bit k1 (by decide)) (by decide) (by decide)).then (g2.low (by decide)) (by decide) (by decide)⟩

/-- what has stayed once more -/
def Rai (ps : List Nat) : Prop := (∀ i ∈ lenL, 1025 ≤ qAt ps i) ∧ ∀ s, s < 4 → 1025 ≤ qAt ps (416 + s)
theorem sp_parts : ∀ i ∈ spL, i < 1333 ∨ i ∈ lenL := by decide
theorem sp_rep0 : ∀ s : Fin 4, 416 + s.val ∈ spL := by decide
theorem turn_ok {q q' : Nat} (h : 1025 ≤ q) (hq : q - q / 32 ≤ q') : 992 ≤ q' := by omega
theorem again_last {C st s v : Nat} (h : Smp t C) (hst : st ≤ 11) (hs : s < 4) (hv : v < 272) : ∃ k u, lenP encM (k4 t st s 1) 1333 s (v : Int) = (k, u) ∧ Okc u (C + 1372) ∧ (Rai t.ps → ∀ i ∈ spL, 992 ≤ qAt u.ps i) := by
  obtain ⟨a1, a2, _⟩ := again_kind h hst hs
  obtain ⟨c, hc, hC⟩ := a1.hav
  obtain ⟨k, u, e, g1, g2⟩ := len_crude hc hs hv
  refine ⟨k, u, e, g1.mono (by have : (if st = 11 then 48 else 392) ≤ 392 := by split <;> decide
                               omega), fun hr i hi => ?_⟩
  rcases sp_parts i hi with h1 | h1
  · rw [g2.out i (.inl h1)]
    exact a1.lo i hi
  · exact turn_ok (Nat.le_trans (hr.1 i h1) (a2 i hi)) (g2.one i)
theorem single_last {C st s : Nat} (h : Smp t C) (hst : st ≤ 11) (hs : s < 4) : Okc (k4 t st s 0) (C + 392) ∧ (Rai t.ps → ∀ i ∈ spL, 992 ≤ qAt (k4 t st s 0).ps i) := by
  unfold k4
  by_cases e : st = 11
  · subst e
    obtain ⟨m1, m2, m3, m4, d1, d2, d3, _⟩ := sp_near ⟨s, hs⟩
    obtain ⟨a1, _, b1⟩ := h.stay m1 d1.symm
    obtain ⟨a2, _, b2⟩ := a1.stay m2 d2.symm
    obtain ⟨a3, _, b3⟩ := a2.stay m3 d3.symm
    obtain ⟨c, hc, hC⟩ := a3.hav
    have hlt : 240 + 16 * 11 + s < 7991 := by omega
    refine ⟨(hc.crude hlt).mono (by omega), fun hr i hi => ?_⟩
    have hm := mov_bit (w := 0) hc hlt
    by_cases ei : 240 + 16 * 11 + s = i
    · have h4 := hr.2 s hs
      have hup : 1025 ≤ qAt (bE (bE (bE t (16 * 11 + s) 1) (192 + 11) 1) (204 + 11) 0).ps i := by
        subst ei
        exact Nat.le_trans h4 (Nat.le_trans (b1 _ m4) (Nat.le_trans (b2 _ m4) (b3 _ m4)))
      exact turn_ok hup (hm.one i)
    · rw [hm.out i (by omega)]
      exact a3.lo i hi
  · obtain ⟨m1, m2, m3, m4⟩ := sp_far ⟨st, by omega⟩ ⟨s, hs⟩
    dsimp only at m1 m2 m3 m4
    obtain ⟨a1, b1⟩ := h.free (w := 1) m1 (by omega)
    obtain ⟨a2, b2⟩ := a1.free (w := 1) m2 (by omega)
    obtain ⟨a3, b3⟩ := a2.free (w := 0) m3 (by omega)
    obtain ⟨a4, b4⟩ := a3.free (w := 0) m4 (by omega)
    obtain ⟨c, hc, hC⟩ := a4.hav
    exact ⟨hc.mono (by omega), fun _ i hi => a4.lo i hi⟩
end
end Go.Proofs.Ytjganponepafpaa

/-
  A list of packets, opened: each element has four numbers (int, uint8, int, uint32).
-/
namespace Go.Proofs.Ytjganponepafpaa
open Go.ChangeShapes Go.WideShapes Go.ChangeAt Go.RowKit

/-- a packet as it comes in -/
structure Pq where
  k : Int
  a : Int
  n : Int
  v : Int
instance : Inhabited Pq := ⟨⟨0, 0, 0, 0⟩⟩

/-- a slice of packets -/
def Pkts (w : World) (B : Option Addr) (m : Nat) (q : Nat → Pq) : Prop :=
  0 < m → ∃ b o, B = some ⟨b, o, none⟩ ∧ b < w.heap.size ∧ ∀ i, i < m → w.cell? ⟨b, o + i * 4, none⟩ = some (.int .i64 (q i).k) ∧ w.cell? ⟨b, o + i * 4 + 1, none⟩ = some (.int .u8 (q i).a) ∧
    w.cell? ⟨b, o + i * 4 + 2, none⟩ = some (.int .i64 (q i).n) ∧ w.cell? ⟨b, o + i * 4 + 3, none⟩ = some (.int .u32 (q i).v)
structure PqLit (q : Pq) : Prop where
  k : -9223372036854775808 ≤ q.k ∧ q.k ≤ 9223372036854775807
  a : 0 ≤ q.a ∧ q.a ≤ 255
  n : -9223372036854775808 ≤ q.n ∧ q.n ≤ 9223372036854775807
  v : 0 ≤ q.v ∧ q.v ≤ 4294967295

theorem Pkts.below {w w' : World} {B : Option Addr} {m : Nat} {q : Nat → Pq} (h : Pkts w B m q) (hb : Below w.heap.size w w') : Pkts w' B m q := by
  intro hm
  obtain ⟨b, o, e, hlt, hc⟩ := h hm
  refine ⟨b, o, e, Nat.lt_of_lt_of_le hlt hb.size, fun i hi => ?_⟩
  rw [hb.cell hlt, hb.cell hlt, hb.cell hlt, hb.cell hlt]
  exact hc i hi

section
variable {H : Type} {enc : TypeId × Value → H} {P : Program} {w : World} {held : Bool}
end
end Go.Proofs.Ytjganponepafpaa

/-
  Which packets tell bytes, as numbers.
-/
namespace Go.Proofs.Ytjganponepafpaa

/-- how many bytes, up to so many, are those o ahead of them -/
def eqN (b : List UInt8) (o : Nat) : Nat → Nat → Nat
  | 0, _ => 0
  | f + 1, i => if b.getD i 0 = b.getD (i - o) 0 then eqN b o f (i + 1) + 1 else 0
theorem eqN_le (b : List UInt8) (o : Nat) : ∀ f i, eqN b o f i ≤ f
  | 0, _ => Nat.le_refl _
  | f + 1, i => by
    unfold eqN
    have := eqN_le b o f (i + 1)
    split <;> omega
theorem eqN_same (b : List UInt8) (o : Nat) : ∀ f i k, k < eqN b o f i → b.getD (i + k) 0 = b.getD (i + k - o) 0
  | 0, _, _, h => absurd h (Nat.not_lt_zero _)
  | f + 1, i, k, h => by
    unfold eqN at h
    split at h
    · rename_i he
      match k with
      | 0 => exact he
      | k + 1 =>
        have := eqN_same b o f (i + 1) k (by omega)
        rw [show i + 1 + k = i + (k + 1) by omega] at this
        exact this
    · omega
theorem eqN_ge {b : List UInt8} {o : Nat} : ∀ {f i n}, n ≤ f → (∀ k, k < n → b.getD (i + k) 0 = b.getD (i + k - o) 0) → n ≤ eqN b o f i
  | _, _, 0, _, _ => Nat.zero_le _
  | 0, _, n + 1, h, _ => absurd h (by omega)
  | f + 1, i, n + 1, hn, h => by
    have h0 := h 0 (by omega)
    simp only [Nat.add_zero] at h0
    unfold eqN
    rw [if_pos h0]
    have := eqN_ge (b := b) (o := o) (f := f) (i := i + 1) (n := n) (by omega) (fun k hk => by
      have := h (k + 1) (by omega)
      rw [show i + (k + 1) = i + 1 + k by omega] at this
      exact this)
    omega
theorem eqN_is {b : List UInt8} {o f i n : Nat} (hn : n ≤ f) (h : ∀ k, k < n → b.getD (i + k) 0 = b.getD (i + k - o) 0) (hs : n < f → b.getD (i + n) 0 ≠ b.getD (i + n - o) 0) : eqN b o f i = n := by
  have h1 := eqN_ge hn h
  have h2 := eqN_le b o f i
  by_cases he : eqN b o f i = n
  · exact he
  · exact absurd (eqN_same b o f i n (by omega)) (hs (by omega))
/-- bytes that are a part of others -/
theorem eqN_part {b c : List UInt8} {o p t : Nat} (hp : ∀ j, j < t → c.getD j 0 = b.getD (p + j) 0) : ∀ f i, o ≤ i → i + f ≤ t → eqN c o f i = eqN b o f (p + i)
  | 0, _, _, _ => rfl
  | f + 1, i, ho, ht => by
    unfold eqN
    rw [hp i (by omega), hp (i - o) (by omega), show p + (i - o) = p + i - o by omega, eqN_part hp f (i + 1) (by omega) (by omega)]
    rfl

/-- the copy at a distance -/
def cpN (b : List UInt8) (dict e i d : Nat) : Nat := if d < i ∧ d < dict then eqN b (d + 1) (min 273 (e - i)) i else 0
theorem cpN_le (b : List UInt8) (dict e i d : Nat) : cpN b dict e i d ≤ min 273 (e - i) := by
  unfold cpN
  split
  · exact eqN_le _ _ _ _
  · omega
/-- the least index of the greatest number, and it -/
def best (g : Nat → Nat) : Nat → Nat × Nat
  | 0 => (0, 0)
  | d + 1 => if (best g d).2 < g d then (d, g d) else best g d
theorem best_ge (g : Nat → Nat) : ∀ n d, d < n → g d ≤ (best g n).2
  | 0, _, h => absurd h (Nat.not_lt_zero _)
  | n + 1, d, h => by
    unfold best
    by_cases he : d = n
    · subst he
      split
      · exact Nat.le_refl _
      · omega
    · have := best_ge g n d (by omega)
      split
      · show g d ≤ g n; omega
      · exact this
theorem best_is (g : Nat → Nat) : ∀ n, 0 < (best g n).2 → (best g n).1 < n ∧ g (best g n).1 = (best g n).2 ∧ ∀ d, d < (best g n).1 → g d < (best g n).2
  | 0, h => absurd h (Nat.lt_irrefl _)
  | n + 1, h => by
    unfold best at h ⊢
    split
    · rename_i hl
      exact ⟨by simp, rfl, fun d hd => Nat.lt_of_le_of_lt (best_ge g n d hd) hl⟩
    · rename_i hl
      rw [if_neg hl] at h
      obtain ⟨h1, h2, h3⟩ := best_is g n h
      exact ⟨by omega, h2, h3⟩
theorem best_zero (g : Nat → Nat) : ∀ n, (best g n).2 = 0 → best g n = (0, 0)
  | 0, _ => rfl
  | n + 1, h => by
    unfold best at h ⊢
    split
    · rename_i hl
      rw [if_pos hl] at h
      have h : g n = 0 := h
      omega
    · rename_i hl
      rw [if_neg hl] at h
      exact best_zero g n h
theorem best_uniq {g : Nat → Nat} {n k v : Nat} (hk : k < n) (hv : g k = v) (h0 : 0 < v) (ha : ∀ d, d < n → g d ≤ v) (hl : ∀ d, d < k → g d < v) : best g n = (k, v) := by
  have h1 := best_ge g n k hk
  obtain ⟨h2, h3, h4⟩ := best_is g n (by omega)
  have h5 := ha _ h2
  have e2 : (best g n).2 = v := by omega
  have e1 : (best g n).1 = k := by
    by_cases hlt : (best g n).1 < k
    · have := hl _ hlt
      omega
    · by_cases hgt : k < (best g n).1
      · have := h4 k hgt
        omega
      · omega
  exact Prod.ext e1 e2
theorem best_congr {g g' : Nat → Nat} : ∀ {n}, (∀ d, d < n → g d = g' d) → best g n = best g' n
  | 0, _ => rfl
  | n + 1, h => by
    unfold best
    rw [best_congr (n := n) (fun d hd => h d (by omega)), h n (by omega)]
/-- the same, of numbers that are 2 at least -/
def best2 (g : Nat → Nat) : Nat → Nat × Nat
  | 0 => (0, 0)
  | d + 1 => if 2 ≤ g d ∧ (best2 g d).2 < g d then (d, g d) else best2 g d
theorem best2_is (g : Nat → Nat) : ∀ n, best2 g n = if 2 ≤ (best g n).2 then best g n else (0, 0)
  | 0 => rfl
  | n + 1 => by
    have ih := best2_is g n
    unfold best2 best
    rw [ih]
    by_cases h2 : 2 ≤ (best g n).2
    · rw [if_pos h2]
      by_cases hl : (best g n).2 < g n
      · rw [if_pos ⟨by omega, hl⟩, if_pos hl, if_pos (by show 2 ≤ g n; omega)]
      · rw [if_neg (fun h => hl h.2), if_neg hl, if_pos h2]
    · rw [if_neg h2]
      by_cases hl : (best g n).2 < g n
      · rw [if_pos hl]
        by_cases hg : 2 ≤ g n
        · rw [if_pos ⟨hg, by show 0 < g n; omega⟩, if_pos (by show 2 ≤ g n; exact hg)]
        · rw [if_neg (fun h => hg h.1), if_neg (by show ¬ 2 ≤ g n; exact hg)]
      · rw [if_neg hl, if_neg h2, if_neg (fun h => by have : 0 < g n := h.2; omega)]

/-- where it stands: the place, and the elder distances -/
structure Ps where
  i : Nat
  r0 : Nat
  r1 : Nat
  r2 : Nat
  r3 : Nat
def Ps.rep (s : Ps) : Nat → Nat
  | 0 => s.r0
  | 1 => s.r1
  | 2 => s.r2
  | _ => s.r3
def Ps.raise (s : Ps) (n : Nat) : Nat → Ps
  | 0 => { s with i := s.i + n }
  | 1 => ⟨s.i + n, s.r1, s.r0, s.r2, s.r3⟩
  | 2 => ⟨s.i + n, s.r2, s.r0, s.r1, s.r3⟩
  | _ => ⟨s.i + n, s.r3, s.r0, s.r1, s.r2⟩
def Ps.push (s : Ps) (n d : Nat) : Ps := ⟨s.i + n, d, s.r0, s.r1, s.r2⟩
def Ps.on (s : Ps) : Ps := { s with i := s.i + 1 }
structure Ps.Lit (s : Ps) : Prop where
  r0 : s.r0 < 4294967296
  r1 : s.r1 < 4294967296
  r2 : s.r2 < 4294967296
  r3 : s.r3 < 4294967296
theorem Ps.Lit.rep {s : Ps} (h : s.Lit) (k : Nat) : s.rep k < 4294967296 := by
  match k with
  | 0 => exact h.r0
  | 1 => exact h.r1
  | 2 => exact h.r2
  | n + 3 => exact h.r3
theorem Ps.Lit.raise {s : Ps} (h : s.Lit) (n k : Nat) : (s.raise n k).Lit := by
  match k with
  | 0 => exact ⟨h.r0, h.r1, h.r2, h.r3⟩
  | 1 => exact ⟨h.r1, h.r0, h.r2, h.r3⟩
  | 2 => exact ⟨h.r2, h.r0, h.r1, h.r3⟩
  | n + 3 => exact ⟨h.r3, h.r0, h.r1, h.r2⟩
theorem Ps.raise_i (s : Ps) (n k : Nat) : (s.raise n k).i = s.i + n := by
  match k with
  | 0 => rfl
  | 1 => rfl
  | 2 => rfl
  | n + 3 => rfl

/-- which packet, by the elder distances' longest copy, the least distance of the longest copy, its length, the copy at the first elder distance, and the byte -/
def stepG (r : Nat × Nat) (d m c : Nat) (y : UInt8) (s : Ps) : Pq × Ps :=
  if 2 ≤ r.2 ∧ m ≤ r.2 + 1 then (⟨2 + (r.1 : Int), 0, (r.2 : Int), 0⟩, s.raise r.2 r.1)
  else if 3 ≤ m ∨ (m = 2 ∧ d < 128) then (⟨1, 0, (m : Int), (d : Int)⟩, s.push m d)
  else if 0 < c then (⟨6, 0, 0, 0⟩, s.on)
  else (⟨0, (y.toNat : Int), 0, 0⟩, s.on)
/-- the same in the program's order: its own two -/
def stepH (a m : Nat × Nat) (c : Nat) (y : UInt8) (s : Ps) : Pq × Ps :=
  if 2 < m.2 ∨ (m.2 = 2 ∧ m.1 < 128) then (⟨1, 0, (m.2 : Int), (m.1 : Int)⟩, s.push m.2 m.1)
  else if 0 < a.2 then (⟨2 + (a.1 : Int), 0, (a.2 : Int), 0⟩, s.raise a.2 a.1)
  else if 0 < c then (⟨6, 0, 0, 0⟩, s.on)
  else (⟨0, (y.toNat : Int), 0, 0⟩, s.on)
section
variable (b : List UInt8) (dict e : Nat)
def eldP (s : Ps) : Nat × Nat := best (fun h => cpN b dict e s.i (s.rep h)) 4
def lonP (s : Ps) : Nat × Nat := best (fun d => cpN b dict e s.i d) (min s.i dict)
def lonM (s : Ps) : Nat := if (lonP b dict e s).2 < 2 then 0 else (lonP b dict e s).2
/-- the packet at a place, and where it stands behind it -/
def stepF (s : Ps) : Pq × Ps := stepG (eldP b dict e s) (lonP b dict e s).1 (lonM b dict e s) (cpN b dict e s.i s.r0) (b.getD s.i 0) s
/-- so many packets, as long as the end isn't come to -/
def goF (s : Ps) : Nat → List Pq × Ps
  | 0 => ([], s)
  | n + 1 => if (goF s n).2.i < e then ((goF s n).1 ++ [(stepF b dict e (goF s n).2).1], (stepF b dict e (goF s n).2).2) else goF s n
def findF (s : Ps) : List Pq × Ps := goF b dict e s e
end

section
variable {b : List UInt8} {dict e : Nat} {s : Ps}
theorem eld_lt : (eldP b dict e s).1 < 4 := by
  by_cases h : 0 < (eldP b dict e s).2
  · exact (best_is _ _ h).1
  · have : eldP b dict e s = (0, 0) := best_zero _ _ (by unfold eldP at h; omega)
    rw [this]
    decide
theorem eld_le : (eldP b dict e s).2 ≤ min 273 (e - s.i) := by
  by_cases h : 0 < (eldP b dict e s).2
  · have := (best_is _ _ h).2.1
    unfold eldP at *
    rw [← this]
    exact cpN_le _ _ _ _ _
  · omega
theorem lon_le : (lonP b dict e s).2 ≤ min 273 (e - s.i) := by
  by_cases h : 0 < (lonP b dict e s).2
  · have := (best_is _ _ h).2.1
    unfold lonP at *
    rw [← this]
    exact cpN_le _ _ _ _ _
  · omega
theorem lonM_le : lonM b dict e s ≤ min 273 (e - s.i) := by
  unfold lonM
  have := lon_le (b := b) (dict := dict) (e := e) (s := s)
  split <;> omega
theorem lon_lt (h : 0 < (lonP b dict e s).2) : (lonP b dict e s).1 < min s.i dict := (best_is _ _ h).1
theorem lonM_pos (h : 0 < lonM b dict e s) : 2 ≤ lonM b dict e s ∧ lonM b dict e s = (lonP b dict e s).2 := by
  unfold lonM at *
  split at h
  · omega
  · rename_i hl
    rw [if_neg hl]
    exact ⟨by omega, rfl⟩
theorem step_i (h : s.i < e) : s.i < (stepF b dict e s).2.i ∧ (stepF b dict e s).2.i ≤ e := by
  have h1 := eld_le (b := b) (dict := dict) (e := e) (s := s)
  have h2 := lonM_le (b := b) (dict := dict) (e := e) (s := s)
  unfold stepF stepG
  split
  · rename_i ha
    have := ha.1
    rw [Ps.raise_i]
    omega
  · split
    · rename_i hm
      have : 2 ≤ lonM b dict e s := by rcases hm with hm | hm <;> omega
      show s.i < s.i + lonM b dict e s ∧ s.i + lonM b dict e s ≤ e
      omega
    · split
      · show s.i < s.i + 1 ∧ s.i + 1 ≤ e; omega
      · show s.i < s.i + 1 ∧ s.i + 1 ≤ e; omega
theorem step_lit (h : s.Lit) (he : e ≤ 4000000000) : (stepF b dict e s).2.Lit := by
  have h2 := lonM_le (b := b) (dict := dict) (e := e) (s := s)
  unfold stepF stepG
  split
  · exact h.raise _ _
  · split
    · rename_i hm
      have hp : 0 < lonM b dict e s := by rcases hm with hm | hm <;> omega
      obtain ⟨_, h4⟩ := lonM_pos hp
      have := lon_lt (b := b) (dict := dict) (e := e) (s := s) (by omega)
      exact ⟨by show (lonP b dict e s).1 < _; omega, h.r0, h.r1, h.r2⟩
    · split <;> exact ⟨h.r0, h.r1, h.r2, h.r3⟩
theorem go_succ {n : Nat} (h : (goF b dict e s n).2.i < e) : goF b dict e s (n + 1) = ((goF b dict e s n).1 ++ [(stepF b dict e (goF b dict e s n).2).1], (stepF b dict e (goF b dict e s n).2).2) := if_pos h
theorem go_same {n : Nat} (h : ¬ (goF b dict e s n).2.i < e) : goF b dict e s (n + 1) = goF b dict e s n := if_neg h
theorem go_more : ∀ n, (goF b dict e s n).2.i < e → s.i + n ≤ (goF b dict e s n).2.i
  | 0, _ => Nat.le_refl _
  | n + 1, h => by
    by_cases hl : (goF b dict e s n).2.i < e
    · rw [go_succ hl] at h ⊢
      have h1 := go_more n hl
      have h2 := (step_i (b := b) (dict := dict) hl).1
      show s.i + (n + 1) ≤ (stepF b dict e (goF b dict e s n).2).2.i
      omega
    · rw [go_same hl] at h
      exact absurd h hl
theorem go_stop {n : Nat} (h : e ≤ (goF b dict e s n).2.i) : ∀ m, goF b dict e s (n + m) = goF b dict e s n
  | 0 => rfl
  | m + 1 => by
    show goF b dict e s (n + m + 1) = _
    rw [go_same (by rw [go_stop h m]; omega), go_stop h m]
theorem find_is {n : Nat} (h : e ≤ (goF b dict e s n).2.i) : findF b dict e s = goF b dict e s n := by
  unfold findF
  have h2 : e ≤ (goF b dict e s e).2.i := by
    by_cases hl : (goF b dict e s e).2.i < e
    · have := go_more e hl
      omega
    · omega
  by_cases hn : n ≤ e
  · have := go_stop h (e - n)
    rwa [show n + (e - n) = e by omega] at this
  · have := go_stop h2 (n - e)
    rw [show e + (n - e) = n by omega] at this
    exact this.symm
theorem go_end (h : s.i ≤ e) : ∀ n, (goF b dict e s n).2.i ≤ e
  | 0 => h
  | n + 1 => by
    by_cases hl : (goF b dict e s n).2.i < e
    · rw [go_succ hl]
      exact (step_i hl).2
    · rw [go_same hl]
      exact go_end h n
theorem go_lit (h : s.Lit) (he : e ≤ 4000000000) : ∀ n, (goF b dict e s n).2.Lit
  | 0 => h
  | n + 1 => by
    by_cases hl : (goF b dict e s n).2.i < e
    · rw [go_succ hl]
      exact step_lit (go_lit h he n) he
    · rw [go_same hl]
      exact go_lit h he n
theorem go_len : ∀ n, (goF b dict e s n).1.length ≤ n
  | 0 => Nat.le_refl _
  | n + 1 => by
    have := go_len n
    by_cases hl : (goF b dict e s n).2.i < e
    · rw [go_succ hl, List.length_append]
      show _ + 1 ≤ _
      omega
    · rw [go_same hl]
      omega
end

/-! ### the program's way -/
section
variable {b : List UInt8} {dict e : Nat} {s : Ps}
/-- the longest copy that is worth more -/
def worth (b : List UInt8) (dict e : Nat) (s : Ps) (least : Nat) : Nat × Nat := if least ≤ (lonP b dict e s).2 then lonP b dict e s else (0, 0)
/-- the elder distances' one, if it is one of a packet -/
def eld2 (b : List UInt8) (dict e : Nat) (s : Ps) : Nat × Nat := best2 (fun h => cpN b dict e s.i (s.rep h)) 4
theorem eld2_is : eld2 b dict e s = if 2 ≤ (eldP b dict e s).2 then eldP b dict e s else (0, 0) := best2_is _ _
theorem step_prog : stepF b dict e s = stepH (eld2 b dict e s) (worth b dict e s ((eld2 b dict e s).2 + 2)) (cpN b dict e s.i s.r0) (b.getD s.i 0) s := by
  rw [eld2_is]
  unfold stepF
  by_cases h2 : 2 ≤ (eldP b dict e s).2
  · rw [if_pos h2]
    by_cases hm : (eldP b dict e s).2 + 2 ≤ (lonP b dict e s).2
    · have e1 : worth b dict e s ((eldP b dict e s).2 + 2) = lonP b dict e s := if_pos hm
      have e2 : lonM b dict e s = (lonP b dict e s).2 := if_neg (by omega)
      rw [e1, e2]
      unfold stepG stepH
      rw [if_neg (by omega), if_pos (.inl (by omega)), if_pos (.inl (by omega))]
    · have e1 : worth b dict e s ((eldP b dict e s).2 + 2) = (0, 0) := if_neg hm
      have e2 : lonM b dict e s ≤ (eldP b dict e s).2 + 1 := by unfold lonM; split <;> omega
      rw [e1]
      unfold stepG stepH
      rw [if_pos ⟨h2, e2⟩, if_neg (by simp), if_pos (by omega)]
  · rw [if_neg h2]
    by_cases hm : 2 ≤ (lonP b dict e s).2
    · have e1 : worth b dict e s (((0, 0) : Nat × Nat).2 + 2) = lonP b dict e s := if_pos hm
      have e2 : lonM b dict e s = (lonP b dict e s).2 := if_neg (by omega)
      rw [e1, e2]
      unfold stepG stepH
      rw [if_neg (fun h => h2 h.1)]
      by_cases hc : 3 ≤ (lonP b dict e s).2 ∨ ((lonP b dict e s).2 = 2 ∧ (lonP b dict e s).1 < 128)
      · rw [if_pos hc, if_pos (hc.imp (fun h => by omega) id)]
      · rw [if_neg hc, if_neg (show ¬ (2 < (lonP b dict e s).2 ∨ ((lonP b dict e s).2 = 2 ∧ (lonP b dict e s).1 < 128)) from fun h => hc (h.imp (fun h => by omega) id)), if_neg (show ¬ 0 < ((0, 0) : Nat × Nat).2 from Nat.lt_irrefl 0)]
    · have e1 : worth b dict e s (((0, 0) : Nat × Nat).2 + 2) = (0, 0) := if_neg hm
      have e2 : lonM b dict e s = 0 := if_pos (by omega)
      rw [e1, e2]
      unfold stepG stepH
      rw [if_neg (fun h => h2 h.1), if_neg (show ¬ (3 ≤ 0 ∨ (0 = 2 ∧ (lonP b dict e s).1 < 128)) by omega), if_neg (show ¬ (2 < ((0, 0) : Nat × Nat).2 ∨ (((0, 0) : Nat × Nat).2 = 2 ∧ ((0, 0) : Nat × Nat).1 < 128)) by simp), if_neg (show ¬ 0 < ((0, 0) : Nat × Nat).2 from Nat.lt_irrefl 0)]
end

/-! ### bytes that are a part of others -/
section
variable {b c : List UInt8} {dict p t : Nat}
theorem cpN_part (hp : ∀ j, j < t → c.getD j 0 = b.getD (p + j) 0) {i d : Nat} (hi : i ≤ t) (hd : p = 0 ∨ dict ≤ i) : cpN c dict t i d = cpN b dict (p + t) (p + i) d := by
  unfold cpN
  rw [show p + t - (p + i) = t - i by omega]
  by_cases h : d < i ∧ d < dict
  · rw [if_pos h, if_pos ⟨by omega, h.2⟩]
    exact eqN_part hp _ _ (by omega) (by omega)
  · rw [if_neg h, if_neg (fun h' => h ⟨by omega, h'.2⟩)]
def Ps.far (s : Ps) (p : Nat) : Ps := { s with i := p + s.i }
theorem far_rep (s : Ps) (p k : Nat) : (s.far p).rep k = s.rep k := by
  match k with
  | 0 => rfl
  | 1 => rfl
  | 2 => rfl
  | n + 3 => rfl
theorem far_raise (s : Ps) (p n k : Nat) : (s.far p).raise n k = (s.raise n k).far p := by
  have e : p + s.i + n = p + (s.i + n) := by omega
  match k with
  | 0 => show Ps.mk (p + s.i + n) _ _ _ _ = _; rw [e]; rfl
  | 1 => show Ps.mk (p + s.i + n) _ _ _ _ = _; rw [e]; rfl
  | 2 => show Ps.mk (p + s.i + n) _ _ _ _ = _; rw [e]; rfl
  | m + 3 => show Ps.mk (p + s.i + n) _ _ _ _ = _; rw [e]; rfl
theorem step_part (hp : ∀ j, j < t → c.getD j 0 = b.getD (p + j) 0) {s : Ps} (hi : s.i < t) (hd : p = 0 ∨ dict ≤ s.i) : stepF b dict (p + t) (s.far p) = ((stepF c dict t s).1, (stepF c dict t s).2.far p) := by
  have k1 : eldP b dict (p + t) (s.far p) = eldP c dict t s := best_congr fun h _ => by
    rw [far_rep]
    exact (cpN_part hp (by omega) hd).symm
  have e0 : min (p + s.i) dict = min s.i dict := by omega
  have k2 : lonP b dict (p + t) (s.far p) = lonP c dict t s := by
    unfold lonP
    show best _ (min (p + s.i) dict) = _
    rw [e0]
    exact best_congr fun d _ => (cpN_part hp (by omega) hd).symm
  have k3 : lonM b dict (p + t) (s.far p) = lonM c dict t s := by unfold lonM; rw [k2]
  have k4 : cpN b dict (p + t) (s.far p).i (s.far p).r0 = cpN c dict t s.i s.r0 := (cpN_part hp (by omega) hd).symm
  have k5 : b.getD (s.far p).i 0 = c.getD s.i 0 := (hp _ hi).symm
  have e1 : ∀ n, p + s.i + n = p + (s.i + n) := fun n => by omega
  unfold stepF
  rw [k1, k2, k3, k4, k5]
  unfold stepG
  rw [far_raise]
  split
  · rfl
  · split
    · show (_, Ps.mk (p + s.i + _) _ _ _ _) = _
      rw [e1]
      rfl
    · split
      · show (_, Ps.mk (p + s.i + 1) _ _ _ _) = _
        rw [e1]
        rfl
      · show (_, Ps.mk (p + s.i + 1) _ _ _ _) = _
        rw [e1]
        rfl
theorem go_part (hp : ∀ j, j < t → c.getD j 0 = b.getD (p + j) 0) {s : Ps} (hd : p = 0 ∨ dict ≤ s.i) : ∀ n, goF b dict (p + t) (s.far p) n = ((goF c dict t s n).1, (goF c dict t s n).2.far p) ∧ s.i ≤ (goF c dict t s n).2.i
  | 0 => ⟨rfl, Nat.le_refl _⟩
  | n + 1 => by
    obtain ⟨h1, h2⟩ := go_part hp hd n
    by_cases hl : (goF c dict t s n).2.i < t
    · rw [go_succ hl, go_succ (by rw [h1]; show p + _ < p + t; omega), h1]
      have := (step_i (b := c) (dict := dict) hl).1
      refine ⟨?_, by show s.i ≤ (stepF c dict t _).2.i; omega⟩
      show ((goF c dict t s n).1 ++ [(stepF b dict (p + t) ((goF c dict t s n).2.far p)).1], (stepF b dict (p + t) ((goF c dict t s n).2.far p)).2) = _
      rw [step_part hp hl (hd.imp id (fun h => by omega))]
    · rw [go_same hl, go_same (by rw [h1]; show ¬ p + _ < p + t; omega)]
      exact ⟨h1, h2⟩
theorem find_part (hp : ∀ j, j < t → c.getD j 0 = b.getD (p + j) 0) {s : Ps} (hi : s.i ≤ t) (hd : p = 0 ∨ dict ≤ s.i) : findF b dict (p + t) (s.far p) = ((findF c dict t s).1, (findF c dict t s).2.far p) := by
  obtain ⟨h1, h2⟩ := go_part hp hd t
  have h3 : t ≤ (goF c dict t s t).2.i := by
    by_cases hl : (goF c dict t s t).2.i < t
    · have := go_more t hl
      omega
    · omega
  rw [find_is (n := t) (by rw [h1]; show p + t ≤ p + _; omega), h1]
  rfl
end
end Go.Proofs.Ytjganponepafpaa

/-
  Bytes of which none comes twice, as numbers.
-/
namespace Go.Proofs.Ytjganponepafpaa
theorem best_none {g : Nat → Nat} {n : Nat} (h : ∀ d, d < n → g d = 0) : best g n = (0, 0) := by
  refine best_zero g n ?_
  by_cases h0 : 0 < (best g n).2
  · obtain ⟨h1, h2, _⟩ := best_is g n h0
    rw [h _ h1] at h2
    omega
  · omega
/-- none comes twice -/
def Apart (bs : List UInt8) (n : Nat) : Prop := ∀ i k, i < k → k < n → bs.getD i 0 ≠ bs.getD k 0
def litA (bs : List UInt8) (i : Nat) : Pq := ⟨0, ((bs.getD i 0).toNat : Int), 0, 0⟩
section
variable {bs : List UInt8} {D n i : Nat}
theorem cp_apart (h : Apart bs n) (hi : i < n) (d : Nat) : cpN bs D n i d = 0 := by
  unfold cpN
  split
  · rename_i hd
    obtain ⟨f, hf⟩ : ∃ f, min 273 (n - i) = f + 1 := ⟨min 273 (n - i) - 1, by omega⟩
    rw [hf]
    unfold eqN
    rw [if_neg (fun e => h (i - (d + 1)) i (by omega) hi e.symm)]
  · rfl
theorem step_apart (h : Apart bs n) (hi : i < n) : stepF bs D n ⟨i, 0, 0, 0, 0⟩ = (litA bs i, ⟨i + 1, 0, 0, 0, 0⟩) := by
  have e1 : eldP bs D n ⟨i, 0, 0, 0, 0⟩ = (0, 0) := best_none fun d _ => cp_apart h hi _
  have e2 : lonP bs D n ⟨i, 0, 0, 0, 0⟩ = (0, 0) := best_none fun d _ => cp_apart h hi _
  have e3 : lonM bs D n ⟨i, 0, 0, 0, 0⟩ = 0 := by unfold lonM; rw [e2]; rfl
  have e4 : cpN bs D n i 0 = 0 := cp_apart h hi 0
  unfold stepF
  rw [e1, e2, e3]
  show stepG (0, 0) 0 0 (cpN bs D n i 0) _ _ = _
  rw [e4]
  rfl
theorem go_apart (h : Apart bs n) : ∀ j, j ≤ n → goF bs D n ⟨0, 0, 0, 0, 0⟩ j = ((List.range j).map (litA bs), ⟨j, 0, 0, 0, 0⟩)
  | 0, _ => rfl
  | j + 1, hj => by
    have ih := go_apart h j (by omega)
    rw [go_succ (by rw [ih]; show j < n; omega), ih]
    show ((List.range j).map (litA bs) ++ [(stepF bs D n ⟨j, 0, 0, 0, 0⟩).1], (stepF bs D n ⟨j, 0, 0, 0, 0⟩).2) = _
    rw [step_apart h (by omega), List.range_succ, List.map_append]
    rfl
end
/-- different numbers below N are N at most -/
theorem nodup_le : ∀ (N : Nat) (l : List Nat), l.Nodup → (∀ x ∈ l, x < N) → l.length ≤ N
  | 0, l, _, h => by
    cases l with
    | nil => exact Nat.le_refl _
    | cons a t => exact absurd (h a (by simp)) (Nat.not_lt_zero a)
  | N + 1, l, hd, h => by
    by_cases hm : N ∈ l
    · have h1 := nodup_le N (l.erase N) (hd.erase N) (fun x hx => by
        have h2 := (hd.mem_erase_iff).1 hx
        have h3 := h x h2.2
        have := h2.1
        omega)
      have := List.length_erase_of_mem hm
      omega
    · have := nodup_le N l hd (fun x hx => by
        have := h x hx
        have : x ≠ N := fun e => hm (e ▸ hx)
        omega)
      omega
end Go.Proofs.Ytjganponepafpaa

/-
  Bytes that are one piece again and again, as numbers: how many packets there are.
-/
namespace Go.Proofs.Ytjganponepafpaa
/-- each byte is the one p ahead of it -/
def Per (bs : List UInt8) (p n : Nat) : Prop := ∀ i, p ≤ i → i < n → bs.getD i 0 = bs.getD (i - p) 0
section
variable {bs : List UInt8} {D n p : Nat} {s : Ps}
theorem cp_per (h : Per bs p n) (hp : 1 ≤ p) (hi : p ≤ s.i) (hn : s.i ≤ n) (hD : n < D) : cpN bs D n s.i (p - 1) = min 273 (n - s.i) := by
  unfold cpN
  rw [if_pos ⟨by omega, by omega⟩, show p - 1 + 1 = p by omega]
  exact eqN_is (Nat.le_refl _) (fun k hk => h (s.i + k) (by omega) (by omega)) (fun hl => absurd hl (Nat.lt_irrefl _))
theorem lon_per (h : Per bs p n) (hp : 1 ≤ p) (hi : p ≤ s.i) (hn : s.i < n) (hD : n < D) : (lonP bs D n s).2 = min 273 (n - s.i) ∧ (lonP bs D n s).1 < p := by
  have h1 := lon_le (b := bs) (dict := D) (e := n) (s := s)
  have h2 := best_ge (fun d => cpN bs D n s.i d) (min s.i D) (p - 1) (by omega)
  have h3 := cp_per (s := s) h hp hi (by omega) hD
  have h2 : cpN bs D n s.i (p - 1) ≤ (lonP bs D n s).2 := h2
  rw [h3] at h2
  refine ⟨by omega, ?_⟩
  by_cases hl : (lonP bs D n s).1 < p
  · exact hl
  · obtain ⟨_, _, h5⟩ := best_is (fun d => cpN bs D n s.i d) (min s.i D) (by show 0 < (lonP bs D n s).2; omega)
    have h6 : cpN bs D n s.i (p - 1) < (lonP bs D n s).2 := h5 (p - 1) (by show p - 1 < (lonP bs D n s).1; omega)
    omega
/-- an elder copy that is as long as the piece goes to the end -/
theorem eld_per (h : Per bs p n) {d : Nat} (hi : p ≤ s.i) (hp : 1 ≤ p) (hr : p ≤ cpN bs D n s.i d) : cpN bs D n s.i d = min 273 (n - s.i) := by
  have hle := cpN_le bs D n s.i d
  unfold cpN at hr hle ⊢
  split at hr
  · rename_i hd
    rw [if_pos hd] at hle ⊢
    obtain ⟨f, hf⟩ : ∃ f, f = min 273 (n - s.i) := ⟨_, rfl⟩
    rw [← hf] at hr hle ⊢
    have key : ∀ k, k < f → bs.getD (s.i + k) 0 = bs.getD (s.i + k - (d + 1)) 0 := by
      intro k
      induction k using Nat.strongRecOn with
      | ind k ih =>
        intro hk
        by_cases hkr : k < eqN bs (d + 1) f s.i
        · exact eqN_same bs (d + 1) f s.i k hkr
        · have e1 := h (s.i + k) (by omega) (by omega)
          have e2 := h (s.i + k - (d + 1)) (by omega) (by omega)
          have e3 := ih (k - p) (by omega) (by omega)
          rw [e1, e2, show s.i + k - p = s.i + (k - p) by omega, e3]
          exact congrArg (fun z => bs.getD z 0) (by omega)
    have := eqN_ge (b := bs) (o := d + 1) (f := f) (i := s.i) (n := f) (Nat.le_refl _) key
    omega
  · omega
theorem step_per (h : Per bs p n) (hp : 1 ≤ p) (hp2 : p ≤ 100) (hi : p ≤ s.i) (hn : s.i < n) (hD : n < D) :
    (273 ≤ n - s.i → (stepF bs D n s).2.i = s.i + 273) ∧ n ≤ (stepF bs D n s).2.i + 1 ∨ (273 ≤ n - s.i ∧ (stepF bs D n s).2.i = s.i + 273) := by
  obtain ⟨l1, l2⟩ := lon_per (s := s) h hp hi hn hD
  have hst := step_i (b := bs) (dict := D) hn
  have hel := eld_le (b := bs) (dict := D) (e := n) (s := s)
  have hr : p ≤ (eldP bs D n s).2 → (eldP bs D n s).2 = min 273 (n - s.i) := fun h0 => by
    obtain ⟨_, h2, _⟩ := best_is (fun k => cpN bs D n s.i (s.rep k)) 4 (by show 0 < (eldP bs D n s).2; omega)
    have h2 : cpN bs D n s.i (s.rep (eldP bs D n s).1) = (eldP bs D n s).2 := h2
    rw [← h2] at h0 ⊢
    exact eld_per h hi hp h0
  have hM : lonM bs D n s = if min 273 (n - s.i) < 2 then 0 else min 273 (n - s.i) := by unfold lonM; rw [l1]
  generalize hgr : eldP bs D n s = r at *
  unfold stepF at hst ⊢
  rw [hgr] at hst ⊢
  unfold stepG at hst ⊢
  by_cases hR : 273 ≤ n - s.i
  · right
    refine ⟨hR, ?_⟩
    have hM3 : lonM bs D n s = 273 := by rw [hM, if_neg (by omega)]; omega
    rw [hM3]
    by_cases ha : 2 ≤ r.2 ∧ 273 ≤ r.2 + 1
    · rw [if_pos ha, Ps.raise_i]
      have := hr (by omega)
      omega
    · rw [if_neg ha, if_pos (.inl (by omega))]
      rfl
  · left
    refine ⟨fun h0 => absurd h0 hR, ?_⟩
    by_cases h1 : n - s.i = 1
    · omega
    · have hM3 : lonM bs D n s = n - s.i := by rw [hM, if_neg (by omega)]; omega
      rw [hM3] at hst ⊢
      by_cases ha : 2 ≤ r.2 ∧ n - s.i ≤ r.2 + 1
      · rw [if_pos ha, Ps.raise_i]
        omega
      · rw [if_neg ha, if_pos (by omega)]
        show n ≤ s.i + (n - s.i) + 1
        omega
/-- how many packets, by the place -/
def Sh (p n j i : Nat) : Prop :=
  (i < p ∧ j ≤ i) ∨ (p ≤ i ∧ 273 * j + p ≤ 273 * p + i) ∨ (p ≤ i ∧ n ≤ i + 1 ∧ 273 * j + p ≤ 273 * p + i + 273) ∨ (p ≤ i ∧ n ≤ i ∧ 273 * j + p ≤ 273 * p + i + 546)
theorem go_sh (h : Per bs p n) (hp : 1 ≤ p) (hp2 : p ≤ 100) (hD : n < D) (hs : s.i = 0) : ∀ j, Sh p n (goF bs D n s j).1.length (goF bs D n s j).2.i
  | 0 => by
    show Sh p n 0 s.i
    rw [hs]
    exact .inl ⟨by omega, Nat.le_refl _⟩
  | j + 1 => by
    have ih := go_sh h hp hp2 hD hs j
    by_cases hl : (goF bs D n s j).2.i < n
    · rw [go_succ hl]
      generalize goF bs D n s j = X at *
      obtain ⟨L, t⟩ := X
      have hl : t.i < n := hl
      have ih : Sh p n L.length t.i := ih
      show Sh p n (L ++ [_]).length (stepF bs D n t).2.i
      rw [List.length_append]
      show Sh p n (L.length + 1) (stepF bs D n t).2.i
      have hst := step_i (b := bs) (dict := D) hl
      generalize L.length = m at *
      by_cases hpi : p ≤ t.i
      · have hsp := step_per h hp hp2 hpi hl hD
        generalize (stepF bs D n t).2.i = i' at *
        unfold Sh at ih ⊢
        omega
      · generalize (stepF bs D n t).2.i = i' at *
        unfold Sh at ih ⊢
        omega
    · rw [go_same hl]
      exact ih
end
/-- a piece again and again -/
def again (piece : List UInt8) (j : Nat) : List UInt8 := (List.replicate j piece).flatten
end Go.Proofs.Ytjganponepafpaa

/-
  One byte again and again: which packets there are.
-/
namespace Go.Proofs.Ytjganponepafpaa

section
variable {x : UInt8} {n D e i : Nat}
theorem rep_per (he : e ≤ n) : Per (List.replicate n x) 1 e := by
  intro i h1 h2
  rw [List.getD_eq_getElem?_getD, List.getD_eq_getElem?_getD, List.getElem?_replicate, List.getElem?_replicate, if_pos (by omega), if_pos (by omega)]
/-- the first byte -/
theorem one_first (hn : 0 < n) : stepF (List.replicate n x) D e ⟨0, 0, 0, 0, 0⟩ = (⟨0, (x.toNat : Int), 0, 0⟩, ⟨1, 0, 0, 0, 0⟩) := by
  have hc : ∀ d, cpN (List.replicate n x) D e 0 d = 0 := fun d => by unfold cpN; rw [if_neg (by omega)]
  have he : eldP (List.replicate n x) D e ⟨0, 0, 0, 0, 0⟩ = (0, 0) := by
    unfold eldP
    have : best (fun h => cpN (List.replicate n x) D e 0 (Ps.rep ⟨0, 0, 0, 0, 0⟩ h)) 4 = best (fun _ => 0) 4 := best_congr (fun d _ => hc _)
    exact this
  have hl : lonP (List.replicate n x) D e ⟨0, 0, 0, 0, 0⟩ = (0, 0) := by
    unfold lonP
    show best _ (min 0 D) = _
    rw [Nat.zero_min]
    rfl
  unfold stepF lonM
  rw [he, hl, hc]
  have hg : (List.replicate n x).getD 0 0 = x := by rw [List.getD_eq_getElem?_getD, List.getElem?_replicate, if_pos hn]; rfl
  show stepG (0, 0) 0 (if 0 < 2 then 0 else 0) 0 ((List.replicate n x).getD 0 0) ⟨0, 0, 0, 0, 0⟩ = _
  rw [hg]
  rfl
/-- the others -/
theorem one_step (hi : 1 ≤ i) (hie : i < e) (he : e ≤ n) (hD : e < D) : stepF (List.replicate n x) D e ⟨i, 0, 0, 0, 0⟩ =
    if e - i = 1 then (⟨6, 0, 0, 0⟩, ⟨i + 1, 0, 0, 0, 0⟩) else (⟨2, 0, (min 273 (e - i) : Nat), 0⟩, ⟨i + min 273 (e - i), 0, 0, 0, 0⟩) := by
  have hper := rep_per (x := x) he
  have hcp := cp_per (D := D) (s := ⟨i, 0, 0, 0, 0⟩) hper (Nat.le_refl 1) hi (Nat.le_of_lt hie) hD
  have hcp : cpN (List.replicate n x) D e i 0 = min 273 (e - i) := hcp
  obtain ⟨hlon, _⟩ := lon_per (D := D) (s := ⟨i, 0, 0, 0, 0⟩) hper (Nat.le_refl 1) hi hie hD
  have hlon : (lonP (List.replicate n x) D e ⟨i, 0, 0, 0, 0⟩).2 = min 273 (e - i) := hlon
  have hrep : ∀ h, Ps.rep ⟨i, 0, 0, 0, 0⟩ h = 0 := fun h => by
    match h with
    | 0 => rfl
    | 1 => rfl
    | 2 => rfl
    | h + 3 => rfl
  obtain ⟨v, hv⟩ : ∃ v, v = min 273 (e - i) := ⟨_, rfl⟩
  rw [← hv] at hcp hlon ⊢
  have hel : eldP (List.replicate n x) D e ⟨i, 0, 0, 0, 0⟩ = (0, v) := by
    unfold eldP
    refine best_uniq (by decide) ?_ (by omega) (fun d _ => ?_) (fun d hd => absurd hd (Nat.not_lt_zero d))
    · show cpN _ D e i (Ps.rep ⟨i, 0, 0, 0, 0⟩ 0) = v
      rw [hrep]
      exact hcp
    · show cpN _ D e i (Ps.rep ⟨i, 0, 0, 0, 0⟩ d) ≤ v
      rw [hrep, hcp]
      exact Nat.le_refl v
  unfold stepF lonM
  rw [hel, hlon]
  show stepG (0, v) _ _ (cpN (List.replicate n x) D e i 0) _ ⟨i, 0, 0, 0, 0⟩ = _
  rw [hcp]
  unfold stepG
  by_cases h1 : e - i = 1
  · have hv1 : v = 1 := by omega
    rw [if_pos h1, hv1]
    rw [if_neg (by simp), if_neg (by simp), if_pos (by decide)]
    rfl
  · have hv2 : 2 ≤ v := by omega
    rw [if_neg h1, if_neg (show ¬ v < 2 by omega), if_pos ⟨hv2, Nat.le_succ v⟩]
    rfl
end
end Go.Proofs.Ytjganponepafpaa
