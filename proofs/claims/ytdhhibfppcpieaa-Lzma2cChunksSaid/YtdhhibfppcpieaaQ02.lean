/-
  RdPure, RcPure, PcPure, RdDec, RdEven, Prow: put together.
-/
import Derived.Test.YtdhhibfppcpieaaQ01
import Derived.Deep.RegionLaw
import Derived.Deep.RegionHeld3
import Derived.StillTailTactics
import Derived.Test.YtdhhibfppcpieaaRows
set_option linter.unusedVariables false
set_option linter.unusedSimpArgs false
/-
  The range decoder as numbers: bad, or its range, its code, and the bytes that it has not asked for.
-/
namespace Go.Proofs.Ytdhhibfppcpieaa

abbrev Dc := Option (Nat × Nat × List UInt8)

/-- evened out -/
def lvl (r c : Nat) (s : List UInt8) : Dc :=
  if r < 16777216 then
    match s with
    | [] => none
    | b :: t => some (r * 256, c * 256 + b.toNat, t)
  else some (r, c, s)

/-- five bytes make a decoder -/
def started : List UInt8 → Dc
  | z :: a :: b :: c :: d :: t =>
    if z.toNat = 0 ∧ ((a.toNat * 256 + b.toNat) * 256 + c.toNat) * 256 + d.toNat < 4294967295 then some (4294967295, ((a.toNat * 256 + b.toNat) * 256 + c.toNat) * 256 + d.toNat, t) else none
  | _ => none

def DcOk (d : Dc) : Prop := ∀ r c s, d = some (r, c, s) → 16777216 ≤ r ∧ r < 4294967296 ∧ c < r
def POk (p : Nat) : Prop := 31 ≤ p ∧ p ≤ 2017
def PsOk (ps : List Nat) : Prop := ∀ p ∈ ps, POk p

def up0 (p : Nat) : Nat := p + (2048 - p) / 32
def up1 (p : Nat) : Nat := p - p / 32
theorem pOk_up0 {p : Nat} (h : POk p) : POk (up0 p) := by unfold POk up0 at *; omega
theorem pOk_up1 {p : Nat} (h : POk p) : POk (up1 p) := by unfold POk up1 at *; omega
theorem pOk_fresh : POk 1024 := by unfold POk; omega

/-- a bit, its probability then, and the decoder -/
def bitD (d : Dc) (p : Nat) : Nat × Nat × Dc :=
  match d with
  | none => (0, p, none)
  | some (r, c, s) =>
    if c < r / 2048 * p then (0, up0 p, lvl (r / 2048 * p) c s)
    else
      match lvl (r - r / 2048 * p) (c - r / 2048 * p) s with
      | none => (0, up1 p, none)
      | some t => (1, up1 p, some t)

theorem bound_in {r p : Nat} (h0 : 16777216 ≤ r) (h1 : r < 4294967296) (hp : POk p) : 253952 ≤ r / 2048 * p ∧ r / 2048 * p + 253952 ≤ r := by
  obtain ⟨p0, p1⟩ := hp
  have a : 8192 ≤ r / 2048 := by omega
  have b : r / 2048 * 2048 ≤ r := by omega
  have c : r / 2048 * 31 ≤ r / 2048 * p := Nat.mul_le_mul_left _ p0
  have d : r / 2048 * p ≤ r / 2048 * 2017 := Nat.mul_le_mul_left _ p1
  omega

/-- a bit told straight: the range is halved -/
def oneD (d : Dc) : Nat × Dc :=
  match d with
  | none => (0, none)
  | some (r, c, s) =>
    if c < r / 2 then (0, lvl (r / 2) c s)
    else if c - r / 2 < r / 2 then (1, lvl (r / 2) (c - r / 2) s) else (0, none)

/-- n bits straight -/
def straightGo (d : Dc) : Nat → Nat × Dc
  | 0 => (0, d)
  | n + 1 => (2 * (straightGo d n).1 + (oneD (straightGo d n).2).1, (oneD (straightGo d n).2).2)
def straightD (n : Nat) (d : Dc) : Nat × Dc := (if (straightGo d n).2 = none then 0 else (straightGo d n).1, (straightGo d n).2)

/-- a tree on its way: the number that its bits make; the bits the other way round, and what the next one weighs; the probabilities; the decoder -/
structure Tr where
  m : Nat
  o : Nat
  v : Nat
  ps : List Nat
  d : Dc

def Tr.bit (t : Tr) (a : Nat) : Nat × Nat × Dc := bitD t.d (t.ps.getD (a + t.m) 0)
def Tr.step (a : Nat) (t : Tr) : Tr := ⟨2 * t.m + (t.bit a).1, t.o + (t.bit a).1 * t.v, 2 * t.v, t.ps.set (a + t.m) (t.bit a).2.1, (t.bit a).2.2⟩
def Tr.go (a : Nat) (t : Tr) : Nat → Tr
  | 0 => t
  | n + 1 => (Tr.go a t n).step a
def Tr.begin (ps : List Nat) (d : Dc) : Tr := ⟨1, 0, 1, ps, d⟩

theorem getD_ok {ps : List Nat} (h : PsOk ps) {i : Nat} (hi : i < ps.length) : POk (ps.getD i 0) := by
  have : ps.getD i 0 = ps[i] := by simp [List.getD, hi]
  rw [this]
  exact h _ (List.getElem_mem hi)
theorem psOk_set {ps : List Nat} (h : PsOk ps) (i : Nat) {p : Nat} (hp : POk p) : PsOk (ps.set i p) := by
  intro q hq
  rcases List.mem_or_eq_of_mem_set hq with h1 | h1
  · exact h q h1
  · rw [h1]; exact hp

/-- what is told of a question, the probabilities, the decoder -/
def askD (ps : List Nat) (d : Dc) (k a n : Nat) : Nat × List Nat × Dc :=
  if k = 0 then ((bitD d (ps.getD a 0)).1, ps.set a (bitD d (ps.getD a 0)).2.1, (bitD d (ps.getD a 0)).2.2)
  else if k = 3 then ((straightD n d).1, ps, (straightD n d).2)
  else (if (Tr.go a (Tr.begin ps d) n).d = none then 0 else if k = 1 then (Tr.go a (Tr.begin ps d) n).m - 2 ^ n else (Tr.go a (Tr.begin ps d) n).o, (Tr.go a (Tr.begin ps d) n).ps, (Tr.go a (Tr.begin ps d) n).d)

/-- a question that may be asked, with 600 probabilities -/
def RightD (k a n : Nat) : Prop := (k = 0 ∧ a < 600) ∨ ((k = 1 ∨ k = 2) ∧ a < 340 ∧ 1 ≤ n ∧ n ≤ 8) ∨ (k = 3 ∧ n ≤ 32)

theorem pow8 {n : Nat} (h : n ≤ 8) : 2 ^ n ≤ 256 := Nat.le_trans (Nat.pow_le_pow_right (by omega) h) (by decide)

/-- with more bytes behind -/
def ext (more : List UInt8) (d : Dc) : Dc := d.map fun x => (x.1, x.2.1, x.2.2 ++ more)

theorem ext_some (more : List UInt8) (r c : Nat) (s : List UInt8) : ext more (some (r, c, s)) = some (r, c, s ++ more) := rfl
theorem lvl_ext {r c : Nat} {s more : List UInt8} (h : lvl r c s ≠ none) : lvl r c (s ++ more) = ext more (lvl r c s) := by
  unfold lvl at *
  split
  · rename_i hr
    rw [if_pos hr] at h
    cases s with
    | nil => exact absurd rfl h
    | cons b t => rfl
  · rfl
theorem bitD_ext {d : Dc} {p : Nat} {more : List UInt8} (h : (bitD d p).2.2 ≠ none) : bitD (ext more d) p = ((bitD d p).1, (bitD d p).2.1, ext more (bitD d p).2.2) := by
  cases d with
  | none => exact absurd rfl h
  | some x =>
    obtain ⟨r, c, s⟩ := x
    rw [ext_some]
    unfold bitD at *
    simp only [] at *
    split
    · rename_i hc
      rw [if_pos hc] at h
      rw [lvl_ext h]
    · rename_i hc
      rw [if_neg hc] at h
      have hn : lvl (r - r / 2048 * p) (c - r / 2048 * p) s ≠ none := by
        intro h0
        rw [h0] at h
        exact h rfl
      rw [lvl_ext hn]
      cases hl : lvl (r - r / 2048 * p) (c - r / 2048 * p) s with
      | none => exact absurd hl hn
      | some t => rfl
theorem oneD_ext {d : Dc} {more : List UInt8} (h : (oneD d).2 ≠ none) : oneD (ext more d) = ((oneD d).1, ext more (oneD d).2) := by
  cases d with
  | none => exact absurd rfl h
  | some x =>
    obtain ⟨r, c, s⟩ := x
    rw [ext_some]
    unfold oneD at *
    simp only [] at *
    split
    · rename_i hc
      rw [if_pos hc] at h
      rw [lvl_ext h]
    · rename_i hc
      rw [if_neg hc] at h
      split
      · rename_i hc2
        rw [if_pos hc2] at h
        rw [lvl_ext h]
      · rename_i hc2
        rw [if_neg hc2] at h
        exact absurd rfl h
theorem straightGo_ext {d : Dc} {more : List UInt8} : ∀ n, (straightGo d n).2 ≠ none → straightGo (ext more d) n = ((straightGo d n).1, ext more (straightGo d n).2)
  | 0, _ => rfl
  | n + 1, h => by
    have h0 : (straightGo d n).2 ≠ none := by
      intro h0
      apply h
      show (oneD (straightGo d n).2).2 = none
      rw [h0]
      rfl
    have ih := straightGo_ext (more := more) n h0
    show (2 * (straightGo (ext more d) n).1 + (oneD (straightGo (ext more d) n).2).1, (oneD (straightGo (ext more d) n).2).2) = _
    rw [ih, oneD_ext h]
    rfl
theorem tr_ext {ps : List Nat} {d : Dc} {a : Nat} {more : List UInt8} : ∀ n, (Tr.go a (Tr.begin ps d) n).d ≠ none →
    Tr.go a (Tr.begin ps (ext more d)) n = { Tr.go a (Tr.begin ps d) n with d := ext more (Tr.go a (Tr.begin ps d) n).d }
  | 0, _ => rfl
  | n + 1, h => by
    have h0 : (Tr.go a (Tr.begin ps d) n).d ≠ none := by
      intro h0
      apply h
      show (bitD (Tr.go a (Tr.begin ps d) n).d _).2.2 = none
      rw [h0]
      rfl
    have ih := tr_ext (more := more) n h0
    show Tr.step a (Tr.go a (Tr.begin ps (ext more d)) n) = _
    rw [ih]
    have hb := bitD_ext (d := (Tr.go a (Tr.begin ps d) n).d) (p := (Tr.go a (Tr.begin ps d) n).ps.getD (a + (Tr.go a (Tr.begin ps d) n).m) 0) (more := more) h
    unfold Tr.step Tr.bit
    simp only []
    rw [hb]
    rfl
/-- of bytes 0, j steps gone: how many bytes were asked for at most, and the least range -/
def ZOk (j : Nat) (d : Dc) : Prop :=
  ∃ r k i, d = some (r, 0, List.replicate (2995 - k) 0) ∧ i ≤ 6 ∧ 7 * k + i ≤ j ∧ 16781312 * 2 ^ (6 - i) ≤ r + 4096 ∧ r < 4294967296
def PZ (p : Nat) : Prop := 1024 ≤ p ∧ p ≤ 2017

theorem ZOk.mono {j j' : Nat} {d : Dc} (h : ZOk j d) (hj : j ≤ j') : ZOk j' d := by
  obtain ⟨r, k, i, h1, h2, h3, h4⟩ := h
  exact ⟨r, k, i, h1, h2, by omega, h4⟩
theorem pow6 (i : Nat) : 1 ≤ 2 ^ (6 - i) := Nat.two_pow_pos _

theorem zlvl {j r k i r' : Nat} (hj : j ≤ 16100) (h2 : i ≤ 6) (h3 : 7 * k + i ≤ j) (h4 : 16781312 * 2 ^ (6 - i) ≤ r + 4096) (h5 : r < 4294967296) (h6 : r ≤ 2 * r' + 2049) (h7 : r' ≤ r) :
    ZOk (j + 1) (lvl r' 0 (List.replicate (2995 - k) 0)) := by
  unfold lvl
  by_cases hi : i < 6
  · have e : 2 ^ (6 - i) = 2 * 2 ^ (6 - (i + 1)) := by
      rw [show 6 - i = (6 - (i + 1)) + 1 by omega, Nat.pow_succ, Nat.mul_comm]
    have := pow6 (i + 1)
    rw [e] at h4
    obtain ⟨y, hy⟩ : ∃ y, y = 2 ^ (6 - (i + 1)) := ⟨_, rfl⟩
    rw [← hy] at h4 this
    rw [if_neg (by omega)]
    exact ⟨r', k, i + 1, rfl, by omega, by omega, by rw [← hy]; omega, by omega⟩
  · have hi6 : i = 6 := by omega
    subst hi6
    have e : 2 ^ (6 - 6) = 1 := rfl
    rw [e] at h4
    by_cases hr : r' < 16777216
    · rw [if_pos hr]
      obtain ⟨z, hz⟩ : ∃ z, 2995 - k = z + 1 := ⟨2995 - k - 1, by omega⟩
      rw [hz, List.replicate_succ]
      refine ⟨r' * 256, k + 1, 0, ?_, by omega, by omega, ?_, by omega⟩
      · rw [show 2995 - (k + 1) = z by omega]
        rfl
      · show 16781312 * 64 ≤ _
        omega
    · rw [if_neg hr]
      exact ⟨r', k, 6, rfl, by omega, by omega, by rw [e]; omega, by omega⟩

theorem zOk_range {j : Nat} {d : Dc} (h : ZOk j d) : ∃ r k i, d = some (r, 0, List.replicate (2995 - k) 0) ∧ i ≤ 6 ∧ 7 * k + i ≤ j ∧ 16781312 * 2 ^ (6 - i) ≤ r + 4096 ∧ r < 4294967296 ∧ 16777216 ≤ r := by
  obtain ⟨r, k, i, h1, h2, h3, h4, h5⟩ := h
  have := pow6 i
  exact ⟨r, k, i, h1, h2, h3, h4, h5, by omega⟩

theorem zbit {j p : Nat} {d : Dc} (h : ZOk j d) (hj : j ≤ 16100) (hp : PZ p) : (bitD d p).1 = 0 ∧ PZ (bitD d p).2.1 ∧ ZOk (j + 1) (bitD d p).2.2 := by
  obtain ⟨r, k, i, rfl, h2, h3, h4, h5, h6⟩ := zOk_range h
  obtain ⟨p0, p1⟩ := hp
  have b0 : r / 2048 * 1024 ≤ r / 2048 * p := Nat.mul_le_mul_left _ p0
  have b1 : r / 2048 * p ≤ r / 2048 * 2017 := Nat.mul_le_mul_left _ p1
  have hpos : 0 < r / 2048 * p := by omega
  unfold bitD
  simp only []
  rw [if_pos hpos]
  exact ⟨rfl, (show PZ (up0 p) by unfold PZ up0; omega), zlvl hj h2 h3 h4 h5 (by omega) (by omega)⟩
theorem zone {j : Nat} {d : Dc} (h : ZOk j d) (hj : j ≤ 16100) : (oneD d).1 = 0 ∧ ZOk (j + 1) (oneD d).2 := by
  obtain ⟨r, k, i, rfl, h2, h3, h4, h5, h6⟩ := zOk_range h
  unfold oneD
  simp only []
  rw [if_pos (by omega)]
  exact ⟨rfl, zlvl hj h2 h3 h4 h5 (by omega) (by omega)⟩
theorem zstraight {j : Nat} {d : Dc} (h : ZOk j d) : ∀ n, j + n ≤ 16100 → (straightGo d n).1 = 0 ∧ ZOk (j + n) (straightGo d n).2
  | 0, _ => ⟨rfl, h⟩
  | n + 1, hn => by
    obtain ⟨h1, h2⟩ := zstraight h n (by omega)
    obtain ⟨h3, h4⟩ := zone h2 (by omega)
    refine ⟨?_, h4⟩
    show 2 * (straightGo d n).1 + (oneD (straightGo d n).2).1 = 0
    rw [h1, h3]
theorem ztree {j a n : Nat} {ps : List Nat} {d : Dc} (h : ZOk j d) (hp : ∀ p ∈ ps, PZ p) (hl : a + 2 ^ n ≤ ps.length) : ∀ i, i ≤ n → j + i ≤ 16100 →
    (Tr.go a (Tr.begin ps d) i).m = 2 ^ i ∧ (Tr.go a (Tr.begin ps d) i).o = 0 ∧ (Tr.go a (Tr.begin ps d) i).ps.length = ps.length ∧ (∀ p ∈ (Tr.go a (Tr.begin ps d) i).ps, PZ p) ∧ ZOk (j + i) (Tr.go a (Tr.begin ps d) i).d
  | 0, _, _ => ⟨rfl, rfl, rfl, hp, h⟩
  | i + 1, hi, hj => by
    obtain ⟨h1, h2, h3, h4, h5⟩ := ztree h hp hl i (by omega) (by omega)
    show (Tr.step a _).m = _ ∧ (Tr.step a _).o = _ ∧ (Tr.step a _).ps.length = _ ∧ (∀ p ∈ (Tr.step a _).ps, PZ p) ∧ ZOk (j + (i + 1)) (Tr.step a _).d
    generalize Tr.go a (Tr.begin ps d) i = t at *
    have hpow : 2 ^ (i + 1) ≤ 2 ^ n := Nat.pow_le_pow_right (by omega) hi
    have e' : 2 ^ (i + 1) = 2 * 2 ^ i := by rw [Nat.pow_succ, Nat.mul_comm]
    have := Nat.two_pow_pos i
    have hlt : a + t.m < t.ps.length := by omega
    have hg : PZ (t.ps.getD (a + t.m) 0) := by
      have : t.ps.getD (a + t.m) 0 = t.ps[a + t.m] := by simp [List.getD, hlt]
      rw [this]
      exact h4 _ (List.getElem_mem hlt)
    obtain ⟨b1, b2, b3⟩ := zbit h5 (by omega) hg
    refine ⟨?_, ?_, by simp [Tr.step, h3], ?_, b3⟩
    · show 2 * t.m + (bitD t.d _).1 = _
      rw [b1]
      omega
    · show t.o + (bitD t.d _).1 * t.v = _
      rw [b1]
      omega
    · intro p hpm
      rcases List.mem_or_eq_of_mem_set hpm with h | h
      · exact h4 p h
      · rw [h]; exact b2

end Go.Proofs.Ytdhhibfppcpieaa

/-
  The range coder as numbers: its bytes as one great number, how many they are, its range; and what the decoder tells of what it coded.
-/
namespace Go.Proofs.Ytdhhibfppcpieaa

structure En where
  n : Nat
  l : Nat
  r : Nat

def En.new : En := ⟨0, 5, 4294967295⟩
/-- evened out -/
def En.even (e : En) : En := if e.r < 16777216 then ⟨e.n * 256, e.l + 1, e.r * 256⟩ else e
def En.bit (e : En) (p b : Nat) : En := if b = 0 then En.even ⟨e.n, e.l, e.r / 2048 * p⟩ else En.even ⟨e.n + e.r / 2048 * p, e.l, e.r - e.r / 2048 * p⟩
def En.one (e : En) (b : Nat) : En := if b = 0 then En.even ⟨e.n, e.l, e.r / 2⟩ else En.even ⟨e.n + e.r / 2, e.l, e.r / 2⟩

/-- its number and its range are within the bytes, a first byte 0 left -/
def EnIn (e : En) : Prop := 5 ≤ e.l ∧ e.n + e.r ≤ 4294967295 * 256 ^ (e.l - 5)
def EnOk (e : En) : Prop := 16777216 ≤ e.r ∧ e.r < 4294967296 ∧ EnIn e
theorem enOk_new : EnOk En.new := ⟨by decide, by decide, by decide, by decide⟩

/-- e' is further on than e -/
def Reach (e e' : En) : Prop := ∃ k, e'.l = e.l + k ∧ e.n * 256 ^ k ≤ e'.n ∧ e'.n + e'.r ≤ (e.n + e.r) * 256 ^ k
theorem Reach.refl (e : En) : Reach e e := ⟨0, rfl, by simp, by simp⟩
theorem Reach.trans {a b c : En} (h : Reach a b) (k : Reach b c) : Reach a c := by
  obtain ⟨x, h1, h2, h3⟩ := h
  obtain ⟨y, k1, k2, k3⟩ := k
  refine ⟨x + y, by omega, ?_, ?_⟩
  · rw [Nat.pow_add, ← Nat.mul_assoc]
    exact Nat.le_trans (Nat.mul_le_mul_right _ h2) k2
  · rw [Nat.pow_add, ← Nat.mul_assoc]
    exact Nat.le_trans k3 (Nat.mul_le_mul_right _ h3)
theorem reach_even (e : En) : Reach e e.even := by
  unfold En.even
  split
  · exact ⟨1, rfl, by simp, by show e.n * 256 + e.r * 256 ≤ _; rw [Nat.pow_one, Nat.add_mul]; omega⟩
  · exact Reach.refl e
theorem enIn_even {e : En} (h : EnIn e) : EnIn e.even := by
  unfold En.even
  split
  · obtain ⟨h1, h2⟩ := h
    refine ⟨by show 5 ≤ e.l + 1; omega, ?_⟩
    show e.n * 256 + e.r * 256 ≤ 4294967295 * 256 ^ (e.l + 1 - 5)
    rw [show e.l + 1 - 5 = (e.l - 5) + 1 by omega, Nat.pow_succ, ← Nat.mul_assoc]
    omega
  · exact h
theorem enOk_even {e : En} (h : EnIn e) (h0 : 65536 ≤ e.r) (h1 : e.r < 4294967296) : EnOk e.even := by
  refine ⟨?_, ?_, enIn_even h⟩
  · unfold En.even
    split
    · show 16777216 ≤ e.r * 256; omega
    · omega
  · unfold En.even
    split
    · show e.r * 256 < 4294967296; omega
    · exact h1

theorem reach_low {e : En} {z : Nat} (hz : z ≤ e.r) : Reach e ⟨e.n, e.l, z⟩ := ⟨0, rfl, by simp, by simp; omega⟩
theorem reach_high {e : En} {z y : Nat} (hz : z + y ≤ e.r) : Reach e ⟨e.n + z, e.l, y⟩ := ⟨0, rfl, by simp, by simp; omega⟩

theorem bit_reach {e : En} {p b : Nat} (h : EnOk e) (hp : POk p) : Reach e (e.bit p b) := by
  obtain ⟨b0, b1⟩ := bound_in h.1 h.2.1 hp
  unfold En.bit
  split
  · exact (reach_low (by omega)).trans (reach_even _)
  · exact (reach_high (by omega)).trans (reach_even _)
theorem bit_ok {e : En} {p b : Nat} (h : EnOk e) (hp : POk p) : EnOk (e.bit p b) := by
  obtain ⟨b0, b1⟩ := bound_in h.1 h.2.1 hp
  obtain ⟨h0, h1, h2, h3⟩ := h
  unfold En.bit
  split
  · exact enOk_even ⟨h2, by show e.n + e.r / 2048 * p ≤ 4294967295 * 256 ^ (e.l - 5); omega⟩ (by show 65536 ≤ e.r / 2048 * p; omega) (by show e.r / 2048 * p < _; omega)
  · exact enOk_even ⟨h2, by show e.n + e.r / 2048 * p + (e.r - e.r / 2048 * p) ≤ 4294967295 * 256 ^ (e.l - 5); omega⟩ (by show 65536 ≤ e.r - e.r / 2048 * p; omega) (by show e.r - e.r / 2048 * p < _; omega)
theorem one_reach {e : En} {b : Nat} : Reach e (e.one b) := by
  unfold En.one
  split
  · exact (reach_low (Nat.div_le_self _ _)).trans (reach_even _)
  · exact (reach_high (by omega)).trans (reach_even _)
theorem one_ok {e : En} {b : Nat} (h : EnOk e) : EnOk (e.one b) := by
  obtain ⟨h0, h1, h2, h3⟩ := h
  unfold En.one
  split
  · exact enOk_even ⟨h2, by show e.n + e.r / 2 ≤ 4294967295 * 256 ^ (e.l - 5); omega⟩ (by show 65536 ≤ e.r / 2; omega) (by show e.r / 2 < _; omega)
  · exact enOk_even ⟨h2, by show e.n + e.r / 2 + e.r / 2 ≤ 4294967295 * 256 ^ (e.l - 5); omega⟩ (by show 65536 ≤ e.r / 2; omega) (by show e.r / 2 < _; omega)

/-- the bytes that a coder gives in the end -/
structure Ends (bs : List UInt8) (f : En) : Prop where
  num : be bs = f.n
  len : bs.length = f.l
  pos : 0 < f.r

/-- the decoder that has come as far as e -/
def decAt (bs more : List UInt8) (e : En) : Dc := some (e.r, be (bs.take e.l) - e.n, bs.drop e.l ++ more)

section
variable {bs more : List UInt8} {f : En}

theorem between {e : En} (hf : Ends bs f) (h : Reach e f) : e.n ≤ be (bs.take e.l) ∧ be (bs.take e.l) < e.n + e.r ∧ e.l ≤ bs.length := by
  obtain ⟨k, h1, h2, h3⟩ := h
  have hl := hf.len
  obtain ⟨t1, t2⟩ := be_take bs e.l
  rw [hf.num, show bs.length - e.l = k by omega] at t1 t2
  have hp := hf.pos
  have hk : 0 < 256 ^ k := Nat.pow_pos (by omega)
  refine ⟨?_, ?_, by omega⟩
  · have : e.n * 256 ^ k < (be (bs.take e.l) + 1) * 256 ^ k := by omega
    have := Nat.lt_of_mul_lt_mul_right this
    omega
  · have : be (bs.take e.l) * 256 ^ k < (e.n + e.r) * 256 ^ k := by omega
    exact Nat.lt_of_mul_lt_mul_right this

theorem even_dec {e : En} (hf : Ends bs f) (h : Reach e.even f) : lvl e.r (be (bs.take e.l) - e.n) (bs.drop e.l ++ more) = decAt bs more e.even := by
  have h0 := between hf ((reach_even e).trans h)
  unfold lvl decAt
  by_cases hr : e.r < 16777216
  · have he : e.even = ⟨e.n * 256, e.l + 1, e.r * 256⟩ := by unfold En.even; rw [if_pos hr]
    obtain ⟨_, _, h3⟩ := between hf h
    rw [he] at h3 ⊢
    have hlt : e.l < bs.length := h3
    rw [if_pos hr, List.drop_eq_getElem_cons hlt]
    show some (e.r * 256, (be (bs.take e.l) - e.n) * 256 + (bs[e.l]).toNat, bs.drop (e.l + 1) ++ more) = some (e.r * 256, be (bs.take (e.l + 1)) - e.n * 256, bs.drop (e.l + 1) ++ more)
    rw [be_take_succ hlt]
    congr 3
    omega
  · have he : e.even = e := by unfold En.even; rw [if_neg hr]
    rw [if_neg hr, he]

def upOf (p b : Nat) : Nat := if b = 0 then up0 p else up1 p
theorem pOk_upOf {p b : Nat} (h : POk p) : POk (upOf p b) := by unfold upOf; split; exact pOk_up0 h; exact pOk_up1 h

theorem bit_dec {e : En} {p b : Nat} (hf : Ends bs f) (he : EnOk e) (hp : POk p) (hb : b ≤ 1) (h : Reach (e.bit p b) f) : bitD (decAt bs more e) p = (b, upOf p b, decAt bs more (e.bit p b)) := by
  obtain ⟨b0, b1⟩ := bound_in he.1 he.2.1 hp
  unfold En.bit at h ⊢
  unfold bitD decAt upOf
  simp only []
  by_cases hb0 : b = 0
  · subst hb0
    rw [if_pos rfl] at h ⊢
    obtain ⟨t1, t2, t3⟩ := between hf ((reach_even _).trans h)
    simp only [] at t1 t2 t3
    rw [if_pos (by omega), if_pos rfl]
    have := even_dec (more := more) hf h
    unfold decAt at this
    simp only [] at this
    rw [this]
  · obtain rfl : b = 1 := by omega
    rw [if_neg hb0] at h ⊢
    obtain ⟨t1, t2, t3⟩ := between hf ((reach_even _).trans h)
    simp only [] at t1 t2 t3
    rw [if_neg (by omega), if_neg hb0]
    have := even_dec (more := more) hf h
    unfold decAt at this
    simp only [] at this
    rw [Nat.sub_sub, this]

theorem one_dec {e : En} {b : Nat} (hf : Ends bs f) (hb : b ≤ 1) (h : Reach (e.one b) f) : oneD (decAt bs more e) = (b, decAt bs more (e.one b)) := by
  unfold En.one at h ⊢
  unfold oneD decAt
  simp only []
  by_cases hb0 : b = 0
  · subst hb0
    rw [if_pos rfl] at h ⊢
    obtain ⟨t1, t2, t3⟩ := between hf ((reach_even _).trans h)
    simp only [] at t1 t2 t3
    rw [if_pos (by omega)]
    have := even_dec (more := more) hf h
    unfold decAt at this
    simp only [] at this
    rw [this]
  · obtain rfl : b = 1 := by omega
    rw [if_neg hb0] at h ⊢
    obtain ⟨t1, t2, t3⟩ := between hf ((reach_even _).trans h)
    simp only [] at t1 t2 t3
    rw [if_neg (by omega), if_pos (by omega)]
    have := even_dec (more := more) hf h
    unfold decAt at this
    simp only [] at this
    rw [Nat.sub_sub, this]

/-! ### numbers told straight -/

/-- bit number i of v, from the least -/
def bitOf (v i : Nat) : Nat := v / 2 ^ i % 2
theorem bitOf_le (v i : Nat) : bitOf v i ≤ 1 := by unfold bitOf; omega
def strE (e : En) (v n : Nat) : Nat → En
  | 0 => e
  | j + 1 => (strE e v n j).one (bitOf v (n - 1 - j))
theorem strE_reach (e : En) (v n : Nat) : ∀ i j, Reach (strE e v n i) (strE e v n (i + j))
  | _, 0 => Reach.refl _
  | i, j + 1 => (strE_reach e v n i j).trans one_reach
theorem strE_ok {e : En} (h : EnOk e) (v n : Nat) : ∀ j, EnOk (strE e v n j)
  | 0 => h
  | j + 1 => one_ok (strE_ok h v n j)
theorem top_bits (v n j : Nat) (hj : j < n) : 2 * (v % 2 ^ n / 2 ^ (n - j)) + bitOf v (n - 1 - j) = v % 2 ^ n / 2 ^ (n - (j + 1)) := by
  obtain ⟨i, hi⟩ : ∃ i, i = n - 1 - j := ⟨_, rfl⟩
  rw [show n - j = i + 1 by omega, show n - (j + 1) = i by omega, ← hi]
  unfold bitOf
  have e1 : v / 2 ^ i % 2 = v % 2 ^ n / 2 ^ i % 2 := by
    have hp : 2 ^ n = 2 ^ i * 2 ^ (n - i) := by rw [← Nat.pow_add]; congr 1; omega
    rw [hp, Nat.mod_mul_right_div_self]
    have h2 : 2 ^ (n - i) = 2 * 2 ^ (n - i - 1) := by rw [Nat.mul_comm, ← Nat.pow_succ]; congr 1; omega
    rw [h2, Nat.mod_mul_right_mod]
  rw [e1, Nat.pow_succ, ← Nat.div_div_eq_div_mul]
  omega
theorem straight_dec {e : En} {v n : Nat} (hf : Ends bs f) (h : Reach (strE e v n n) f) : ∀ j, j ≤ n → straightGo (decAt bs more e) j = (v % 2 ^ n / 2 ^ (n - j), decAt bs more (strE e v n j))
  | 0, _ => by
    show (0, decAt bs more e) = _
    rw [Nat.sub_zero, Nat.div_eq_of_lt (Nat.mod_lt _ (Nat.two_pow_pos n))]
    rfl
  | j + 1, hj => by
    have ih := straight_dec hf h j (by omega)
    have hr : Reach ((strE e v n j).one (bitOf v (n - 1 - j))) f := by
      have := strE_reach e v n (j + 1) (n - (j + 1))
      rw [show j + 1 + (n - (j + 1)) = n by omega] at this
      exact this.trans h
    show (2 * (straightGo (decAt bs more e) j).1 + (oneD (straightGo (decAt bs more e) j).2).1, (oneD (straightGo (decAt bs more e) j).2).2) = _
    rw [ih, one_dec hf (bitOf_le _ _) hr]
    show (2 * (v % 2 ^ n / 2 ^ (n - j)) + bitOf v (n - 1 - j), _) = _
    rw [top_bits v n j hj]
    rfl

/-! ### trees -/

structure Et where
  m : Nat
  ps : List Nat
  e : En
def Et.step (a b : Nat) (t : Et) : Et := ⟨2 * t.m + b, t.ps.set (a + t.m) (upOf (t.ps.getD (a + t.m) 0) b), t.e.bit (t.ps.getD (a + t.m) 0) b⟩
def treE (bits : Nat → Nat) (a : Nat) (ps : List Nat) (e : En) : Nat → Et
  | 0 => ⟨1, ps, e⟩
  | j + 1 => (treE bits a ps e j).step a (bits j)

theorem treE_ok {bits : Nat → Nat} {a n : Nat} {ps : List Nat} {e : En} (hb : ∀ i, bits i ≤ 1) (he : EnOk e) (hp : PsOk ps) (hl : a + 2 ^ n ≤ ps.length) :
    ∀ j, j ≤ n → EnOk (treE bits a ps e j).e ∧ PsOk (treE bits a ps e j).ps ∧ (treE bits a ps e j).ps.length = ps.length ∧ 2 ^ j ≤ (treE bits a ps e j).m ∧ (treE bits a ps e j).m < 2 ^ (j + 1) := by
  intro j
  induction j with
  | zero => intro _; exact ⟨he, hp, rfl, by simp [treE], by simp [treE]⟩
  | succ j ih =>
    intro hj
    obtain ⟨h1, h2, h3, h4, h5⟩ := ih (by omega)
    show EnOk (Et.step a _ _).e ∧ PsOk (Et.step a _ _).ps ∧ (Et.step a _ _).ps.length = _ ∧ _ ≤ (Et.step a _ _).m ∧ (Et.step a _ _).m < _
    generalize treE bits a ps e j = t at *
    have hpow : 2 ^ (j + 1) ≤ 2 ^ n := Nat.pow_le_pow_right (by omega) hj
    have hg := getD_ok h2 (show a + t.m < t.ps.length by omega)
    have hbj := hb j
    have e1 : 2 ^ (j + 1) = 2 * 2 ^ j := by rw [Nat.pow_succ, Nat.mul_comm]
    have e2 : 2 ^ (j + 1 + 1) = 2 * 2 ^ (j + 1) := by rw [Nat.pow_succ, Nat.mul_comm]
    refine ⟨bit_ok h1 hg, psOk_set h2 _ (pOk_upOf hg), by simp [Et.step, h3], ?_, ?_⟩
    · show _ ≤ 2 * t.m + bits j; omega
    · show 2 * t.m + bits j < _; omega
theorem treE_reach {bits : Nat → Nat} {a n : Nat} {ps : List Nat} {e : En} (hb : ∀ i, bits i ≤ 1) (he : EnOk e) (hp : PsOk ps) (hl : a + 2 ^ n ≤ ps.length) (i : Nat) :
    ∀ j, i + j ≤ n → Reach (treE bits a ps e i).e (treE bits a ps e (i + j)).e := by
  intro j
  induction j with
  | zero => intro _; exact Reach.refl _
  | succ j ih =>
    intro hj
    obtain ⟨h1, h2, h3, h4, h5⟩ := treE_ok hb he hp hl (i + j) (by omega)
    have hpow : 2 ^ (i + j + 1) ≤ 2 ^ n := Nat.pow_le_pow_right (by omega) (by omega)
    have hlt : a + (treE bits a ps e (i + j)).m < (treE bits a ps e (i + j)).ps.length := by omega
    exact (ih (by omega)).trans (bit_reach h1 (getD_ok h2 hlt))

theorem tree_dec {bits : Nat → Nat} {a n : Nat} {ps : List Nat} {e : En} (hf : Ends bs f) (hb : ∀ i, bits i ≤ 1) (he : EnOk e) (hp : PsOk ps) (hl : a + 2 ^ n ≤ ps.length) (h : Reach (treE bits a ps e n).e f) :
    ∀ j, j ≤ n → (Tr.go a (Tr.begin ps (decAt bs more e)) j).m = (treE bits a ps e j).m ∧ (Tr.go a (Tr.begin ps (decAt bs more e)) j).ps = (treE bits a ps e j).ps ∧ (Tr.go a (Tr.begin ps (decAt bs more e)) j).d = decAt bs more (treE bits a ps e j).e ∧
      (Tr.go a (Tr.begin ps (decAt bs more e)) j).v = 2 ^ j := by
  intro j
  induction j with
  | zero => intro _; exact ⟨rfl, rfl, rfl, rfl⟩
  | succ j ih =>
    intro hj
    obtain ⟨i1, i2, i3, i4⟩ := ih (by omega)
    obtain ⟨h1, h2, h3, h4, h5⟩ := treE_ok hb he hp hl j (by omega)
    have hpow : 2 ^ (j + 1) ≤ 2 ^ n := Nat.pow_le_pow_right (by omega) hj
    have hr : Reach ((treE bits a ps e j).e.bit ((treE bits a ps e j).ps.getD (a + (treE bits a ps e j).m) 0) (bits j)) f := by
      have := treE_reach hb he hp hl (j + 1) (n - (j + 1)) (by omega)
      rw [show j + 1 + (n - (j + 1)) = n by omega] at this
      exact this.trans h
    have hd := bit_dec (more := more) hf h1 (getD_ok h2 (show a + (treE bits a ps e j).m < (treE bits a ps e j).ps.length by omega)) (hb j) hr
    show (Tr.step a _).m = (Et.step a _ _).m ∧ (Tr.step a _).ps = (Et.step a _ _).ps ∧ (Tr.step a _).d = decAt bs more (Et.step a _ _).e ∧ (Tr.step a _).v = _
    generalize Tr.go a (Tr.begin ps (decAt bs more e)) j = T at *
    generalize treE bits a ps e j = t at *
    have hbit : T.bit a = (bits j, upOf (t.ps.getD (a + t.m) 0) (bits j), decAt bs more (t.e.bit (t.ps.getD (a + t.m) 0) (bits j))) := by
      unfold Tr.bit
      rw [i1, i2, i3, hd]
    refine ⟨?_, ?_, ?_, ?_⟩
    · show 2 * T.m + (T.bit a).1 = 2 * t.m + bits j
      rw [hbit, i1]
    · show T.ps.set (a + T.m) (T.bit a).2.1 = t.ps.set (a + t.m) _
      rw [hbit, i1, i2]
    · show (T.bit a).2.2 = _
      rw [hbit]
      rfl
    · show 2 * T.v = _
      rw [i4, Nat.pow_succ, Nat.mul_comm]
theorem tree_o {bits : Nat → Nat} {a n : Nat} {ps : List Nat} {e : En} (hf : Ends bs f) (hb : ∀ i, bits i ≤ 1) (he : EnOk e) (hp : PsOk ps) (hl : a + 2 ^ n ≤ ps.length) (h : Reach (treE bits a ps e n).e f) :
    ∀ j, j < n → (Tr.go a (Tr.begin ps (decAt bs more e)) (j + 1)).o = (Tr.go a (Tr.begin ps (decAt bs more e)) j).o + bits j * 2 ^ j := by
  intro j hj
  obtain ⟨i1, i2, i3, i4⟩ := tree_dec (more := more) hf hb he hp hl h j (by omega)
  obtain ⟨k1, _⟩ := tree_dec (more := more) hf hb he hp hl h (j + 1) (by omega)
  have e1 : (Tr.go a (Tr.begin ps (decAt bs more e)) (j + 1)).m = 2 * (Tr.go a (Tr.begin ps (decAt bs more e)) j).m + ((Tr.go a (Tr.begin ps (decAt bs more e)) j).bit a).1 := rfl
  have e2 : (treE bits a ps e (j + 1)).m = 2 * (treE bits a ps e j).m + bits j := rfl
  have hbit : ((Tr.go a (Tr.begin ps (decAt bs more e)) j).bit a).1 = bits j := by omega
  show (Tr.go a (Tr.begin ps (decAt bs more e)) j).o + ((Tr.go a (Tr.begin ps (decAt bs more e)) j).bit a).1 * (Tr.go a (Tr.begin ps (decAt bs more e)) j).v = _
  rw [hbit, i4]

/-- the greatest bit first -/
def topBits (v n : Nat) (j : Nat) : Nat := bitOf v (n - 1 - j)
theorem tree_m {v a n : Nat} {ps : List Nat} {e : En} : ∀ j, j ≤ n → (treE (topBits v n) a ps e j).m = 2 ^ j + v % 2 ^ n / 2 ^ (n - j)
  | 0, _ => by
    rw [Nat.sub_zero, Nat.div_eq_of_lt (Nat.mod_lt _ (Nat.two_pow_pos n))]
    rfl
  | j + 1, hj => by
    show 2 * (treE (topBits v n) a ps e j).m + bitOf v (n - 1 - j) = _
    rw [tree_m j (by omega), ← top_bits v n j hj, Nat.pow_succ]
    omega
theorem low_bits (v j : Nat) : v % 2 ^ j + bitOf v j * 2 ^ j = v % 2 ^ (j + 1) := by
  unfold bitOf
  rw [Nat.pow_succ, Nat.mod_mul, Nat.mul_comm]
theorem rev_o {v a n : Nat} {ps : List Nat} {e : En} (hf : Ends bs f) (he : EnOk e) (hp : PsOk ps) (hl : a + 2 ^ n ≤ ps.length) (h : Reach (treE (bitOf v) a ps e n).e f) :
    ∀ j, j ≤ n → (Tr.go a (Tr.begin ps (decAt bs more e)) j).o = v % 2 ^ j
  | 0, _ => by rw [Nat.pow_zero, Nat.mod_one]; rfl
  | j + 1, hj => by rw [tree_o hf (bitOf_le v) he hp hl h j hj, rev_o hf he hp hl h j (by omega), low_bits]

/-! ### questions -/

/-- what is coded of a question: the probabilities then, and the coder -/
def askE (ps : List Nat) (e : En) (k a n v : Nat) : List Nat × En :=
  if k = 0 then (ps.set a (upOf (ps.getD a 0) (v % 2)), e.bit (ps.getD a 0) (v % 2))
  else if k = 3 then (ps, strE e v n n)
  else if k = 1 then ((treE (topBits v n) a ps e n).ps, (treE (topBits v n) a ps e n).e)
  else ((treE (bitOf v) a ps e n).ps, (treE (bitOf v) a ps e n).e)
def wantOf (k n v : Nat) : Nat := if k = 0 then v % 2 else v % 2 ^ n

end

theorem reach_len {e e' : En} (h : Reach e e') : e.l ≤ e'.l := by obtain ⟨k, h, _⟩ := h; omega
/-! ### lengths -/
theorem even_len (e : En) : e.even.l ≤ e.l + 1 := by unfold En.even; split; exact Nat.le_refl _; omega
theorem bit_len (e : En) (p b : Nat) : (e.bit p b).l ≤ e.l + 1 := by unfold En.bit; split; exact even_len _; exact even_len _
theorem one_len (e : En) (b : Nat) : (e.one b).l ≤ e.l + 1 := by unfold En.one; split; exact even_len _; exact even_len _
theorem strE_len (e : En) (v n : Nat) : ∀ j, (strE e v n j).l ≤ e.l + j
  | 0 => Nat.le_refl _
  | j + 1 => by have := one_len (strE e v n j) (bitOf v (n - 1 - j)); have := strE_len e v n j; show ((strE e v n j).one _).l ≤ _; omega
theorem treE_len (bits : Nat → Nat) (a : Nat) (ps : List Nat) (e : En) : ∀ j, (treE bits a ps e j).e.l ≤ e.l + j
  | 0 => Nat.le_refl _
  | j + 1 => by
    have := treE_len bits a ps e j
    have := bit_len (treE bits a ps e j).e ((treE bits a ps e j).ps.getD (a + (treE bits a ps e j).m) 0) (bits j)
    show ((treE bits a ps e j).e.bit _ _).l ≤ _
    omega
/-! ### bits 0, one behind the other, with one probability -/

def likely : Nat → Nat × En
  | 0 => (1024, En.new)
  | k + 1 => (up0 (likely k).1, (likely k).2.bit (likely k).1 0)
/-- the same, as its range and its length alone -/
def likR (s : Nat × Nat × Nat) : Nat × Nat × Nat := if s.2.1 / 2048 * s.1 < 16777216 then (up0 s.1, s.2.1 / 2048 * s.1 * 256, s.2.2 + 1) else (up0 s.1, s.2.1 / 2048 * s.1, s.2.2)
/-- k bits from s on, the i-th of them all: as many bytes as may be, at each -/
def likOk : Nat → Nat → Nat × Nat × Nat → Bool
  | 0, _, _ => true
  | f + 1, i, s => Nat.ble s.2.2 (12 + i / 40) && likOk f (i + 1) (likR s)
theorem likely_ok : ∀ k, EnOk (likely k).2 ∧ POk (likely k).1
  | 0 => ⟨enOk_new, pOk_fresh⟩
  | k + 1 => ⟨bit_ok (likely_ok k).1 (likely_ok k).2, pOk_up0 (likely_ok k).2⟩
end Go.Proofs.Ytdhhibfppcpieaa

/-
  The program's coder as numbers: the bytes that it gave, the byte that waits, the bytes FF behind it, low; and the one great number that it stands for.
-/
namespace Go.Proofs.Ytdhhibfppcpieaa

structure Co where
  gs : List UInt8
  wt : Nat
  fu : Nat
  lo : Nat

def Co.new : Co := ⟨[], 0, 0, 0⟩
/-- what waited is given, more by m -/
def Co.gave (c : Co) (m : Nat) : List UInt8 := c.gs ++ (UInt8.ofNat (c.wt + m) :: List.replicate c.fu (UInt8.ofNat (255 + m)))
/-- a byte is given -/
def Co.give (c : Co) : Co :=
  if 4294967296 ≤ c.lo then ⟨c.gave 1, c.lo / 16777216 % 256, 0, c.lo % 16777216 * 256⟩
  else if c.lo < 4278190080 then ⟨c.gave 0, c.lo / 16777216, 0, c.lo % 16777216 * 256⟩
  else ⟨c.gs, c.wt, c.fu + 1, c.lo % 16777216 * 256⟩

/-- the coder c stands for n, as long as l; what is added stays below r -/
structure CoN (c : Co) (n l r : Nat) : Prop where
  num : n + 4294967296 = (be c.gs * 256 + c.wt + 1) * 256 ^ c.fu * 4294967296 + c.lo
  len : l = c.gs.length + c.fu + 5
  wt : c.wt < 256
  top : c.lo + r ≤ 8589934592
  full : c.wt = 255 → c.lo + r ≤ 4294967296
  pos : 1 ≤ r

theorem coN_new : CoN Co.new 0 5 4294967295 := ⟨by decide, rfl, by decide, by decide, by decide, by decide⟩
theorem CoN.mono {c : Co} {n l r r' : Nat} (h : CoN c n l r) (hr : r' ≤ r) (h1 : 1 ≤ r') : CoN c n l r' :=
  ⟨h.num, h.len, h.wt, by have := h.top; omega, fun e => by have := h.full e; omega, h1⟩
theorem CoN.low {c : Co} {n l r : Nat} (h : CoN c n l r) : c.lo < 8589934592 := by have := h.top; have := h.pos; omega

/-- what is added -/
def Co.plus (c : Co) (z : Nat) : Co := ⟨c.gs, c.wt, c.fu, c.lo + z⟩
theorem CoN.plus {c : Co} {n l r r' z : Nat} (h : CoN c n l r) (hz : z + r' ≤ r) (h1 : 1 ≤ r') : CoN (c.plus z) (n + z) l r' :=
  ⟨by have := h.num; show n + z + 4294967296 = (be c.gs * 256 + c.wt + 1) * 256 ^ c.fu * 4294967296 + (c.lo + z); omega, h.len, h.wt, by have := h.top; show c.lo + z + r' ≤ _; omega, fun e => by have := h.full e; show c.lo + z + r' ≤ _; omega, h1⟩

theorem be_fulls : ∀ k : Nat, be (List.replicate k (UInt8.ofNat 255)) + 1 = 256 ^ k
  | 0 => rfl
  | k + 1 => by
    have := be_fulls k
    rw [List.replicate_succ', be_snoc, Nat.pow_succ]
    have e : (UInt8.ofNat 255).toNat = 255 := rfl
    rw [e]
    omega
theorem gave_len (c : Co) (m : Nat) : (c.gave m).length = c.gs.length + 1 + c.fu := by unfold Co.gave; simp; omega
theorem be_gave_zero (c : Co) (h : c.wt < 256) : be (c.gave 0) + 1 = (be c.gs * 256 + c.wt + 1) * 256 ^ c.fu := by
  have e : (UInt8.ofNat (c.wt + 0)).toNat = c.wt := by simp; omega
  have k := be_fulls c.fu
  have hc : UInt8.ofNat (c.wt + 0) :: List.replicate c.fu (UInt8.ofNat (255 + 0)) = [UInt8.ofNat (c.wt + 0)] ++ List.replicate c.fu (UInt8.ofNat 255) := rfl
  unfold Co.gave
  rw [hc, ← List.append_assoc, be_append, be_snoc, e, List.length_replicate, Nat.add_mul (be c.gs * 256 + c.wt) 1]
  omega
theorem be_gave_one (c : Co) (h : c.wt < 255) : be (c.gave 1) = (be c.gs * 256 + c.wt + 1) * 256 ^ c.fu := by
  have e : (UInt8.ofNat (c.wt + 1)).toNat = c.wt + 1 := by simp; omega
  have hc : UInt8.ofNat (c.wt + 1) :: List.replicate c.fu (UInt8.ofNat (255 + 1)) = [UInt8.ofNat (c.wt + 1)] ++ List.replicate c.fu 0 := rfl
  unfold Co.gave
  rw [hc, ← List.append_assoc, be_append, be_snoc, e, List.length_replicate, be_zeros, Nat.add_zero, Nat.add_assoc]

theorem give_carry {n X lo h m : Nat} (hn : n + 4294967296 = X * 4294967296 + lo) (hlo : lo = 4294967296 + h * 16777216 + m) : n * 256 + 4294967296 = (X * 256 + h + 1) * 4294967296 + m * 256 := by omega
theorem give_low {n X Y lo h m : Nat} (hn : n + 4294967296 = X * 4294967296 + lo) (hY : Y + 1 = X) (hlo : lo = h * 16777216 + m) : n * 256 + 4294967296 = (Y * 256 + h + 1) * 4294967296 + m * 256 := by omega
theorem give_full {n X lo m : Nat} (hn : n + 4294967296 = X * 4294967296 + lo) (hlo : lo = 255 * 16777216 + m) : n * 256 + 4294967296 = X * 256 * 4294967296 + m * 256 := by omega

theorem CoN.give {c : Co} {n l r : Nat} (h : CoN c n l r) (hr : r < 16777216) : CoN c.give (n * 256) (l + 1) (r * 256) := by
  obtain ⟨h1, h2, h3, h4, h5, h6⟩ := h
  unfold Co.give
  by_cases hc : 4294967296 ≤ c.lo
  · rw [if_pos hc]
    have hw : c.wt < 255 := by
      rcases Nat.lt_or_ge c.wt 255 with h | h
      · exact h
      · have := h5 (by omega)
        omega
    have hX := be_gave_one c hw
    rw [← hX] at h1
    refine ⟨?_, ?_, Nat.mod_lt _ (by decide), ?_, ?_, by omega⟩
    · show n * 256 + 4294967296 = (be (c.gave 1) * 256 + c.lo / 16777216 % 256 + 1) * 256 ^ 0 * 4294967296 + c.lo % 16777216 * 256
      rw [Nat.pow_zero, Nat.mul_one]
      exact give_carry h1 (by omega)
    · show l + 1 = (c.gave 1).length + 0 + 5
      rw [gave_len]
      omega
    · show c.lo % 16777216 * 256 + r * 256 ≤ _
      omega
    · show c.lo / 16777216 % 256 = 255 → c.lo % 16777216 * 256 + r * 256 ≤ _
      intro e
      omega
  · rw [if_neg hc]
    by_cases hl : c.lo < 4278190080
    · rw [if_pos hl]
      have hX := be_gave_zero c h3
      refine ⟨?_, ?_, ?_, ?_, ?_, by omega⟩
      · show n * 256 + 4294967296 = (be (c.gave 0) * 256 + c.lo / 16777216 + 1) * 256 ^ 0 * 4294967296 + c.lo % 16777216 * 256
        rw [Nat.pow_zero, Nat.mul_one]
        exact give_low h1 hX (by omega)
      · show l + 1 = (c.gave 0).length + 0 + 5
        rw [gave_len]
        omega
      · show c.lo / 16777216 < 256
        omega
      · show c.lo % 16777216 * 256 + r * 256 ≤ _
        omega
      · show c.lo / 16777216 = 255 → c.lo % 16777216 * 256 + r * 256 ≤ _
        intro e
        omega
    · rw [if_neg hl]
      refine ⟨?_, ?_, h3, ?_, ?_, by omega⟩
      · show n * 256 + 4294967296 = (be c.gs * 256 + c.wt + 1) * 256 ^ (c.fu + 1) * 4294967296 + c.lo % 16777216 * 256
        rw [Nat.pow_succ, ← Nat.mul_assoc]
        exact give_full h1 (by omega)
      · show l + 1 = c.gs.length + (c.fu + 1) + 5
        omega
      · show c.lo % 16777216 * 256 + r * 256 ≤ _
        omega
      · show c.wt = 255 → c.lo % 16777216 * 256 + r * 256 ≤ _
        intro e
        have := h5 e
        omega

/-- k bytes are given -/
def Co.gives (c : Co) : Nat → Co
  | 0 => c
  | k + 1 => (c.gives k).give
theorem give_lo (c : Co) : c.give.lo = c.lo % 16777216 * 256 := by
  unfold Co.give
  split
  · rfl
  · split <;> rfl
theorem give_zero {c : Co} (h : c.lo = 0) : c.give.fu = 0 ∧ c.give.wt = 0 ∧ c.give.lo = 0 := by
  unfold Co.give
  rw [if_neg (by omega), if_pos (by omega)]
  exact ⟨rfl, by show c.lo / 16777216 = 0; omega, by show c.lo % 16777216 * 256 = 0; omega⟩
theorem CoN.gives {c : Co} {n l : Nat} (h : CoN c n l 1) : ∀ k, CoN (c.gives k) (n * 256 ^ k) (l + k) 1
  | 0 => by rw [Nat.pow_zero, Nat.mul_one]; exact h
  | k + 1 => by
    have := (CoN.gives h k).give (by decide)
    rw [Nat.pow_succ, ← Nat.mul_assoc]
    exact this.mono (by decide) (by decide)
/-- In the end all is given. -/
theorem CoN.finish {c : Co} {n l r : Nat} (h : CoN c n l r) : be (c.gives 5).gs = n ∧ (c.gives 5).gs.length = l := by
  have h0 := h.low
  have h5 := (h.mono h.pos (Nat.le_refl 1)).gives 5
  have l1 : (c.gives 1).lo = c.lo % 16777216 * 256 := give_lo _
  have l2 : (c.gives 2).lo = (c.gives 1).lo % 16777216 * 256 := give_lo _
  have l3 : (c.gives 3).lo = (c.gives 2).lo % 16777216 * 256 := give_lo _
  have l4 : (c.gives 4).lo = (c.gives 3).lo % 16777216 * 256 := give_lo _
  obtain ⟨z1, z2, z3⟩ : (c.gives 5).fu = 0 ∧ (c.gives 5).wt = 0 ∧ (c.gives 5).lo = 0 := give_zero (c := c.gives 4) (by omega)
  obtain ⟨k1, k2, _⟩ := h5
  rw [z1, z2, z3, Nat.pow_zero] at k1
  rw [z1] at k2
  exact ⟨by omega, by omega⟩

theorem gives_succ (c : Co) (k : Nat) : c.gives (k + 1) = (c.gives k).give := rfl
theorem give_fu (c : Co) : c.give.gs.length + c.give.fu = c.gs.length + c.fu + 1 := by
  unfold Co.give
  split
  · show (c.gave 1).length + 0 = _; rw [gave_len]; omega
  · split
    · show (c.gave 0).length + 0 = _; rw [gave_len]; omega
    · show c.gs.length + (c.fu + 1) = _; omega
theorem gives_len (c : Co) : ∀ k, (c.gives k).gs.length + (c.gives k).fu = c.gs.length + c.fu + k
  | 0 => rfl
  | k + 1 => by have := give_fu (c.gives k); have := gives_len c k; rw [gives_succ]; omega
end Go.Proofs.Ytdhhibfppcpieaa

/-
  The decoder's small calls: a byte comes in, the decoder is refused, what it told.
-/
namespace Go.Proofs.Ytdhhibfppcpieaa
open Go.RowKit

/-- the decoder's own blocks -/
def two (f g : Nat) : Nat → Prop := fun i => i = f ∨ i = g

theorem u32_of (x : Int) (h0 : 0 ≤ x) (h : x < 4294967296) : IntKind.u32.wrap x = x := by
  simp [IntKind.wrap, IntKind.bits, IntKind.signed]; omega
end Go.Proofs.Ytdhhibfppcpieaa

/-
  The decoder is evened out, and tells a bit straight.
-/
namespace Go.Proofs.Ytdhhibfppcpieaa
open Go.RowKit

end Go.Proofs.Ytdhhibfppcpieaa

/-
  Probabilities in a block of their own.
-/
namespace Go.Proofs.Ytdhhibfppcpieaa
open Go.RowKit

/-- probabilities as cells -/
def pv (ps : List Nat) : List Value := ps.map fun (p : Nat) => Value.int .u16 (p : Int)
theorem pv_length (ps : List Nat) : (pv ps).length = ps.length := by simp [pv]
theorem pv_get (ps : List Nat) (i : Nat) (h : i < ps.length) : (pv ps)[i]? = some (.int .u16 ((ps.getD i 0 : Nat) : Int)) := by
  simp [pv, List.getD, h]
theorem pv_set (ps : List Nat) (i q : Nat) : (pv ps).set i (.int .u16 (q : Int)) = pv (ps.set i q) := by
  simp [pv, List.map_set]

/-- Block b holds the probabilities ps. -/
def Row (w : World) (b : Nat) (ps : List Nat) (c : Nat) : Prop := w.ownsRow 0 34 1 (.slice (some ⟨b, 0, none⟩) ps.length c) ps.length (pv ps)

section
variable {w w' : World} {b c : Nat} {ps : List Nat}
theorem Row.cell (h : Row w b ps c) {i : Nat} (hi : i < ps.length) : w.cell? ⟨b, i, none⟩ = some (.int .u16 ((ps.getD i 0 : Nat) : Int)) := by
  rw [World.ownsRow.cellAt h i (by omega), pv_get ps i hi]
theorem Row.free (h : Row w b ps c) (i : Nat) : w.frozen? ⟨b, i, none⟩ = false := World.ownsRow.frozenAt h i
theorem Row.put (h : Row w b ps c) (i q : Nat) : Row (w.setCell ⟨b, i, none⟩ (.int .u16 (q : Int))) b (ps.set i q) c := by
  have := (World.ownsRow.stored h i (.int .u16 (q : Int))).1
  rw [pv_set] at this
  unfold Row
  rw [List.length_set]
  exact this
theorem Row.drewN (h : Row w b ps c) (n : Nat) : Row (w.drewN n) b ps c := h
theorem Row.only {S : Nat → Prop} (h : Row w b ps c) (hb : Only S w w') (hS : ¬ S b) : Row w' b ps c := own_only h hb hS
theorem Row.lt (h : Row w b ps c) : b < w.heap.size := (World.ownsRow.lt h b rfl).2
theorem Row.cap (h : Row w b ps c) : ps.length ≤ c ∧ c ≤ maxLen := by
  obtain ⟨_, h2, h3, _⟩ := own_facts h
  exact ⟨h2, h3⟩
end

end Go.Proofs.Ytdhhibfppcpieaa
