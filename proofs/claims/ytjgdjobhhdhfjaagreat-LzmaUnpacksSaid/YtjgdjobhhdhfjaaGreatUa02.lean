/-
  RdPure, RdDec, RdEven, Prow: put together.
-/
import Derived.Test.YtjgdjobhhdhfjaaGreatUa01
import Derived.Deep.RegionLaw
import Derived.Deep.RegionHeld3
import Derived.StillTailTactics
import Derived.Test.YtjgdjobhhdhfjaaGreatRows
set_option linter.unusedVariables false
set_option linter.unusedSimpArgs false
/-
  The range decoder as numbers: bad, or its range, its code, and the bytes that it has not asked for.
-/
namespace Go.Proofs.YtjgdjobhhdhfjaaGreat

abbrev Dc := Option (Nat × Nat × List UInt8)

/-- evened out -/
def lvl (r c : Nat) (s : List UInt8) : Dc :=
  if r < 16777216 then
    match s with
    | [] => none
    | b :: t => some (r * 256, c * 256 + b.toNat, t)
  else some (r, c, s)

/-- five bytes make a decoder -/
def started : List UInt8 → Dc
  | z :: a :: b :: c :: d :: t =>
    if z.toNat = 0 ∧ ((a.toNat * 256 + b.toNat) * 256 + c.toNat) * 256 + d.toNat < 4294967295 then some (4294967295, ((a.toNat * 256 + b.toNat) * 256 + c.toNat) * 256 + d.toNat, t) else none
  | _ => none

def DcOk (d : Dc) : Prop := ∀ r c s, d = some (r, c, s) → 16777216 ≤ r ∧ r < 4294967296 ∧ c < r
def POk (p : Nat) : Prop := 31 ≤ p ∧ p ≤ 2017
def PsOk (ps : List Nat) : Prop := ∀ p ∈ ps, POk p

theorem dcOk_none : DcOk none := fun _ _ _ h => by cases h
theorem dcOk_started (s : List UInt8) : DcOk (started s) := by
  intro r c t h
  unfold started at h
  split at h
  · split at h
    · injection h with h
      injection h with h1 h
      injection h with h2 h3
      omega
    · cases h
  · cases h

theorem dcOk_lvl {r c : Nat} {s : List UInt8} (h0 : 65536 ≤ r) (h1 : r < 4294967296) (h2 : c < r) : DcOk (lvl r c s) := by
  intro r' c' s' h
  unfold lvl at h
  split at h
  · split at h
    · cases h
    · rename_i b t
      have := b.toNat_lt
      injection h with h
      injection h with h3 h
      injection h with h4 h5
      omega
  · injection h with h
    injection h with h3 h
    injection h with h4 h5
    omega

def up0 (p : Nat) : Nat := p + (2048 - p) / 32
def up1 (p : Nat) : Nat := p - p / 32
theorem pOk_up0 {p : Nat} (h : POk p) : POk (up0 p) := by unfold POk up0 at *; omega
theorem pOk_up1 {p : Nat} (h : POk p) : POk (up1 p) := by unfold POk up1 at *; omega
theorem pOk_fresh : POk 1024 := by unfold POk; omega

/-- a bit, its probability then, and the decoder -/
def bitD (d : Dc) (p : Nat) : Nat × Nat × Dc :=
  match d with
  | none => (0, p, none)
  | some (r, c, s) =>
    if c < r / 2048 * p then (0, up0 p, lvl (r / 2048 * p) c s)
    else
      match lvl (r - r / 2048 * p) (c - r / 2048 * p) s with
      | none => (0, up1 p, none)
      | some t => (1, up1 p, some t)

theorem bound_in {r p : Nat} (h0 : 16777216 ≤ r) (h1 : r < 4294967296) (hp : POk p) : 253952 ≤ r / 2048 * p ∧ r / 2048 * p + 253952 ≤ r := by
  obtain ⟨p0, p1⟩ := hp
  have a : 8192 ≤ r / 2048 := by omega
  have b : r / 2048 * 2048 ≤ r := by omega
  have c : r / 2048 * 31 ≤ r / 2048 * p := Nat.mul_le_mul_left _ p0
  have d : r / 2048 * p ≤ r / 2048 * 2017 := Nat.mul_le_mul_left _ p1
  omega

theorem bitD_ok {d : Dc} {p : Nat} (hd : DcOk d) (hp : POk p) : (bitD d p).1 ≤ 1 ∧ POk (bitD d p).2.1 ∧ DcOk (bitD d p).2.2 := by
  unfold bitD
  split
  · exact ⟨by simp, hp, dcOk_none⟩
  · rename_i r c s
    obtain ⟨h0, h1, h2⟩ := hd r c s rfl
    obtain ⟨b0, b1⟩ := bound_in h0 h1 hp
    generalize r / 2048 * p = b at *
    by_cases hc : c < b
    · rw [if_pos hc]
      exact ⟨by simp, pOk_up0 hp, dcOk_lvl (by omega) (by omega) hc⟩
    · rw [if_neg hc]
      have hl : DcOk (lvl (r - b) (c - b) s) := dcOk_lvl (by omega) (by omega) (by omega)
      split
      · exact ⟨by simp, pOk_up1 hp, dcOk_none⟩
      · rename_i t ht
        rw [ht] at hl
        exact ⟨by simp, pOk_up1 hp, hl⟩

theorem bitD_none (p : Nat) : bitD none p = (0, p, none) := rfl

/-- a bit told straight: the range is halved -/
def oneD (d : Dc) : Nat × Dc :=
  match d with
  | none => (0, none)
  | some (r, c, s) =>
    if c < r / 2 then (0, lvl (r / 2) c s)
    else if c - r / 2 < r / 2 then (1, lvl (r / 2) (c - r / 2) s) else (0, none)

theorem oneD_ok {d : Dc} (hd : DcOk d) : (oneD d).1 ≤ 1 ∧ DcOk (oneD d).2 := by
  unfold oneD
  split
  · exact ⟨by simp, dcOk_none⟩
  · rename_i r c s
    obtain ⟨h0, h1, h2⟩ := hd r c s rfl
    split
    · rename_i hc
      exact ⟨by simp, dcOk_lvl (by omega) (by omega) hc⟩
    · split
      · rename_i hc
        exact ⟨by simp, dcOk_lvl (by omega) (by omega) hc⟩
      · exact ⟨by simp, dcOk_none⟩

/-- n bits straight -/
def straightGo (d : Dc) : Nat → Nat × Dc
  | 0 => (0, d)
  | n + 1 => (2 * (straightGo d n).1 + (oneD (straightGo d n).2).1, (oneD (straightGo d n).2).2)
def straightD (n : Nat) (d : Dc) : Nat × Dc := (if (straightGo d n).2 = none then 0 else (straightGo d n).1, (straightGo d n).2)

theorem oneD_none : oneD none = (0, none) := rfl
theorem straightGo_ok {d : Dc} (hd : DcOk d) (n : Nat) : DcOk (straightGo d n).2 ∧ (straightGo d n).1 < 2 ^ n := by
  induction n with
  | zero => exact ⟨hd, by simp [straightGo]⟩
  | succ n ih =>
    obtain ⟨h1, h2⟩ := oneD_ok ih.1
    refine ⟨h2, ?_⟩
    show 2 * (straightGo d n).1 + _ < _
    have := ih.2
    rw [Nat.pow_succ]
    omega
theorem straightGo_none (n : Nat) : (straightGo none n).2 = none := by
  induction n with
  | zero => rfl
  | succ n ih => show (oneD (straightGo none n).2).2 = none; rw [ih]; rfl
theorem straightD_none (n : Nat) : straightD n none = (0, none) := by
  unfold straightD
  rw [straightGo_none, if_pos rfl]
theorem straightD_ok {n : Nat} {d : Dc} (hd : DcOk d) : DcOk (straightD n d).2 ∧ (straightD n d).1 < 2 ^ n := by
  have h := straightGo_ok hd n
  unfold straightD
  refine ⟨h.1, ?_⟩
  show (if _ then _ else _) < _
  split
  · exact Nat.two_pow_pos n
  · exact h.2

/-- a tree on its way: the number that its bits make; the bits the other way round, and what the next one weighs; the probabilities; the decoder -/
structure Tr where
  m : Nat
  o : Nat
  v : Nat
  ps : List Nat
  d : Dc

def Tr.bit (t : Tr) (a : Nat) : Nat × Nat × Dc := bitD t.d (t.ps.getD (a + t.m) 0)
def Tr.step (a : Nat) (t : Tr) : Tr := ⟨2 * t.m + (t.bit a).1, t.o + (t.bit a).1 * t.v, 2 * t.v, t.ps.set (a + t.m) (t.bit a).2.1, (t.bit a).2.2⟩
def Tr.go (a : Nat) (t : Tr) : Nat → Tr
  | 0 => t
  | n + 1 => (Tr.go a t n).step a
def Tr.begin (ps : List Nat) (d : Dc) : Tr := ⟨1, 0, 1, ps, d⟩

theorem set_same_get (ps : List Nat) (i : Nat) (h : i < ps.length) : ps.set i (ps.getD i 0) = ps := by
  refine List.ext_getElem? fun j => ?_
  rw [List.getElem?_set]
  split
  · rename_i hij
    subst hij
    simp [h, List.getD]
  · rfl
theorem getD_ok {ps : List Nat} (h : PsOk ps) {i : Nat} (hi : i < ps.length) : POk (ps.getD i 0) := by
  have : ps.getD i 0 = ps[i] := by simp [List.getD, hi]
  rw [this]
  exact h _ (List.getElem_mem hi)
theorem psOk_set {ps : List Nat} (h : PsOk ps) (i : Nat) {p : Nat} (hp : POk p) : PsOk (ps.set i p) := by
  intro q hq
  rcases List.mem_or_eq_of_mem_set hq with h1 | h1
  · exact h q h1
  · rw [h1]; exact hp

theorem tr_ok {ps : List Nat} {d : Dc} {a n : Nat} (hd : DcOk d) (hp : PsOk ps) (hl : a + 2 ^ n ≤ ps.length) :
    ∀ i, i ≤ n → DcOk (Tr.go a (Tr.begin ps d) i).d ∧ PsOk (Tr.go a (Tr.begin ps d) i).ps ∧ (Tr.go a (Tr.begin ps d) i).ps.length = ps.length ∧
      2 ^ i ≤ (Tr.go a (Tr.begin ps d) i).m ∧ (Tr.go a (Tr.begin ps d) i).m < 2 ^ (i + 1) ∧ (Tr.go a (Tr.begin ps d) i).v = 2 ^ i ∧ (Tr.go a (Tr.begin ps d) i).o < 2 ^ i := by
  intro i
  induction i with
  | zero => intro _; exact ⟨hd, hp, rfl, by simp [Tr.go, Tr.begin], by simp [Tr.go, Tr.begin], rfl, by simp [Tr.go, Tr.begin]⟩
  | succ i ih =>
    intro hi
    obtain ⟨h1, h2, h3, h4, h5, h6, h7⟩ := ih (by omega)
    show DcOk (Tr.step a _).d ∧ PsOk (Tr.step a _).ps ∧ (Tr.step a _).ps.length = _ ∧ _ ≤ (Tr.step a _).m ∧ (Tr.step a _).m < _ ∧ (Tr.step a _).v = _ ∧ (Tr.step a _).o < _
    generalize Tr.go a (Tr.begin ps d) i = t at *
    have hpow : 2 ^ (i + 1) ≤ 2 ^ n := Nat.pow_le_pow_right (by omega) hi
    have hlt : a + t.m < t.ps.length := by omega
    obtain ⟨b1, b2, b3⟩ := bitD_ok h1 (getD_ok h2 hlt)
    have e : 2 ^ (i + 1 + 1) = 2 * 2 ^ (i + 1) := by rw [Nat.pow_succ, Nat.mul_comm]
    have e' : 2 ^ (i + 1) = 2 * 2 ^ i := by rw [Nat.pow_succ, Nat.mul_comm]
    refine ⟨b3, psOk_set h2 _ b2, by simp [Tr.step, h3], ?_, ?_, ?_, ?_⟩
    · show _ ≤ 2 * t.m + (t.bit a).1
      omega
    · show 2 * t.m + (t.bit a).1 < _
      unfold Tr.bit
      omega
    · show 2 * t.v = _
      omega
    · show t.o + (t.bit a).1 * t.v < _
      have : (t.bit a).1 * t.v ≤ 1 * t.v := Nat.mul_le_mul_right _ b1
      omega
theorem tr_none {ps : List Nat} {a n : Nat} (hl : a + 2 ^ n ≤ ps.length) : ∀ i, i ≤ n → (Tr.go a (Tr.begin ps none) i).d = none ∧ (Tr.go a (Tr.begin ps none) i).ps = ps ∧ (Tr.go a (Tr.begin ps none) i).m = 2 ^ i := by
  intro i
  induction i with
  | zero => intro _; exact ⟨rfl, rfl, rfl⟩
  | succ i ih =>
    intro hi
    obtain ⟨h1, h2, h3⟩ := ih (by omega)
    show (Tr.step a _).d = _ ∧ (Tr.step a _).ps = _ ∧ (Tr.step a _).m = _
    generalize Tr.go a (Tr.begin ps none) i = t at *
    have hpow : 2 ^ (i + 1) ≤ 2 ^ n := Nat.pow_le_pow_right (by omega) hi
    have e' : 2 ^ (i + 1) = 2 * 2 ^ i := by rw [Nat.pow_succ, Nat.mul_comm]
    have hb : t.bit a = (0, t.ps.getD (a + t.m) 0, none) := by unfold Tr.bit; rw [h1]; rfl
    refine ⟨?_, ?_, ?_⟩
    · show (t.bit a).2.2 = none
      rw [hb]
    · show t.ps.set (a + t.m) (t.bit a).2.1 = ps
      rw [hb]
      show t.ps.set (a + t.m) (t.ps.getD (a + t.m) 0) = ps
      have := Nat.two_pow_pos i
      rw [set_same_get _ _ (by rw [h2, h3]; omega), h2]
    · show 2 * t.m + (t.bit a).1 = _
      rw [hb]
      show 2 * t.m + 0 = _
      omega

/-- what is told of a question, the probabilities, the decoder -/
def askD (ps : List Nat) (d : Dc) (k a n : Nat) : Nat × List Nat × Dc :=
  if k = 0 then ((bitD d (ps.getD a 0)).1, ps.set a (bitD d (ps.getD a 0)).2.1, (bitD d (ps.getD a 0)).2.2)
  else if k = 3 then ((straightD n d).1, ps, (straightD n d).2)
  else (if (Tr.go a (Tr.begin ps d) n).d = none then 0 else if k = 1 then (Tr.go a (Tr.begin ps d) n).m - 2 ^ n else (Tr.go a (Tr.begin ps d) n).o, (Tr.go a (Tr.begin ps d) n).ps, (Tr.go a (Tr.begin ps d) n).d)

/-- a question that may be asked, with 600 probabilities -/
def RightD (k a n : Nat) : Prop := (k = 0 ∧ a < 600) ∨ ((k = 1 ∨ k = 2) ∧ a < 340 ∧ 1 ≤ n ∧ n ≤ 8) ∨ (k = 3 ∧ n ≤ 32)

theorem pow8 {n : Nat} (h : n ≤ 8) : 2 ^ n ≤ 256 := Nat.le_trans (Nat.pow_le_pow_right (by omega) h) (by decide)

theorem askD_ok {ps : List Nat} {d : Dc} {k a n : Nat} (hr : RightD k a n) (hd : DcOk d) (hp : PsOk ps) (hl : ps.length = 600) :
    DcOk (askD ps d k a n).2.2 ∧ PsOk (askD ps d k a n).2.1 ∧ (askD ps d k a n).2.1.length = 600 ∧ (k = 0 → (askD ps d k a n).1 ≤ 1) ∧ (k ≠ 0 → (askD ps d k a n).1 < 2 ^ n) := by
  unfold askD
  by_cases k0 : k = 0
  · rw [if_pos k0]
    have ha : a < 600 := by rcases hr with h | h | h <;> omega
    obtain ⟨b1, b2, b3⟩ := bitD_ok hd (getD_ok hp (by omega : a < ps.length))
    exact ⟨b3, psOk_set hp _ b2, by simp [hl], fun _ => b1, fun h => absurd k0 h⟩
  rw [if_neg k0]
  by_cases k3 : k = 3
  · rw [if_pos k3]
    obtain ⟨h1, h2⟩ := straightD_ok (n := n) hd
    exact ⟨h1, hp, hl, fun h => absurd h k0, fun _ => h2⟩
  rw [if_neg k3]
  have hn : a < 340 ∧ 1 ≤ n ∧ n ≤ 8 := by rcases hr with h | h | h <;> omega
  have h8 := pow8 hn.2.2
  obtain ⟨h1, h2, h3, h4, h5, h6, h7⟩ := tr_ok hd hp (by omega : a + 2 ^ n ≤ ps.length) n (Nat.le_refl _)
  refine ⟨h1, h2, by show List.length (Tr.ps _) = _; omega, fun h => absurd h k0, fun _ => ?_⟩
  show (if _ then _ else _) < _
  have e : 2 ^ (n + 1) = 2 * 2 ^ n := by rw [Nat.pow_succ, Nat.mul_comm]
  have := Nat.two_pow_pos n
  split
  · exact this
  · split
    · exact Nat.sub_lt_left_of_lt_add h4 (by omega)
    · exact h7

theorem askD_none {ps : List Nat} {k a n : Nat} (hr : RightD k a n) (hl : ps.length = 600) : askD ps none k a n = (0, ps, none) := by
  unfold askD
  by_cases k0 : k = 0
  · rw [if_pos k0, bitD_none]
    have ha : a < 600 := by rcases hr with h | h | h <;> omega
    show (0, ps.set a (ps.getD a 0), none) = _
    rw [set_same_get _ _ (by omega)]
  rw [if_neg k0]
  by_cases k3 : k = 3
  · rw [if_pos k3, straightD_none]
  rw [if_neg k3]
  have hn : a < 340 ∧ 1 ≤ n ∧ n ≤ 8 := by rcases hr with h | h | h <;> omega
  have h8 := pow8 hn.2.2
  obtain ⟨h1, h2, h3⟩ := tr_none (ps := ps) (by omega : a + 2 ^ n ≤ ps.length) n (Nat.le_refl _)
  rw [h1, h2, if_pos rfl]

/-- with more bytes behind -/
def ext (more : List UInt8) (d : Dc) : Dc := d.map fun x => (x.1, x.2.1, x.2.2 ++ more)

theorem ext_some (more : List UInt8) (r c : Nat) (s : List UInt8) : ext more (some (r, c, s)) = some (r, c, s ++ more) := rfl
theorem lvl_ext {r c : Nat} {s more : List UInt8} (h : lvl r c s ≠ none) : lvl r c (s ++ more) = ext more (lvl r c s) := by
  unfold lvl at *
  split
  · rename_i hr
    rw [if_pos hr] at h
    cases s with
    | nil => exact absurd rfl h
    | cons b t => rfl
  · rfl
theorem started_ext {s more : List UInt8} (h : started s ≠ none) : started (s ++ more) = ext more (started s) := by
  unfold started at *
  split at h
  · rename_i z a b c d t
    simp only [List.cons_append]
    split at h
    · rename_i hc
      rw [if_pos hc, if_pos hc]
      rfl
    · exact absurd rfl h
  · exact absurd rfl h
theorem bitD_ext {d : Dc} {p : Nat} {more : List UInt8} (h : (bitD d p).2.2 ≠ none) : bitD (ext more d) p = ((bitD d p).1, (bitD d p).2.1, ext more (bitD d p).2.2) := by
  cases d with
  | none => exact absurd rfl h
  | some x =>
    obtain ⟨r, c, s⟩ := x
    rw [ext_some]
    unfold bitD at *
    simp only [] at *
    split
    · rename_i hc
      rw [if_pos hc] at h
      rw [lvl_ext h]
    · rename_i hc
      rw [if_neg hc] at h
      have hn : lvl (r - r / 2048 * p) (c - r / 2048 * p) s ≠ none := by
        intro h0
        rw [h0] at h
        exact h rfl
      rw [lvl_ext hn]
      cases hl : lvl (r - r / 2048 * p) (c - r / 2048 * p) s with
      | none => exact absurd hl hn
      | some t => rfl
theorem oneD_ext {d : Dc} {more : List UInt8} (h : (oneD d).2 ≠ none) : oneD (ext more d) = ((oneD d).1, ext more (oneD d).2) := by
  cases d with
  | none => exact absurd rfl h
  | some x =>
    obtain ⟨r, c, s⟩ := x
    rw [ext_some]
    unfold oneD at *
    simp only [] at *
    split
    · rename_i hc
      rw [if_pos hc] at h
      rw [lvl_ext h]
    · rename_i hc
      rw [if_neg hc] at h
      split
      · rename_i hc2
        rw [if_pos hc2] at h
        rw [lvl_ext h]
      · rename_i hc2
        rw [if_neg hc2] at h
        exact absurd rfl h
theorem straightGo_ext {d : Dc} {more : List UInt8} : ∀ n, (straightGo d n).2 ≠ none → straightGo (ext more d) n = ((straightGo d n).1, ext more (straightGo d n).2)
  | 0, _ => rfl
  | n + 1, h => by
    have h0 : (straightGo d n).2 ≠ none := by
      intro h0
      apply h
      show (oneD (straightGo d n).2).2 = none
      rw [h0]
      rfl
    have ih := straightGo_ext (more := more) n h0
    show (2 * (straightGo (ext more d) n).1 + (oneD (straightGo (ext more d) n).2).1, (oneD (straightGo (ext more d) n).2).2) = _
    rw [ih, oneD_ext h]
    rfl
theorem ext_none {more : List UInt8} {d : Dc} (h : d ≠ none) : ext more d ≠ none := by
  cases d with
  | none => exact absurd rfl h
  | some x => intro h; cases h
theorem straightD_ext {d : Dc} {more : List UInt8} {n : Nat} (h : (straightD n d).2 ≠ none) : straightD n (ext more d) = ((straightD n d).1, ext more (straightD n d).2) := by
  have h' : (straightGo d n).2 ≠ none := h
  unfold straightD
  rw [straightGo_ext n h', if_neg (ext_none h'), if_neg h']
theorem tr_ext {ps : List Nat} {d : Dc} {a : Nat} {more : List UInt8} : ∀ n, (Tr.go a (Tr.begin ps d) n).d ≠ none →
    Tr.go a (Tr.begin ps (ext more d)) n = { Tr.go a (Tr.begin ps d) n with d := ext more (Tr.go a (Tr.begin ps d) n).d }
  | 0, _ => rfl
  | n + 1, h => by
    have h0 : (Tr.go a (Tr.begin ps d) n).d ≠ none := by
      intro h0
      apply h
      show (bitD (Tr.go a (Tr.begin ps d) n).d _).2.2 = none
      rw [h0]
      rfl
    have ih := tr_ext (more := more) n h0
    show Tr.step a (Tr.go a (Tr.begin ps (ext more d)) n) = _
    rw [ih]
    have hb := bitD_ext (d := (Tr.go a (Tr.begin ps d) n).d) (p := (Tr.go a (Tr.begin ps d) n).ps.getD (a + (Tr.go a (Tr.begin ps d) n).m) 0) (more := more) h
    unfold Tr.step Tr.bit
    simp only []
    rw [hb]
    rfl
theorem askD_ext {ps : List Nat} {d : Dc} {k a n : Nat} {more : List UInt8} (h : (askD ps d k a n).2.2 ≠ none) :
    askD ps (ext more d) k a n = ((askD ps d k a n).1, (askD ps d k a n).2.1, ext more (askD ps d k a n).2.2) := by
  unfold askD at *
  by_cases k0 : k = 0
  · rw [if_pos k0] at h
    rw [if_pos k0, if_pos k0, bitD_ext h]
  rw [if_neg k0] at h
  rw [if_neg k0, if_neg k0]
  by_cases k3 : k = 3
  · rw [if_pos k3] at h
    rw [if_pos k3, if_pos k3, straightD_ext h]
  rw [if_neg k3] at h
  rw [if_neg k3, if_neg k3, tr_ext n h]
  have h' : (Tr.go a (Tr.begin ps d) n).d ≠ none := h
  simp only []
  rw [if_neg (ext_none h'), if_neg h']

/-- of bytes 0, j steps gone: how many bytes were asked for at most, and the least range -/
def ZOk (j : Nat) (d : Dc) : Prop :=
  ∃ r k i, d = some (r, 0, List.replicate (2995 - k) 0) ∧ i ≤ 6 ∧ 7 * k + i ≤ j ∧ 16781312 * 2 ^ (6 - i) ≤ r + 4096 ∧ r < 4294967296
def PZ (p : Nat) : Prop := 1024 ≤ p ∧ p ≤ 2017

theorem ZOk.mono {j j' : Nat} {d : Dc} (h : ZOk j d) (hj : j ≤ j') : ZOk j' d := by
  obtain ⟨r, k, i, h1, h2, h3, h4⟩ := h
  exact ⟨r, k, i, h1, h2, by omega, h4⟩
theorem pow6 (i : Nat) : 1 ≤ 2 ^ (6 - i) := Nat.two_pow_pos _

theorem zlvl {j r k i r' : Nat} (hj : j ≤ 16100) (h2 : i ≤ 6) (h3 : 7 * k + i ≤ j) (h4 : 16781312 * 2 ^ (6 - i) ≤ r + 4096) (h5 : r < 4294967296) (h6 : r ≤ 2 * r' + 2049) (h7 : r' ≤ r) :
    ZOk (j + 1) (lvl r' 0 (List.replicate (2995 - k) 0)) := by
  unfold lvl
  by_cases hi : i < 6
  · have e : 2 ^ (6 - i) = 2 * 2 ^ (6 - (i + 1)) := by
      rw [show 6 - i = (6 - (i + 1)) + 1 by omega, Nat.pow_succ, Nat.mul_comm]
    have := pow6 (i + 1)
    rw [e] at h4
    obtain ⟨y, hy⟩ : ∃ y, y = 2 ^ (6 - (i + 1)) := ⟨_, rfl⟩
    rw [← hy] at h4 this
    rw [if_neg (by omega)]
    exact ⟨r', k, i + 1, rfl, by omega, by omega, by rw [← hy]; omega, by omega⟩
  · have hi6 : i = 6 := by omega
    subst hi6
    have e : 2 ^ (6 - 6) = 1 := rfl
    rw [e] at h4
    by_cases hr : r' < 16777216
    · rw [if_pos hr]
      obtain ⟨z, hz⟩ : ∃ z, 2995 - k = z + 1 := ⟨2995 - k - 1, by omega⟩
      rw [hz, List.replicate_succ]
      refine ⟨r' * 256, k + 1, 0, ?_, by omega, by omega, ?_, by omega⟩
      · rw [show 2995 - (k + 1) = z by omega]
        rfl
      · show 16781312 * 64 ≤ _
        omega
    · rw [if_neg hr]
      exact ⟨r', k, 6, rfl, by omega, by omega, by rw [e]; omega, by omega⟩

theorem zOk_range {j : Nat} {d : Dc} (h : ZOk j d) : ∃ r k i, d = some (r, 0, List.replicate (2995 - k) 0) ∧ i ≤ 6 ∧ 7 * k + i ≤ j ∧ 16781312 * 2 ^ (6 - i) ≤ r + 4096 ∧ r < 4294967296 ∧ 16777216 ≤ r := by
  obtain ⟨r, k, i, h1, h2, h3, h4, h5⟩ := h
  have := pow6 i
  exact ⟨r, k, i, h1, h2, h3, h4, h5, by omega⟩

theorem zbit {j p : Nat} {d : Dc} (h : ZOk j d) (hj : j ≤ 16100) (hp : PZ p) : (bitD d p).1 = 0 ∧ PZ (bitD d p).2.1 ∧ ZOk (j + 1) (bitD d p).2.2 := by
  obtain ⟨r, k, i, rfl, h2, h3, h4, h5, h6⟩ := zOk_range h
  obtain ⟨p0, p1⟩ := hp
  have b0 : r / 2048 * 1024 ≤ r / 2048 * p := Nat.mul_le_mul_left _ p0
  have b1 : r / 2048 * p ≤ r / 2048 * 2017 := Nat.mul_le_mul_left _ p1
  have hpos : 0 < r / 2048 * p := by omega
  unfold bitD
  simp only []
  rw [if_pos hpos]
  exact ⟨rfl, (show PZ (up0 p) by unfold PZ up0; omega), zlvl hj h2 h3 h4 h5 (by omega) (by omega)⟩
theorem zone {j : Nat} {d : Dc} (h : ZOk j d) (hj : j ≤ 16100) : (oneD d).1 = 0 ∧ ZOk (j + 1) (oneD d).2 := by
  obtain ⟨r, k, i, rfl, h2, h3, h4, h5, h6⟩ := zOk_range h
  unfold oneD
  simp only []
  rw [if_pos (by omega)]
  exact ⟨rfl, zlvl hj h2 h3 h4 h5 (by omega) (by omega)⟩
theorem zOk_some {j : Nat} {d : Dc} (h : ZOk j d) : d ≠ none := by
  obtain ⟨r, k, i, rfl, _⟩ := h
  intro h
  cases h
theorem zstraight {j : Nat} {d : Dc} (h : ZOk j d) : ∀ n, j + n ≤ 16100 → (straightGo d n).1 = 0 ∧ ZOk (j + n) (straightGo d n).2
  | 0, _ => ⟨rfl, h⟩
  | n + 1, hn => by
    obtain ⟨h1, h2⟩ := zstraight h n (by omega)
    obtain ⟨h3, h4⟩ := zone h2 (by omega)
    refine ⟨?_, h4⟩
    show 2 * (straightGo d n).1 + (oneD (straightGo d n).2).1 = 0
    rw [h1, h3]
theorem ztree {j a n : Nat} {ps : List Nat} {d : Dc} (h : ZOk j d) (hp : ∀ p ∈ ps, PZ p) (hl : a + 2 ^ n ≤ ps.length) : ∀ i, i ≤ n → j + i ≤ 16100 →
    (Tr.go a (Tr.begin ps d) i).m = 2 ^ i ∧ (Tr.go a (Tr.begin ps d) i).o = 0 ∧ (Tr.go a (Tr.begin ps d) i).ps.length = ps.length ∧ (∀ p ∈ (Tr.go a (Tr.begin ps d) i).ps, PZ p) ∧ ZOk (j + i) (Tr.go a (Tr.begin ps d) i).d
  | 0, _, _ => ⟨rfl, rfl, rfl, hp, h⟩
  | i + 1, hi, hj => by
    obtain ⟨h1, h2, h3, h4, h5⟩ := ztree h hp hl i (by omega) (by omega)
    show (Tr.step a _).m = _ ∧ (Tr.step a _).o = _ ∧ (Tr.step a _).ps.length = _ ∧ (∀ p ∈ (Tr.step a _).ps, PZ p) ∧ ZOk (j + (i + 1)) (Tr.step a _).d
    generalize Tr.go a (Tr.begin ps d) i = t at *
    have hpow : 2 ^ (i + 1) ≤ 2 ^ n := Nat.pow_le_pow_right (by omega) hi
    have e' : 2 ^ (i + 1) = 2 * 2 ^ i := by rw [Nat.pow_succ, Nat.mul_comm]
    have := Nat.two_pow_pos i
    have hlt : a + t.m < t.ps.length := by omega
    have hg : PZ (t.ps.getD (a + t.m) 0) := by
      have : t.ps.getD (a + t.m) 0 = t.ps[a + t.m] := by simp [List.getD, hlt]
      rw [this]
      exact h4 _ (List.getElem_mem hlt)
    obtain ⟨b1, b2, b3⟩ := zbit h5 (by omega) hg
    refine ⟨?_, ?_, by simp [Tr.step, h3], ?_, b3⟩
    · show 2 * t.m + (bitD t.d _).1 = _
      rw [b1]
      omega
    · show t.o + (bitD t.d _).1 * t.v = _
      rw [b1]
      omega
    · intro p hpm
      rcases List.mem_or_eq_of_mem_set hpm with h | h
      · exact h4 p h
      · rw [h]; exact b2

theorem zask {j k a n : Nat} {ps : List Nat} {d : Dc} (hr : RightD k a n) (h : ZOk j d) (hp : ∀ p ∈ ps, PZ p) (hl : ps.length = 600) (hj : j ≤ 16000) :
    (askD ps d k a n).1 = 0 ∧ (∀ p ∈ (askD ps d k a n).2.1, PZ p) ∧ (askD ps d k a n).2.1.length = 600 ∧ ZOk (j + 32) (askD ps d k a n).2.2 := by
  unfold askD
  by_cases k0 : k = 0
  · rw [if_pos k0]
    have ha : a < 600 := by rcases hr with h | h | h <;> omega
    have hlt : a < ps.length := by omega
    have hg : PZ (ps.getD a 0) := by
      have : ps.getD a 0 = ps[a] := by simp [List.getD, hlt]
      rw [this]
      exact hp _ (List.getElem_mem hlt)
    obtain ⟨b1, b2, b3⟩ := zbit h (by omega) hg
    refine ⟨b1, ?_, by simp [hl], b3.mono (by omega)⟩
    intro p hpm
    rcases List.mem_or_eq_of_mem_set hpm with h | h
    · exact hp p h
    · rw [h]; exact b2
  rw [if_neg k0]
  by_cases k3 : k = 3
  · rw [if_pos k3]
    have hn : n ≤ 32 := by rcases hr with h | h | h <;> omega
    obtain ⟨h1, h2⟩ := zstraight h n (by omega)
    refine ⟨?_, hp, hl, h2.mono (by omega)⟩
    show (if _ then _ else _) = 0
    rw [h1]
    split <;> rfl
  rw [if_neg k3]
  have hn : a < 340 ∧ 1 ≤ n ∧ n ≤ 8 := by rcases hr with h | h | h <;> omega
  have h8 := pow8 hn.2.2
  obtain ⟨h1, h2, h3, h4, h5⟩ := ztree h hp (by omega : a + 2 ^ n ≤ ps.length) n (Nat.le_refl _) (by omega)
  refine ⟨?_, h4, by show List.length (Tr.ps _) = _; omega, h5.mono (by omega)⟩
  show (if _ then _ else _) = 0
  rw [h1, h2, Nat.sub_self]
  split
  · rfl
  · split <;> rfl

theorem zstart : ZOk 0 (started (List.replicate 3000 0)) := by
  have e : started (List.replicate 3000 0) = some (4294967295, 0, List.replicate 2995 0) := rfl
  rw [e]
  exact ⟨4294967295, 0, 0, rfl, by omega, by omega, by decide, by omega⟩
end Go.Proofs.YtjgdjobhhdhfjaaGreat

/-
  The decoder's small calls: a byte comes in, the decoder is refused, what it told.
-/
namespace Go.Proofs.YtjgdjobhhdhfjaaGreat
open Go.RowKit

def pdCells (f r c : Nat) (bad : Bool) : Array Value := #[.iface 63 (.pointer (some ⟨f, 0, none⟩)), .int .u32 (r : Int), .int .u32 (c : Int), .bool bad]

/-- what state cells tell -/
def Told (bs : List UInt8) (d : Dc) (at_ r k : Nat) (bad : Bool) : Prop :=
  at_ ≤ bs.length ∧ r < 4294967296 ∧ k < 4294967296 ∧ ((bad = true ∧ d = none) ∨ (bad = false ∧ d = some (r, k, bs.drop at_)))

/-- Block g is the decoder over the feed at block f; its state is d. -/
def Pd (w : World) (g f lo : Nat) (bs : List UInt8) (d : Dc) : Prop :=
  ∃ at_ r c bad, Blk w g 164 (pdCells f r c bad) ∧ Feed w f lo bs at_ ∧ f < g ∧ Told bs d at_ r c bad

/-- the decoder's own blocks -/
def two (f g : Nat) : Nat → Prop := fun i => i = f ∨ i = g

theorem two_l (f g : Nat) : two f g f := .inl rfl
theorem two_r (f g : Nat) : two f g g := .inr rfl

theorem u32_of (x : Int) (h0 : 0 ≤ x) (h : x < 4294967296) : IntKind.u32.wrap x = x := by
  simp [IntKind.wrap, IntKind.bits, IntKind.signed]; omega
theorem u32_or_byte (c x : Nat) (hc : c < 16777216) (hx : x < 256) : bits .or .u32 ((c : Int) * 256) (x : Int) = ((c * 256 + x : Nat) : Int) := by
  rw [show (c : Int) * 256 = ((c * 256 : Nat) : Int) by omega, u32_or_nat _ _ (by omega) (by omega)]
  congr 1
  rw [Nat.or_comm]
  exact nat_join 8 (c * 256) x (by omega) (by omega) |> fun h => by rw [Nat.or_comm]; exact h

theorem nil_next (a : Addr) (w : World) : (nilAhead 307 63 (.pointer (some a)) "Next").run Tryz.prog w = .ok (some false) w := by kernel_rfl
theorem method_next (a : Addr) (w : World) : (method 307 63 (.pointer (some a)) "Next").run Tryz.prog w = .ok (175, .pointer (some a)) w := by kernel_rfl

section
variable {g f lo r c at_ : Nat} {w : World} {bs : List UInt8}

set_option maxHeartbeats 1000000 in
theorem shift_bad (hB : Blk w g 164 (pdCells f r c true)) :
    Calls Tryz.prog 106 #[.pointer (some ⟨g, 0, none⟩)] w fun e w' => e = .returned (.tuple #[]) ∧ w = w' := by
  have h3 : w.cell? ⟨g, 3, none⟩ = some (.bool true) := hB.cell 3
  clear hB
  go_enter Tryz.func106, Tryz.ntmps106
  go_wp2_with fail
  first | go_end0 | refine bodyPost_ret (results_none rfl _ _ _) rfl ?_
  exact ⟨rfl, rfl⟩

set_option maxHeartbeats 1000000 in
theorem shift_end (hB : Blk w g 164 (pdCells f r c false)) (hF : Feed w f lo bs bs.length) :
    Calls Tryz.prog 106 #[.pointer (some ⟨g, 0, none⟩)] w fun e w' => e = .returned (.tuple #[]) ∧ Blk w' g 164 (pdCells f r c true) ∧ Only (fun i => i = g) w w' := by
  have h3 : w.cell? ⟨g, 3, none⟩ = some (.bool false) := hB.cell 3
  have h0 : w.cell? ⟨g, 0, none⟩ = some (.iface 63 (.pointer (some ⟨f, 0, none⟩))) := hB.cell 0
  have f3 : w.frozen? ⟨g, 3, none⟩ = false := hB.free 3
  have K := Lib.hid (feed_end hF)
  have hm := method_next
  have HB := Lib.hid hB
  clear hB hF
  go_enter Tryz.func106, Tryz.ntmps106
  go_wp2_with fail
  refine K.out.mono ?_
  rintro e w1 ⟨rfl, n, rfl⟩
  go_wp2_with fail
  first | go_end0 | refine bodyPost_ret (results_none rfl _ _ _) rfl ?_
  exact ⟨rfl, (HB.out.drewN n).put 3 _, (Only.drewN (Only.refl (fun i => i = g) w) n).setCell (.inl rfl) _⟩

theorem feed_row {w w' : World} (_ : Feed w f lo bs at_) (hg : w.grownBy w' (some f)) : Only (two f g) w w' := Only.of_grown hg (two_l f g)

set_option maxHeartbeats 1000000 in
theorem shift_more (hB : Blk w g 164 (pdCells f r c false)) (hF : Feed w f lo bs at_) (hfg : f < g) (ha : at_ < bs.length) (hc : c < 16777216) :
    Calls Tryz.prog 106 #[.pointer (some ⟨g, 0, none⟩)] w fun e w' => e = .returned (.tuple #[]) ∧ Blk w' g 164 (pdCells f r (c * 256 + (bs.getD at_ 0).toNat) false) ∧ Feed w' f lo bs (at_ + 1) ∧ Only (two f g) w w' := by
  have h3 : w.cell? ⟨g, 3, none⟩ = some (.bool false) := hB.cell 3
  have h0 : w.cell? ⟨g, 0, none⟩ = some (.iface 63 (.pointer (some ⟨f, 0, none⟩))) := hB.cell 0
  have K := Lib.hid (feed_more hF ha)
  have hm := method_next
  have HB := Lib.hid hB
  have hlo := hF.lo
  clear hB hF
  have hx := (bs.getD at_ 0).toNat_lt
  generalize bs.getD at_ 0 = x at *
  have e1 : IntKind.u32.wrap ((c : Int) * 256) = (c : Int) * 256 := u32_of _ (by omega) (by omega)
  have e2 := u32_or_byte c x.toNat hc (by omega)
  have e3 : IntKind.u32.wrap (x.toNat : Int) = (x.toNat : Int) := u32_of _ (by omega) (by omega)
  go_enter Tryz.func106, Tryz.ntmps106
  go_wp2_with fail
  refine K.out.mono ?_
  rintro e w1 ⟨rfl, hF1, hg1⟩
  have HF1 := Lib.hid hF1
  have HO := Lib.hid (Only.of_grown hg1 (two_l f g))
  have HB1 := Lib.hid (HB.out.grown hg1 (by intro h; injection h with h; omega))
  have j2 : w1.cell? ⟨g, 2, none⟩ = some (.int .u32 (c : Int)) := HB1.out.cell 2
  have z2 : w1.frozen? ⟨g, 2, none⟩ = false := HB1.out.free 2
  clear hF1 hg1 HB h0 h3
  go_wp2_with fail
  first | go_end0 | refine bodyPost_ret (results_none rfl _ _ _) rfl ?_
  exact ⟨rfl, HB1.out.put 2 _, HF1.out.only ((Only.refl (fun i => i = g) w1).setCell (.inl rfl) _) (fun i hi => by omega), HO.out.setCell (.inl (two_r f g)) _⟩

set_option maxHeartbeats 1000000 in
theorem refuse_any {bad so : Bool} (hB : Blk w g 164 (pdCells f r c bad)) :
    Calls Tryz.prog 107 #[.pointer (some ⟨g, 0, none⟩), .bool so] w fun e w' => e = .returned (.tuple #[]) ∧ Blk w' g 164 (pdCells f r c (bad || so)) ∧ w.grownBy w' (some g) := by
  have h3 : w.cell? ⟨g, 3, none⟩ = some (.bool bad) := hB.cell 3
  have z3 : w.frozen? ⟨g, 3, none⟩ = false := hB.free 3
  have HB := Lib.hid hB
  clear hB
  cases bad
  · go_enter Tryz.func107, Tryz.ntmps107
    go_wp2_with fail
    first | go_end0 | refine bodyPost_ret (results_none rfl _ _ _) rfl ?_
    exact ⟨rfl, HB.out.put 3 _, only_setCell (World.grownBy.refl w _) (.inl rfl) _⟩
  · go_enter Tryz.func107, Tryz.ntmps107
    go_wp2_with fail
    first | go_end0 | refine bodyPost_ret (results_none rfl _ _ _) rfl ?_
    exact ⟨rfl, HB.out.put 3 _, only_setCell (World.grownBy.refl w _) (.inl rfl) _⟩

set_option maxHeartbeats 1000000 in
theorem told_any {bad : Bool} {x : Int} (hB : Blk w g 164 (pdCells f r c bad)) :
    Calls Tryz.prog 138 #[.pointer (some ⟨g, 0, none⟩), .int .i64 x] w fun e w' => e = .returned (.int .i64 (if bad = true then 0 else x)) ∧ w = w' := by
  have h3 : w.cell? ⟨g, 3, none⟩ = some (.bool bad) := hB.cell 3
  clear hB
  cases bad
  all_goals
    go_enter Tryz.func138, Tryz.ntmps138
    go_wp2_with fail
    go_ret
    exact ⟨rfl, rfl⟩

set_option maxHeartbeats 1000000 in
theorem bad_any {bad : Bool} (hB : Blk w g 164 (pdCells f r c bad)) :
    Calls Tryz.prog 108 #[.pointer (some ⟨g, 0, none⟩)] w fun e w' => e = .returned (.bool bad) ∧ w = w' := by
  have h3 : w.cell? ⟨g, 3, none⟩ = some (.bool bad) := hB.cell 3
  clear hB
  go_enter Tryz.func108, Tryz.ntmps108
  go_wp2_with fail
  go_ret
  exact ⟨rfl, rfl⟩

set_option maxHeartbeats 1000000 in
theorem done_any {bad : Bool} (hB : Blk w g 164 (pdCells f r c bad)) :
    Calls Tryz.prog 120 #[.pointer (some ⟨g, 0, none⟩)] w fun e w' => e = .returned (.bool (!bad && decide (c = 0))) ∧ w = w' := by
  have h3 : w.cell? ⟨g, 3, none⟩ = some (.bool bad) := hB.cell 3
  have h2 : w.cell? ⟨g, 2, none⟩ = some (.int .u32 (c : Int)) := hB.cell 2
  clear hB
  cases bad
  · go_enter Tryz.func120, Tryz.ntmps120
    go_wp2_with fail
    go_ret
    exact ⟨ret_bool (by rw [Bool.eq_iff_iff]; simp), rfl⟩
  · go_enter Tryz.func120, Tryz.ntmps120
    go_wp2_with fail
    go_ret
    exact ⟨rfl, rfl⟩
end

/-- A byte comes in, ahead of which the state is not bad. -/
theorem shift_any {g f lo r c at_ : Nat} {w : World} {bs : List UInt8} (hB : Blk w g 164 (pdCells f r c false)) (hF : Feed w f lo bs at_) (hfg : f < g) (hc : c < 16777216) :
    Calls Tryz.prog 106 #[.pointer (some ⟨g, 0, none⟩)] w fun e w' => e = .returned (.tuple #[]) ∧
      ∃ at' c' bad', Blk w' g 164 (pdCells f r c' bad') ∧ Feed w' f lo bs at' ∧ Only (two f g) w w' ∧
        ((bad' = true ∧ c' = c ∧ bs.drop at_ = []) ∨ ∃ x, bad' = false ∧ c' = c * 256 + x.toNat ∧ bs.drop at_ = x :: bs.drop at') := by
  by_cases hlt : at_ < bs.length
  · have hd : bs.drop at_ = bs[at_] :: bs.drop (at_ + 1) := List.drop_eq_getElem_cons hlt
    have hx : bs.getD at_ 0 = bs[at_] := by simp [List.getD, hlt]
    refine (shift_more hB hF hfg hlt hc).mono ?_
    rintro e w' ⟨rfl, h1, h2, h3⟩
    rw [hx] at h1
    exact ⟨rfl, _, _, _, h1, h2, h3, .inr ⟨_, rfl, rfl, hd⟩⟩
  · have := hF.le
    obtain rfl : at_ = bs.length := by omega
    refine (shift_end hB hF).mono ?_
    rintro e w' ⟨rfl, h1, h3⟩
    exact ⟨rfl, _, _, _, h1, hF.only h3 (fun i hi => by omega), h3.mono (fun i h => .inr h), .inl ⟨rfl, rfl, by simp⟩⟩
end Go.Proofs.YtjgdjobhhdhfjaaGreat

/-
  The decoder is evened out, and tells a bit straight.
-/
namespace Go.Proofs.YtjgdjobhhdhfjaaGreat
open Go.RowKit

theorem Pd.only {S : Nat → Prop} {w w' : World} {g f lo : Nat} {bs : List UInt8} {d : Dc} (h : Pd w g f lo bs d) (hb : Only S w w') (hS : ∀ i, S i → i < lo ∨ g < i) : Pd w' g f lo bs d := by
  obtain ⟨at_, r, c, bad, hB, hF, hfg, ht⟩ := h
  have := hF.lo
  exact ⟨at_, r, c, bad, hB.only hb (fun h => by have := hS _ h; omega), hF.only hb (fun i hi => by have := hS i hi; omega), hfg, ht⟩
theorem Pd.drewN {w : World} {g f lo : Nat} {bs : List UInt8} {d : Dc} (h : Pd w g f lo bs d) (n : Nat) : Pd (w.drewN n) g f lo bs d := h
theorem Pd.lt {w : World} {g f lo : Nat} {bs : List UInt8} {d : Dc} (h : Pd w g f lo bs d) : g < w.heap.size := by
  obtain ⟨_, _, _, _, hB, _⟩ := h
  exact hB.lt
theorem Pd.lo {w : World} {g f lo : Nat} {bs : List UInt8} {d : Dc} (h : Pd w g f lo bs d) : lo ≤ f ∧ f < g := by
  obtain ⟨_, _, _, _, _, hF, h, _⟩ := h
  exact ⟨hF.lo, h⟩

section
variable {g f lo r c at_ : Nat} {w : World} {bs : List UInt8}

set_option maxRecDepth 100000 in
set_option maxHeartbeats 1000000 in
theorem even_high (hB : Blk w g 164 (pdCells f r c false)) (hr : ¬ r < 16777216) :
    Calls Tryz.prog 137 #[.pointer (some ⟨g, 0, none⟩)] w fun e w' => e = .returned (.tuple #[]) ∧ w = w' := by
  have h1 : w.cell? ⟨g, 1, none⟩ = some (.int .u32 (r : Int)) := hB.cell 1
  have hr' : ¬ (r : Int) < 16777216 := by omega
  clear hB
  go_enter Tryz.func137, Tryz.ntmps137
  go_wp2_with fail
  first | go_end0 | refine bodyPost_ret (results_none rfl _ _ _) rfl ?_
  exact ⟨rfl, rfl⟩

set_option maxRecDepth 100000 in
set_option maxHeartbeats 1000000 in
theorem even_any (hB : Blk w g 164 (pdCells f r c false)) (hF : Feed w f lo bs at_) (hfg : f < g) (hr : r < 4294967296) (hc : c ≤ r) :
    Calls Tryz.prog 137 #[.pointer (some ⟨g, 0, none⟩)] w fun e w' => e = .returned (.tuple #[]) ∧ Pd w' g f lo bs (lvl r c (bs.drop at_)) ∧ Only (two f g) w w' := by
  by_cases hlow : r < 16777216
  · have h1 : w.cell? ⟨g, 1, none⟩ = some (.int .u32 (r : Int)) := hB.cell 1
    have z1 : w.frozen? ⟨g, 1, none⟩ = false := hB.free 1
    have hr' : (r : Int) < 16777216 := by omega
    have e1 : IntKind.u32.wrap ((r : Int) * 256) = (r : Int) * 256 := u32_of _ (by omega) (by omega)
    have hO : Only (fun i => i = g) w (w.setCell ⟨g, 1, none⟩ (.int .u32 ((r : Int) * 256))) := (Only.refl (fun i => i = g) w).setCell (.inl rfl) _
    have hB1 : Blk (w.setCell ⟨g, 1, none⟩ (.int .u32 ((r : Int) * 256))) g 164 (pdCells f (r * 256) c false) := by
      have := hB.put 1 (.int .u32 ((r : Int) * 256))
      rw [← show ((r * 256 : Nat) : Int) = (r : Int) * 256 by omega] at this ⊢
      exact this
    have hlo := hF.lo
    have K := Lib.hid (shift_any hB1 (hF.only hO (fun i hi => by omega)) hfg (by omega))
    have HO := Lib.hid hO
    have hle := hF.le
    clear hB hF hO hB1
    go_enter Tryz.func137, Tryz.ntmps137
    go_wp2_with fail
    refine K.out.mono ?_
    rintro e w1 ⟨rfl, at', c', bad', hB2, hF2, hO2, hx⟩
    have HB2 := Lib.hid hB2
    have HF2 := Lib.hid hF2
    have HO2 := Lib.hid hO2
    have HX := Lib.hid hx
    clear hB2 hF2 hO2 hx
    go_wp2_with fail
    first | go_end0 | refine bodyPost_ret (results_none rfl _ _ _) rfl ?_
    refine ⟨rfl, ⟨at', r * 256, c', bad', HB2.out, HF2.out, hfg, HF2.out.le, by omega, ?_⟩, (HO.out.mono (fun i hi => .inr hi)).trans HO2.out⟩
    rcases HX.out with ⟨rfl, rfl, h⟩ | ⟨x, rfl, rfl, h⟩
    · refine ⟨by omega, .inl ⟨rfl, ?_⟩⟩
      unfold lvl
      rw [if_pos hlow, h]
    · have := x.toNat_lt
      refine ⟨by omega, .inr ⟨rfl, ?_⟩⟩
      unfold lvl
      rw [if_pos hlow, h]
  · refine (even_high hB hlow).mono ?_
    rintro e w' ⟨rfl, rfl⟩
    refine ⟨rfl, ⟨at_, r, c, false, hB, hF, hfg, hF.le, hr, by omega, .inr ⟨rfl, ?_⟩⟩, Only.refl _ _⟩
    unfold lvl
    rw [if_neg hlow]

/-- Straight, and the decoder refused, if it must be. -/
def OnePost (w : World) (g f lo : Nat) (bs : List UInt8) (d : Dc) (e : Ending) (w' : World) : Prop :=
  ∃ v : Nat, e = .returned (.int .u32 (v : Int)) ∧ v ≤ 1 ∧ ((oneD d).2 ≠ none → v = (oneD d).1) ∧ Pd w' g f lo bs (oneD d).2 ∧ Only (two f g) w w'

set_option maxRecDepth 100000 in
set_option maxHeartbeats 1000000 in
theorem one_bad (hB : Blk w g 164 (pdCells f r c true)) :
    Calls Tryz.prog 156 #[.pointer (some ⟨g, 0, none⟩)] w fun e w' => e = .returned (.int .u32 0) ∧ w = w' := by
  have h3 : w.cell? ⟨g, 3, none⟩ = some (.bool true) := hB.cell 3
  clear hB
  go_enter Tryz.func156, Tryz.ntmps156
  go_wp2_with fail
  go_ret
  exact ⟨rfl, rfl⟩

theorem lvl_ge {h k r' k' : Nat} {s s' : List UInt8} (hl : lvl h k s = some (r', k', s')) (hk : h ≤ k) : r' ≤ k' := by
  unfold lvl at hl
  split at hl
  · split at hl
    · cases hl
    · simp only [Option.some.injEq, Prod.mk.injEq] at hl
      omega
  · simp only [Option.some.injEq, Prod.mk.injEq] at hl
    omega
theorem one_told {bs s : List UInt8} {at' r' c' h c1 : Nat} {bad' : Bool} (ht : Told bs (lvl h c1 s) at' r' c' bad') (h0 : 65536 ≤ h) (h1 : h < 4294967296) :
    Told bs (if c1 < h then lvl h c1 s else none) at' r' c' (bad' || decide (r' ≤ c')) := by
  obtain ⟨t0, t1, t2, t3⟩ := ht
  refine ⟨t0, t1, t2, ?_⟩
  rcases t3 with ⟨rfl, t3⟩ | ⟨rfl, t3⟩
  · left
    rw [t3]
    exact ⟨rfl, by split <;> rfl⟩
  · by_cases hc : c1 < h
    · right
      have := dcOk_lvl h0 h1 hc _ _ _ t3
      rw [if_pos hc]
      exact ⟨by simp; omega, t3⟩
    · left
      have := lvl_ge t3 (by omega)
      rw [if_neg hc]
      exact ⟨by simp; omega, rfl⟩

set_option maxRecDepth 100000 in
set_option maxHeartbeats 2000000 in
theorem one_low (hB : Blk w g 164 (pdCells f r c false)) (hF : Feed w f lo bs at_) (hfg : f < g) (hr0 : 16777216 ≤ r) (hr : r < 4294967296) (hc : c < r / 2) :
    Calls Tryz.prog 156 #[.pointer (some ⟨g, 0, none⟩)] w fun e w' => e = .returned (.int .u32 0) ∧ Pd w' g f lo bs (lvl (r / 2) c (bs.drop at_)) ∧ Only (two f g) w w' := by
  have h1 : w.cell? ⟨g, 1, none⟩ = some (.int .u32 (r : Int)) := hB.cell 1
  have h2 : w.cell? ⟨g, 2, none⟩ = some (.int .u32 (c : Int)) := hB.cell 2
  have h3 : w.cell? ⟨g, 3, none⟩ = some (.bool false) := hB.cell 3
  have z1 : w.frozen? ⟨g, 1, none⟩ = false := hB.free 1
  have hr2 : (r : Int) / 2 = ((r / 2 : Nat) : Int) := by omega
  have hle : r / 2 ≤ r := Nat.div_le_self _ _
  have hge : 8388608 ≤ r / 2 := by omega
  generalize r / 2 = h at *
  have e1 : IntKind.u32.wrap ((r : Int) / 2) = (h : Int) := by rw [hr2]; exact u32_of _ (by omega) (by omega)
  have hO : Only (fun i => i = g) w (w.setCell ⟨g, 1, none⟩ (.int .u32 (h : Int))) := (Only.refl (fun i => i = g) w).setCell (.inl rfl) _
  have hB1 : Blk (w.setCell ⟨g, 1, none⟩ (.int .u32 (h : Int))) g 164 (pdCells f h c false) := hB.put 1 _
  have hlo := hF.lo
  have K := Lib.hid (fun n => even_any (hB1.drewN n) ((hF.only hO (fun i hi => by omega)).drewN n) hfg (by omega) (Nat.le_of_lt hc))
  have HO := Lib.hid (fun n => hO.drewN n)
  have hlt : ¬ (c : Int) ≥ (h : Int) := by omega
  clear hB hF hO hB1 
  go_enter Tryz.func156, Tryz.ntmps156
  go_wp2_with fail
  go_quiet (fail)
  go_wp2_with fail
  refine (K.out nq).mono ?_
  rintro e w1 ⟨rfl, ⟨at', r', c', bad', hB2, hF2, _, ht⟩, hO2⟩
  have j1 : w1.drew.cell? ⟨g, 1, none⟩ = some (.int .u32 (r' : Int)) := hB2.cell 1
  have j2 : w1.drew.cell? ⟨g, 2, none⟩ = some (.int .u32 (c' : Int)) := hB2.cell 2
  have HB2 := Lib.hid (fun so => refuse_any (so := so) (show Blk w1.drew g 164 (pdCells f r' c' bad') from hB2))
  have HF2 := Lib.hid (show Feed w1.drew f lo bs at' from hF2)
  have HT := Lib.hid ht
  have HO2 := Lib.hid (((HO.out nq).mono (fun i hi => .inr hi)).trans hO2.drew : Only (two f g) w w1.drew)
  clear hB2 hF2 ht hO2 HO K h1 h2 h3 z1
  go_wp2_with fail
  go_still_tail 10, (by kernel_rfl)
  change wpList _ _ _ _ _ w1.drew
  generalize w1.drew = w2 at *
  go_wp2_with fail
  refine (HB2.out _).mono ?_
  rintro e w3 ⟨rfl, hB3, hg3⟩
  have HB3 := Lib.hid hB3
  have HG3 := Lib.hid (Only.of_grown (S := fun i => i = g) hg3 rfl)
  clear hB3 hg3
  go_wp2_with fail
  go_ret
  refine ⟨rfl, ⟨at', r', c', _, HB3.out, HF2.out.only HG3.out (fun i hi => by omega), hfg, ?_⟩, HO2.out.trans (HG3.out.mono (fun i hi => .inr hi))⟩
  have := one_told HT.out (by omega) (by omega)
  rw [if_pos hc] at this
  exact this

/-- Behind a definition, so that no walk looks into it. -/
def HighPost (w : World) (g f lo : Nat) (bs s : List UInt8) (h k : Nat) (e : Ending) (w' : World) : Prop :=
  e = .returned (.int .u32 1) ∧ Pd w' g f lo bs (if k < h then lvl h k s else none) ∧ Only (two f g) w w'

set_option maxRecDepth 100000 in
set_option maxHeartbeats 2000000 in
theorem one_high (hB : Blk w g 164 (pdCells f r c false)) (hF : Feed w f lo bs at_) (hfg : f < g) (hr0 : 16777216 ≤ r) (hr : r < 4294967296) (hcr : c < r) (hc : ¬ c < r / 2) :
    Calls Tryz.prog 156 #[.pointer (some ⟨g, 0, none⟩)] w (HighPost w g f lo bs (bs.drop at_) (r / 2) (c - r / 2)) := by
  have h1 : w.cell? ⟨g, 1, none⟩ = some (.int .u32 (r : Int)) := hB.cell 1
  have h2 : w.cell? ⟨g, 2, none⟩ = some (.int .u32 (c : Int)) := hB.cell 2
  have h3 : w.cell? ⟨g, 3, none⟩ = some (.bool false) := hB.cell 3
  have z1 : w.frozen? ⟨g, 1, none⟩ = false := hB.free 1
  have z2 : w.frozen? ⟨g, 2, none⟩ = false := hB.free 2
  have hr2 : (r : Int) / 2 = ((r / 2 : Nat) : Int) := by omega
  have hle : r / 2 ≤ r := Nat.div_le_self _ _
  have hge : 8388608 ≤ r / 2 := by omega
  have hch : c - r / 2 ≤ r / 2 := by omega
  generalize r / 2 = h at *
  have e1 : IntKind.u32.wrap ((r : Int) / 2) = (h : Int) := by rw [hr2]; exact u32_of _ (by omega) (by omega)
  have e2 : IntKind.u32.wrap ((c : Int) - (h : Int)) = ((c - h : Nat) : Int) := by rw [show (c : Int) - (h : Int) = ((c - h : Nat) : Int) by omega]; exact u32_of _ (by omega) (by omega)
  have hO : ∀ n, Only (fun i => i = g) w (((w.setCell ⟨g, 1, none⟩ (.int .u32 (h : Int))).drewN n).setCell ⟨g, 2, none⟩ (.int .u32 ((c - h : Nat) : Int))) := fun n => (((Only.refl (fun i => i = g) w).setCell (p := ⟨g, 1, none⟩) (.inl rfl) _).drewN n).setCell (p := ⟨g, 2, none⟩) (.inl rfl) _
  have hB1 : ∀ n, Blk (((w.setCell ⟨g, 1, none⟩ (.int .u32 (h : Int))).drewN n).setCell ⟨g, 2, none⟩ (.int .u32 ((c - h : Nat) : Int))) g 164 (pdCells f h (c - h) false) := fun n => ((hB.put 1 _).drewN n).put 2 _
  have hlo := hF.lo
  have K := Lib.hid (fun n => even_any (hB1 n) (hF.only (hO n) (fun i hi => by omega)) hfg (by omega) hch)
  have HO := Lib.hid hO
  have hlt : (c : Int) ≥ (h : Int) := by omega
  clear hB hF hO hB1
  go_enter Tryz.func156, Tryz.ntmps156
  go_wp2_with fail
  go_quiet (fail)
  go_wp2_with fail
  go_region
  all_goals go_wp2_with fail
  refine (K.out (nq + 1)).mono ?_
  rintro e w1 ⟨rfl, ⟨at', r', c', bad', hB2, hF2, _, ht⟩, hO2⟩
  have j1 : w1.drew.cell? ⟨g, 1, none⟩ = some (.int .u32 (r' : Int)) := hB2.cell 1
  have j2 : w1.drew.cell? ⟨g, 2, none⟩ = some (.int .u32 (c' : Int)) := hB2.cell 2
  have HB2 := Lib.hid (fun so => refuse_any (so := so) (show Blk w1.drew g 164 (pdCells f r' c' bad') from hB2))
  have HF2 := Lib.hid (show Feed w1.drew f lo bs at' from hF2)
  have HT := Lib.hid ht
  have HO2 := Lib.hid (((HO.out (nq + 1)).mono (fun i hi => .inr hi)).trans hO2.drew : Only (two f g) w w1.drew)
  clear hB2 hF2 ht hO2 HO K h1 h2 h3 z1 z2
  go_wp2_with fail
  go_still_tail 10, (by kernel_rfl)
  change wpList _ _ _ _ _ w1.drew
  generalize w1.drew = w2 at *
  go_wp2_with fail
  refine (HB2.out _).mono ?_
  rintro e w3 ⟨rfl, hB3, hg3⟩
  have HB3 := Lib.hid hB3
  have HG3 := Lib.hid (Only.of_grown (S := fun i => i = g) hg3 rfl)
  clear hB3 hg3
  go_wp2_with fail
  go_ret
  refine ⟨rfl, ⟨at', r', c', _, HB3.out, HF2.out.only HG3.out (fun i hi => by omega), hfg, ?_⟩, HO2.out.trans (HG3.out.mono (fun i hi => .inr hi))⟩
  exact one_told HT.out (by omega) (by omega)

/-- A bit told straight. -/
theorem one_any {d : Dc} (h : Pd w g f lo bs d) (hd : DcOk d) :
    Calls Tryz.prog 156 #[.pointer (some ⟨g, 0, none⟩)] w (OnePost w g f lo bs d) := by
  obtain ⟨at_, r, c, bad, hB, hF, hfg, h0, h1, h2, h3⟩ := h
  rcases h3 with ⟨rfl, rfl⟩ | ⟨rfl, rfl⟩
  · refine (one_bad hB).mono ?_
    rintro e w' ⟨rfl, rfl⟩
    exact ⟨0, rfl, by omega, fun _ => rfl, ⟨at_, r, c, true, hB, hF, hfg, h0, h1, h2, .inl ⟨rfl, rfl⟩⟩, Only.refl _ _⟩
  · obtain ⟨d0, d1, d2⟩ := hd _ _ _ rfl
    by_cases hc : c < r / 2
    · refine (one_low hB hF hfg d0 d1 hc).mono ?_
      rintro e w' ⟨rfl, k1, k2⟩
      have e1 : oneD (some (r, c, bs.drop at_)) = (0, lvl (r / 2) c (bs.drop at_)) := by unfold oneD; simp only []; rw [if_pos hc]
      refine ⟨0, rfl, by omega, fun _ => by rw [e1], ?_, k2⟩
      rw [e1]
      exact k1
    · refine (one_high hB hF hfg d0 d1 d2 hc).mono ?_
      rintro e w' ⟨rfl, k1, k2⟩
      by_cases hc2 : c - r / 2 < r / 2
      · have e1 : oneD (some (r, c, bs.drop at_)) = (1, lvl (r / 2) (c - r / 2) (bs.drop at_)) := by unfold oneD; simp only []; rw [if_neg hc, if_pos hc2]
        refine ⟨1, rfl, by omega, fun _ => by rw [e1], ?_, k2⟩
        rw [e1]
        rw [if_pos hc2] at k1
        exact k1
      · have e1 : oneD (some (r, c, bs.drop at_)) = (0, none) := by unfold oneD; simp only []; rw [if_neg hc, if_neg hc2]
        refine ⟨1, rfl, by omega, fun h => by rw [e1] at h; exact absurd rfl h, ?_, k2⟩
        rw [e1]
        rw [if_neg hc2] at k1
        exact k1
end
end Go.Proofs.YtjgdjobhhdhfjaaGreat

/-
  Probabilities in a block of their own.
-/
namespace Go.Proofs.YtjgdjobhhdhfjaaGreat
open Go.RowKit

/-- probabilities as cells -/
def pv (ps : List Nat) : List Value := ps.map fun (p : Nat) => Value.int .u16 (p : Int)
theorem pv_length (ps : List Nat) : (pv ps).length = ps.length := by simp [pv]
theorem pv_get (ps : List Nat) (i : Nat) (h : i < ps.length) : (pv ps)[i]? = some (.int .u16 ((ps.getD i 0 : Nat) : Int)) := by
  simp [pv, List.getD, h]
theorem pv_set (ps : List Nat) (i q : Nat) : (pv ps).set i (.int .u16 (q : Int)) = pv (ps.set i q) := by
  simp [pv, List.map_set]

/-- Block b holds the probabilities ps. -/
def Row (w : World) (b : Nat) (ps : List Nat) (c : Nat) : Prop := w.ownsRow 0 54 1 (.slice (some ⟨b, 0, none⟩) ps.length c) ps.length (pv ps)

section
variable {w w' : World} {b c : Nat} {ps : List Nat}
theorem Row.cell (h : Row w b ps c) {i : Nat} (hi : i < ps.length) : w.cell? ⟨b, i, none⟩ = some (.int .u16 ((ps.getD i 0 : Nat) : Int)) := by
  rw [World.ownsRow.cellAt h i (by omega), pv_get ps i hi]
theorem Row.free (h : Row w b ps c) (i : Nat) : w.frozen? ⟨b, i, none⟩ = false := World.ownsRow.frozenAt h i
theorem Row.put (h : Row w b ps c) (i q : Nat) : Row (w.setCell ⟨b, i, none⟩ (.int .u16 (q : Int))) b (ps.set i q) c := by
  have := (World.ownsRow.stored h i (.int .u16 (q : Int))).1
  rw [pv_set] at this
  unfold Row
  rw [List.length_set]
  exact this
theorem Row.drewN (h : Row w b ps c) (n : Nat) : Row (w.drewN n) b ps c := h
theorem Row.only {S : Nat → Prop} (h : Row w b ps c) (hb : Only S w w') (hS : ¬ S b) : Row w' b ps c := own_only h hb hS
theorem Row.lt (h : Row w b ps c) : b < w.heap.size := (World.ownsRow.lt h b rfl).2
theorem Row.cap (h : Row w b ps c) : ps.length ≤ c ∧ c ≤ maxLen := by
  obtain ⟨_, h2, h3, _⟩ := own_facts h
  exact ⟨h2, h3⟩
end

end Go.Proofs.YtjgdjobhhdhfjaaGreat
