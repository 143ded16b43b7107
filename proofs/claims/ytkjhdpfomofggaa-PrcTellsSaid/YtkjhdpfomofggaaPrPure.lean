/-
  Shares of a whole, coded and told, as numbers.
-/
import Derived.Test.YtkjhdpfomofggaaRcPure
namespace Go.Proofs.Ytkjhdpfomofggaa

/-- levelled: as long as the range is below 2^24 (three bytes are enough) -/
def plv3 (r c : Nat) (s : List UInt8) : Dc := ((lvl r c s).bind fun x => lvl x.1 x.2.1 x.2.2).bind fun x => lvl x.1 x.2.1 x.2.2
def En.lev3 (e : En) : En := e.even.even.even

theorem lvl_some {r c : Nat} {s : List UInt8} {r' c' : Nat} {s' : List UInt8} (h : lvl r c s = some (r', c', s')) (h1 : r < 4294967296) (h2 : c < r) : r' < 4294967296 ∧ c' < r' ∧ (16777216 ≤ r' ∨ r' = r * 256) := by
  unfold lvl at h
  split at h
  · split at h
    · cases h
    · rename_i b t
      have := b.toNat_lt
      injection h with h
      injection h with h3 h
      injection h with h4 h5
      omega
  · injection h with h
    injection h with h3 h
    injection h with h4 h5
    omega
theorem plv3_ok {r c : Nat} {s : List UInt8} (h0 : 1 ≤ r) (h1 : r < 4294967296) (h2 : c < r) : DcOk (plv3 r c s) := by
  intro r' c' s' h
  unfold plv3 at h
  cases e1 : lvl r c s with
  | none => rw [e1] at h; cases h
  | some x =>
    obtain ⟨r1, c1, s1⟩ := x
    rw [e1] at h
    obtain ⟨a1, a2, a3⟩ := lvl_some e1 h1 h2
    simp only [Option.bind_some] at h
    cases e2 : lvl r1 c1 s1 with
    | none => rw [e2] at h; cases h
    | some x =>
      obtain ⟨r2, c2, s2⟩ := x
      rw [e2] at h
      obtain ⟨b1, b2, b3⟩ := lvl_some e2 a1 a2
      simp only [Option.bind_some] at h
      obtain ⟨d1, d2, d3⟩ := lvl_some h b1 b2
      refine ⟨?_, d1, d2⟩
      have k1 : 256 ≤ r1 ∨ 16777216 ≤ r1 := by omega
      have k2 : 65536 ≤ r2 ∨ 16777216 ≤ r2 := by omega
      omega
theorem plv3_high {r c : Nat} {s : List UInt8} (h : ¬ r < 16777216) : plv3 r c s = some (r, c, s) := by
  have e : lvl r c s = some (r, c, s) := by unfold lvl; rw [if_neg h]
  unfold plv3
  rw [e, Option.bind_some, e, Option.bind_some, e]

/-- a place in a whole, and the decoder then -/
def placeD (d : Dc) (t : Nat) : Nat × Dc :=
  match d with
  | none => (0, none)
  | some (r, c, s) => if c / (r / t) < t then (c / (r / t), some (r / t, c, s)) else (0, none)
/-- a share is taken -/
def takeD (d : Dc) (a z : Nat) : Dc :=
  match d with
  | none => none
  | some (r, c, s) => plv3 (r * z) (c - a * r) s
/-- a bit is told -/
def shareBit (d : Dc) (z t : Nat) : Nat × Dc :=
  match d with
  | none => (0, none)
  | some (r, c, s) =>
    if c < r / 2 ^ t * z then ((if plv3 (r / 2 ^ t * z) c s = none then 0 else 0), plv3 (r / 2 ^ t * z) c s)
    else ((if plv3 (r - r / 2 ^ t * z) (c - r / 2 ^ t * z) s = none then 0 else 1), plv3 (r - r / 2 ^ t * z) (c - r / 2 ^ t * z) s)
theorem placeD_none (t : Nat) : placeD none t = (0, none) := rfl
theorem takeD_none (a z : Nat) : takeD none a z = none := rfl
theorem shareBit_none (z t : Nat) : shareBit none z t = (0, none) := rfl

/-- the decoder that a place p in a whole t was told of -/
def DcMid (d : Dc) (t p : Nat) : Prop := ∀ r c s, d = some (r, c, s) → 1 ≤ r ∧ r * t < 4294967296 ∧ p * r ≤ c ∧ c < (p + 1) * r
theorem placeD_mid {d : Dc} {t : Nat} (h : DcOk d) (h1 : 1 ≤ t) (h2 : t ≤ 1048576) : (placeD d t).1 < t ∧ DcMid (placeD d t).2 t (placeD d t).1 ∧ ((placeD d t).2 = none → (placeD d t).1 = 0) := by
  unfold placeD
  split
  · exact ⟨h1, fun _ _ _ h => (by cases h), fun _ => rfl⟩
  · rename_i r c s
    obtain ⟨a1, a2, a3⟩ := h r c s rfl
    have hr : 16 ≤ r / t := by
      have : 16 * t ≤ r := by omega
      exact (Nat.le_div_iff_mul_le (by omega)).2 this
    split
    · rename_i hlt
      refine ⟨hlt, ?_, fun h => (by cases h)⟩
      intro r' c' s' he
      injection he with he
      injection he with e1 he
      injection he with e2 e3
      subst e1 e2
      refine ⟨by omega, Nat.lt_of_le_of_lt (Nat.div_mul_le_self r t) a2, Nat.div_mul_le_self c _, ?_⟩
      show c < (c / (r / t) + 1) * (r / t)
      rw [Nat.add_mul, Nat.one_mul]
      have := Nat.div_add_mod c (r / t)
      have hm := Nat.mod_lt c (show r / t > 0 by omega)
      rw [Nat.mul_comm] at this
      omega
    · exact ⟨h1, fun _ _ _ h => (by cases h), fun _ => rfl⟩
theorem takeD_in {r c a z t p : Nat} (h1 : 1 ≤ r) (h2 : r * t < 4294967296) (h3 : p * r ≤ c) (h4 : c < (p + 1) * r) (ha : a ≤ p) (hz : p < a + z) (hs : a + z ≤ t) : a * r ≤ c ∧ c - a * r < r * z ∧ r * z < 4294967296 ∧ 1 ≤ r * z := by
  have k1 : a * r ≤ p * r := Nat.mul_le_mul_right r ha
  have k2 : (p + 1) * r ≤ (a + z) * r := Nat.mul_le_mul_right r hz
  have k3 : r * z ≤ r * t := Nat.mul_le_mul_left r (by omega)
  have k4 : r * 1 ≤ r * z := Nat.mul_le_mul_left r (by omega)
  have k5 := Nat.add_mul a z r
  have k6 := Nat.mul_comm z r
  omega
theorem takeD_ok {d : Dc} {t p a z : Nat} (h : DcMid d t p) (ha : a ≤ p) (hz : p < a + z) (hs : a + z ≤ t) : DcOk (takeD d a z) := by
  unfold takeD
  split
  · exact dcOk_none
  · rename_i r c s
    obtain ⟨h1, h2, h3, h4⟩ := h r c s rfl
    obtain ⟨k1, k2, k3, k4⟩ := takeD_in h1 h2 h3 h4 ha hz hs
    exact plv3_ok k4 k3 k2
theorem share_bound {r z t : Nat} (h0 : 16777216 ≤ r) (h1 : t ≤ 16) (h2 : 1 ≤ z) (h3 : z < 2 ^ t) : 256 ≤ r / 2 ^ t * z ∧ r / 2 ^ t * z + 256 ≤ r := by
  have hp : 2 ^ t ≤ 2 ^ 16 := Nat.pow_le_pow_right (by omega) h1
  have hr : 256 ≤ r / 2 ^ t := (Nat.le_div_iff_mul_le (Nat.two_pow_pos t)).2 (by omega)
  have k1 : r / 2 ^ t * 1 ≤ r / 2 ^ t * z := Nat.mul_le_mul_left _ h2
  have k2 : r / 2 ^ t * (z + 1) ≤ r / 2 ^ t * 2 ^ t := Nat.mul_le_mul_left _ h3
  have k3 := Nat.div_mul_le_self r (2 ^ t)
  rw [Nat.mul_add] at k2
  omega
theorem shareBit_ok {d : Dc} {z t : Nat} (h : DcOk d) (h1 : t ≤ 16) (h2 : 1 ≤ z) (h3 : z < 2 ^ t) : (shareBit d z t).1 ≤ 1 ∧ DcOk (shareBit d z t).2 := by
  unfold shareBit
  split
  · exact ⟨by simp, dcOk_none⟩
  · rename_i r c s
    obtain ⟨a1, a2, a3⟩ := h r c s rfl
    obtain ⟨b1, b2⟩ := share_bound a1 h1 h2 h3
    split
    · rename_i hc
      exact ⟨by simp, plv3_ok (by omega) (by omega) hc⟩
    · refine ⟨?_, plv3_ok (by omega) (by omega) (by omega)⟩
      show (if _ then 0 else 1) ≤ 1
      split <;> omega

/-! ### coded -/

/-- a share: its kind, start, size, total -/
structure Shr where
  k : Int
  s : Int
  z : Int
  t : Int
instance : Inhabited Shr := ⟨⟨0, 0, 0, 0⟩⟩
def RightS (h : Shr) : Prop := (h.k = 0 ∧ 0 ≤ h.s ∧ 1 ≤ h.z ∧ h.s + h.z ≤ h.t ∧ h.t ≤ 1048576) ∨ (h.k = 1 ∧ 0 ≤ h.s ∧ h.s ≤ 1 ∧ 1 ≤ h.t ∧ h.t ≤ 16 ∧ 1 ≤ h.z ∧ h.z < 2 ^ h.t.toNat)
/-- the same, as natural numbers -/
def RightN (k s z t : Nat) : Prop := (k = 0 ∧ 1 ≤ z ∧ s + z ≤ t ∧ t ≤ 1048576) ∨ (k = 1 ∧ s ≤ 1 ∧ 1 ≤ t ∧ t ≤ 16 ∧ 1 ≤ z ∧ z < 2 ^ t)

theorem pow2_int (t : Nat) : ((2 : Int) ^ t) = ((2 ^ t : Nat) : Int) := by rw [Int.natCast_pow]; rfl
theorem rightN_of {h : Shr} (hr : RightS h) : RightN h.k.toNat h.s.toNat h.z.toNat h.t.toNat := by
  unfold RightN
  rcases hr with ⟨h1, h2, h3, h4, h5⟩ | ⟨h1, h2, h3, h4, h5, h6, h7⟩
  · left; omega
  · right
    rw [pow2_int] at h7
    generalize 2 ^ h.t.toNat = P at *
    omega

theorem lev3_reach (e : En) : Reach e e.lev3 := ((reach_even e).trans (reach_even _)).trans (reach_even _)
theorem even_grow (e : En) : e.even.r < 4294967296 ∨ e.even.r = e.r := by
  unfold En.even
  split
  · left; show e.r * 256 < _; omega
  · right; rfl
theorem lev3_ok {e : En} (h : EnIn e) (h0 : 1 ≤ e.r) (h1 : e.r < 4294967296) : EnOk e.lev3 := by
  have st : ∀ e : En, e.r < 4294967296 → 1 ≤ e.r → e.even.r < 4294967296 ∧ 1 ≤ e.even.r ∧ (16777216 ≤ e.even.r ∨ e.even.r = e.r * 256) := by
    intro e h1 h0
    unfold En.even
    split
    · show e.r * 256 < _ ∧ 1 ≤ e.r * 256 ∧ (_ ∨ e.r * 256 = e.r * 256)
      omega
    · omega
  obtain ⟨a1, a2, a3⟩ := st e h1 h0
  obtain ⟨b1, b2, b3⟩ := st e.even a1 a2
  obtain ⟨c1, c2, c3⟩ := st e.even.even b1 b2
  refine ⟨?_, c1, enIn_even (enIn_even (enIn_even h))⟩
  show 16777216 ≤ e.even.even.even.r
  omega
theorem lev3_len (e : En) : e.lev3.l ≤ e.l + 3 := by
  have h1 := even_len e
  have h2 := even_len e.even
  have h3 := even_len e.even.even
  show e.even.even.even.l ≤ _
  omega

def putE (e : En) (k s z t : Nat) : En :=
  if k = 0 then En.lev3 ⟨e.n + s * (e.r / t), e.l, e.r / t * z⟩
  else if s = 0 then En.lev3 ⟨e.n, e.l, e.r / 2 ^ t * z⟩ else En.lev3 ⟨e.n + e.r / 2 ^ t * z, e.l, e.r - e.r / 2 ^ t * z⟩
theorem share_in {r s z t : Nat} (h0 : 16777216 ≤ r) (hz : 1 ≤ z) (hs : s + z ≤ t) (ht : t ≤ 1048576) : 16 ≤ r / t ∧ 16 ≤ r / t * z ∧ s * (r / t) + r / t * z ≤ r := by
  have hr : 16 ≤ r / t := (Nat.le_div_iff_mul_le (by omega)).2 (by omega)
  have k1 : r / t * 1 ≤ r / t * z := Nat.mul_le_mul_left _ hz
  have k2 : (s + z) * (r / t) ≤ t * (r / t) := Nat.mul_le_mul_right _ hs
  have k3 := Nat.mul_div_le r t
  rw [Nat.add_mul, Nat.mul_comm z] at k2
  omega
theorem putE_ok {e : En} {k s z t : Nat} (he : EnOk e) (h : RightN k s z t) : EnOk (putE e k s z t) ∧ Reach e (putE e k s z t) ∧ (putE e k s z t).l ≤ e.l + 3 := by
  obtain ⟨e0, e1, e2, e3⟩ := he
  unfold putE
  rcases h with ⟨rfl, hz, hs, ht⟩ | ⟨rfl, hs, t1, t2, hz, hz2⟩
  · rw [if_pos rfl]
    obtain ⟨a1, a2, a3⟩ := share_in e0 hz hs ht
    refine ⟨lev3_ok ⟨e2, ?_⟩ (by show 1 ≤ e.r / t * z; omega) (by show e.r / t * z < _; omega), (reach_high (by omega)).trans (lev3_reach _), lev3_len _⟩
    show e.n + s * (e.r / t) + e.r / t * z ≤ 4294967295 * 256 ^ (e.l - 5)
    omega
  · rw [if_neg (by omega)]
    obtain ⟨b1, b2⟩ := share_bound e0 t2 hz hz2
    by_cases hs0 : s = 0
    · rw [if_pos hs0]
      refine ⟨lev3_ok ⟨e2, ?_⟩ (by show 1 ≤ e.r / 2 ^ t * z; omega) (by show e.r / 2 ^ t * z < _; omega), (reach_low (by omega)).trans (lev3_reach _), lev3_len _⟩
      show e.n + e.r / 2 ^ t * z ≤ 4294967295 * 256 ^ (e.l - 5)
      omega
    · rw [if_neg hs0]
      refine ⟨lev3_ok ⟨e2, ?_⟩ (by show 1 ≤ e.r - e.r / 2 ^ t * z; omega) (by show e.r - e.r / 2 ^ t * z < _; omega), (reach_high (by omega)).trans (lev3_reach _), lev3_len _⟩
      show e.n + e.r / 2 ^ t * z + (e.r - e.r / 2 ^ t * z) ≤ 4294967295 * 256 ^ (e.l - 5)
      omega

section
variable {bs more : List UInt8} {f : En}
theorem lev3_dec {e : En} (hf : Ends bs f) (h : Reach e.lev3 f) : plv3 e.r (be (bs.take e.l) - e.n) (bs.drop e.l ++ more) = decAt bs more e.lev3 := by
  have h2 : Reach e.even.even f := (reach_even _).trans h
  have h1 : Reach e.even f := (reach_even _).trans h2
  unfold plv3
  rw [even_dec (more := more) hf h1]
  show (lvl e.even.r (be (bs.take e.even.l) - e.even.n) (bs.drop e.even.l ++ more)).bind _ = _
  rw [even_dec (more := more) hf h2]
  show lvl e.even.even.r (be (bs.take e.even.even.l) - e.even.even.n) (bs.drop e.even.even.l ++ more) = _
  exact even_dec (more := more) hf h

/-- A share that was put is told: its place lies in it, and behind it the decoder has come as far as the coder. -/
theorem share_dec {e : En} {s z t : Nat} (hf : Ends bs f) (he : EnOk e) (hz : 1 ≤ z) (hs : s + z ≤ t) (ht : t ≤ 1048576) (h : Reach (putE e 0 s z t) f) :
    s ≤ (placeD (decAt bs more e) t).1 ∧ (placeD (decAt bs more e) t).1 < s + z ∧ takeD (placeD (decAt bs more e) t).2 s z = decAt bs more (putE e 0 s z t) := by
  obtain ⟨a1, a2, a3⟩ := share_in he.1 hz hs ht
  have hput : putE e 0 s z t = En.lev3 ⟨e.n + s * (e.r / t), e.l, e.r / t * z⟩ := by unfold putE; rw [if_pos rfl]
  rw [hput] at h ⊢
  obtain ⟨t1, t2, t3⟩ := between hf ((lev3_reach _).trans h)
  simp only [] at t1 t2 t3
  have hl := lev3_dec (more := more) hf h
  simp only [] at hl
  unfold placeD decAt
  simp only []
  have hp1 : s ≤ (be (bs.take e.l) - e.n) / (e.r / t) := (Nat.le_div_iff_mul_le (by omega)).2 (by omega)
  have hp2 : (be (bs.take e.l) - e.n) / (e.r / t) < s + z := by
    refine (Nat.div_lt_iff_lt_mul (by omega)).2 ?_
    rw [Nat.add_mul, Nat.mul_comm z]
    omega
  rw [if_pos (by omega)]
  refine ⟨hp1, hp2, ?_⟩
  show plv3 (e.r / t * z) (be (bs.take e.l) - e.n - s * (e.r / t)) (bs.drop e.l ++ more) = _
  rw [Nat.sub_sub, hl]
  rfl
theorem bitS_dec {e : En} {s z t : Nat} (hf : Ends bs f) (he : EnOk e) (hs : s ≤ 1) (ht : t ≤ 16) (hz : 1 ≤ z) (hz2 : z < 2 ^ t) (h : Reach (putE e 1 s z t) f) :
    shareBit (decAt bs more e) z t = (s, decAt bs more (putE e 1 s z t)) := by
  obtain ⟨b1, b2⟩ := share_bound he.1 ht hz hz2
  unfold putE at h ⊢
  rw [if_neg (by omega)] at h ⊢
  unfold shareBit
  by_cases hs0 : s = 0
  · subst hs0
    rw [if_pos rfl] at h ⊢
    obtain ⟨t1, t2, t3⟩ := between hf ((lev3_reach _).trans h)
    simp only [] at t1 t2 t3
    have hl := lev3_dec (more := more) hf h
    simp only [] at hl
    show (if be (bs.take e.l) - e.n < e.r / 2 ^ t * z then _ else _) = _
    rw [if_pos (by omega), hl]
    simp
  · obtain rfl : s = 1 := by omega
    rw [if_neg hs0] at h ⊢
    obtain ⟨t1, t2, t3⟩ := between hf ((lev3_reach _).trans h)
    simp only [] at t1 t2 t3
    have hl := lev3_dec (more := more) hf h
    simp only [] at hl
    show (if be (bs.take e.l) - e.n < e.r / 2 ^ t * z then _ else _) = _
    rw [if_neg (by omega), Nat.sub_sub, hl, if_neg (decAt_some _ _ _)]
end

/-! ### a list of shares -/

open Classical
/-- the coder behind the first j shares -/
noncomputable def codS (hs : Nat → Shr) : Nat → En
  | 0 => En.new
  | j + 1 => if RightS (hs j) then putE (codS hs j) (hs j).k.toNat (hs j).s.toNat (hs j).z.toNat (hs j).t.toNat else codS hs j
section
variable {hs : Nat → Shr}
theorem codS_yes {j : Nat} (h : RightS (hs j)) : codS hs (j + 1) = putE (codS hs j) (hs j).k.toNat (hs j).s.toNat (hs j).z.toNat (hs j).t.toNat := by
  show (if _ then _ else _) = _
  rw [if_pos h]
theorem codS_no {j : Nat} (h : ¬ RightS (hs j)) : codS hs (j + 1) = codS hs j := by
  show (if _ then _ else _) = _
  rw [if_neg h]
theorem codS_ok : ∀ j, EnOk (codS hs j) ∧ (codS hs j).l ≤ 5 + 3 * j
  | 0 => ⟨enOk_new, Nat.le_refl _⟩
  | j + 1 => by
    obtain ⟨h1, h2⟩ := codS_ok j
    by_cases h : RightS (hs j)
    · rw [codS_yes h]
      obtain ⟨k1, _, k3⟩ := putE_ok h1 (rightN_of h)
      exact ⟨k1, by omega⟩
    · rw [codS_no h]
      exact ⟨h1, by omega⟩
theorem codS_step (j : Nat) : Reach (codS hs j) (codS hs (j + 1)) := by
  obtain ⟨h1, _⟩ := codS_ok (hs := hs) j
  by_cases h : RightS (hs j)
  · rw [codS_yes h]
    exact (putE_ok h1 (rightN_of h)).2.1
  · rw [codS_no h]
    exact Reach.refl _
theorem codS_reach (i : Nat) : ∀ j, Reach (codS hs i) (codS hs (i + j))
  | 0 => Reach.refl _
  | j + 1 => (codS_reach i j).trans (codS_step (i + j))
theorem codS_reach' {i j : Nat} (h : i ≤ j) : Reach (codS hs i) (codS hs j) := by
  have := codS_reach (hs := hs) i (j - i)
  rwa [show i + (j - i) = j by omega] at this
theorem codS_first (j : Nat) : Reach En.new (codS hs j) := by
  have := codS_reach (hs := hs) 0 j
  rwa [Nat.zero_add] at this
end
end Go.Proofs.Ytkjhdpfomofggaa
