/-
  LzNum: put together.
-/
import Derived.Test.YtoencondpbkomaaGreatDoorT07
set_option linter.unusedVariables false
set_option linter.unusedSimpArgs false
/-
  The packets of LZMA as numbers: a packet whole, a stream, its bounds.
-/
namespace Go.Proofs.YtoencondpbkomaaGreatDoor

section
variable {σ : Type} {M : Mach σ} {ok : Nat → σ → Prop} {t : Pm σ} {z : Lzs}
theorem want_byte (v : UInt8) (i : Nat) : ∃ b : Nat, want (v.toNat : Int) i = (b : Int) ∧ b ≤ 1 := ⟨bitOf v.toNat i, want_nat _ _, bitOf_le _ _⟩
theorem lgStep_ok (Z : MachOk M ok) {L k a j : Nat} {y b : Nat} {s : Lg σ} (ht : PmOk ok L (k + 1) s.t) (ha : a + 768 ≤ L) (h0 : s.m < 2 ^ (j + 1)) (hj : j < 8) (hy : y ≤ 1) (hb : b ≤ 1) :
    PmOk ok L k (lgStep M a (y : Int) (b : Int) s).t ∧ 2 * s.m ≤ (lgStep M a (y : Int) (b : Int) s).m ∧ (lgStep M a (y : Int) (b : Int) s).m ≤ 2 * s.m + 1 := by
  have hp : 2 ^ (j + 1) ≤ 256 := Nat.le_trans (Nat.pow_le_pow_right (by omega) (show j + 1 ≤ 8 by omega)) (by decide)
  have hm : M.may (b : Int) := fun _ => by omega
  unfold lgStep
  split
  · obtain ⟨h1, h2⟩ := bitP_ok Z ht (a := a + 256 * (1 + (y : Int).toNat) + s.m) (by rw [Int.toNat_natCast]; omega) hm
    exact ⟨h2, Nat.le_add_right _ _, by show 2 * s.m + _ ≤ _; omega⟩
  · obtain ⟨h1, h2⟩ := bitP_ok Z ht (a := a + s.m) (by omega) hm
    exact ⟨h2, Nat.le_add_right _ _, by show 2 * s.m + _ ≤ _; omega⟩
theorem litG_ok (Z : MachOk M ok) {L k a : Nat} {o v : UInt8} {same : Bool} (ht : PmOk ok L (k + 8) t) (ha : a + 768 ≤ L) :
    ∀ j, j ≤ 8 → PmOk ok L (k + 8 - j) (litG M t a o v same j).t ∧ 2 ^ j ≤ (litG M t a o v same j).m ∧ (litG M t a o v same j).m < 2 ^ (j + 1)
  | 0, _ => ⟨ht, Nat.le_refl _, by show 1 < 2 ^ 1; decide⟩
  | j + 1, hj => by
    obtain ⟨h1, h2, h3⟩ := litG_ok Z ht ha j (by omega)
    obtain ⟨y, hy, hy1⟩ := want_byte o (7 - j)
    obtain ⟨b, hb, hb1⟩ := want_byte v (7 - j)
    show PmOk ok L _ (lgStep M a (want (o.toNat : Int) (7 - j)) (want (v.toNat : Int) (7 - j)) _).t ∧ _ ≤ (lgStep M a _ _ _).m ∧ (lgStep M a _ _ _).m < _
    rw [hy, hb]
    obtain ⟨k1, k2, k3⟩ := lgStep_ok Z (k := k + 8 - (j + 1)) (a := a) (j := j) (by rw [show k + 8 - (j + 1) + 1 = k + 8 - j by omega]; exact h1) ha h3 (by omega) hy1 hb1
    refine ⟨k1, ?_, ?_⟩
    · rw [Nat.pow_succ]; omega
    · rw [Nat.pow_succ 2 (j + 1)]; omega
/-- settings that may be, and what else keeps the numbers small -/
structure ZFine (z : Lzs) (L : Nat) : Prop where
  lc : z.lc ≤ 8
  lp : z.lp ≤ 4
  pb : z.pb ≤ 4
  dict : z.dict < 4294967296
  out : z.out.length ≤ 1000000
  st : z.st ≤ 11
  r0 : z.r0 < 4294967296
  r1 : z.r1 < 4294967296
  r2 : z.r2 < 4294967296
  r3 : z.r3 < 4294967296
  len : L = 1847 + 768 * 2 ^ (z.lc + z.lp)
theorem pow_le_of {n m : Nat} (h : n ≤ m) : 2 ^ n ≤ 2 ^ m := Nat.pow_le_pow_right (by omega) h
theorem ZFine.small {L : Nat} (h : ZFine z L) : L ≤ 100000000 ∧ litAt z + 768 ≤ L := by
  have hL := h.len
  have h1 : 2 ^ (z.lc + z.lp) ≤ 2 ^ 12 := pow_le_of (by have := h.lc; have := h.lp; omega)
  refine ⟨by omega, ?_⟩
  unfold litAt
  have h2 : z.out.length % 2 ^ z.lp + 1 ≤ 2 ^ z.lp := Nat.mod_lt _ (Nat.two_pow_pos _)
  have h3 : (z.out.length % 2 ^ z.lp + 1) * 2 ^ z.lc ≤ 2 ^ z.lp * 2 ^ z.lc := Nat.mul_le_mul_right _ h2
  rw [← Nat.pow_add, Nat.add_mul, Nat.one_mul, Nat.add_comm z.lp] at h3
  have h4 : (z.back 0).toNat / 2 ^ (8 - z.lc) + 1 ≤ 2 ^ z.lc := by
    have hb := (z.back 0).toNat_lt
    have : (z.back 0).toNat < 2 ^ (8 - z.lc) * 2 ^ z.lc := by
      rw [← Nat.pow_add, show 8 - z.lc + z.lc = 8 by have := h.lc; omega]; exact hb
    exact (Nat.div_lt_iff_lt_mul (Nat.two_pow_pos _)).2 (by rw [Nat.mul_comm]; exact this)
  omega
theorem slotGo_spec : ∀ (f x c : Nat), x < 2 ^ (f + 2) → ∃ m, slotGo f (x, c) = (x / 2 ^ m, c + m) ∧ x / 2 ^ m < 4 ∧ (m = 0 ∨ 2 ≤ x / 2 ^ m) ∧ m ≤ f
  | 0, x, c, h => ⟨0, by simp [slotGo], by simpa using h, .inl rfl, Nat.le_refl _⟩
  | f + 1, x, c, h => by
    by_cases h4 : 4 ≤ x
    · obtain ⟨m, h1, h2, h3, h5⟩ := slotGo_spec f (x / 2) (c + 1) (by rw [show f + 1 + 2 = (f + 2) + 1 by omega, Nat.pow_succ] at h; omega)
      have hd : x / 2 / 2 ^ m = x / 2 ^ (m + 1) := by rw [Nat.div_div_eq_div_mul, Nat.pow_succ, Nat.mul_comm]
      rw [hd] at h1 h2 h3
      refine ⟨m + 1, ?_, h2, .inr ?_, by omega⟩
      · show (if 4 ≤ x then slotGo f (x / 2, c + 1) else (x, c)) = _
        rw [if_pos h4, h1, show c + 1 + m = c + (m + 1) by omega]
      · rcases h3 with h3 | h3
        · subst h3
          show 2 ≤ x / 2 ^ 1
          omega
        · exact h3
    · refine ⟨0, ?_, by simp; omega, .inl rfl, Nat.zero_le _⟩
      show (if 4 ≤ x then slotGo f (x / 2, c + 1) else (x, c)) = _
      rw [if_neg h4]
      simp
/-- what a slot leaves: the base, and how many bits -/
theorem slot_spec {v : Nat} (hv : v < 4294967296) : slotOf v < 64 ∧ (slotOf v < 4 → v = slotOf v) ∧
    (4 ≤ slotOf v → (2 + slotOf v % 2) * 2 ^ (slotOf v / 2 - 1) ≤ v ∧ v < (2 + slotOf v % 2) * 2 ^ (slotOf v / 2 - 1) + 2 ^ (slotOf v / 2 - 1)) := by
  obtain ⟨m, h1, h2, h3, h4⟩ := slotGo_spec 32 v 0 (by omega)
  have hs : slotOf v = 2 * m + v / 2 ^ m := by unfold slotOf; rw [h1]; simp
  have hm : m ≤ 30 := by
    rcases h3 with h | h
    · omega
    · have h5 := Nat.mul_le_of_le_div _ _ _ h
      rcases Nat.lt_or_ge m 31 with h6 | h6
      · omega
      · have := pow_le_of h6
        omega
  refine ⟨by omega, fun h => ?_, fun h => ?_⟩
  · rcases h3 with h0 | h0
    · subst h0; simp at hs; omega
    · obtain rfl : m = 0 := by omega
      simp at hs; omega
  · have hm1 : 1 ≤ m := by
      rcases Nat.eq_zero_or_pos m with h0 | h0
      · subst h0; simp at hs h2; omega
      · exact h0
    have ht : 2 ≤ v / 2 ^ m := by rcases h3 with h0 | h0; omega; exact h0
    have e1 : slotOf v / 2 - 1 = m := by omega
    have e2 : 2 + slotOf v % 2 = v / 2 ^ m := by omega
    rw [e1, e2]
    have hp := Nat.two_pow_pos m
    have h5 := Nat.div_mul_le_self v (2 ^ m)
    have h6 := Nat.div_add_mod v (2 ^ m)
    have h7 := Nat.mod_lt v hp
    rw [Nat.mul_comm] at h6
    omega
/-- a coder tells what is wanted -/
theorem tree_tell {M : Mach σ} {ok : Nat → σ → Prop} (h : MachOk M ok) (he : M.enc = true) {t : Pm σ} {a n v : Nat} : ∀ j, j ≤ n → (treeG M t a n (v : Int) j).m = 2 ^ j + v % 2 ^ n / 2 ^ (n - j)
  | 0, _ => by
    rw [Nat.sub_zero, Nat.div_eq_of_lt (Nat.mod_lt _ (Nat.two_pow_pos n))]
    rfl
  | j + 1, hj => by
    have ih := tree_tell h he (t := t) (a := a) (n := n) (v := v) j (by omega)
    show 2 * (treeG M t a n (v : Int) j).m + (bitP M _ _ (want (v : Int) (n - 1 - j))).1 = _
    have hb : (bitP M (treeG M t a n (v : Int) j).t (a + (treeG M t a n (v : Int) j).m) (want (v : Int) (n - 1 - j))).1 = bitOf v (n - 1 - j) := by
      rw [want_nat]
      exact (h.tell he).trans (Int.toNat_natCast _)
    rw [hb, ih, Nat.pow_succ, ← top_bits v n j (by omega)]
    omega
theorem treeP_tell {M : Mach σ} {ok : Nat → σ → Prop} (h : MachOk M ok) (he : M.enc = true) {t : Pm σ} {a n v : Nat} (hv : v < 2 ^ n) : (treeP M t a n (v : Int)).1 = v := by
  show (treeG M t a n (v : Int) n).m - 2 ^ n = v
  rw [tree_tell h he n (Nat.le_refl n), Nat.sub_self, Nat.pow_zero, Nat.div_one, Nat.mod_eq_of_lt hv]
  omega
end


theorem special_in : ∀ s : Fin 14, 4 ≤ s.val → (2 + s.val % 2) * 2 ^ (s.val / 2 - 1) + 2 ^ (s.val / 2 - 1) ≤ 115 + s.val ∧ s.val ≤ 688 ∧ s.val / 2 - 1 ≤ 5 := by decide +kernel

/-- a packet that is wanted -/
structure Pk where
  kind : Int
  dist : Nat
  len : Int
  byte : UInt8

def Lzs.push (z : Lzs) (b : UInt8) : Lzs := { z with out := z.out ++ [b] }
/-- bytes at the first distance, one behind the other: how many, and the state then -/
def copyG : Nat → Nat → Lzs → Nat × Lzs
  | 0, n, z => (n, z)
  | f + 1, n, z => if z.has z.r0 = true then copyG f (n + 1) (z.push (z.back z.r0)) else (n, { z with bad := true })
theorem copyG_go {f n : Nat} {z : Lzs} (h : z.has z.r0 = true) : copyG (f + 1) n z = copyG f (n + 1) (z.push (z.back z.r0)) := if_pos h
theorem copyG_stop {f n : Nat} {z : Lzs} (h : ¬ z.has z.r0 = true) : copyG (f + 1) n z = (n, { z with bad := true }) := if_neg h

def aft (a b s : Nat) : Nat := if s < 7 then a else b
def Lzs.rep (z : Lzs) (j : Nat) : Nat := if j = 0 then z.r0 else if j = 1 then z.r1 else if j = 2 then z.r2 else z.r3
/-- the distances where the one with the number j is used again -/
def Lzs.again (z : Lzs) (j : Nat) : Lzs := { z with r0 := z.rep j, r1 := if j = 0 then z.r1 else z.r0, r2 := if j ≤ 1 then z.r2 else z.r1, r3 := if j ≤ 2 then z.r3 else z.r2 }

section
variable {σ : Type} (M : Mach σ)

/-- behind the numbers of a packet: the bytes -/
def tailP (many : Nat) (z : Lzs) (t : Pm σ) : Nat × Lzs × Pm σ :=
  if (z.bad || M.bad t.x || z.ended) = true then (0, { z with bad := z.bad || M.bad t.x }, t)
  else ((copyG many 0 z).1, (copyG many 0 z).2, t)
def packL (b : Nat × Pm σ) (z : Lzs) : Nat × Lzs × Pm σ :=
  if M.bad b.2.x = true then (0, { z with st := litSt z.st, bad := true }, b.2) else (1, { z with st := litSt z.st }.push (UInt8.ofNat b.1), b.2)
def packD (l : Nat) (b : Nat × Pm σ) (z : Lzs) : Nat × Lzs × Pm σ := tailP M (l + 2) { z with r0 := b.1, ended := decide (b.1 = 4294967295) && !M.bad b.2.x } b.2
def packM (b : Nat × Pm σ) (z : Lzs) (want : Nat) : Nat × Lzs × Pm σ :=
  packD M b.1 (distP M b.2 b.1 want) { z with r0 := 0, r1 := z.r0, r2 := z.r1, r3 := z.r2, st := aft 7 10 z.st }
def packR (b : Nat × Pm σ) (z : Lzs) (j : Nat) : Nat × Lzs × Pm σ := tailP M (b.1 + 2) { z.again j with st := aft 8 11 z.st } b.2
def packK (kb : Nat × Bool × Pm σ) (z : Lzs) (s : Nat) (p : Pk) : Nat × Lzs × Pm σ :=
  if kb.1 = 0 then packL M (litP M { z with bad := z.bad || kb.2.1 } kb.2.2 p.byte) { z with bad := z.bad || kb.2.1 }
  else if kb.1 = 1 then packM M (lenP M kb.2.2 819 s (if p.kind = 7 then 0 else p.len - 2)) { z with bad := z.bad || kb.2.1 } (if p.kind = 7 then 4294967295 else p.dist)
  else if kb.1 = 6 then tailP M 1 { z with bad := z.bad || kb.2.1, st := aft 9 11 z.st } kb.2.2
  else packR M (lenP M kb.2.2 1333 s (p.len - 2)) { z with bad := z.bad || kb.2.1 } (kb.1 - 2)
def packP (z : Lzs) (t : Pm σ) (p : Pk) : Nat × Lzs × Pm σ :=
  packK M (kindP M t (decide (z.out.length = 0)) z.st (z.out.length % 2 ^ z.pb) p.kind) z (z.out.length % 2 ^ z.pb) p

end

section
variable {σ : Type} {M : Mach σ} {ok : Nat → σ → Prop}

theorem distP_ok (h : MachOk M ok) {L k l v : Nat} {t : Pm σ} (ht : PmOk ok L (k + 12) t) (hL0 : 1847 ≤ L) (hv : v < 4294967296) : (distP M t l v).1 < 4294967296 ∧ PmOk ok L k (distP M t l v).2 := by
  obtain ⟨s1, s2, s3⟩ := slot_spec hv
  obtain ⟨a, ha⟩ : ∃ a, a = 432 + 64 * min l 3 := ⟨_, rfl⟩
  have hmv : M.mayN ((slotOf v : Nat) : Int) := fun _ => by omega
  have hT := treeP_ok h (k := k + 6) (n := 6) (a := a) (v := ((slotOf v : Nat) : Int)) (t := t) ht (by show a + 64 ≤ L; omega) hmv
  have htell : M.enc = true → (treeP M t a 6 ((slotOf v : Nat) : Int)).1 = slotOf v := fun he => treeP_tell h he s1
  have hdef : distP M t l v = distB M (treeP M t a 6 ((slotOf v : Nat) : Int)) v := by rw [ha]; rfl
  rw [hdef]
  obtain ⟨sl, hsl⟩ : ∃ sl, sl = treeP M t a 6 ((slotOf v : Nat) : Int) := ⟨_, rfl⟩
  rw [← hsl] at hT htell ⊢
  have hs64 : sl.1 < 64 := hT.1
  have hp1 := hT.2
  unfold distB
  by_cases h4 : sl.1 < 4
  · rw [if_pos h4]
    exact ⟨by omega, hp1.mono h (by omega)⟩
  rw [if_neg h4]
  obtain ⟨n, hn⟩ : ∃ n, n = sl.1 / 2 - 1 := ⟨_, rfl⟩
  obtain ⟨r, hr⟩ : ∃ r, r = sl.1 % 2 := ⟨_, rfl⟩
  obtain ⟨P, hP⟩ : ∃ P, P = 2 ^ n := ⟨_, rfl⟩
  obtain ⟨base, hb⟩ : ∃ b, b = (2 + r) * P := ⟨_, rfl⟩
  have hn30 : n ≤ 30 := by omega
  have hP30 : P ≤ 2 ^ 30 := by rw [hP]; exact pow_le_of hn30
  have hb3 : base ≤ 3 * P := by rw [hb]; exact Nat.mul_le_mul_right P (by omega)
  have hspec : M.enc = true → base ≤ v ∧ v < base + P := fun he => by
    have h1 := htell he
    have h2 := s3 (by omega)
    rw [← h1, ← hn, ← hr, ← hP, ← hb] at h2
    exact h2
  by_cases h14 : sl.1 < 14
  · rw [if_pos h14, ← hn, ← hr, ← hP, ← hb]
    obtain ⟨c1, c2, c3⟩ := special_in ⟨sl.1, h14⟩ (by show 4 ≤ sl.1; omega)
    dsimp only at c1 c2 c3
    rw [← hn, ← hr, ← hP, ← hb] at c1
    rw [← hn] at c3
    have hmu : M.mayN ((v : Int) - (base : Int)) := fun he => by have := (hspec he).1; omega
    obtain ⟨h1, h2⟩ := revP_ok h (k := k) (n := n) (a := 688 + base - sl.1) (v := (v : Int) - (base : Int)) (hp1.mono h (show k + n ≤ k + 6 by omega)) (by rw [← hP]; omega) hmu
    rw [← hP] at h1
    exact ⟨by dsimp only; omega, h2⟩
  · rw [if_neg h14, ← hn, ← hr, ← hP, ← hb]
    have hn5 : 6 ≤ n := by omega
    obtain ⟨rest, hrest⟩ : ∃ x, x = (v + 4294967296 - base) % 4294967296 / 16 := ⟨_, rfl⟩
    obtain ⟨P4, hP4⟩ : ∃ P, P = 2 ^ (n - 4) := ⟨_, rfl⟩
    have hPP : P = 16 * P4 := by rw [hP, hP4, show (16 : Nat) = 2 ^ 4 from rfl, ← Nat.pow_add, show 4 + (n - 4) = n by omega]
    have hst : M.enc = true → rest < 2 ^ (n - 4) := fun he => by
      have := hspec he
      rw [← hP4]
      omega
    rw [← hrest]
    have hS := h.str (k := k + 5) (n := n - 4) (v := rest) hp1.x (by omega) hst
    rw [← hP4] at hS
    unfold distC
    have hmr : M.mayN ((v % 16 : Nat) : Int) := fun _ => by omega
    have hp2 : PmOk ok L (k + 5) (⟨sl.2.ps, (M.str sl.2.x (n - 4) rest).2⟩ : Pm σ) := ⟨hp1.ps, hp1.len, hS.2⟩
    obtain ⟨h1, h2⟩ := revP_ok h (k := k) (n := 4) (a := 803) (v := ((v % 16 : Nat) : Int)) (hp2.mono h (show k + 4 ≤ k + 5 by omega)) (by show 803 + 16 ≤ L; omega) hmr
    have h16 : (2 : Nat) ^ 4 = 16 := rfl
    rw [h16] at h1
    have := hS.1
    exact ⟨by dsimp only; omega, h2⟩

/-- what is wanted of a coder may be -/
def PkMay (M : Mach σ) (z : Lzs) (p : Pk) : Prop :=
  M.enc = true → 0 ≤ p.kind ∧ p.kind ≤ 7 ∧ (z.out.length = 0 → p.kind = 0 ∨ p.kind = 1 ∨ p.kind = 7) ∧ (1 ≤ p.kind ∧ p.kind ≤ 5 → 2 ≤ p.len)
/-- its numbers -/
structure PkFine (p : Pk) : Prop where
  k0 : -1000000 ≤ p.kind
  k1 : p.kind ≤ 1000000
  d : p.dist < 4294967296
/-- a length that is used may be -/
def PkLen (M : Mach σ) (p : Pk) : Prop := (-900000 ≤ p.len ∧ p.len ≤ 900000) ∨ (M.enc = true ∧ (p.kind = 0 ∨ p.kind = 6 ∨ p.kind = 7))

/-- the bounds that copying keeps -/
structure Like (z z' : Lzs) : Prop where
  lc : z'.lc = z.lc
  lp : z'.lp = z.lp
  pb : z'.pb = z.pb
  dict : z'.dict = z.dict
theorem Like.refl (z : Lzs) : Like z z := ⟨rfl, rfl, rfl, rfl⟩
theorem Like.trans {a b c : Lzs} (h : Like a b) (k : Like b c) : Like a c := ⟨k.lc.trans h.lc, k.lp.trans h.lp, k.pb.trans h.pb, k.dict.trans h.dict⟩

/-- like ZFine, with room for so many bytes more -/
structure ZNear (z : Lzs) (L n : Nat) : Prop where
  lc : z.lc ≤ 8
  lp : z.lp ≤ 4
  pb : z.pb ≤ 4
  dict : z.dict < 4294967296
  out : z.out.length ≤ n
  st : z.st ≤ 11
  r0 : z.r0 < 4294967296
  r1 : z.r1 < 4294967296
  r2 : z.r2 < 4294967296
  r3 : z.r3 < 4294967296
  len : L = 1847 + 768 * 2 ^ (z.lc + z.lp)
theorem ZNear.fine {z : Lzs} {L n : Nat} (h : ZNear z L n) (hn : n ≤ 1000000) : ZFine z L := ⟨h.lc, h.lp, h.pb, h.dict, Nat.le_trans h.out hn, h.st, h.r0, h.r1, h.r2, h.r3, h.len⟩
theorem ZNear.more {z : Lzs} {L n m : Nat} (h : ZNear z L n) (hn : n ≤ m) : ZNear z L m := ⟨h.lc, h.lp, h.pb, h.dict, Nat.le_trans h.out hn, h.st, h.r0, h.r1, h.r2, h.r3, h.len⟩

theorem copyG_near {L : Nat} : ∀ (f n N : Nat) {z : Lzs}, ZNear z L N → ZNear (copyG f n z).2 L (N + f) ∧ (copyG f n z).1 ≤ n + f
  | 0, n, N, z, h => ⟨h, Nat.le_refl _⟩
  | f + 1, n, N, z, h => by
    by_cases hz : z.has z.r0 = true
    · rw [copyG_go hz]
      have h2 : ZNear (z.push (z.back z.r0)) L (N + 1) := ⟨h.lc, h.lp, h.pb, h.dict, by show (z.out ++ [_]).length ≤ _; have := h.out; simp; omega, h.st, h.r0, h.r1, h.r2, h.r3, h.len⟩
      obtain ⟨a, b⟩ := copyG_near f (n + 1) (N + 1) h2
      exact ⟨a.more (by omega), by omega⟩
    · rw [copyG_stop hz]
      exact ⟨⟨h.lc, h.lp, h.pb, h.dict, by have := h.out; show z.out.length ≤ _; omega, h.st, h.r0, h.r1, h.r2, h.r3, h.len⟩, by dsimp only; omega⟩
theorem aft_le {a b s : Nat} (ha : a ≤ 11) (hb : b ≤ 11) : aft a b s ≤ 11 := by unfold aft; split <;> omega
theorem litSt_le {s : Nat} (h : s ≤ 11) : litSt s ≤ 11 := by unfold litSt; split <;> (try split) <;> omega
theorem rep_lt {z : Lzs} {L n : Nat} (h : ZNear z L n) (j : Nat) : z.rep j < 4294967296 := by
  have h0 := h.r0
  have h1 := h.r1
  have h2 := h.r2
  have h3 := h.r3
  unfold Lzs.rep
  split
  · exact h0
  split
  · exact h1
  split
  · exact h2
  · exact h3

/-- the numbers that the lengths are wanted of -/
def lenM (p : Pk) : Int := if p.kind = 7 then 0 else p.len - 2
def distM (p : Pk) : Nat := if p.kind = 7 then 4294967295 else p.dist

end

/-- all is read, and the code is 0 -/
def leftD : Dc → Bool
  | none => false
  | some (_, k, rest) => decide (k = 0) && decide (rest = [])

/-- a setting that may be -/
def maySet (a b c d : Int) : Bool := decide (0 ≤ a ∧ a ≤ 8 ∧ 0 ≤ b ∧ b ≤ 4 ∧ 0 ≤ c ∧ c ≤ 4 ∧ 4096 ≤ d ∧ d ≤ 4294967295)
theorem may_iff {a b c d : Int} : maySet a b c d = true ↔ 0 ≤ a ∧ a ≤ 8 ∧ 0 ≤ b ∧ b ≤ 4 ∧ 0 ≤ c ∧ c ≤ 4 ∧ 4096 ≤ d ∧ d ≤ 4294967295 := by
  unfold maySet
  simp
def probsOf (a b c d : Int) : Int := if maySet a b c d = true then 1847 + 768 * ((2 ^ (a + b).toNat : Nat) : Int) else 0
/-- a new one's state -/
def Lzs.start (lc lp pb dict : Nat) : Lzs := ⟨lc, lp, pb, dict, [], 0, 0, 0, 0, 0, false, false⟩
/-- settings that may be -/
def SetOk (lc lp pb dict : Nat) : Prop := lc ≤ 8 ∧ lp ≤ 4 ∧ pb ≤ 4 ∧ 4096 ≤ dict ∧ dict < 4294967296
def probsN (lc lp : Nat) : Nat := 1847 + 768 * 2 ^ (lc + lp)
theorem setOk_may {lc lp pb dict : Nat} (h : SetOk lc lp pb dict) : maySet lc lp pb dict = true := by
  obtain ⟨h1, h2, h3, h4, h5⟩ := h
  exact may_iff.2 ⟨by omega, by omega, by omega, by omega, by omega, by omega, by omega, by omega⟩
theorem probsN_is {lc lp pb dict : Nat} (h : SetOk lc lp pb dict) : probsOf lc lp pb dict = (probsN lc lp : Int) ∧ probsN lc lp ≤ 4000000 ∧ 1847 ≤ probsN lc lp := by
  have hm := setOk_may h
  obtain ⟨h1, h2, h3, h4, h5⟩ := h
  have hp : 2 ^ (lc + lp) ≤ 2 ^ 12 := pow_le_of (by omega)
  refine ⟨?_, by unfold probsN; omega, by unfold probsN; omega⟩
  unfold probsOf
  rw [if_pos hm]
  unfold probsN
  rw [show ((lc : Int) + (lp : Int)).toNat = lc + lp by omega]
  simp

def pk0 : Pk := ⟨0, 0, 0, 0⟩
/-- whether a packet was the last that may be -/
def stopD (size : Int) (r : Nat × Lzs × Pm Dc) : Bool := r.2.1.bad || (r.2.1.ended || (decM.bad r.2.2.x || decide (size < (r.2.1.out.length : Int))))
/-- packets, until there are so many bytes -/
def upG (size : Int) : Nat → Lzs → Pm Dc → Option (Lzs × Pm Dc)
  | 0, z, t => some (z, t)
  | f + 1, z, t => if (z.out.length : Int) < size then (if stopD size (packP decM z t pk0) = true then none else upG size f (packP decM z t pk0).2.1 (packP decM z t pk0).2.2) else some (z, t)
theorem upG_done {size : Int} {f : Nat} {z : Lzs} {t : Pm Dc} (h : ¬ (z.out.length : Int) < size) : upG size f z t = some (z, t) := by
  cases f with
  | zero => rfl
  | succ f => exact if_neg h
theorem upG_stop {size : Int} {f : Nat} {z : Lzs} {t : Pm Dc} (h : (z.out.length : Int) < size) (hs : stopD size (packP decM z t pk0) = true) : upG size (f + 1) z t = none := by
  show (if _ then _ else _) = _
  rw [if_pos h, if_pos hs]
theorem upG_go {size : Int} {f : Nat} {z : Lzs} {t : Pm Dc} (h : (z.out.length : Int) < size) (hs : ¬ stopD size (packP decM z t pk0) = true) : upG size (f + 1) z t = upG size f (packP decM z t pk0).2.1 (packP decM z t pk0).2.2 := by
  show (if _ then _ else _) = _
  rw [if_pos h, if_neg hs]
/-- whether the stream doesn't end behind one packet more -/
def endD (n : Nat) (r : Nat × Lzs × Pm Dc) : Bool := !r.2.1.ended || (r.2.1.bad || (decide (r.2.1.out.length ≠ n) || !leftD r.2.2.x))
def finD (z : Lzs) (t : Pm Dc) : Option (List UInt8) :=
  if leftD t.x = true then some z.out
  else if endD z.out.length (packP decM z t pk0) = true then none else some (packP decM z t pk0).2.1.out
def finU : Option (Lzs × Pm Dc) → Option (List UInt8)
  | none => none
  | some zt => finD zt.1 zt.2
/-- what a stream of a size is -/
def unpackN (bs : List UInt8) (lc lp pb dict : Nat) (size : Int) : Option (List UInt8) :=
  finU (upG size size.toNat (Lzs.start lc lp pb dict) ⟨List.replicate (probsN lc lp) 1024, started bs⟩)

/-- a packet that isn't the last tells a byte at least -/
theorem pack_more {size : Int} {z : Lzs} {t : Pm Dc} (h : stopD size (packP decM z t pk0) = false) : z.out.length < (packP decM z t pk0).2.1.out.length := by
  have hb : (packP decM z t pk0).2.1.bad = false := by
    unfold stopD at h
    revert h
    cases (packP decM z t pk0).2.1.bad <;> simp
  have hen : (packP decM z t pk0).2.1.ended = false := by
    unfold stopD at h
    revert h
    cases (packP decM z t pk0).2.1.ended <;> simp
  have hcopy : ∀ (f n : Nat) (z : Lzs), (copyG f n z).2.bad = false → z.out.length + f = (copyG f n z).2.out.length := by
    intro f
    induction f with
    | zero => intro n z _; rfl
    | succ f ih =>
      intro n z hb
      by_cases hz : z.has z.r0 = true
      · rw [copyG_go hz] at hb ⊢
        have := ih _ _ hb
        have hl : (z.push (z.back z.r0)).out.length = z.out.length + 1 := by show (z.out ++ [_]).length = _; simp
        omega
      · rw [copyG_stop hz] at hb
        cases hb
  have htail : ∀ (many : Nat) (z : Lzs) (t : Pm Dc), 1 ≤ many → (tailP decM many z t).2.1.bad = false → (tailP decM many z t).2.1.ended = false → z.out.length < (tailP decM many z t).2.1.out.length := by
    intro many z t hm h1 h2
    unfold tailP at h1 h2 ⊢
    split at h1
    · rename_i hc
      rw [if_pos hc] at h2
      exfalso
      have h1 : (z.bad || decM.bad t.x) = false := h1
      have h2 : z.ended = false := h2
      rw [h1, h2] at hc
      cases hc
    · rename_i hc
      rw [if_neg hc]
      have := hcopy many 0 z h1
      show z.out.length < (copyG many 0 z).2.out.length
      omega
  revert hb hen
  unfold packP packK
  split
  · unfold packL
    split
    · intro hb; cases hb
    · intro _ _
      show z.out.length < (z.out ++ [_]).length
      simp
  split
  · intro hb hen
    exact htail _ _ _ (by omega) hb hen
  split
  · intro hb hen
    exact htail _ _ _ (by omega) hb hen
  · intro hb hen
    exact htail _ _ _ (by omega) hb hen

end Go.Proofs.YtoencondpbkomaaGreatDoor
