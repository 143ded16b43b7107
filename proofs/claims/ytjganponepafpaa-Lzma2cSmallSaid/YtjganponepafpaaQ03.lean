/-
  LzNum, SmPk: put together.
-/
import Derived.Test.YtjganponepafpaaQ02
set_option linter.unusedVariables false
set_option linter.unusedSimpArgs false
/-
  The packets of LZMA as numbers: a packet whole, a stream, its bounds.
-/
namespace Go.Proofs.Ytjganponepafpaa

section
variable {σ : Type} {M : Mach σ} {ok : Nat → σ → Prop} {t : Pm σ} {z : Lzs}
theorem want_byte (v : UInt8) (i : Nat) : ∃ b : Nat, want (v.toNat : Int) i = (b : Int) ∧ b ≤ 1 := ⟨bitOf v.toNat i, want_nat _ _, bitOf_le _ _⟩
theorem lgStep_ok (Z : MachOk M ok) {L k a j : Nat} {y b : Nat} {s : Lg σ} (ht : PmOk ok L (k + 1) s.t) (ha : a + 768 ≤ L) (h0 : s.m < 2 ^ (j + 1)) (hj : j < 8) (hy : y ≤ 1) (hb : b ≤ 1) :
    PmOk ok L k (lgStep M a (y : Int) (b : Int) s).t ∧ 2 * s.m ≤ (lgStep M a (y : Int) (b : Int) s).m ∧ (lgStep M a (y : Int) (b : Int) s).m ≤ 2 * s.m + 1 := by
  have hp : 2 ^ (j + 1) ≤ 256 := Nat.le_trans (Nat.pow_le_pow_right (by omega) (show j + 1 ≤ 8 by omega)) (by decide)
  have hm : M.may (b : Int) := fun _ => by omega
  unfold lgStep
  split
  · obtain ⟨h1, h2⟩ := bitP_ok Z ht (a := a + 256 * (1 + (y : Int).toNat) + s.m) (by rw [Int.toNat_natCast]; omega) hm
    exact ⟨h2, Nat.le_add_right _ _, by show 2 * s.m + _ ≤ _; omega⟩
  · obtain ⟨h1, h2⟩ := bitP_ok Z ht (a := a + s.m) (by omega) hm
    exact ⟨h2, Nat.le_add_right _ _, by show 2 * s.m + _ ≤ _; omega⟩
theorem litG_ok (Z : MachOk M ok) {L k a : Nat} {o v : UInt8} {same : Bool} (ht : PmOk ok L (k + 8) t) (ha : a + 768 ≤ L) :
    ∀ j, j ≤ 8 → PmOk ok L (k + 8 - j) (litG M t a o v same j).t ∧ 2 ^ j ≤ (litG M t a o v same j).m ∧ (litG M t a o v same j).m < 2 ^ (j + 1)
  | 0, _ => ⟨ht, Nat.le_refl _, by show 1 < 2 ^ 1; decide⟩
  | j + 1, hj => by
    obtain ⟨h1, h2, h3⟩ := litG_ok Z ht ha j (by omega)
    obtain ⟨y, hy, hy1⟩ := want_byte o (7 - j)
    obtain ⟨b, hb, hb1⟩ := want_byte v (7 - j)
    show PmOk ok L _ (lgStep M a (want (o.toNat : Int) (7 - j)) (want (v.toNat : Int) (7 - j)) _).t ∧ _ ≤ (lgStep M a _ _ _).m ∧ (lgStep M a _ _ _).m < _
    rw [hy, hb]
    obtain ⟨k1, k2, k3⟩ := lgStep_ok Z (k := k + 8 - (j + 1)) (a := a) (j := j) (by rw [show k + 8 - (j + 1) + 1 = k + 8 - j by omega]; exact h1) ha h3 (by omega) hy1 hb1
    refine ⟨k1, ?_, ?_⟩
    · rw [Nat.pow_succ]; omega
    · rw [Nat.pow_succ 2 (j + 1)]; omega
/-- settings that may be, and what else keeps the numbers small -/
structure ZFine (z : Lzs) (L : Nat) : Prop where
  lc : z.lc ≤ 8
  lp : z.lp ≤ 4
  pb : z.pb ≤ 4
  dict : z.dict < 4294967296
  out : z.out.length ≤ 1000000
  st : z.st ≤ 11
  r0 : z.r0 < 4294967296
  r1 : z.r1 < 4294967296
  r2 : z.r2 < 4294967296
  r3 : z.r3 < 4294967296
  len : L = 1847 + 768 * 2 ^ (z.lc + z.lp)
theorem pow_le_of {n m : Nat} (h : n ≤ m) : 2 ^ n ≤ 2 ^ m := Nat.pow_le_pow_right (by omega) h
theorem ZFine.small {L : Nat} (h : ZFine z L) : L ≤ 100000000 ∧ litAt z + 768 ≤ L := by
  have hL := h.len
  have h1 : 2 ^ (z.lc + z.lp) ≤ 2 ^ 12 := pow_le_of (by have := h.lc; have := h.lp; omega)
  refine ⟨by omega, ?_⟩
  unfold litAt
  have h2 : z.out.length % 2 ^ z.lp + 1 ≤ 2 ^ z.lp := Nat.mod_lt _ (Nat.two_pow_pos _)
  have h3 : (z.out.length % 2 ^ z.lp + 1) * 2 ^ z.lc ≤ 2 ^ z.lp * 2 ^ z.lc := Nat.mul_le_mul_right _ h2
  rw [← Nat.pow_add, Nat.add_mul, Nat.one_mul, Nat.add_comm z.lp] at h3
  have h4 : (z.back 0).toNat / 2 ^ (8 - z.lc) + 1 ≤ 2 ^ z.lc := by
    have hb := (z.back 0).toNat_lt
    have : (z.back 0).toNat < 2 ^ (8 - z.lc) * 2 ^ z.lc := by
      rw [← Nat.pow_add, show 8 - z.lc + z.lc = 8 by have := h.lc; omega]; exact hb
    exact (Nat.div_lt_iff_lt_mul (Nat.two_pow_pos _)).2 (by rw [Nat.mul_comm]; exact this)
  omega
theorem slotGo_spec : ∀ (f x c : Nat), x < 2 ^ (f + 2) → ∃ m, slotGo f (x, c) = (x / 2 ^ m, c + m) ∧ x / 2 ^ m < 4 ∧ (m = 0 ∨ 2 ≤ x / 2 ^ m) ∧ m ≤ f
  | 0, x, c, h => ⟨0, by simp [slotGo], by simpa using h, .inl rfl, Nat.le_refl _⟩
  | f + 1, x, c, h => by
    by_cases h4 : 4 ≤ x
    · obtain ⟨m, h1, h2, h3, h5⟩ := slotGo_spec f (x / 2) (c + 1) (by rw [show f + 1 + 2 = (f + 2) + 1 by omega, Nat.pow_succ] at h; omega)
      have hd : x / 2 / 2 ^ m = x / 2 ^ (m + 1) := by rw [Nat.div_div_eq_div_mul, Nat.pow_succ, Nat.mul_comm]
      rw [hd] at h1 h2 h3
      refine ⟨m + 1, ?_, h2, .inr ?_, by omega⟩
      · show (if 4 ≤ x then slotGo f (x / 2, c + 1) else (x, c)) = _
        rw [if_pos h4, h1, show c + 1 + m = c + (m + 1) by omega]
      · rcases h3 with h3 | h3
        · subst h3
          show 2 ≤ x / 2 ^ 1
          omega
        · exact h3
    · refine ⟨0, ?_, by simp; omega, .inl rfl, Nat.zero_le _⟩
      show (if 4 ≤ x then slotGo f (x / 2, c + 1) else (x, c)) = _
      rw [if_neg h4]
      simp
/-- what a slot leaves: the base, and how many bits -/
theorem slot_spec {v : Nat} (hv : v < 4294967296) : slotOf v < 64 ∧ (slotOf v < 4 → v = slotOf v) ∧
    (4 ≤ slotOf v → (2 + slotOf v % 2) * 2 ^ (slotOf v / 2 - 1) ≤ v ∧ v < (2 + slotOf v % 2) * 2 ^ (slotOf v / 2 - 1) + 2 ^ (slotOf v / 2 - 1)) := by
  obtain ⟨m, h1, h2, h3, h4⟩ := slotGo_spec 32 v 0 (by omega)
  have hs : slotOf v = 2 * m + v / 2 ^ m := by unfold slotOf; rw [h1]; simp
  have hm : m ≤ 30 := by
    rcases h3 with h | h
    · omega
    · have h5 := Nat.mul_le_of_le_div _ _ _ h
      rcases Nat.lt_or_ge m 31 with h6 | h6
      · omega
      · have := pow_le_of h6
        omega
  refine ⟨by omega, fun h => ?_, fun h => ?_⟩
  · rcases h3 with h0 | h0
    · subst h0; simp at hs; omega
    · obtain rfl : m = 0 := by omega
      simp at hs; omega
  · have hm1 : 1 ≤ m := by
      rcases Nat.eq_zero_or_pos m with h0 | h0
      · subst h0; simp at hs h2; omega
      · exact h0
    have ht : 2 ≤ v / 2 ^ m := by rcases h3 with h0 | h0; omega; exact h0
    have e1 : slotOf v / 2 - 1 = m := by omega
    have e2 : 2 + slotOf v % 2 = v / 2 ^ m := by omega
    rw [e1, e2]
    have hp := Nat.two_pow_pos m
    have h5 := Nat.div_mul_le_self v (2 ^ m)
    have h6 := Nat.div_add_mod v (2 ^ m)
    have h7 := Nat.mod_lt v hp
    rw [Nat.mul_comm] at h6
    omega
/-- a coder tells what is wanted -/
theorem tree_tell {M : Mach σ} {ok : Nat → σ → Prop} (h : MachOk M ok) (he : M.enc = true) {t : Pm σ} {a n v : Nat} : ∀ j, j ≤ n → (treeG M t a n (v : Int) j).m = 2 ^ j + v % 2 ^ n / 2 ^ (n - j)
  | 0, _ => by
    rw [Nat.sub_zero, Nat.div_eq_of_lt (Nat.mod_lt _ (Nat.two_pow_pos n))]
    rfl
  | j + 1, hj => by
    have ih := tree_tell h he (t := t) (a := a) (n := n) (v := v) j (by omega)
    show 2 * (treeG M t a n (v : Int) j).m + (bitP M _ _ (want (v : Int) (n - 1 - j))).1 = _
    have hb : (bitP M (treeG M t a n (v : Int) j).t (a + (treeG M t a n (v : Int) j).m) (want (v : Int) (n - 1 - j))).1 = bitOf v (n - 1 - j) := by
      rw [want_nat]
      exact (h.tell he).trans (Int.toNat_natCast _)
    rw [hb, ih, Nat.pow_succ, ← top_bits v n j (by omega)]
    omega
theorem treeP_tell {M : Mach σ} {ok : Nat → σ → Prop} (h : MachOk M ok) (he : M.enc = true) {t : Pm σ} {a n v : Nat} (hv : v < 2 ^ n) : (treeP M t a n (v : Int)).1 = v := by
  show (treeG M t a n (v : Int) n).m - 2 ^ n = v
  rw [tree_tell h he n (Nat.le_refl n), Nat.sub_self, Nat.pow_zero, Nat.div_one, Nat.mod_eq_of_lt hv]
  omega
end


theorem special_in : ∀ s : Fin 14, 4 ≤ s.val → (2 + s.val % 2) * 2 ^ (s.val / 2 - 1) + 2 ^ (s.val / 2 - 1) ≤ 115 + s.val ∧ s.val ≤ 688 ∧ s.val / 2 - 1 ≤ 5 := by decide +kernel

/-- a packet that is wanted -/
structure Pk where
  kind : Int
  dist : Nat
  len : Int
  byte : UInt8

def Lzs.push (z : Lzs) (b : UInt8) : Lzs := { z with out := z.out ++ [b] }
/-- bytes at the first distance, one behind the other: how many, and the state then -/
def copyG : Nat → Nat → Lzs → Nat × Lzs
  | 0, n, z => (n, z)
  | f + 1, n, z => if z.has z.r0 = true then copyG f (n + 1) (z.push (z.back z.r0)) else (n, { z with bad := true })
theorem copyG_go {f n : Nat} {z : Lzs} (h : z.has z.r0 = true) : copyG (f + 1) n z = copyG f (n + 1) (z.push (z.back z.r0)) := if_pos h
theorem copyG_stop {f n : Nat} {z : Lzs} (h : ¬ z.has z.r0 = true) : copyG (f + 1) n z = (n, { z with bad := true }) := if_neg h

def aft (a b s : Nat) : Nat := if s < 7 then a else b
def Lzs.rep (z : Lzs) (j : Nat) : Nat := if j = 0 then z.r0 else if j = 1 then z.r1 else if j = 2 then z.r2 else z.r3
/-- the distances where the one with the number j is used again -/
def Lzs.again (z : Lzs) (j : Nat) : Lzs := { z with r0 := z.rep j, r1 := if j = 0 then z.r1 else z.r0, r2 := if j ≤ 1 then z.r2 else z.r1, r3 := if j ≤ 2 then z.r3 else z.r2 }

section
variable {σ : Type} (M : Mach σ)

/-- behind the numbers of a packet: the bytes -/
def tailP (many : Nat) (z : Lzs) (t : Pm σ) : Nat × Lzs × Pm σ :=
  if (z.bad || M.bad t.x || z.ended) = true then (0, { z with bad := z.bad || M.bad t.x }, t)
  else ((copyG many 0 z).1, (copyG many 0 z).2, t)
def packL (b : Nat × Pm σ) (z : Lzs) : Nat × Lzs × Pm σ :=
  if M.bad b.2.x = true then (0, { z with st := litSt z.st, bad := true }, b.2) else (1, { z with st := litSt z.st }.push (UInt8.ofNat b.1), b.2)
def packD (l : Nat) (b : Nat × Pm σ) (z : Lzs) : Nat × Lzs × Pm σ := tailP M (l + 2) { z with r0 := b.1, ended := decide (b.1 = 4294967295) && !M.bad b.2.x } b.2
def packM (b : Nat × Pm σ) (z : Lzs) (want : Nat) : Nat × Lzs × Pm σ :=
  packD M b.1 (distP M b.2 b.1 want) { z with r0 := 0, r1 := z.r0, r2 := z.r1, r3 := z.r2, st := aft 7 10 z.st }
def packR (b : Nat × Pm σ) (z : Lzs) (j : Nat) : Nat × Lzs × Pm σ := tailP M (b.1 + 2) { z.again j with st := aft 8 11 z.st } b.2
def packK (kb : Nat × Bool × Pm σ) (z : Lzs) (s : Nat) (p : Pk) : Nat × Lzs × Pm σ :=
  if kb.1 = 0 then packL M (litP M { z with bad := z.bad || kb.2.1 } kb.2.2 p.byte) { z with bad := z.bad || kb.2.1 }
  else if kb.1 = 1 then packM M (lenP M kb.2.2 819 s (if p.kind = 7 then 0 else p.len - 2)) { z with bad := z.bad || kb.2.1 } (if p.kind = 7 then 4294967295 else p.dist)
  else if kb.1 = 6 then tailP M 1 { z with bad := z.bad || kb.2.1, st := aft 9 11 z.st } kb.2.2
  else packR M (lenP M kb.2.2 1333 s (p.len - 2)) { z with bad := z.bad || kb.2.1 } (kb.1 - 2)
def packP (z : Lzs) (t : Pm σ) (p : Pk) : Nat × Lzs × Pm σ :=
  packK M (kindP M t (decide (z.out.length = 0)) z.st (z.out.length % 2 ^ z.pb) p.kind) z (z.out.length % 2 ^ z.pb) p

/-- what kind may be told, and what it leaves -/
theorem kindP_ok {M : Mach σ} {ok : Nat → σ → Prop} (h : MachOk M ok) {L k s st : Nat} {em : Bool} {kd : Int} {t : Pm σ} (ht : PmOk ok L (k + 5) t) (hL : 1847 ≤ L) (hs : s ≤ 15) (hst : st ≤ 11) (hk : M.mayN kd) :
    (kindP M t em st s kd).1 ≤ 6 ∧ PmOk ok L k (kindP M t em st s kd).2.2 := by
  have hmay : M.may (min kd 1) := fun he => by have := hk he; omega
  obtain ⟨b1, p1⟩ := bitP_ok h (k := k + 4) (a := 16 * st + s) (w := min kd 1) ht (by omega) hmay
  unfold kindP kd1
  split
  · exact ⟨by dsimp only; omega, p1.mono h (by omega)⟩
  obtain ⟨b2, p2⟩ := bitP_ok h (k := k + 3) (a := 192 + st) (w := chI (kd = 1 ∨ kd = 7)) p1 (by omega) (chI_may _)
  unfold kd2
  split
  · exact ⟨by dsimp only; omega, p2.mono h (by omega)⟩
  split
  · exact ⟨by dsimp only; omega, p2.mono h (by omega)⟩
  obtain ⟨b3, p3⟩ := bitP_ok h (k := k + 2) (a := 204 + st) (w := chI (kd = 2 ∨ kd = 6)) p2 (by omega) (chI_may _)
  unfold kd3
  split
  · obtain ⟨b4, p4⟩ := bitP_ok h (k := k + 1) (a := 240 + 16 * st + s) (w := chI (kd = 6)) p3 (by omega) (chI_may _)
    unfold kdL
    exact ⟨by dsimp only; split <;> omega, p4.mono h (by omega)⟩
  obtain ⟨b4, p4⟩ := bitP_ok h (k := k + 1) (a := 216 + st) (w := chI (kd = 3)) p3 (by omega) (chI_may _)
  unfold kd4
  split
  · exact ⟨by dsimp only; omega, p4.mono h (by omega)⟩
  obtain ⟨b5, p5⟩ := bitP_ok h (k := k) (a := 228 + st) (w := chI (kd = 4)) p4 (by omega) (chI_may _)
  unfold kd5
  exact ⟨by dsimp only; split <;> omega, p5⟩
theorem litP_ok {M : Mach σ} {ok : Nat → σ → Prop} (h : MachOk M ok) {L k : Nat} {z : Lzs} {v : UInt8} {t : Pm σ} (ht : PmOk ok L (k + 8) t) (ha : litAt z + 768 ≤ L) : PmOk ok L k (litP M z t v).2 := by
  have h1 := (litG_ok h (k := k) (o := z.back z.r0) (v := v) (same := decide (7 ≤ z.st)) ht ha 8 (Nat.le_refl _)).1
  rw [Nat.add_sub_cancel] at h1
  exact h1
end

section
variable {σ : Type} {M : Mach σ} {ok : Nat → σ → Prop}

theorem distP_ok (h : MachOk M ok) {L k l v : Nat} {t : Pm σ} (ht : PmOk ok L (k + 12) t) (hL0 : 1847 ≤ L) (hv : v < 4294967296) : (distP M t l v).1 < 4294967296 ∧ PmOk ok L k (distP M t l v).2 := by
  obtain ⟨s1, s2, s3⟩ := slot_spec hv
  obtain ⟨a, ha⟩ : ∃ a, a = 432 + 64 * min l 3 := ⟨_, rfl⟩
  have hmv : M.mayN ((slotOf v : Nat) : Int) := fun _ => by omega
  have hT := treeP_ok h (k := k + 6) (n := 6) (a := a) (v := ((slotOf v : Nat) : Int)) (t := t) ht (by show a + 64 ≤ L; omega) hmv
  have htell : M.enc = true → (treeP M t a 6 ((slotOf v : Nat) : Int)).1 = slotOf v := fun he => treeP_tell h he s1
  have hdef : distP M t l v = distB M (treeP M t a 6 ((slotOf v : Nat) : Int)) v := by rw [ha]; rfl
  rw [hdef]
  obtain ⟨sl, hsl⟩ : ∃ sl, sl = treeP M t a 6 ((slotOf v : Nat) : Int) := ⟨_, rfl⟩
  rw [← hsl] at hT htell ⊢
  have hs64 : sl.1 < 64 := hT.1
  have hp1 := hT.2
  unfold distB
  by_cases h4 : sl.1 < 4
  · rw [if_pos h4]
    exact ⟨by omega, hp1.mono h (by omega)⟩
  rw [if_neg h4]
  obtain ⟨n, hn⟩ : ∃ n, n = sl.1 / 2 - 1 := ⟨_, rfl⟩
  obtain ⟨r, hr⟩ : ∃ r, r = sl.1 % 2 := ⟨_, rfl⟩
  obtain ⟨P, hP⟩ : ∃ P, P = 2 ^ n := ⟨_, rfl⟩
  obtain ⟨base, hb⟩ : ∃ b, b = (2 + r) * P := ⟨_, rfl⟩
  have hn30 : n ≤ 30 := by omega
  have hP30 : P ≤ 2 ^ 30 := by rw [hP]; exact pow_le_of hn30
  have hb3 : base ≤ 3 * P := by rw [hb]; exact Nat.mul_le_mul_right P (by omega)
  have hspec : M.enc = true → base ≤ v ∧ v < base + P := fun he => by
    have h1 := htell he
    have h2 := s3 (by omega)
    rw [← h1, ← hn, ← hr, ← hP, ← hb] at h2
    exact h2
  by_cases h14 : sl.1 < 14
  · rw [if_pos h14, ← hn, ← hr, ← hP, ← hb]
    obtain ⟨c1, c2, c3⟩ := special_in ⟨sl.1, h14⟩ (by show 4 ≤ sl.1; omega)
    dsimp only at c1 c2 c3
    rw [← hn, ← hr, ← hP, ← hb] at c1
    rw [← hn] at c3
    have hmu : M.mayN ((v : Int) - (base : Int)) := fun he => by have := (hspec he).1; omega
    obtain ⟨h1, h2⟩ := revP_ok h (k := k) (n := n) (a := 688 + base - sl.1) (v := (v : Int) - (base : Int)) (hp1.mono h (show k + n ≤ k + 6 by omega)) (by rw [← hP]; omega) hmu
    rw [← hP] at h1
    exact ⟨by dsimp only; omega, h2⟩
  · rw [if_neg h14, ← hn, ← hr, ← hP, ← hb]
    have hn5 : 6 ≤ n := by omega
    obtain ⟨rest, hrest⟩ : ∃ x, x = (v + 4294967296 - base) % 4294967296 / 16 := ⟨_, rfl⟩
    obtain ⟨P4, hP4⟩ : ∃ P, P = 2 ^ (n - 4) := ⟨_, rfl⟩
    have hPP : P = 16 * P4 := by rw [hP, hP4, show (16 : Nat) = 2 ^ 4 from rfl, ← Nat.pow_add, show 4 + (n - 4) = n by omega]
    have hst : M.enc = true → rest < 2 ^ (n - 4) := fun he => by
      have := hspec he
      rw [← hP4]
      omega
    rw [← hrest]
    have hS := h.str (k := k + 5) (n := n - 4) (v := rest) hp1.x (by omega) hst
    rw [← hP4] at hS
    unfold distC
    have hmr : M.mayN ((v % 16 : Nat) : Int) := fun _ => by omega
    have hp2 : PmOk ok L (k + 5) (⟨sl.2.ps, (M.str sl.2.x (n - 4) rest).2⟩ : Pm σ) := ⟨hp1.ps, hp1.len, hS.2⟩
    obtain ⟨h1, h2⟩ := revP_ok h (k := k) (n := 4) (a := 803) (v := ((v % 16 : Nat) : Int)) (hp2.mono h (show k + 4 ≤ k + 5 by omega)) (by show 803 + 16 ≤ L; omega) hmr
    have h16 : (2 : Nat) ^ 4 = 16 := rfl
    rw [h16] at h1
    have := hS.1
    exact ⟨by dsimp only; omega, h2⟩

/-- a coder's kind is the one that is wanted -/
theorem kindP_tell (h : MachOk M ok) (he : M.enc = true) {s st : Nat} {em : Bool} {kd : Int} {t : Pm σ} (h0 : 0 ≤ kd) (h1 : kd ≤ 7) (hem : em = true → kd = 0 ∨ kd = 1 ∨ kd = 7) :
    (((kindP M t em st s kd).1 : Nat) : Int) = (if kd = 7 then 1 else kd) ∧ (kindP M t em st s kd).2.1 = false := by
  have tell : ∀ (t : Pm σ) (a : Nat) (w : Int), (bitP M t a w).1 = w.toNat := fun t a w => h.tell he
  have m0 : min (0 : Int) 1 = 0 := by decide
  have m1 : min (1 : Int) 1 = 1 := by decide
  have m2 : min (2 : Int) 1 = 1 := by decide
  have m3 : min (3 : Int) 1 = 1 := by decide
  have m4 : min (4 : Int) 1 = 1 := by decide
  have m5 : min (5 : Int) 1 = 1 := by decide
  have m6 : min (6 : Int) 1 = 1 := by decide
  have m7 : min (7 : Int) 1 = 1 := by decide
  have hk : kd = 0 ∨ kd = 1 ∨ kd = 2 ∨ kd = 3 ∨ kd = 4 ∨ kd = 5 ∨ kd = 6 ∨ kd = 7 := by omega
  cases em
  · rcases hk with rfl | rfl | rfl | rfl | rfl | rfl | rfl | rfl <;> simp [kindP, kd1, kd2, kd3, kdL, kd4, kd5, tell, chI, m0, m1, m2, m3, m4, m5, m6, m7]
  · rcases hem rfl with rfl | rfl | rfl <;> simp [kindP, kd1, kd2, tell, chI, m0, m1, m7]

/-- what is wanted of a coder may be -/
def PkMay (M : Mach σ) (z : Lzs) (p : Pk) : Prop :=
  M.enc = true → 0 ≤ p.kind ∧ p.kind ≤ 7 ∧ (z.out.length = 0 → p.kind = 0 ∨ p.kind = 1 ∨ p.kind = 7) ∧ (1 ≤ p.kind ∧ p.kind ≤ 5 → 2 ≤ p.len)
/-- its numbers -/
structure PkFine (p : Pk) : Prop where
  k0 : -1000000 ≤ p.kind
  k1 : p.kind ≤ 1000000
  d : p.dist < 4294967296
/-- a length that is used may be -/
def PkLen (M : Mach σ) (p : Pk) : Prop := (-900000 ≤ p.len ∧ p.len ≤ 900000) ∨ (M.enc = true ∧ (p.kind = 0 ∨ p.kind = 6 ∨ p.kind = 7))

/-- the bounds that copying keeps -/
structure Like (z z' : Lzs) : Prop where
  lc : z'.lc = z.lc
  lp : z'.lp = z.lp
  pb : z'.pb = z.pb
  dict : z'.dict = z.dict
theorem Like.refl (z : Lzs) : Like z z := ⟨rfl, rfl, rfl, rfl⟩
theorem Like.trans {a b c : Lzs} (h : Like a b) (k : Like b c) : Like a c := ⟨k.lc.trans h.lc, k.lp.trans h.lp, k.pb.trans h.pb, k.dict.trans h.dict⟩

/-- like ZFine, with room for so many bytes more -/
structure ZNear (z : Lzs) (L n : Nat) : Prop where
  lc : z.lc ≤ 8
  lp : z.lp ≤ 4
  pb : z.pb ≤ 4
  dict : z.dict < 4294967296
  out : z.out.length ≤ n
  st : z.st ≤ 11
  r0 : z.r0 < 4294967296
  r1 : z.r1 < 4294967296
  r2 : z.r2 < 4294967296
  r3 : z.r3 < 4294967296
  len : L = 1847 + 768 * 2 ^ (z.lc + z.lp)
theorem ZNear.fine {z : Lzs} {L n : Nat} (h : ZNear z L n) (hn : n ≤ 1000000) : ZFine z L := ⟨h.lc, h.lp, h.pb, h.dict, Nat.le_trans h.out hn, h.st, h.r0, h.r1, h.r2, h.r3, h.len⟩
theorem ZNear.more {z : Lzs} {L n m : Nat} (h : ZNear z L n) (hn : n ≤ m) : ZNear z L m := ⟨h.lc, h.lp, h.pb, h.dict, Nat.le_trans h.out hn, h.st, h.r0, h.r1, h.r2, h.r3, h.len⟩

theorem copyG_near {L : Nat} : ∀ (f n N : Nat) {z : Lzs}, ZNear z L N → ZNear (copyG f n z).2 L (N + f) ∧ (copyG f n z).1 ≤ n + f
  | 0, n, N, z, h => ⟨h, Nat.le_refl _⟩
  | f + 1, n, N, z, h => by
    by_cases hz : z.has z.r0 = true
    · rw [copyG_go hz]
      have h2 : ZNear (z.push (z.back z.r0)) L (N + 1) := ⟨h.lc, h.lp, h.pb, h.dict, by show (z.out ++ [_]).length ≤ _; have := h.out; simp; omega, h.st, h.r0, h.r1, h.r2, h.r3, h.len⟩
      obtain ⟨a, b⟩ := copyG_near f (n + 1) (N + 1) h2
      exact ⟨a.more (by omega), by omega⟩
    · rw [copyG_stop hz]
      exact ⟨⟨h.lc, h.lp, h.pb, h.dict, by have := h.out; show z.out.length ≤ _; omega, h.st, h.r0, h.r1, h.r2, h.r3, h.len⟩, by dsimp only; omega⟩
theorem tailP_near {L k N many : Nat} {z : Lzs} {t : Pm σ} (h : ZNear z L N) (ht : PmOk ok L k t) : ZNear (tailP M many z t).2.1 L (N + many) ∧ PmOk ok L k (tailP M many z t).2.2 ∧ (tailP M many z t).1 ≤ many := by
  unfold tailP
  split
  · exact ⟨⟨h.lc, h.lp, h.pb, h.dict, by have := h.out; show z.out.length ≤ _; omega, h.st, h.r0, h.r1, h.r2, h.r3, h.len⟩, ht, by dsimp only; omega⟩
  · obtain ⟨a, b⟩ := copyG_near many 0 N h
    exact ⟨a, ht, by dsimp only; omega⟩

theorem aft_le {a b s : Nat} (ha : a ≤ 11) (hb : b ≤ 11) : aft a b s ≤ 11 := by unfold aft; split <;> omega
theorem litSt_le {s : Nat} (h : s ≤ 11) : litSt s ≤ 11 := by unfold litSt; split <;> (try split) <;> omega
theorem rep_lt {z : Lzs} {L n : Nat} (h : ZNear z L n) (j : Nat) : z.rep j < 4294967296 := by
  have h0 := h.r0
  have h1 := h.r1
  have h2 := h.r2
  have h3 := h.r3
  unfold Lzs.rep
  split
  · exact h0
  split
  · exact h1
  split
  · exact h2
  · exact h3

/-- the place of a literal's probabilities is in -/
theorem lit_in {z : Lzs} {L n : Nat} {b : Bool} (h : ZNear z L n) : litAt { z with bad := b } + 768 ≤ L := by
  have hL := h.len
  unfold litAt
  have h2 : z.out.length % 2 ^ z.lp + 1 ≤ 2 ^ z.lp := Nat.mod_lt _ (Nat.two_pow_pos _)
  have h3 : (z.out.length % 2 ^ z.lp + 1) * 2 ^ z.lc ≤ 2 ^ z.lp * 2 ^ z.lc := Nat.mul_le_mul_right _ h2
  rw [← Nat.pow_add, Nat.add_mul, Nat.one_mul, Nat.add_comm z.lp] at h3
  have h4 : (Lzs.back { z with bad := b } 0).toNat / 2 ^ (8 - z.lc) + 1 ≤ 2 ^ z.lc := by
    have hb := (Lzs.back { z with bad := b } 0).toNat_lt
    have hp : 2 ^ z.lc * 2 ^ (8 - z.lc) = 256 := by rw [← Nat.pow_add, show z.lc + (8 - z.lc) = 8 by have := h.lc; omega]
    have : (Lzs.back { z with bad := b } 0).toNat / 2 ^ (8 - z.lc) < 2 ^ z.lc := Nat.div_lt_of_lt_mul (by rw [Nat.mul_comm, hp]; omega)
    omega
  dsimp only
  omega

/-- the numbers that the lengths are wanted of -/
def lenM (p : Pk) : Int := if p.kind = 7 then 0 else p.len - 2
def distM (p : Pk) : Nat := if p.kind = 7 then 4294967295 else p.dist

/-- what a packet leaves is near what was there -/
theorem packP_near (h : MachOk M ok) {L k N : Nat} {z : Lzs} {t : Pm σ} {p : Pk} (hz : ZNear z L N) (ht : PmOk ok L (k + 27) t) (hp : PkFine p) (hm : PkMay M z p) :
    ZNear (packP M z t p).2.1 L (N + 273) ∧ PmOk ok L k (packP M z t p).2.2 ∧ (packP M z t p).1 ≤ 273 := by
  have hL0 : 1847 ≤ L := by have := hz.len; omega
  obtain ⟨s, hs⟩ : ∃ s, s = z.out.length % 2 ^ z.pb := ⟨_, rfl⟩
  have hs15 : s ≤ 15 := by
    have h1 : z.out.length % 2 ^ z.pb < 2 ^ z.pb := Nat.mod_lt _ (Nat.two_pow_pos _)
    have h2 : 2 ^ z.pb ≤ 2 ^ 4 := pow_le_of hz.pb
    omega
  have hkm : M.mayN p.kind := fun he => (hm he).1
  obtain ⟨k1, k2⟩ := kindP_ok h (k := k + 22) (em := decide (z.out.length = 0)) (kd := p.kind) (t := t) ht hL0 hs15 hz.st hkm
  have ktell : M.enc = true → (((kindP M t (decide (z.out.length = 0)) z.st s p.kind).1 : Nat) : Int) = (if p.kind = 7 then 1 else p.kind) := fun he => by
    obtain ⟨a, b, c, _⟩ := hm he
    exact (kindP_tell h he a b (fun e => c (of_decide_eq_true e))).1
  unfold packP
  rw [← hs]
  generalize kindP M t (decide (z.out.length = 0)) z.st s p.kind = kb at *
  unfold packK
  split
  · rename_i hk0
    unfold packL
    have hl := litP_ok h (k := k) (z := { z with bad := z.bad || kb.2.1 }) (v := p.byte) (k2.mono h (show k + 8 ≤ k + 22 by omega)) (lit_in (b := z.bad || kb.2.1) hz)
    split
    · exact ⟨⟨hz.lc, hz.lp, hz.pb, hz.dict, by have := hz.out; show z.out.length ≤ _; omega, litSt_le hz.st, hz.r0, hz.r1, hz.r2, hz.r3, hz.len⟩, hl, by dsimp only; omega⟩
    · exact ⟨⟨hz.lc, hz.lp, hz.pb, hz.dict, by have := hz.out; show (z.out ++ [_]).length ≤ _; simp; omega, litSt_le hz.st, hz.r0, hz.r1, hz.r2, hz.r3, hz.len⟩, hl, by dsimp only; omega⟩
  split
  · rename_i hk0 hk1
    unfold packM
    have hlm : M.mayN (if p.kind = 7 then 0 else p.len - 2) := fun he => by
      have h1 := ktell he
      rw [hk1] at h1
      obtain ⟨a, b, c, d⟩ := hm he
      split
      · omega
      · rename_i h7
        rw [if_neg h7] at h1
        have := d (by omega)
        omega
    obtain ⟨l1, l2⟩ := lenP_ok h (k := k + 12) (a := 819) (s := s) (v := if p.kind = 7 then 0 else p.len - 2) k2 (by omega) hs15 hlm
    generalize lenP M kb.2.2 819 s (if p.kind = 7 then 0 else p.len - 2) = b at *
    unfold packD
    obtain ⟨d1, d2⟩ := distP_ok h (k := k) (l := b.1) (v := if p.kind = 7 then 4294967295 else p.dist) l2 hL0 (by split; decide; exact hp.d)
    generalize distP M b.2 b.1 (if p.kind = 7 then 4294967295 else p.dist) = dd at *
    have hz2 : ZNear { z with bad := z.bad || kb.2.1, r0 := dd.1, r1 := z.r0, r2 := z.r1, r3 := z.r2, st := aft 7 10 z.st, ended := decide (dd.1 = 4294967295) && !M.bad dd.2.x } L N :=
      ⟨hz.lc, hz.lp, hz.pb, hz.dict, hz.out, aft_le (by decide) (by decide), d1, hz.r0, hz.r1, hz.r2, hz.len⟩
    obtain ⟨t1, t2, t3⟩ := tailP_near (M := M) (many := b.1 + 2) hz2 d2
    exact ⟨t1.more (by omega), t2, Nat.le_trans t3 (by omega)⟩
  split
  · have hz2 : ZNear { z with bad := z.bad || kb.2.1, st := aft 9 11 z.st } L N := ⟨hz.lc, hz.lp, hz.pb, hz.dict, hz.out, aft_le (by decide) (by decide), hz.r0, hz.r1, hz.r2, hz.r3, hz.len⟩
    obtain ⟨t1, t2, t3⟩ := tailP_near (M := M) (many := 1) hz2 (k2.mono h (show k ≤ k + 22 by omega))
    exact ⟨t1.more (by omega), t2, Nat.le_trans t3 (by omega)⟩
  · rename_i hk0 hk1 hk6
    unfold packR
    have hlm : M.mayN (p.len - 2) := fun he => by
      have h1 := ktell he
      obtain ⟨a, b, c, d⟩ := hm he
      have h7 : ¬ p.kind = 7 := fun h7 => by rw [if_pos h7] at h1; omega
      rw [if_neg h7] at h1
      have := d (by omega)
      omega
    obtain ⟨l1, l2⟩ := lenP_ok h (k := k + 12) (a := 1333) (s := s) (v := p.len - 2) k2 (by omega) hs15 hlm
    generalize lenP M kb.2.2 1333 s (p.len - 2) = b at *
    have hr := rep_lt hz
    have hz2 : ZNear { (Lzs.again { z with bad := z.bad || kb.2.1 } (kb.1 - 2)) with st := aft 8 11 z.st } L N := by
      refine ⟨hz.lc, hz.lp, hz.pb, hz.dict, hz.out, aft_le (by decide) (by decide), hr (kb.1 - 2), ?_, ?_, ?_, hz.len⟩
      · show (if kb.1 - 2 = 0 then z.r1 else z.r0) < _
        split
        · exact hz.r1
        · exact hz.r0
      · show (if kb.1 - 2 ≤ 1 then z.r2 else z.r1) < _
        split
        · exact hz.r2
        · exact hz.r1
      · show (if kb.1 - 2 ≤ 2 then z.r3 else z.r2) < _
        split
        · exact hz.r3
        · exact hz.r2
    obtain ⟨t1, t2, t3⟩ := tailP_near (M := M) (many := b.1 + 2) hz2 (l2.mono h (show k ≤ k + 12 by omega))
    exact ⟨t1.more (by omega), t2, Nat.le_trans t3 (by omega)⟩
end

/-- all is read, and the code is 0 -/
def leftD : Dc → Bool
  | none => false
  | some (_, k, rest) => decide (k = 0) && decide (rest = [])

/-- a setting that may be -/
def maySet (a b c d : Int) : Bool := decide (0 ≤ a ∧ a ≤ 8 ∧ 0 ≤ b ∧ b ≤ 4 ∧ 0 ≤ c ∧ c ≤ 4 ∧ 4096 ≤ d ∧ d ≤ 4294967295)
theorem may_iff {a b c d : Int} : maySet a b c d = true ↔ 0 ≤ a ∧ a ≤ 8 ∧ 0 ≤ b ∧ b ≤ 4 ∧ 0 ≤ c ∧ c ≤ 4 ∧ 4096 ≤ d ∧ d ≤ 4294967295 := by
  unfold maySet
  simp
def probsOf (a b c d : Int) : Int := if maySet a b c d = true then 1847 + 768 * ((2 ^ (a + b).toNat : Nat) : Int) else 0
/-- a new one's state -/
def Lzs.start (lc lp pb dict : Nat) : Lzs := ⟨lc, lp, pb, dict, [], 0, 0, 0, 0, 0, false, false⟩
/-- settings that may be -/
def SetOk (lc lp pb dict : Nat) : Prop := lc ≤ 8 ∧ lp ≤ 4 ∧ pb ≤ 4 ∧ 4096 ≤ dict ∧ dict < 4294967296
def probsN (lc lp : Nat) : Nat := 1847 + 768 * 2 ^ (lc + lp)
theorem setOk_may {lc lp pb dict : Nat} (h : SetOk lc lp pb dict) : maySet lc lp pb dict = true := by
  obtain ⟨h1, h2, h3, h4, h5⟩ := h
  exact may_iff.2 ⟨by omega, by omega, by omega, by omega, by omega, by omega, by omega, by omega⟩
def pk0 : Pk := ⟨0, 0, 0, 0⟩
/-- whether a packet was the last that may be -/
def stopD (size : Int) (r : Nat × Lzs × Pm Dc) : Bool := r.2.1.bad || (r.2.1.ended || (decM.bad r.2.2.x || decide (size < (r.2.1.out.length : Int))))
/-- packets, until there are so many bytes -/
def upG (size : Int) : Nat → Lzs → Pm Dc → Option (Lzs × Pm Dc)
  | 0, z, t => some (z, t)
  | f + 1, z, t => if (z.out.length : Int) < size then (if stopD size (packP decM z t pk0) = true then none else upG size f (packP decM z t pk0).2.1 (packP decM z t pk0).2.2) else some (z, t)
/-- whether the stream doesn't end behind one packet more -/
def endD (n : Nat) (r : Nat × Lzs × Pm Dc) : Bool := !r.2.1.ended || (r.2.1.bad || (decide (r.2.1.out.length ≠ n) || !leftD r.2.2.x))
def finD (z : Lzs) (t : Pm Dc) : Option (List UInt8) :=
  if leftD t.x = true then some z.out
  else if endD z.out.length (packP decM z t pk0) = true then none else some (packP decM z t pk0).2.1.out
def finU : Option (Lzs × Pm Dc) → Option (List UInt8)
  | none => none
  | some zt => finD zt.1 zt.2
/-- what a stream of a size is -/
def unpackN (bs : List UInt8) (lc lp pb dict : Nat) (size : Int) : Option (List UInt8) :=
  finU (upG size size.toNat (Lzs.start lc lp pb dict) ⟨List.replicate (probsN lc lp) 1024, started bs⟩)

end Go.Proofs.Ytjganponepafpaa

/-
  One byte again and again: what its packets cost.
-/
namespace Go.Proofs.Ytjganponepafpaa

/-- the probabilities that stay, and which way -/
def spL : List Nat := [176, 177, 178, 179, 203, 215, 416, 417, 418, 419, 1333, 1334, 1592, 1594, 1598, 1606, 1622, 1654, 1718, 1846]
def spD (i : Nat) : Nat := if i = 215 then 0 else 1
def qAt (ps : List Nat) (i : Nat) : Nat := qOf (ps.getD i 0) (spD i)
def psiL (ps : List Nat) (l : List Nat) : Nat := (l.map fun i => sto (qAt ps i)).sum
structure Okc (t : Pm En) (c : Nat) : Prop where
  ps : PsOk t.ps
  len : 7991 = t.ps.length
  x : EnOk t.x
  bud : Bud t.x c
/-- all that stay have been likely, and what is in store for them is counted -/
structure Smp (t : Pm En) (C : Nat) : Prop where
  hav : ∃ c, Okc t c ∧ c + psiL t.ps spL ≤ C
  lo : ∀ i ∈ spL, 992 ≤ qAt t.ps i

theorem sp_lt : ∀ i ∈ spL, i < 1847 := by decide
theorem sp_nodup : spL.Nodup := by decide
section
variable {t : Pm En} {c C a : Nat} {w : Nat}
/-- the coder behind a bit -/
def bE (t : Pm En) (a : Nat) (w : Nat) : Pm En := ⟨t.ps.set a (upOf (t.ps.getD a 0) w), t.x.bit (t.ps.getD a 0) w⟩
theorem sset_getD {ps : List Nat} {i j p : Nat} (hi : i < ps.length) : (ps.set i p).getD j 0 = if i = j then p else ps.getD j 0 := by
  rw [List.getD_eq_getElem?_getD, List.getD_eq_getElem?_getD, List.getElem?_set]
  split
  · rfl
  · rfl
theorem Okc.prob (h : Okc t c) (ha : a < 7991) : POk (t.ps.getD a 0) := getD_ok h.ps (by rw [← h.len]; exact ha)
theorem Okc.step (h : Okc t c) (ha : a < 7991) : Okc (bE t a w) (c + wOf (qOf (t.ps.getD a 0) w)) :=
  ⟨psOk_set h.ps _ (pOk_upOf (h.prob ha)), by show 7991 = (t.ps.set _ _).length; rw [List.length_set]; exact h.len, bit_ok h.x (h.prob ha), h.bud.bit h.x (h.prob ha)⟩
theorem Okc.crude (h : Okc t c) (ha : a < 7991) : Okc (bE t a w) (c + 98) := by
  have h1 := h.step (w := w) ha
  exact ⟨h1.ps, h1.len, h1.x, h1.bud.mono (Nat.add_le_add_left (okW_at (qOf_ok (h.prob ha))).2 _)⟩
theorem qAt_other {i : Nat} (h : Okc t c) (ha : a < 7991) (hi : a ≠ i) : qAt (bE t a w).ps i = qAt t.ps i := by
  unfold qAt
  show qOf ((t.ps.set a _).getD i 0) _ = _
  rw [sset_getD (by rw [← h.len]; exact ha), if_neg hi]
theorem qAt_stay (h : Okc t c) (ha : a < 7991) : qAt (bE t a (spD a)).ps a = upQ (qAt t.ps a) := by
  unfold qAt
  show qOf ((t.ps.set a _).getD a 0) _ = _
  rw [sset_getD (by rw [← h.len]; exact ha), if_pos rfl]
  exact qOf_same (h.prob ha)
theorem qAt_turn (h : Okc t c) (ha : a < 7991) : qAt t.ps a - qAt t.ps a / 32 ≤ qAt (bE t a w).ps a := by
  unfold qAt
  show _ ≤ qOf ((t.ps.set a _).getD a 0) _
  rw [sset_getD (by rw [← h.len]; exact ha), if_pos rfl]
  exact qOf_other (h.prob ha)
theorem psi_same {ps ps' : List Nat} : ∀ {l : List Nat}, (∀ i ∈ l, qAt ps' i = qAt ps i) → psiL ps' l = psiL ps l
  | [], _ => rfl
  | i :: l, h => by
    have ih := psi_same (ps := ps) (ps' := ps') (l := l) fun i hi => h i (List.mem_cons_of_mem _ hi)
    unfold psiL at ih ⊢
    rw [List.map_cons, List.map_cons, List.sum_cons, List.sum_cons, ih, h i (List.mem_cons_self)]
theorem psi_step {ps ps' : List Nat} {a : Nat} : ∀ {l : List Nat}, l.Nodup → a ∈ l → (∀ i ∈ l, i ≠ a → qAt ps' i = qAt ps i) → psiL ps' l + sto (qAt ps a) = psiL ps l + sto (qAt ps' a)
  | [], _, h, _ => absurd h List.not_mem_nil
  | i :: l, hn, hm, h => by
    obtain ⟨hn1, hn2⟩ := List.nodup_cons.1 hn
    have e : ∀ ps, psiL ps (i :: l) = sto (qAt ps i) + psiL ps l := fun ps => by unfold psiL; rw [List.map_cons, List.sum_cons]
    rw [e, e]
    rcases List.mem_cons.1 hm with rfl | hm
    · rw [psi_same (ps := ps) (ps' := ps') (l := l) fun i hi => h i (List.mem_cons_of_mem _ hi) (fun e => hn1 (e ▸ hi))]
      omega
    · have ih := psi_step (ps := ps) (ps' := ps') hn2 hm fun i hi => h i (List.mem_cons_of_mem _ hi)
      rw [h i List.mem_cons_self (fun e => hn1 (e ▸ hm))]
      omega
theorem supQ_ge {q : Nat} (h9 : 992 ≤ q) (hq : q ≤ 2017) : 1025 ≤ upQ q ∧ q ≤ upQ q := by
  unfold upQ
  omega
theorem qAt_ok (h : Okc t c) (ha : a < 7991) : POk (qAt t.ps a) := qOf_ok (h.prob ha)
/-- what stays -/
theorem Smp.stay (h : Smp t C) (ha : a ∈ spL) (hw : w = spD a) : Smp (bE t a w) (C + 12) ∧ 1025 ≤ qAt (bE t a w).ps a ∧ (∀ i ∈ spL, qAt t.ps i ≤ qAt (bE t a w).ps i) := by
  subst hw
  obtain ⟨c, hc, hC⟩ := h.hav
  have hlt : a < 7991 := Nat.lt_trans (sp_lt a ha) (by decide)
  have h9 := h.lo a ha
  have hq := qAt_ok hc hlt
  obtain ⟨s1, s2⟩ := okS_at hq h9
  obtain ⟨u1, u2⟩ := supQ_ge h9 hq.2
  have hst := qAt_stay hc hlt
  have hup : ∀ i ∈ spL, qAt t.ps i ≤ qAt (bE t a (spD a)).ps i := fun i hi => by
    by_cases e : a = i
    · subst e
      rw [hst]
      exact u2
    · rw [qAt_other hc hlt e]
      exact Nat.le_refl _
  have hpsi := psi_step (ps := t.ps) (ps' := (bE t a (spD a)).ps) sp_nodup ha fun i hi e => qAt_other hc hlt (fun e' => e e'.symm)
  refine ⟨⟨⟨_, hc.step hlt, ?_⟩, fun i hi => Nat.le_trans (h.lo i hi) (hup i hi)⟩, by rw [hst]; exact u1, hup⟩
  rw [hst] at hpsi
  have e : wOf (qOf (t.ps.getD a 0) (spD a)) = wOf (qAt t.ps a) := rfl
  rw [e]
  omega
/-- others -/
theorem Smp.free (h : Smp t C) (ha : a ∉ spL) (hlt : a < 7991) : Smp (bE t a w) (C + 98) ∧ (∀ i ∈ spL, qAt t.ps i ≤ qAt (bE t a w).ps i) := by
  obtain ⟨c, hc, hC⟩ := h.hav
  have hsame : ∀ i ∈ spL, qAt (bE t a w).ps i = qAt t.ps i := fun i hi => qAt_other hc hlt (fun e => ha (e ▸ hi))
  refine ⟨⟨⟨_, hc.crude hlt, ?_⟩, fun i hi => by rw [hsame i hi]; exact h.lo i hi⟩, fun i hi => by rw [hsame i hi]; exact Nat.le_refl _⟩
  rw [psi_same hsame]
  omega
theorem Smp.mono {C' : Nat} (h : Smp t C) (hC : C ≤ C') : Smp t C' := ⟨h.hav.imp fun c hc => ⟨hc.1, Nat.le_trans hc.2 hC⟩, h.lo⟩

/-- four bits of a kind -/
def k4 (t : Pm En) (st s w : Nat) : Pm En := bE (bE (bE (bE t (16 * st + s) 1) (192 + st) 1) (204 + st) 0) (240 + 16 * st + s) w
theorem kind_again (t : Pm En) (st s : Nat) : kindP encM t false st s 2 = (2, false, k4 t st s 1) := rfl
theorem kind_single (t : Pm En) (st s : Nat) : kindP encM t false st s 6 = (6, false, k4 t st s 0) := rfl
theorem kind_lit (t : Pm En) (em : Bool) (st s : Nat) : kindP encM t em st s 0 = (0, false, bE t (16 * st + s) 0) := rfl
theorem sp_far : ∀ st : Fin 11, ∀ s : Fin 4, 16 * st.val + s.val ∉ spL ∧ 192 + st.val ∉ spL ∧ 204 + st.val ∉ spL ∧ 240 + 16 * st.val + s.val ∉ spL := by decide
theorem sp_near : ∀ s : Fin 4, 16 * 11 + s.val ∈ spL ∧ 192 + 11 ∈ spL ∧ 204 + 11 ∈ spL ∧ 240 + 16 * 11 + s.val ∈ spL ∧ spD (16 * 11 + s.val) = 1 ∧ spD (192 + 11) = 1 ∧ spD (204 + 11) = 0 ∧ spD (240 + 16 * 11 + s.val) = 1 := by decide
def UpL (ps ps' : List Nat) : Prop := ∀ i ∈ spL, qAt ps i ≤ qAt ps' i
theorem UpL.trans {a b c : List Nat} (h : UpL a b) (k : UpL b c) : UpL a c := fun i hi => Nat.le_trans (h i hi) (k i hi)
theorem again_kind {st s : Nat} (h : Smp t C) (hst : st ≤ 11) (hs : s < 4) : Smp (k4 t st s 1) (C + (if st = 11 then 48 else 392)) ∧ UpL t.ps (k4 t st s 1).ps ∧ (st = 11 → 1025 ≤ qAt (k4 t st s 1).ps (416 + s)) := by
  unfold k4
  by_cases e : st = 11
  · subst e
    obtain ⟨m1, m2, m3, m4, d1, d2, d3, d4⟩ := sp_near ⟨s, hs⟩
    obtain ⟨a1, _, b1⟩ := h.stay m1 d1.symm
    obtain ⟨a2, _, b2⟩ := a1.stay m2 d2.symm
    obtain ⟨a3, _, b3⟩ := a2.stay m3 d3.symm
    obtain ⟨a4, r4, b4⟩ := a3.stay m4 d4.symm
    refine ⟨a4, fun i hi => ?_, fun _ => r4⟩
    exact Nat.le_trans (b1 i hi) (Nat.le_trans (b2 i hi) (Nat.le_trans (b3 i hi) (b4 i hi)))
  · obtain ⟨m1, m2, m3, m4⟩ := sp_far ⟨st, by omega⟩ ⟨s, hs⟩
    dsimp only at m1 m2 m3 m4
    obtain ⟨a1, b1⟩ := h.free (w := 1) m1 (by omega)
    obtain ⟨a2, b2⟩ := a1.free (w := 1) m2 (by omega)
    obtain ⟨a3, b3⟩ := a2.free (w := 0) m3 (by omega)
    obtain ⟨a4, b4⟩ := a3.free (w := 1) m4 (by omega)
    rw [if_neg e]
    refine ⟨a4, fun i hi => ?_, fun h => absurd h e⟩
    exact Nat.le_trans (b1 i hi) (Nat.le_trans (b2 i hi) (Nat.le_trans (b3 i hi) (b4 i hi)))
/-- the greatest length -/
def lenL : List Nat := [1333, 1334, 1592, 1594, 1598, 1606, 1622, 1654, 1718, 1846]
theorem len_sub : ∀ i ∈ lenL, i ∈ spL := by decide
def e8 (t : Pm En) : Pm En := bE (bE (bE (bE (bE (bE (bE (bE (bE (bE t 1333 1) 1334 1) 1592 1) 1594 1) 1598 1) 1606 1) 1622 1) 1654 1) 1718 1) 1846 1
theorem want_ones : ∀ i : Fin 8, want 255 i.val = 1 := by decide
theorem tree_ones {t t1 t2 t3 t4 t5 t6 t7 t8 : Pm En} (e1 : t1 = bE t 1592 1) (e2 : t2 = bE t1 1594 1) (e3 : t3 = bE t2 1598 1) (e4 : t4 = bE t3 1606 1) (e5 : t5 = bE t4 1622 1) (e6 : t6 = bE t5 1654 1) (e7 : t7 = bE t6 1718 1) (e8 : t8 = bE t7 1846 1) :
    treeP encM t 1591 8 255 = (255, t8) := by
  have st : ∀ (j : Nat) (hj : j < 8) (m o : Nat) (u : Pm En), treeG encM t 1591 8 255 j = ⟨m, o, u⟩ → treeG encM t 1591 8 255 (j + 1) = ⟨2 * m + 1, o + 1 * 2 ^ j, bE u (1591 + m) 1⟩ := fun j hj m o u h => by
    show tgStep encM 1591 j (want 255 (8 - 1 - j)) (treeG encM t 1591 8 255 j) = _
    rw [want_ones ⟨8 - 1 - j, by omega⟩, h]
    rfl
  have h0 : treeG encM t 1591 8 255 0 = ⟨1, 0, t⟩ := rfl
  have h1 : treeG encM t 1591 8 255 1 = ⟨3, 1, t1⟩ := by rw [e1]; exact st 0 (by decide) _ _ _ h0
  have h2 : treeG encM t 1591 8 255 2 = ⟨7, 3, t2⟩ := by rw [e2]; exact st 1 (by decide) _ _ _ h1
  have h3 : treeG encM t 1591 8 255 3 = ⟨15, 7, t3⟩ := by rw [e3]; exact st 2 (by decide) _ _ _ h2
  have h4 : treeG encM t 1591 8 255 4 = ⟨31, 15, t4⟩ := by rw [e4]; exact st 3 (by decide) _ _ _ h3
  have h5 : treeG encM t 1591 8 255 5 = ⟨63, 31, t5⟩ := by rw [e5]; exact st 4 (by decide) _ _ _ h4
  have h6 : treeG encM t 1591 8 255 6 = ⟨127, 63, t6⟩ := by rw [e6]; exact st 5 (by decide) _ _ _ h5
  have h7 : treeG encM t 1591 8 255 7 = ⟨255, 127, t7⟩ := by rw [e7]; exact st 6 (by decide) _ _ _ h6
  have h8 : treeG encM t 1591 8 255 8 = ⟨511, 255, t8⟩ := by rw [e8]; exact st 7 (by decide) _ _ _ h7
  show ((treeG encM t 1591 8 255 8).m - 2 ^ 8, (treeG encM t 1591 8 255 8).t) = _
  rw [h8]
  show ((511 : Nat) - 2 ^ 8, t8) = (255, t8)
  rw [show (511 : Nat) - 2 ^ 8 = 255 by decide]
theorem len_high {t u1 u2 u3 : Pm En} {s n : Nat} {v : Int} (b1 : bitP encM t 1333 (min (v.tdiv 8) 1) = (1, u1)) (b2 : bitP encM u1 1334 (min (v.tdiv 16) 1) = (1, u2)) (ht : treeP encM u2 1591 8 (v - 16) = (n, u3)) : lenP encM t 1333 s v = (16 + n, u3) := by
  unfold lenP lenA
  rw [b1]
  show (if (1 : Nat) = 0 then _ else lenB encM (bitP encM u1 1334 (min (v.tdiv 16) 1)) 1333 s v) = _
  rw [b2, if_neg (by decide)]
  unfold lenB
  show (if (1 : Nat) = 0 then _ else (16 + (treeP encM u2 1591 8 (v - 16)).1, (treeP encM u2 1591 8 (v - 16)).2)) = _
  rw [ht, if_neg (by decide)]
theorem bit_at {t : Pm En} {a w : Nat} {v : Int} (h : v = (w : Int)) : bitP encM t a v = (w, bE t a w) := by
  subst h
  rfl
theorem len_full (t : Pm En) (s : Nat) : lenP encM t 1333 s 271 = (271, e8 t) :=
  len_high (n := 255) (bit_at (w := 1) (by decide)) (bit_at (w := 1) (by decide)) (tree_ones rfl rfl rfl rfl rfl rfl rfl rfl)
theorem sagain_len (h : Smp t C) : Smp (e8 t) (C + 120) ∧ UpL t.ps (e8 t).ps ∧ ∀ i ∈ lenL, 1025 ≤ qAt (e8 t).ps i := by
  unfold e8
  have m : ∀ i ∈ lenL, i ∈ spL ∧ 1 = spD i := by decide
  obtain ⟨a1, r1, b1⟩ := h.stay (m 1333 (by decide)).1 (m 1333 (by decide)).2
  obtain ⟨a2, r2, b2⟩ := a1.stay (m 1334 (by decide)).1 (m 1334 (by decide)).2
  obtain ⟨a3, r3, b3⟩ := a2.stay (m 1592 (by decide)).1 (m 1592 (by decide)).2
  obtain ⟨a4, r4, b4⟩ := a3.stay (m 1594 (by decide)).1 (m 1594 (by decide)).2
  obtain ⟨a5, r5, b5⟩ := a4.stay (m 1598 (by decide)).1 (m 1598 (by decide)).2
  obtain ⟨a6, r6, b6⟩ := a5.stay (m 1606 (by decide)).1 (m 1606 (by decide)).2
  obtain ⟨a7, r7, b7⟩ := a6.stay (m 1622 (by decide)).1 (m 1622 (by decide)).2
  obtain ⟨a8, r8, b8⟩ := a7.stay (m 1654 (by decide)).1 (m 1654 (by decide)).2
  obtain ⟨a9, r9, b9⟩ := a8.stay (m 1718 (by decide)).1 (m 1718 (by decide)).2
  obtain ⟨a0, r0, b0⟩ := a9.stay (m 1846 (by decide)).1 (m 1846 (by decide)).2
  have c9 := UpL.trans b9 b0
  have c8 := UpL.trans b8 c9
  have c7 := UpL.trans b7 c8
  have c6 := UpL.trans b6 c7
  have c5 := UpL.trans b5 c6
  have c4 := UpL.trans b4 c5
  have c3 := UpL.trans b3 c4
  have c2 := UpL.trans b2 c3
  have c1 := UpL.trans b1 c2
  refine ⟨a0, c1, fun i hi => ?_⟩
  have hsp := len_sub i hi
  unfold lenL at hi
  simp only [List.mem_cons, List.not_mem_nil, or_false] at hi
  rcases hi with rfl | rfl | rfl | rfl | rfl | rfl | rfl | rfl | rfl | rfl
  · exact Nat.le_trans r1 (c2 _ hsp)
  · exact Nat.le_trans r2 (c3 _ hsp)
  · exact Nat.le_trans r3 (c4 _ hsp)
  · exact Nat.le_trans r4 (c5 _ hsp)
  · exact Nat.le_trans r5 (c6 _ hsp)
  · exact Nat.le_trans r6 (c7 _ hsp)
  · exact Nat.le_trans r7 (c8 _ hsp)
  · exact Nat.le_trans r8 (c9 _ hsp)
  · exact Nat.le_trans r9 (b0 _ hsp)
  · exact r0
end
end Go.Proofs.Ytjganponepafpaa
