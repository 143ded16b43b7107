/-
  LzNum, LwRow: put together.
-/
import Derived.Test.YtpdpbbmkicemdaaGreatMc03
import Derived.Test.YtpdpbbmkicemdaaGreatMc02
import Derived.Test.YtpdpbbmkicemdaaGreatMc01
set_option linter.unusedVariables false
set_option linter.unusedSimpArgs false
/-
  The packets of LZMA as numbers: a packet whole, a stream, its bounds.
-/
namespace Go.Proofs.YtpdpbbmkicemdaaGreat

section
variable {σ : Type} {M : Mach σ} {ok : Nat → σ → Prop} {t : Pm σ} {z : Lzs}
theorem want_byte (v : UInt8) (i : Nat) : ∃ b : Nat, want (v.toNat : Int) i = (b : Int) ∧ b ≤ 1 := ⟨bitOf v.toNat i, want_nat _ _, bitOf_le _ _⟩
theorem lgStep_ok (Z : MachOk M ok) {L k a j : Nat} {y b : Nat} {s : Lg σ} (ht : PmOk ok L (k + 1) s.t) (ha : a + 768 ≤ L) (h0 : s.m < 2 ^ (j + 1)) (hj : j < 8) (hy : y ≤ 1) (hb : b ≤ 1) :
    PmOk ok L k (lgStep M a (y : Int) (b : Int) s).t ∧ 2 * s.m ≤ (lgStep M a (y : Int) (b : Int) s).m ∧ (lgStep M a (y : Int) (b : Int) s).m ≤ 2 * s.m + 1 := by
  have hp : 2 ^ (j + 1) ≤ 256 := Nat.le_trans (Nat.pow_le_pow_right (by omega) (show j + 1 ≤ 8 by omega)) (by decide)
  have hm : M.may (b : Int) := fun _ => by omega
  unfold lgStep
  split
  · obtain ⟨h1, h2⟩ := bitP_ok Z ht (a := a + 256 * (1 + (y : Int).toNat) + s.m) (by rw [Int.toNat_natCast]; omega) hm
    exact ⟨h2, Nat.le_add_right _ _, by show 2 * s.m + _ ≤ _; omega⟩
  · obtain ⟨h1, h2⟩ := bitP_ok Z ht (a := a + s.m) (by omega) hm
    exact ⟨h2, Nat.le_add_right _ _, by show 2 * s.m + _ ≤ _; omega⟩
theorem litG_ok (Z : MachOk M ok) {L k a : Nat} {o v : UInt8} {same : Bool} (ht : PmOk ok L (k + 8) t) (ha : a + 768 ≤ L) :
    ∀ j, j ≤ 8 → PmOk ok L (k + 8 - j) (litG M t a o v same j).t ∧ 2 ^ j ≤ (litG M t a o v same j).m ∧ (litG M t a o v same j).m < 2 ^ (j + 1)
  | 0, _ => ⟨ht, Nat.le_refl _, by show 1 < 2 ^ 1; decide⟩
  | j + 1, hj => by
    obtain ⟨h1, h2, h3⟩ := litG_ok Z ht ha j (by omega)
    obtain ⟨y, hy, hy1⟩ := want_byte o (7 - j)
    obtain ⟨b, hb, hb1⟩ := want_byte v (7 - j)
    show PmOk ok L _ (lgStep M a (want (o.toNat : Int) (7 - j)) (want (v.toNat : Int) (7 - j)) _).t ∧ _ ≤ (lgStep M a _ _ _).m ∧ (lgStep M a _ _ _).m < _
    rw [hy, hb]
    obtain ⟨k1, k2, k3⟩ := lgStep_ok Z (k := k + 8 - (j + 1)) (a := a) (j := j) (by rw [show k + 8 - (j + 1) + 1 = k + 8 - j by omega]; exact h1) ha h3 (by omega) hy1 hb1
    refine ⟨k1, ?_, ?_⟩
    · rw [Nat.pow_succ]; omega
    · rw [Nat.pow_succ 2 (j + 1)]; omega
/-- settings that may be, and what else keeps the numbers small -/
structure ZFine (z : Lzs) (L : Nat) : Prop where
  lc : z.lc ≤ 8
  lp : z.lp ≤ 4
  pb : z.pb ≤ 4
  dict : z.dict < 4294967296
  out : z.out.length ≤ 1000000
  st : z.st ≤ 11
  r0 : z.r0 < 4294967296
  r1 : z.r1 < 4294967296
  r2 : z.r2 < 4294967296
  r3 : z.r3 < 4294967296
  len : L = 1847 + 768 * 2 ^ (z.lc + z.lp)
theorem pow_le_of {n m : Nat} (h : n ≤ m) : 2 ^ n ≤ 2 ^ m := Nat.pow_le_pow_right (by omega) h
theorem ZFine.small {L : Nat} (h : ZFine z L) : L ≤ 100000000 ∧ litAt z + 768 ≤ L := by
  have hL := h.len
  have h1 : 2 ^ (z.lc + z.lp) ≤ 2 ^ 12 := pow_le_of (by have := h.lc; have := h.lp; omega)
  refine ⟨by omega, ?_⟩
  unfold litAt
  have h2 : z.out.length % 2 ^ z.lp + 1 ≤ 2 ^ z.lp := Nat.mod_lt _ (Nat.two_pow_pos _)
  have h3 : (z.out.length % 2 ^ z.lp + 1) * 2 ^ z.lc ≤ 2 ^ z.lp * 2 ^ z.lc := Nat.mul_le_mul_right _ h2
  rw [← Nat.pow_add, Nat.add_mul, Nat.one_mul, Nat.add_comm z.lp] at h3
  have h4 : (z.back 0).toNat / 2 ^ (8 - z.lc) + 1 ≤ 2 ^ z.lc := by
    have hb := (z.back 0).toNat_lt
    have : (z.back 0).toNat < 2 ^ (8 - z.lc) * 2 ^ z.lc := by
      rw [← Nat.pow_add, show 8 - z.lc + z.lc = 8 by have := h.lc; omega]; exact hb
    exact (Nat.div_lt_iff_lt_mul (Nat.two_pow_pos _)).2 (by rw [Nat.mul_comm]; exact this)
  omega
theorem slotGo_spec : ∀ (f x c : Nat), x < 2 ^ (f + 2) → ∃ m, slotGo f (x, c) = (x / 2 ^ m, c + m) ∧ x / 2 ^ m < 4 ∧ (m = 0 ∨ 2 ≤ x / 2 ^ m) ∧ m ≤ f
  | 0, x, c, h => ⟨0, by simp [slotGo], by simpa using h, .inl rfl, Nat.le_refl _⟩
  | f + 1, x, c, h => by
    by_cases h4 : 4 ≤ x
    · obtain ⟨m, h1, h2, h3, h5⟩ := slotGo_spec f (x / 2) (c + 1) (by rw [show f + 1 + 2 = (f + 2) + 1 by omega, Nat.pow_succ] at h; omega)
      have hd : x / 2 / 2 ^ m = x / 2 ^ (m + 1) := by rw [Nat.div_div_eq_div_mul, Nat.pow_succ, Nat.mul_comm]
      rw [hd] at h1 h2 h3
      refine ⟨m + 1, ?_, h2, .inr ?_, by omega⟩
      · show (if 4 ≤ x then slotGo f (x / 2, c + 1) else (x, c)) = _
        rw [if_pos h4, h1, show c + 1 + m = c + (m + 1) by omega]
      · rcases h3 with h3 | h3
        · subst h3
          show 2 ≤ x / 2 ^ 1
          omega
        · exact h3
    · refine ⟨0, ?_, by simp; omega, .inl rfl, Nat.zero_le _⟩
      show (if 4 ≤ x then slotGo f (x / 2, c + 1) else (x, c)) = _
      rw [if_neg h4]
      simp
/-- what a slot leaves: the base, and how many bits -/
theorem slot_spec {v : Nat} (hv : v < 4294967296) : slotOf v < 64 ∧ (slotOf v < 4 → v = slotOf v) ∧
    (4 ≤ slotOf v → (2 + slotOf v % 2) * 2 ^ (slotOf v / 2 - 1) ≤ v ∧ v < (2 + slotOf v % 2) * 2 ^ (slotOf v / 2 - 1) + 2 ^ (slotOf v / 2 - 1)) := by
  obtain ⟨m, h1, h2, h3, h4⟩ := slotGo_spec 32 v 0 (by omega)
  have hs : slotOf v = 2 * m + v / 2 ^ m := by unfold slotOf; rw [h1]; simp
  have hm : m ≤ 30 := by
    rcases h3 with h | h
    · omega
    · have h5 := Nat.mul_le_of_le_div _ _ _ h
      rcases Nat.lt_or_ge m 31 with h6 | h6
      · omega
      · have := pow_le_of h6
        omega
  refine ⟨by omega, fun h => ?_, fun h => ?_⟩
  · rcases h3 with h0 | h0
    · subst h0; simp at hs; omega
    · obtain rfl : m = 0 := by omega
      simp at hs; omega
  · have hm1 : 1 ≤ m := by
      rcases Nat.eq_zero_or_pos m with h0 | h0
      · subst h0; simp at hs h2; omega
      · exact h0
    have ht : 2 ≤ v / 2 ^ m := by rcases h3 with h0 | h0; omega; exact h0
    have e1 : slotOf v / 2 - 1 = m := by omega
    have e2 : 2 + slotOf v % 2 = v / 2 ^ m := by omega
    rw [e1, e2]
    have hp := Nat.two_pow_pos m
    have h5 := Nat.div_mul_le_self v (2 ^ m)
    have h6 := Nat.div_add_mod v (2 ^ m)
    have h7 := Nat.mod_lt v hp
    rw [Nat.mul_comm] at h6
    omega
/-- a coder tells what is wanted -/
theorem tree_tell {M : Mach σ} {ok : Nat → σ → Prop} (h : MachOk M ok) (he : M.enc = true) {t : Pm σ} {a n v : Nat} : ∀ j, j ≤ n → (treeG M t a n (v : Int) j).m = 2 ^ j + v % 2 ^ n / 2 ^ (n - j)
  | 0, _ => by
    rw [Nat.sub_zero, Nat.div_eq_of_lt (Nat.mod_lt _ (Nat.two_pow_pos n))]
    rfl
  | j + 1, hj => by
    have ih := tree_tell h he (t := t) (a := a) (n := n) (v := v) j (by omega)
    show 2 * (treeG M t a n (v : Int) j).m + (bitP M _ _ (want (v : Int) (n - 1 - j))).1 = _
    have hb : (bitP M (treeG M t a n (v : Int) j).t (a + (treeG M t a n (v : Int) j).m) (want (v : Int) (n - 1 - j))).1 = bitOf v (n - 1 - j) := by
      rw [want_nat]
      exact (h.tell he).trans (Int.toNat_natCast _)
    rw [hb, ih, Nat.pow_succ, ← top_bits v n j (by omega)]
    omega
theorem treeP_tell {M : Mach σ} {ok : Nat → σ → Prop} (h : MachOk M ok) (he : M.enc = true) {t : Pm σ} {a n v : Nat} (hv : v < 2 ^ n) : (treeP M t a n (v : Int)).1 = v := by
  show (treeG M t a n (v : Int) n).m - 2 ^ n = v
  rw [tree_tell h he n (Nat.le_refl n), Nat.sub_self, Nat.pow_zero, Nat.div_one, Nat.mod_eq_of_lt hv]
  omega
end


theorem special_in : ∀ s : Fin 14, 4 ≤ s.val → (2 + s.val % 2) * 2 ^ (s.val / 2 - 1) + 2 ^ (s.val / 2 - 1) ≤ 115 + s.val ∧ s.val ≤ 688 ∧ s.val / 2 - 1 ≤ 5 := by decide +kernel

/-- a packet that is wanted -/
structure Pk where
  kind : Int
  dist : Nat
  len : Int
  byte : UInt8

def Lzs.push (z : Lzs) (b : UInt8) : Lzs := { z with out := z.out ++ [b] }
/-- bytes at the first distance, one behind the other: how many, and the state then -/
def copyG : Nat → Nat → Lzs → Nat × Lzs
  | 0, n, z => (n, z)
  | f + 1, n, z => if z.has z.r0 = true then copyG f (n + 1) (z.push (z.back z.r0)) else (n, { z with bad := true })
theorem copyG_zero (n : Nat) (z : Lzs) : copyG 0 n z = (n, z) := rfl
theorem copyG_go {f n : Nat} {z : Lzs} (h : z.has z.r0 = true) : copyG (f + 1) n z = copyG f (n + 1) (z.push (z.back z.r0)) := if_pos h
theorem copyG_stop {f n : Nat} {z : Lzs} (h : ¬ z.has z.r0 = true) : copyG (f + 1) n z = (n, { z with bad := true }) := if_neg h

def aft (a b s : Nat) : Nat := if s < 7 then a else b
def Lzs.rep (z : Lzs) (j : Nat) : Nat := if j = 0 then z.r0 else if j = 1 then z.r1 else if j = 2 then z.r2 else z.r3
/-- the distances where the one with the number j is used again -/
def Lzs.again (z : Lzs) (j : Nat) : Lzs := { z with r0 := z.rep j, r1 := if j = 0 then z.r1 else z.r0, r2 := if j ≤ 1 then z.r2 else z.r1, r3 := if j ≤ 2 then z.r3 else z.r2 }

section
variable {σ : Type} (M : Mach σ)

/-- behind the numbers of a packet: the bytes -/
def tailP (many : Nat) (z : Lzs) (t : Pm σ) : Nat × Lzs × Pm σ :=
  if (z.bad || M.bad t.x || z.ended) = true then (0, { z with bad := z.bad || M.bad t.x }, t)
  else ((copyG many 0 z).1, (copyG many 0 z).2, t)
def packL (b : Nat × Pm σ) (z : Lzs) : Nat × Lzs × Pm σ :=
  if M.bad b.2.x = true then (0, { z with st := litSt z.st, bad := true }, b.2) else (1, { z with st := litSt z.st }.push (UInt8.ofNat b.1), b.2)
def packD (l : Nat) (b : Nat × Pm σ) (z : Lzs) : Nat × Lzs × Pm σ := tailP M (l + 2) { z with r0 := b.1, ended := decide (b.1 = 4294967295) && !M.bad b.2.x } b.2
def packM (b : Nat × Pm σ) (z : Lzs) (want : Nat) : Nat × Lzs × Pm σ :=
  packD M b.1 (distP M b.2 b.1 want) { z with r0 := 0, r1 := z.r0, r2 := z.r1, r3 := z.r2, st := aft 7 10 z.st }
def packR (b : Nat × Pm σ) (z : Lzs) (j : Nat) : Nat × Lzs × Pm σ := tailP M (b.1 + 2) { z.again j with st := aft 8 11 z.st } b.2
def packK (kb : Nat × Bool × Pm σ) (z : Lzs) (s : Nat) (p : Pk) : Nat × Lzs × Pm σ :=
  if kb.1 = 0 then packL M (litP M { z with bad := z.bad || kb.2.1 } kb.2.2 p.byte) { z with bad := z.bad || kb.2.1 }
  else if kb.1 = 1 then packM M (lenP M kb.2.2 819 s (if p.kind = 7 then 0 else p.len - 2)) { z with bad := z.bad || kb.2.1 } (if p.kind = 7 then 4294967295 else p.dist)
  else if kb.1 = 6 then tailP M 1 { z with bad := z.bad || kb.2.1, st := aft 9 11 z.st } kb.2.2
  else packR M (lenP M kb.2.2 1333 s (p.len - 2)) { z with bad := z.bad || kb.2.1 } (kb.1 - 2)
def packP (z : Lzs) (t : Pm σ) (p : Pk) : Nat × Lzs × Pm σ :=
  packK M (kindP M t (decide (z.out.length = 0)) z.st (z.out.length % 2 ^ z.pb) p.kind) z (z.out.length % 2 ^ z.pb) p

/-- what kind may be told, and what it leaves -/
theorem kindP_ok {M : Mach σ} {ok : Nat → σ → Prop} (h : MachOk M ok) {L k s st : Nat} {em : Bool} {kd : Int} {t : Pm σ} (ht : PmOk ok L (k + 5) t) (hL : 1847 ≤ L) (hs : s ≤ 15) (hst : st ≤ 11) (hk : M.mayN kd) :
    (kindP M t em st s kd).1 ≤ 6 ∧ PmOk ok L k (kindP M t em st s kd).2.2 := by
  have hmay : M.may (min kd 1) := fun he => by have := hk he; omega
  obtain ⟨b1, p1⟩ := bitP_ok h (k := k + 4) (a := 16 * st + s) (w := min kd 1) ht (by omega) hmay
  unfold kindP kd1
  split
  · exact ⟨by dsimp only; omega, p1.mono h (by omega)⟩
  obtain ⟨b2, p2⟩ := bitP_ok h (k := k + 3) (a := 192 + st) (w := chI (kd = 1 ∨ kd = 7)) p1 (by omega) (chI_may _)
  unfold kd2
  split
  · exact ⟨by dsimp only; omega, p2.mono h (by omega)⟩
  split
  · exact ⟨by dsimp only; omega, p2.mono h (by omega)⟩
  obtain ⟨b3, p3⟩ := bitP_ok h (k := k + 2) (a := 204 + st) (w := chI (kd = 2 ∨ kd = 6)) p2 (by omega) (chI_may _)
  unfold kd3
  split
  · obtain ⟨b4, p4⟩ := bitP_ok h (k := k + 1) (a := 240 + 16 * st + s) (w := chI (kd = 6)) p3 (by omega) (chI_may _)
    unfold kdL
    exact ⟨by dsimp only; split <;> omega, p4.mono h (by omega)⟩
  obtain ⟨b4, p4⟩ := bitP_ok h (k := k + 1) (a := 216 + st) (w := chI (kd = 3)) p3 (by omega) (chI_may _)
  unfold kd4
  split
  · exact ⟨by dsimp only; omega, p4.mono h (by omega)⟩
  obtain ⟨b5, p5⟩ := bitP_ok h (k := k) (a := 228 + st) (w := chI (kd = 4)) p4 (by omega) (chI_may _)
  unfold kd5
  exact ⟨by dsimp only; split <;> omega, p5⟩
theorem litP_ok {M : Mach σ} {ok : Nat → σ → Prop} (h : MachOk M ok) {L k : Nat} {z : Lzs} {v : UInt8} {t : Pm σ} (ht : PmOk ok L (k + 8) t) (ha : litAt z + 768 ≤ L) : PmOk ok L k (litP M z t v).2 := by
  have h1 := (litG_ok h (k := k) (o := z.back z.r0) (v := v) (same := decide (7 ≤ z.st)) ht ha 8 (Nat.le_refl _)).1
  rw [Nat.add_sub_cancel] at h1
  exact h1
end

section
variable {σ : Type} {M : Mach σ} {ok : Nat → σ → Prop}

theorem distP_ok (h : MachOk M ok) {L k l v : Nat} {t : Pm σ} (ht : PmOk ok L (k + 12) t) (hL0 : 1847 ≤ L) (hv : v < 4294967296) : (distP M t l v).1 < 4294967296 ∧ PmOk ok L k (distP M t l v).2 := by
  obtain ⟨s1, s2, s3⟩ := slot_spec hv
  obtain ⟨a, ha⟩ : ∃ a, a = 432 + 64 * min l 3 := ⟨_, rfl⟩
  have hmv : M.mayN ((slotOf v : Nat) : Int) := fun _ => by omega
  have hT := treeP_ok h (k := k + 6) (n := 6) (a := a) (v := ((slotOf v : Nat) : Int)) (t := t) ht (by show a + 64 ≤ L; omega) hmv
  have htell : M.enc = true → (treeP M t a 6 ((slotOf v : Nat) : Int)).1 = slotOf v := fun he => treeP_tell h he s1
  have hdef : distP M t l v = distB M (treeP M t a 6 ((slotOf v : Nat) : Int)) v := by rw [ha]; rfl
  rw [hdef]
  obtain ⟨sl, hsl⟩ : ∃ sl, sl = treeP M t a 6 ((slotOf v : Nat) : Int) := ⟨_, rfl⟩
  rw [← hsl] at hT htell ⊢
  have hs64 : sl.1 < 64 := hT.1
  have hp1 := hT.2
  unfold distB
  by_cases h4 : sl.1 < 4
  · rw [if_pos h4]
    exact ⟨by omega, hp1.mono h (by omega)⟩
  rw [if_neg h4]
  obtain ⟨n, hn⟩ : ∃ n, n = sl.1 / 2 - 1 := ⟨_, rfl⟩
  obtain ⟨r, hr⟩ : ∃ r, r = sl.1 % 2 := ⟨_, rfl⟩
  obtain ⟨P, hP⟩ : ∃ P, P = 2 ^ n := ⟨_, rfl⟩
  obtain ⟨base, hb⟩ : ∃ b, b = (2 + r) * P := ⟨_, rfl⟩
  have hn30 : n ≤ 30 := by omega
  have hP30 : P ≤ 2 ^ 30 := by rw [hP]; exact pow_le_of hn30
  have hb3 : base ≤ 3 * P := by rw [hb]; exact Nat.mul_le_mul_right P (by omega)
  have hspec : M.enc = true → base ≤ v ∧ v < base + P := fun he => by
    have h1 := htell he
    have h2 := s3 (by omega)
    rw [← h1, ← hn, ← hr, ← hP, ← hb] at h2
    exact h2
  by_cases h14 : sl.1 < 14
  · rw [if_pos h14, ← hn, ← hr, ← hP, ← hb]
    obtain ⟨c1, c2, c3⟩ := special_in ⟨sl.1, h14⟩ (by show 4 ≤ sl.1; omega)
    dsimp only at c1 c2 c3
    rw [← hn, ← hr, ← hP, ← hb] at c1
    rw [← hn] at c3
    have hmu : M.mayN ((v : Int) - (base : Int)) := fun he => by have := (hspec he).1; omega
    obtain ⟨h1, h2⟩ := revP_ok h (k := k) (n := n) (a := 688 + base - sl.1) (v := (v : Int) - (base : Int)) (hp1.mono h (show k + n ≤ k + 6 by omega)) (by rw [← hP]; omega) hmu
    rw [← hP] at h1
    exact ⟨by dsimp only; omega, h2⟩
  · rw [if_neg h14, ← hn, ← hr, ← hP, ← hb]
    have hn5 : 6 ≤ n := by omega
    obtain ⟨rest, hrest⟩ : ∃ x, x = (v + 4294967296 - base) % 4294967296 / 16 := ⟨_, rfl⟩
    obtain ⟨P4, hP4⟩ : ∃ P, P = 2 ^ (n - 4) := ⟨_, rfl⟩
    have hPP : P = 16 * P4 := by rw [hP, hP4, show (16 : Nat) = 2 ^ 4 from rfl, ← Nat.pow_add, show 4 + (n - 4) = n by omega]
    have hst : M.enc = true → rest < 2 ^ (n - 4) := fun he => by
      have := hspec he
      rw [← hP4]
      omega
    rw [← hrest]
    have hS := h.str (k := k + 5) (n := n - 4) (v := rest) hp1.x (by omega) hst
    rw [← hP4] at hS
    unfold distC
    have hmr : M.mayN ((v % 16 : Nat) : Int) := fun _ => by omega
    have hp2 : PmOk ok L (k + 5) (⟨sl.2.ps, (M.str sl.2.x (n - 4) rest).2⟩ : Pm σ) := ⟨hp1.ps, hp1.len, hS.2⟩
    obtain ⟨h1, h2⟩ := revP_ok h (k := k) (n := 4) (a := 803) (v := ((v % 16 : Nat) : Int)) (hp2.mono h (show k + 4 ≤ k + 5 by omega)) (by show 803 + 16 ≤ L; omega) hmr
    have h16 : (2 : Nat) ^ 4 = 16 := rfl
    rw [h16] at h1
    have := hS.1
    exact ⟨by dsimp only; omega, h2⟩

/-- a coder's kind is the one that is wanted -/
theorem kindP_tell (h : MachOk M ok) (he : M.enc = true) {s st : Nat} {em : Bool} {kd : Int} {t : Pm σ} (h0 : 0 ≤ kd) (h1 : kd ≤ 7) (hem : em = true → kd = 0 ∨ kd = 1 ∨ kd = 7) :
    (((kindP M t em st s kd).1 : Nat) : Int) = (if kd = 7 then 1 else kd) ∧ (kindP M t em st s kd).2.1 = false := by
  have tell : ∀ (t : Pm σ) (a : Nat) (w : Int), (bitP M t a w).1 = w.toNat := fun t a w => h.tell he
  have m0 : min (0 : Int) 1 = 0 := by decide
  have m1 : min (1 : Int) 1 = 1 := by decide
  have m2 : min (2 : Int) 1 = 1 := by decide
  have m3 : min (3 : Int) 1 = 1 := by decide
  have m4 : min (4 : Int) 1 = 1 := by decide
  have m5 : min (5 : Int) 1 = 1 := by decide
  have m6 : min (6 : Int) 1 = 1 := by decide
  have m7 : min (7 : Int) 1 = 1 := by decide
  have hk : kd = 0 ∨ kd = 1 ∨ kd = 2 ∨ kd = 3 ∨ kd = 4 ∨ kd = 5 ∨ kd = 6 ∨ kd = 7 := by omega
  cases em
  · rcases hk with rfl | rfl | rfl | rfl | rfl | rfl | rfl | rfl <;> simp [kindP, kd1, kd2, kd3, kdL, kd4, kd5, tell, chI, m0, m1, m2, m3, m4, m5, m6, m7]
  · rcases hem rfl with rfl | rfl | rfl <;> simp [kindP, kd1, kd2, tell, chI, m0, m1, m7]

/-- what is wanted of a coder may be -/
def PkMay (M : Mach σ) (z : Lzs) (p : Pk) : Prop :=
  M.enc = true → 0 ≤ p.kind ∧ p.kind ≤ 7 ∧ (z.out.length = 0 → p.kind = 0 ∨ p.kind = 1 ∨ p.kind = 7) ∧ (1 ≤ p.kind ∧ p.kind ≤ 5 → 2 ≤ p.len)
/-- its numbers -/
structure PkFine (p : Pk) : Prop where
  k0 : -1000000 ≤ p.kind
  k1 : p.kind ≤ 1000000
  d : p.dist < 4294967296
/-- a length that is used may be -/
def PkLen (M : Mach σ) (p : Pk) : Prop := (-900000 ≤ p.len ∧ p.len ≤ 900000) ∨ (M.enc = true ∧ (p.kind = 0 ∨ p.kind = 6 ∨ p.kind = 7))

/-- the bounds that copying keeps -/
structure Like (z z' : Lzs) : Prop where
  lc : z'.lc = z.lc
  lp : z'.lp = z.lp
  pb : z'.pb = z.pb
  dict : z'.dict = z.dict
theorem Like.refl (z : Lzs) : Like z z := ⟨rfl, rfl, rfl, rfl⟩
theorem Like.trans {a b c : Lzs} (h : Like a b) (k : Like b c) : Like a c := ⟨k.lc.trans h.lc, k.lp.trans h.lp, k.pb.trans h.pb, k.dict.trans h.dict⟩

/-- like ZFine, with room for so many bytes more -/
structure ZNear (z : Lzs) (L n : Nat) : Prop where
  lc : z.lc ≤ 8
  lp : z.lp ≤ 4
  pb : z.pb ≤ 4
  dict : z.dict < 4294967296
  out : z.out.length ≤ n
  st : z.st ≤ 11
  r0 : z.r0 < 4294967296
  r1 : z.r1 < 4294967296
  r2 : z.r2 < 4294967296
  r3 : z.r3 < 4294967296
  len : L = 1847 + 768 * 2 ^ (z.lc + z.lp)
theorem ZNear.fine {z : Lzs} {L n : Nat} (h : ZNear z L n) (hn : n ≤ 1000000) : ZFine z L := ⟨h.lc, h.lp, h.pb, h.dict, Nat.le_trans h.out hn, h.st, h.r0, h.r1, h.r2, h.r3, h.len⟩
theorem ZNear.more {z : Lzs} {L n m : Nat} (h : ZNear z L n) (hn : n ≤ m) : ZNear z L m := ⟨h.lc, h.lp, h.pb, h.dict, Nat.le_trans h.out hn, h.st, h.r0, h.r1, h.r2, h.r3, h.len⟩

theorem copyG_near {L : Nat} : ∀ (f n N : Nat) {z : Lzs}, ZNear z L N → ZNear (copyG f n z).2 L (N + f) ∧ (copyG f n z).1 ≤ n + f
  | 0, n, N, z, h => ⟨h, Nat.le_refl _⟩
  | f + 1, n, N, z, h => by
    by_cases hz : z.has z.r0 = true
    · rw [copyG_go hz]
      have h2 : ZNear (z.push (z.back z.r0)) L (N + 1) := ⟨h.lc, h.lp, h.pb, h.dict, by show (z.out ++ [_]).length ≤ _; have := h.out; simp; omega, h.st, h.r0, h.r1, h.r2, h.r3, h.len⟩
      obtain ⟨a, b⟩ := copyG_near f (n + 1) (N + 1) h2
      exact ⟨a.more (by omega), by omega⟩
    · rw [copyG_stop hz]
      exact ⟨⟨h.lc, h.lp, h.pb, h.dict, by have := h.out; show z.out.length ≤ _; omega, h.st, h.r0, h.r1, h.r2, h.r3, h.len⟩, by dsimp only; omega⟩
theorem tailP_near {L k N many : Nat} {z : Lzs} {t : Pm σ} (h : ZNear z L N) (ht : PmOk ok L k t) : ZNear (tailP M many z t).2.1 L (N + many) ∧ PmOk ok L k (tailP M many z t).2.2 ∧ (tailP M many z t).1 ≤ many := by
  unfold tailP
  split
  · exact ⟨⟨h.lc, h.lp, h.pb, h.dict, by have := h.out; show z.out.length ≤ _; omega, h.st, h.r0, h.r1, h.r2, h.r3, h.len⟩, ht, by dsimp only; omega⟩
  · obtain ⟨a, b⟩ := copyG_near many 0 N h
    exact ⟨a, ht, by dsimp only; omega⟩

theorem aft_le {a b s : Nat} (ha : a ≤ 11) (hb : b ≤ 11) : aft a b s ≤ 11 := by unfold aft; split <;> omega
theorem litSt_le {s : Nat} (h : s ≤ 11) : litSt s ≤ 11 := by unfold litSt; split <;> (try split) <;> omega
theorem rep_lt {z : Lzs} {L n : Nat} (h : ZNear z L n) (j : Nat) : z.rep j < 4294967296 := by
  have h0 := h.r0
  have h1 := h.r1
  have h2 := h.r2
  have h3 := h.r3
  unfold Lzs.rep
  split
  · exact h0
  split
  · exact h1
  split
  · exact h2
  · exact h3

/-- the place of a literal's probabilities is in -/
theorem lit_in {z : Lzs} {L n : Nat} {b : Bool} (h : ZNear z L n) : litAt { z with bad := b } + 768 ≤ L := by
  have hL := h.len
  unfold litAt
  have h2 : z.out.length % 2 ^ z.lp + 1 ≤ 2 ^ z.lp := Nat.mod_lt _ (Nat.two_pow_pos _)
  have h3 : (z.out.length % 2 ^ z.lp + 1) * 2 ^ z.lc ≤ 2 ^ z.lp * 2 ^ z.lc := Nat.mul_le_mul_right _ h2
  rw [← Nat.pow_add, Nat.add_mul, Nat.one_mul, Nat.add_comm z.lp] at h3
  have h4 : (Lzs.back { z with bad := b } 0).toNat / 2 ^ (8 - z.lc) + 1 ≤ 2 ^ z.lc := by
    have hb := (Lzs.back { z with bad := b } 0).toNat_lt
    have hp : 2 ^ z.lc * 2 ^ (8 - z.lc) = 256 := by rw [← Nat.pow_add, show z.lc + (8 - z.lc) = 8 by have := h.lc; omega]
    have : (Lzs.back { z with bad := b } 0).toNat / 2 ^ (8 - z.lc) < 2 ^ z.lc := Nat.div_lt_of_lt_mul (by rw [Nat.mul_comm, hp]; omega)
    omega
  dsimp only
  omega

/-- the numbers that the lengths are wanted of -/
def lenM (p : Pk) : Int := if p.kind = 7 then 0 else p.len - 2
def distM (p : Pk) : Nat := if p.kind = 7 then 4294967295 else p.dist

/-- what a packet leaves is near what was there -/
theorem packP_near (h : MachOk M ok) {L k N : Nat} {z : Lzs} {t : Pm σ} {p : Pk} (hz : ZNear z L N) (ht : PmOk ok L (k + 27) t) (hp : PkFine p) (hm : PkMay M z p) :
    ZNear (packP M z t p).2.1 L (N + 273) ∧ PmOk ok L k (packP M z t p).2.2 ∧ (packP M z t p).1 ≤ 273 := by
  have hL0 : 1847 ≤ L := by have := hz.len; omega
  obtain ⟨s, hs⟩ : ∃ s, s = z.out.length % 2 ^ z.pb := ⟨_, rfl⟩
  have hs15 : s ≤ 15 := by
    have h1 : z.out.length % 2 ^ z.pb < 2 ^ z.pb := Nat.mod_lt _ (Nat.two_pow_pos _)
    have h2 : 2 ^ z.pb ≤ 2 ^ 4 := pow_le_of hz.pb
    omega
  have hkm : M.mayN p.kind := fun he => (hm he).1
  obtain ⟨k1, k2⟩ := kindP_ok h (k := k + 22) (em := decide (z.out.length = 0)) (kd := p.kind) (t := t) ht hL0 hs15 hz.st hkm
  have ktell : M.enc = true → (((kindP M t (decide (z.out.length = 0)) z.st s p.kind).1 : Nat) : Int) = (if p.kind = 7 then 1 else p.kind) := fun he => by
    obtain ⟨a, b, c, _⟩ := hm he
    exact (kindP_tell h he a b (fun e => c (of_decide_eq_true e))).1
  unfold packP
  rw [← hs]
  generalize kindP M t (decide (z.out.length = 0)) z.st s p.kind = kb at *
  unfold packK
  split
  · rename_i hk0
    unfold packL
    have hl := litP_ok h (k := k) (z := { z with bad := z.bad || kb.2.1 }) (v := p.byte) (k2.mono h (show k + 8 ≤ k + 22 by omega)) (lit_in (b := z.bad || kb.2.1) hz)
    split
    · exact ⟨⟨hz.lc, hz.lp, hz.pb, hz.dict, by have := hz.out; show z.out.length ≤ _; omega, litSt_le hz.st, hz.r0, hz.r1, hz.r2, hz.r3, hz.len⟩, hl, by dsimp only; omega⟩
    · exact ⟨⟨hz.lc, hz.lp, hz.pb, hz.dict, by have := hz.out; show (z.out ++ [_]).length ≤ _; simp; omega, litSt_le hz.st, hz.r0, hz.r1, hz.r2, hz.r3, hz.len⟩, hl, by dsimp only; omega⟩
  split
  · rename_i hk0 hk1
    unfold packM
    have hlm : M.mayN (if p.kind = 7 then 0 else p.len - 2) := fun he => by
      have h1 := ktell he
      rw [hk1] at h1
      obtain ⟨a, b, c, d⟩ := hm he
      split
      · omega
      · rename_i h7
        rw [if_neg h7] at h1
        have := d (by omega)
        omega
    obtain ⟨l1, l2⟩ := lenP_ok h (k := k + 12) (a := 819) (s := s) (v := if p.kind = 7 then 0 else p.len - 2) k2 (by omega) hs15 hlm
    generalize lenP M kb.2.2 819 s (if p.kind = 7 then 0 else p.len - 2) = b at *
    unfold packD
    obtain ⟨d1, d2⟩ := distP_ok h (k := k) (l := b.1) (v := if p.kind = 7 then 4294967295 else p.dist) l2 hL0 (by split; decide; exact hp.d)
    generalize distP M b.2 b.1 (if p.kind = 7 then 4294967295 else p.dist) = dd at *
    have hz2 : ZNear { z with bad := z.bad || kb.2.1, r0 := dd.1, r1 := z.r0, r2 := z.r1, r3 := z.r2, st := aft 7 10 z.st, ended := decide (dd.1 = 4294967295) && !M.bad dd.2.x } L N :=
      ⟨hz.lc, hz.lp, hz.pb, hz.dict, hz.out, aft_le (by decide) (by decide), d1, hz.r0, hz.r1, hz.r2, hz.len⟩
    obtain ⟨t1, t2, t3⟩ := tailP_near (M := M) (many := b.1 + 2) hz2 d2
    exact ⟨t1.more (by omega), t2, Nat.le_trans t3 (by omega)⟩
  split
  · have hz2 : ZNear { z with bad := z.bad || kb.2.1, st := aft 9 11 z.st } L N := ⟨hz.lc, hz.lp, hz.pb, hz.dict, hz.out, aft_le (by decide) (by decide), hz.r0, hz.r1, hz.r2, hz.r3, hz.len⟩
    obtain ⟨t1, t2, t3⟩ := tailP_near (M := M) (many := 1) hz2 (k2.mono h (show k ≤ k + 22 by omega))
    exact ⟨t1.more (by omega), t2, Nat.le_trans t3 (by omega)⟩
  · rename_i hk0 hk1 hk6
    unfold packR
    have hlm : M.mayN (p.len - 2) := fun he => by
      have h1 := ktell he
      obtain ⟨a, b, c, d⟩ := hm he
      have h7 : ¬ p.kind = 7 := fun h7 => by rw [if_pos h7] at h1; omega
      rw [if_neg h7] at h1
      have := d (by omega)
      omega
    obtain ⟨l1, l2⟩ := lenP_ok h (k := k + 12) (a := 1333) (s := s) (v := p.len - 2) k2 (by omega) hs15 hlm
    generalize lenP M kb.2.2 1333 s (p.len - 2) = b at *
    have hr := rep_lt hz
    have hz2 : ZNear { (Lzs.again { z with bad := z.bad || kb.2.1 } (kb.1 - 2)) with st := aft 8 11 z.st } L N := by
      refine ⟨hz.lc, hz.lp, hz.pb, hz.dict, hz.out, aft_le (by decide) (by decide), hr (kb.1 - 2), ?_, ?_, ?_, hz.len⟩
      · show (if kb.1 - 2 = 0 then z.r1 else z.r0) < _
        split
        · exact hz.r1
        · exact hz.r0
      · show (if kb.1 - 2 ≤ 1 then z.r2 else z.r1) < _
        split
        · exact hz.r2
        · exact hz.r1
      · show (if kb.1 - 2 ≤ 2 then z.r3 else z.r2) < _
        split
        · exact hz.r3
        · exact hz.r2
    obtain ⟨t1, t2, t3⟩ := tailP_near (M := M) (many := b.1 + 2) hz2 (l2.mono h (show k ≤ k + 12 by omega))
    exact ⟨t1.more (by omega), t2, Nat.le_trans t3 (by omega)⟩
end

/-- all is read, and the code is 0 -/
def leftD : Dc → Bool
  | none => false
  | some (_, k, rest) => decide (k = 0) && decide (rest = [])

/-- a setting that may be -/
def maySet (a b c d : Int) : Bool := decide (0 ≤ a ∧ a ≤ 8 ∧ 0 ≤ b ∧ b ≤ 4 ∧ 0 ≤ c ∧ c ≤ 4 ∧ 4096 ≤ d ∧ d ≤ 4294967295)
theorem may_iff {a b c d : Int} : maySet a b c d = true ↔ 0 ≤ a ∧ a ≤ 8 ∧ 0 ≤ b ∧ b ≤ 4 ∧ 0 ≤ c ∧ c ≤ 4 ∧ 4096 ≤ d ∧ d ≤ 4294967295 := by
  unfold maySet
  simp
def probsOf (a b c d : Int) : Int := if maySet a b c d = true then 1847 + 768 * ((2 ^ (a + b).toNat : Nat) : Int) else 0
/-- a new one's state -/
def Lzs.start (lc lp pb dict : Nat) : Lzs := ⟨lc, lp, pb, dict, [], 0, 0, 0, 0, 0, false, false⟩
/-- settings that may be -/
def SetOk (lc lp pb dict : Nat) : Prop := lc ≤ 8 ∧ lp ≤ 4 ∧ pb ≤ 4 ∧ 4096 ≤ dict ∧ dict < 4294967296
def probsN (lc lp : Nat) : Nat := 1847 + 768 * 2 ^ (lc + lp)
theorem setOk_may {lc lp pb dict : Nat} (h : SetOk lc lp pb dict) : maySet lc lp pb dict = true := by
  obtain ⟨h1, h2, h3, h4, h5⟩ := h
  exact may_iff.2 ⟨by omega, by omega, by omega, by omega, by omega, by omega, by omega, by omega⟩
theorem probsN_is {lc lp pb dict : Nat} (h : SetOk lc lp pb dict) : probsOf lc lp pb dict = (probsN lc lp : Int) ∧ probsN lc lp ≤ 4000000 ∧ 1847 ≤ probsN lc lp := by
  have hm := setOk_may h
  obtain ⟨h1, h2, h3, h4, h5⟩ := h
  have hp : 2 ^ (lc + lp) ≤ 2 ^ 12 := pow_le_of (by omega)
  refine ⟨?_, by unfold probsN; omega, by unfold probsN; omega⟩
  unfold probsOf
  rw [if_pos hm]
  unfold probsN
  rw [show ((lc : Int) + (lp : Int)).toNat = lc + lp by omega]
  simp

def pk0 : Pk := ⟨0, 0, 0, 0⟩
/-- whether a packet was the last that may be -/
def stopD (size : Int) (r : Nat × Lzs × Pm Dc) : Bool := r.2.1.bad || (r.2.1.ended || (decM.bad r.2.2.x || decide (size < (r.2.1.out.length : Int))))
/-- packets, until there are so many bytes -/
def upG (size : Int) : Nat → Lzs → Pm Dc → Option (Lzs × Pm Dc)
  | 0, z, t => some (z, t)
  | f + 1, z, t => if (z.out.length : Int) < size then (if stopD size (packP decM z t pk0) = true then none else upG size f (packP decM z t pk0).2.1 (packP decM z t pk0).2.2) else some (z, t)
theorem upG_done {size : Int} {f : Nat} {z : Lzs} {t : Pm Dc} (h : ¬ (z.out.length : Int) < size) : upG size f z t = some (z, t) := by
  cases f with
  | zero => rfl
  | succ f => exact if_neg h
theorem upG_stop {size : Int} {f : Nat} {z : Lzs} {t : Pm Dc} (h : (z.out.length : Int) < size) (hs : stopD size (packP decM z t pk0) = true) : upG size (f + 1) z t = none := by
  show (if _ then _ else _) = _
  rw [if_pos h, if_pos hs]
theorem upG_go {size : Int} {f : Nat} {z : Lzs} {t : Pm Dc} (h : (z.out.length : Int) < size) (hs : ¬ stopD size (packP decM z t pk0) = true) : upG size (f + 1) z t = upG size f (packP decM z t pk0).2.1 (packP decM z t pk0).2.2 := by
  show (if _ then _ else _) = _
  rw [if_pos h, if_neg hs]
/-- whether the stream doesn't end behind one packet more -/
def endD (n : Nat) (r : Nat × Lzs × Pm Dc) : Bool := !r.2.1.ended || (r.2.1.bad || (decide (r.2.1.out.length ≠ n) || !leftD r.2.2.x))
def finD (z : Lzs) (t : Pm Dc) : Option (List UInt8) :=
  if leftD t.x = true then some z.out
  else if endD z.out.length (packP decM z t pk0) = true then none else some (packP decM z t pk0).2.1.out
def finU : Option (Lzs × Pm Dc) → Option (List UInt8)
  | none => none
  | some zt => finD zt.1 zt.2
/-- what a stream of a size is -/
def unpackN (bs : List UInt8) (lc lp pb dict : Nat) (size : Int) : Option (List UInt8) :=
  finU (upG size size.toNat (Lzs.start lc lp pb dict) ⟨List.replicate (probsN lc lp) 1024, started bs⟩)

/-- a packet that isn't the last tells a byte at least -/
theorem pack_more {size : Int} {z : Lzs} {t : Pm Dc} (h : stopD size (packP decM z t pk0) = false) : z.out.length < (packP decM z t pk0).2.1.out.length := by
  have hb : (packP decM z t pk0).2.1.bad = false := by
    unfold stopD at h
    revert h
    cases (packP decM z t pk0).2.1.bad <;> simp
  have hen : (packP decM z t pk0).2.1.ended = false := by
    unfold stopD at h
    revert h
    cases (packP decM z t pk0).2.1.ended <;> simp
  have hcopy : ∀ (f n : Nat) (z : Lzs), (copyG f n z).2.bad = false → z.out.length + f = (copyG f n z).2.out.length := by
    intro f
    induction f with
    | zero => intro n z _; rfl
    | succ f ih =>
      intro n z hb
      by_cases hz : z.has z.r0 = true
      · rw [copyG_go hz] at hb ⊢
        have := ih _ _ hb
        have hl : (z.push (z.back z.r0)).out.length = z.out.length + 1 := by show (z.out ++ [_]).length = _; simp
        omega
      · rw [copyG_stop hz] at hb
        cases hb
  have htail : ∀ (many : Nat) (z : Lzs) (t : Pm Dc), 1 ≤ many → (tailP decM many z t).2.1.bad = false → (tailP decM many z t).2.1.ended = false → z.out.length < (tailP decM many z t).2.1.out.length := by
    intro many z t hm h1 h2
    unfold tailP at h1 h2 ⊢
    split at h1
    · rename_i hc
      rw [if_pos hc] at h2
      exfalso
      have h1 : (z.bad || decM.bad t.x) = false := h1
      have h2 : z.ended = false := h2
      rw [h1, h2] at hc
      cases hc
    · rename_i hc
      rw [if_neg hc]
      have := hcopy many 0 z h1
      show z.out.length < (copyG many 0 z).2.out.length
      omega
  revert hb hen
  unfold packP packK
  split
  · unfold packL
    split
    · intro hb; cases hb
    · intro _ _
      show z.out.length < (z.out ++ [_]).length
      simp
  split
  · intro hb hen
    exact htail _ _ _ (by omega) hb hen
  split
  · intro hb hen
    exact htail _ _ _ (by omega) hb hen
  · intro hb hen
    exact htail _ _ _ (by omega) hb hen

theorem pk0_fine : PkFine pk0 := ⟨by decide, by decide, by decide⟩
theorem pk0_may (z : Lzs) : PkMay decM z pk0 := fun h => by cases h
theorem start_near {lc lp pb dict : Nat} (h : SetOk lc lp pb dict) : ZNear (Lzs.start lc lp pb dict) (probsN lc lp) 0 :=
  ⟨h.1, h.2.1, h.2.2.1, h.2.2.2.2, Nat.le_refl _, (show 0 ≤ 11 by decide), (show 0 < 4294967296 by decide), (show 0 < 4294967296 by decide), (show 0 < 4294967296 by decide), (show 0 < 4294967296 by decide), rfl⟩
theorem start_pm {σ : Type} {ok : Nat → σ → Prop} {L k : Nat} {x : σ} (h : ok k x) : PmOk ok L k ⟨List.replicate L 1024, x⟩ :=
  ⟨fun p hp => by rw [List.eq_of_mem_replicate hp]; exact ⟨by decide, by decide⟩, by simp, h⟩
end Go.Proofs.YtpdpbbmkicemdaaGreat

/-
  The program's decoder of ranges over probabilities that lie wherever they lie: bits, trees.
-/
namespace Go.Proofs.YtpdpbbmkicemdaaGreat
open Go.RowKit

/-- what a decoder turns -/
def owns (f g : Nat) (B : Nat → Prop) : Nat → Prop := fun i => i = f ∨ i = g ∨ B i
/-- the machine and its probabilities, in memory -/
structure Mch (R : World → List Nat → Prop) (g f lo : Nat) (bs : List UInt8) (L : Nat) (w : World) (t : Pm Dc) : Prop where
  pd : Pd w g f lo bs t.x
  row : R w t.ps
  ok : PmOk okD L 0 t
def MPost (R : World → List Nat → Prop) (B : Nat → Prop) (g f lo : Nat) (bs : List UInt8) (L : Nat) (w : World) (v : Value) (t : Pm Dc) (e : Ending) (w' : World) : Prop :=
  e = .returned v ∧ Mch R g f lo bs L w' t ∧ Only (owns f g B) w w'
theorem okD_any {L k : Nat} {t : Pm Dc} (h : PmOk okD L 0 t) : PmOk okD L k t := ⟨h.ps, h.len, h.x⟩
section
variable {R : World → List Nat → Prop} {B : Nat → Prop} {ad : Nat → Nat × Nat} {L : Nat} {g f lo r c at_ b i p a : Nat} {w : World} {bs : List UInt8} {ps : List Nat}

set_option maxRecDepth 100000 in
set_option maxHeartbeats 4000000 in
theorem lw_zero (Z : Prb R B ad L) (hB0 : ∀ i, B i → i < lo ∨ g < i) (hab : ad a = (b, i)) (ha : a < L) {z : Nat} (hz : z = r / 2048 * p) (hB : Blk w g 133 (pdCells f r c false)) (hF : Feed w f lo bs at_) (hfg : f < g) (hR : R w ps) (hpi : p = ps.getD a 0)
    (hr0 : 16777216 ≤ r) (hr : r < 4294967296) (hp : POk p) (hlt : c < z) :
    Calls Tryz.prog 66 #[.pointer (some ⟨g, 0, none⟩), .pointer (some ⟨b, i, none⟩)] w fun e w' => e = .returned (.int .i64 0) ∧ Pd w' g f lo bs (lvl z c (bs.drop at_)) ∧ R w' (ps.set a (up0 p)) ∧ Only (owns f g B) w w' := by
  obtain ⟨b0, b1⟩ := bound_in hr0 hr hp
  rw [← hz] at b0 b1
  obtain ⟨p0, p1⟩ := hp
  have hlo := hF.lo
  have hBb : B b := by have := Z.blk ha; rw [hab] at this; exact this
  have hbo := hB0 b hBb
  have hbg : b ≠ g := by omega
  have h1 : w.cell? ⟨g, 1, none⟩ = some (.int .u32 (r : Int)) := hB.cell 1
  have h2 : w.cell? ⟨g, 2, none⟩ = some (.int .u32 (c : Int)) := hB.cell 2
  have h3 : w.cell? ⟨g, 3, none⟩ = some (.bool false) := hB.cell 3
  have z1 : w.frozen? ⟨g, 1, none⟩ = false := hB.free 1
  have hx : w.cell? ⟨b, i, none⟩ = some (.int .u16 (p : Int)) := by have := Z.cell hR ha; rw [hab] at this; rw [hpi]; exact this
  have zx : w.frozen? ⟨b, i, none⟩ = false := by have := Z.free hR ha; rw [hab] at this; exact this
  have e0 : IntKind.u32.wrap (p : Int) = (p : Int) := u32_of _ (by omega) (by omega)
  have e1 : IntKind.u32.wrap ((r : Int) / 2048 * (p : Int)) = (z : Int) := by
    rw [show (r : Int) / 2048 * (p : Int) = (z : Int) by rw [hz]; simp]
    exact u32_of _ (by omega) (by omega)
  have e1' : IntKind.u32.wrap ((r : Int) / 2048) = (r : Int) / 2048 := u32_of _ (by omega) (by omega)
  have hlt' : (c : Int) < (z : Int) := by omega
  clear hz hpi
  have e2 : IntKind.u16.wrap (2048 - (p : Int)) = 2048 - (p : Int) := u16_in _ (by omega)
  obtain ⟨u, hu⟩ : ∃ u, u = (2048 - p) / 32 := ⟨_, rfl⟩
  have e3 : IntKind.u16.wrap ((2048 - (p : Int)).tdiv 32) = (u : Int) := by
    rw [Int.tdiv_eq_ediv_of_nonneg (by omega), show (2048 - (p : Int)) / 32 = (u : Int) by omega]
    exact u16_in _ (by omega)
  have hup : up0 p = p + u := by unfold up0; omega
  have e5 : IntKind.u16.wrap ((p : Int) + (u : Int)) = ((p + u : Nat) : Int) := by rw [← Int.natCast_add]; exact u16_in _ (by omega)
  rw [hup]
  clear hu hup
  generalize p + u = q at *
  have hO1 : ∀ n, Only (fun j => j = g) w ((w.setCell ⟨g, 1, none⟩ (.int .u32 (z : Int))).drewN n) := fun n => ((Only.refl (fun j => j = g) w).setCell (p := ⟨g, 1, none⟩) (.inl rfl) _).drewN n
  have hO : ∀ n, Only (fun j => j = g ∨ j = b) w (((w.setCell ⟨g, 1, none⟩ (.int .u32 (z : Int))).drewN n).setCell ⟨b, i, none⟩ (.int .u16 (q : Int))) := fun n => ((hO1 n).mono (fun j hj => .inl hj)).setCell (p := ⟨b, i, none⟩) (.inl (.inr rfl)) _
  have hB1 : ∀ n, Blk (((w.setCell ⟨g, 1, none⟩ (.int .u32 (z : Int))).drewN n).setCell ⟨b, i, none⟩ (.int .u16 (q : Int))) g 133 (pdCells f z c false) := fun n => ((hB.put 1 _).drewN n).far hbg.symm _
  have HR := Lib.hid (fun n => show R (((w.setCell ⟨g, 1, none⟩ (.int .u32 (z : Int))).drewN n).setCell ⟨b, i, none⟩ (.int .u16 (q : Int))) (ps.set a q) from by have := Z.put (Z.only hR (hO1 n) (fun j hj e => by have := hB0 j hj; omega)) ha q; rw [hab] at this; exact this)
  have K := Lib.hid (fun n => even_any (hB1 n) (hF.only (hO n) (fun j hj => by omega)) hfg (by omega) (Nat.le_of_lt hlt))
  have HO := Lib.hid (fun n => (hO n).mono (S' := owns f g B) (fun j hj => by rcases hj with hj | hj; exact .inr (.inl hj); exact .inr (.inr (hj ▸ hBb))))
  have HZ := Lib.hid Z
  have HB0 := Lib.hid hB0
  clear hB hF hR hB1 hO hO1 Z hB0 hbo hBb hab ha
  go_enter Tryz.func66, Tryz.ntmps66
  go_wp2_with fail
  go_quiet (fail)
  go_wp2_with fail
  go_region
  all_goals go_wp2_with fail
  refine (K.out (nq + 1)).mono ?_
  rintro e w1 ⟨rfl, ⟨at', r', c', bad', hB2, hF2, _, ht⟩, hO2⟩
  have HB2 := Lib.hid hB2
  have HF2 := Lib.hid hF2
  have HT := Lib.hid ht
  have HR2 := Lib.hid (HZ.out.only (HR.out (nq + 1)) hO2 (fun j hj e => by have := HB0.out j hj; rcases e with e | e <;> omega))
  have HO2 := Lib.hid ((HO.out (nq + 1)).trans (hO2.mono fun j hj => by rcases hj with h | h; exact .inl h; exact .inr (.inl h)))
  have KT := Lib.hid (told_any (x := 0) hB2)
  clear hB2 hF2 ht hO2 HO K HR h1 h2 h3 z1 hx zx HZ HB0
  go_wp2_with fail
  refine KT.out.mono ?_
  rintro e w2 ⟨rfl, rfl⟩
  go_wp2_with fail
  go_ret
  exact ⟨by simp, ⟨at', r', c', bad', HB2.out, HF2.out, hfg, HT.out⟩, HR2.out, HO2.out⟩

set_option maxRecDepth 100000 in
set_option maxHeartbeats 4000000 in
theorem lw_one (Z : Prb R B ad L) (hB0 : ∀ i, B i → i < lo ∨ g < i) (hab : ad a = (b, i)) (ha : a < L) {z v : Nat} {d1 : Dc} (hd1 : lvl (r - z) (c - z) (bs.drop at_) = d1) (hv : v = if d1 = none then 0 else 1) (hz : z = r / 2048 * p) (hB : Blk w g 133 (pdCells f r c false)) (hF : Feed w f lo bs at_) (hfg : f < g) (hR : R w ps) (hpi : p = ps.getD a 0)
    (hr0 : 16777216 ≤ r) (hr : r < 4294967296) (hcr : c < r) (hp : POk p) (hlt : ¬ c < z) :
    Calls Tryz.prog 66 #[.pointer (some ⟨g, 0, none⟩), .pointer (some ⟨b, i, none⟩)] w fun e w' => e = .returned (.int .i64 (v : Int)) ∧ Pd w' g f lo bs d1 ∧ R w' (ps.set a (up1 p)) ∧ Only (owns f g B) w w' := by
  obtain ⟨b0, b1⟩ := bound_in hr0 hr hp
  rw [← hz] at b0 b1
  obtain ⟨p0, p1⟩ := hp
  have hlo := hF.lo
  have hBb : B b := by have := Z.blk ha; rw [hab] at this; exact this
  have hbo := hB0 b hBb
  have hbg : b ≠ g := by omega
  have h1 : w.cell? ⟨g, 1, none⟩ = some (.int .u32 (r : Int)) := hB.cell 1
  have h2 : w.cell? ⟨g, 2, none⟩ = some (.int .u32 (c : Int)) := hB.cell 2
  have h3 : w.cell? ⟨g, 3, none⟩ = some (.bool false) := hB.cell 3
  have z1 : w.frozen? ⟨g, 1, none⟩ = false := hB.free 1
  have z2 : w.frozen? ⟨g, 2, none⟩ = false := hB.free 2
  have hx : w.cell? ⟨b, i, none⟩ = some (.int .u16 (p : Int)) := by have := Z.cell hR ha; rw [hab] at this; rw [hpi]; exact this
  have zx : w.frozen? ⟨b, i, none⟩ = false := by have := Z.free hR ha; rw [hab] at this; exact this
  have e0 : IntKind.u32.wrap (p : Int) = (p : Int) := u32_of _ (by omega) (by omega)
  have e1 : IntKind.u32.wrap ((r : Int) / 2048 * (p : Int)) = (z : Int) := by
    rw [show (r : Int) / 2048 * (p : Int) = (z : Int) by rw [hz]; simp]
    exact u32_of _ (by omega) (by omega)
  have e1' : IntKind.u32.wrap ((r : Int) / 2048) = (r : Int) / 2048 := u32_of _ (by omega) (by omega)
  have hlt' : ¬ (c : Int) < (z : Int) := by omega
  clear hz hpi
  have e2 : IntKind.u32.wrap ((c : Int) - (z : Int)) = ((c - z : Nat) : Int) := by rw [show (c : Int) - (z : Int) = ((c - z : Nat) : Int) by omega]; exact u32_of _ (by omega) (by omega)
  have e3 : IntKind.u32.wrap ((r : Int) - (z : Int)) = ((r - z : Nat) : Int) := by rw [show (r : Int) - (z : Int) = ((r - z : Nat) : Int) by omega]; exact u32_of _ (by omega) (by omega)
  have hup : up1 p = p - p / 32 := rfl
  have e5 : IntKind.u16.wrap ((p : Int) - (p : Int) / 32) = ((p - p / 32 : Nat) : Int) := by rw [show (p : Int) - (p : Int) / 32 = ((p - p / 32 : Nat) : Int) by omega]; exact u16_in _ (by omega)
  have e6 : IntKind.u16.wrap ((p : Int) / 32) = (p : Int) / 32 := u16_in _ (by omega)
  rw [hup]
  clear hup
  generalize p - p / 32 = q at *
  have hO1 : ∀ n, Only (fun j => j = g) w (((w.setCell ⟨g, 2, none⟩ (.int .u32 ((c - z : Nat) : Int))).setCell ⟨g, 1, none⟩ (.int .u32 ((r - z : Nat) : Int))).drewN n) := fun n => (((Only.refl (fun j => j = g) w).setCell (p := ⟨g, 2, none⟩) (.inl rfl) _).setCell (p := ⟨g, 1, none⟩) (.inl rfl) _).drewN n
  have hO : ∀ n, Only (fun j => j = g ∨ j = b) w ((((w.setCell ⟨g, 2, none⟩ (.int .u32 ((c - z : Nat) : Int))).setCell ⟨g, 1, none⟩ (.int .u32 ((r - z : Nat) : Int))).drewN n).setCell ⟨b, i, none⟩ (.int .u16 (q : Int))) := fun n => ((hO1 n).mono (fun j hj => .inl hj)).setCell (p := ⟨b, i, none⟩) (.inl (.inr rfl)) _
  have hB1 : ∀ n, Blk ((((w.setCell ⟨g, 2, none⟩ (.int .u32 ((c - z : Nat) : Int))).setCell ⟨g, 1, none⟩ (.int .u32 ((r - z : Nat) : Int))).drewN n).setCell ⟨b, i, none⟩ (.int .u16 (q : Int))) g 133 (pdCells f (r - z) (c - z) false) := fun n => (((hB.put 2 _).put 1 _).drewN n).far hbg.symm _
  have HR := Lib.hid (fun n => show R ((((w.setCell ⟨g, 2, none⟩ (.int .u32 ((c - z : Nat) : Int))).setCell ⟨g, 1, none⟩ (.int .u32 ((r - z : Nat) : Int))).drewN n).setCell ⟨b, i, none⟩ (.int .u16 (q : Int))) (ps.set a q) from by have := Z.put (Z.only hR (hO1 n) (fun j hj e => by have := hB0 j hj; omega)) ha q; rw [hab] at this; exact this)
  have K := Lib.hid (fun n => even_any (hB1 n) (hF.only (hO n) (fun j hj => by omega)) hfg (by omega) (by omega))
  have HO := Lib.hid (fun n => (hO n).mono (S' := owns f g B) (fun j hj => by rcases hj with hj | hj; exact .inr (.inl hj); exact .inr (.inr (hj ▸ hBb))))
  have HZ := Lib.hid Z
  have HB0 := Lib.hid hB0
  have HD1 := Lib.hid hd1
  have HV := Lib.hid hv
  clear hB hF hR hB1 hO hO1 hd1 hv Z hB0 hbo hBb hab ha
  generalize r - z = r1 at *
  generalize c - z = c1 at *
  go_enter Tryz.func66, Tryz.ntmps66
  go_wp2_with fail
  go_quiet (fail)
  go_wp2_with fail
  go_region
  all_goals go_wp2_with fail
  refine (K.out (nq + 1)).mono ?_
  rintro e w1 ⟨rfl, ⟨at', r', c', bad', hB2, hF2, _, ht⟩, hO2⟩
  rw [HD1.out] at ht
  have HB2 := Lib.hid hB2
  have HF2 := Lib.hid hF2
  have HT := Lib.hid ht
  have HR2 := Lib.hid (HZ.out.only (HR.out (nq + 1)) hO2 (fun j hj e => by have := HB0.out j hj; rcases e with e | e <;> omega))
  have HO2 := Lib.hid ((HO.out (nq + 1)).trans (hO2.mono fun j hj => by rcases hj with h | h; exact .inl h; exact .inr (.inl h)))
  have KT := Lib.hid (told_any (x := 1) hB2)
  have hv : v = if bad' = true then 0 else 1 := by
    rw [HV.out]
    rcases ht.2.2.2 with ⟨rfl, h⟩ | ⟨rfl, h⟩
    · rw [if_pos h, if_pos rfl]
    · rw [if_neg (by rw [h]; simp), if_neg (by simp)]
  have HV2 := Lib.hid hv
  clear hB2 hF2 ht hO2 HO K HR h1 h2 h3 z1 z2 hx zx hv HV HZ HB0
  cases bad'
  all_goals
    go_wp2_with fail
    refine KT.out.mono ?_
    rintro e w2 ⟨rfl, rfl⟩
    go_wp2_with fail
    go_ret
    refine ⟨?_, ⟨at', r', c', _, HB2.out, HF2.out, hfg, HT.out⟩, HR2.out, HO2.out⟩
    rw [HV2.out]
    rfl

/-- A bit. -/
theorem lw_bit (Z : Prb R B ad L) (hB0 : ∀ i, B i → i < lo ∨ g < i) (hab : ad a = (b, i)) (ha : a < L) {t : Pm Dc} {k : Int} (h : Mch R g f lo bs L w t) :
    Calls Tryz.prog 66 #[.pointer (some ⟨g, 0, none⟩), .pointer (some ⟨b, i, none⟩)] w (MPost R B g f lo bs L w (.int .i64 ((bitP decM t a k).1 : Int)) (bitP decM t a k).2) := by
  have hnext := (bitP_ok decM_ok (k := 0) (a := a) (w := k) (okD_any h.ok) ha (fun h => by cases h)).2
  have hps := getD_ok h.ok.ps (show a < t.ps.length by rw [h.ok.len]; exact ha)
  obtain ⟨hP, hR, hok⟩ := h
  obtain ⟨at_, r, c, bad, hB, hF, hfg, h0, h1, h2, h3⟩ := hP
  rcases h3 with ⟨rfl, hn⟩ | ⟨rfl, hn⟩
  · refine (bit_bad hB).mono ?_
    rintro e w' ⟨rfl, rfl⟩
    have e1 : (bitP decM t a k).1 = 0 := by show (bitD t.x _).1 = 0; rw [hn]; rfl
    have e2 : (bitP decM t a k).2 = t := by
      show (⟨t.ps.set a (bitD t.x (t.ps.getD a 0)).2.1, (bitD t.x (t.ps.getD a 0)).2.2⟩ : Pm Dc) = t
      rw [hn]
      show (⟨t.ps.set a (t.ps.getD a 0), none⟩ : Pm Dc) = t
      rw [set_same_get _ _ (by rw [hok.len]; exact ha), ← hn]
    rw [e1, e2]
    exact ⟨rfl, ⟨⟨at_, r, c, true, hB, hF, hfg, h0, h1, h2, .inl ⟨rfl, hn⟩⟩, hR, hok⟩, Only.refl _ _⟩
  · obtain ⟨d0, d1, d2⟩ := hok.x _ _ _ hn
    have hx : bitP decM t a k = ((bitD t.x (t.ps.getD a 0)).1, ⟨t.ps.set a (bitD t.x (t.ps.getD a 0)).2.1, (bitD t.x (t.ps.getD a 0)).2.2⟩) := rfl
    rw [hx] at hnext ⊢
    rw [hn] at hnext ⊢
    unfold bitD at hnext ⊢
    simp only [] at hnext ⊢
    by_cases hlt : c < r / 2048 * t.ps.getD a 0
    · rw [if_pos hlt] at hnext ⊢
      refine (lw_zero Z hB0 hab ha rfl hB hF hfg hR rfl d0 d1 hps hlt).mono ?_
      rintro e w' ⟨rfl, g1, g2, g3⟩
      exact ⟨rfl, ⟨g1, g2, hnext⟩, g3⟩
    · rw [if_neg hlt] at hnext ⊢
      refine (lw_one Z hB0 hab ha rfl rfl rfl hB hF hfg hR rfl d0 d1 d2 hps hlt).mono ?_
      rintro e w' ⟨rfl, g1, g2, g3⟩
      cases hl : lvl (r - r / 2048 * t.ps.getD a 0) (c - r / 2048 * t.ps.getD a 0) (bs.drop at_) with
      | none => rw [hl] at hnext g1; exact ⟨rfl, ⟨g1, g2, hnext⟩, g3⟩
      | some u => rw [hl] at hnext g1; exact ⟨rfl, ⟨g1, g2, hnext⟩, g3⟩

theorem Mch.cells {t : Pm Dc} (h : Mch R g f lo bs L w t) : ∃ (r c : Nat) (bad : Bool), Blk w g 133 (pdCells f r c bad) ∧ (bad = true ↔ t.x = none) := by
  obtain ⟨at_, r, c, bad, hB, hF, hfg, h0, h1, h2, h3⟩ := h.pd
  refine ⟨r, c, bad, hB, ?_⟩
  rcases h3 with ⟨rfl, hn⟩ | ⟨rfl, hn⟩
  · simp [hn]
  · simp [hn]

set_option maxRecDepth 100000 in
set_option maxHeartbeats 4000000 in
/-- A number by a tree. -/
theorem lw_tree (Z : Prb R B ad L) (hB0 : ∀ i, B i → i < lo ∨ g < i) {o n len cap v : Nat} {t : Pm Dc} (had : ∀ m, m < 2 ^ n → ad (a + m) = (b, o + m)) (haL : a + 2 ^ n ≤ L) (hv : v = if (treeP decM t a n 0).2.x = none then 0 else (treeP decM t a n 0).1) (h : Mch R g f lo bs L w t) (hn : 2 ^ n ≤ len) (hn8 : n ≤ 8) :
    Calls Tryz.prog 72 #[.pointer (some ⟨g, 0, none⟩), .slice (some ⟨b, o, none⟩) len cap, .int .i64 (n : Int)] w
      (MPost R B g f lo bs L w (.int .i64 (v : Int)) (treeP decM t a n 0).2) := by
  have HP := Lib.hid h
  have HT := Lib.hid (treeG_ok decM_ok (k := 0) (v := 0) (okD_any h.ok) haL (fun h => by cases h))
  have HAL := Lib.hid haL
  have HAD := Lib.hid had
  have HBL := Lib.hid hB0
  have HV := Lib.hid hv
  have HZ := Lib.hid Z
  clear h hB0 hv Z had haL
  go_enter Tryz.func72, Tryz.ntmps72
  go_wp2_with fail
  go_loopw [7, 8, 9, 11] (fun v m _ i wr => ∃ (j x : Nat) (T : Tg Dc), j ≤ n ∧ T = treeG decM t a n 0 j ∧ i = .int .i64 (j : Int) ∧ v = .int .i64 (x : Int) ∧ m = .int .i64 (T.m : Int) ∧ x + 2 ^ j = T.m ∧ Mch R g f lo bs L wr T.t ∧ Only (owns f g B) w wr) (fun _ _ _ i _ => n - (intOf i).toNat)
  case atStart => exact ⟨0, 0, _, Nat.zero_le _, rfl, rfl, rfl, rfl, rfl, HP.out, Only.refl _ _⟩
  case round =>
    clear HP
    obtain ⟨j, x, T, hj, hT, rfl, rfl, rfl, hx, hp, ho⟩ := hrel
    obtain ⟨t1, t2, t3⟩ := HT.out j hj
    rw [← hT] at t1 t2 t3
    have HO := Lib.hid ho
    have HT0 := Lib.hid hT
    clear ho hT t1
    by_cases hlt : j < n
    · have hpow : 2 ^ (j + 1) ≤ 2 ^ n := Nat.pow_le_pow_right (by omega) hlt
      have h256 := pow8 hn8
      have hmn : T.m < 2 ^ n := by omega
      have K := Lib.hid (lw_bit (k := want 0 (n - 1 - j)) HZ.out HBL.out (HAD.out T.m hmn) (by have := HAL.out; omega) hp)
      have hm1 : (T.m : Int) < (len : Int) := by omega
      have hm0 : (0 : Int) ≤ (T.m : Int) := by omega
      have hu := (bitP_ok decM_ok (k := 0) (a := a + T.m) (w := want 0 (n - 1 - j)) (okD_any hp.ok) (by have := HAL.out; omega) (fun h => by cases h)).1
      have HST := Lib.hid (show tgStep decM a j (want 0 (n - 1 - j)) T = treeG decM t a n 0 (j + 1) by rw [HT0.out]; rfl)
      have hsm : (tgStep decM a j (want 0 (n - 1 - j)) T).m = 2 * T.m + (bitP decM T.t (a + T.m) (want 0 (n - 1 - j))).1 := rfl
      have hst : (tgStep decM a j (want 0 (n - 1 - j)) T).t = (bitP decM T.t (a + T.m) (want 0 (n - 1 - j))).2 := rfl
      rw [← hst] at K
      generalize (bitP decM T.t (a + T.m) (want 0 (n - 1 - j))).1 = u at *
      have hlt' : (j : Int) < (n : Int) := by omega
      have hm5 : T.m < 512 := by omega
      have hx5 : x < 512 := by omega
      have e1 : IntKind.i64.wrap (2 * (x : Int)) = 2 * (x : Int) := IntWalk.i64_in _ (by omega)
      have e2 : IntKind.i64.wrap (2 * (T.m : Int)) = 2 * (T.m : Int) := IntWalk.i64_in _ (by omega)
      have e3 : IntKind.i64.wrap (2 * (x : Int) + (u : Int)) = ((2 * x + u : Nat) : Int) := by rw [show 2 * (x : Int) + (u : Int) = ((2 * x + u : Nat) : Int) by omega]; exact IntWalk.i64_in _ (by omega)
      have e4 : IntKind.i64.wrap (2 * (T.m : Int) + (u : Int)) = ((2 * T.m + u : Nat) : Int) := by rw [show 2 * (T.m : Int) + (u : Int) = ((2 * T.m + u : Nat) : Int) by omega]; exact IntWalk.i64_in _ (by omega)
      have HX := Lib.hid hx
      have HSM := Lib.hid hsm
      clear hp t2 t3 hx hpow h256 hu hsm hst HT hmn
      generalize tgStep decM a j (want 0 (n - 1 - j)) T = T' at *
      generalize T.m = y at *
      go_wp2_with fail
      refine K.out.mono ?_
      rintro e w1 ⟨rfl, hp1, ho1⟩
      have HP1 := Lib.hid hp1
      have HO1 := Lib.hid (HO.out.trans ho1)
      clear hp1 ho1 HO K
      go_wp2_with fail
      go_roundw
      case rel =>
        refine ⟨j + 1, 2 * x + u, T', by omega, HST.out, by go_num, rfl, by rw [HSM.out]; go_num, ?_, HP1.out, HO1.out⟩
        have := HX.out
        have := HSM.out
        rw [Nat.pow_succ]
        omega
      case measure => simp [intOf]; omega
    · obtain rfl : j = n := by omega
      obtain ⟨r, c, bad, hB, hbx⟩ := hp.cells
      have HB := Lib.hid hp
      have KT := Lib.hid (told_any (x := (x : Int)) hB)
      have hv : v = if bad = true then 0 else x := by
        have e1 : (treeP decM t a j 0).2 = T.t := by rw [HT0.out]; rfl
        have e2 : (treeP decM t a j 0).1 = x := by show (treeG decM t a j 0 j).m - 2 ^ j = x; rw [← HT0.out]; omega
        rw [HV.out, e1, e2]
        by_cases hb : bad = true
        · rw [if_pos hb, if_pos (hbx.1 hb)]
        · rw [if_neg hb, if_neg (fun h => hb (hbx.2 h))]
      clear hB hbx hx t2 t3 HT HV hp
      generalize T.m = y at *
      cases bad
      all_goals
        simp only [if_true, Bool.false_eq_true, if_false] at hv KT
        subst hv
        go_wp2_with fail
        refine KT.out.mono ?_
        rintro e w2 ⟨rfl, rfl⟩
        go_wp2_with fail
        go_ret
        have e1 : (treeP decM t a j 0).2 = T.t := by rw [HT0.out]; rfl
        rw [e1]
        exact ⟨rfl, HB.out, HO.out⟩

set_option maxRecDepth 100000 in
set_option maxHeartbeats 4000000 in
/-- A number by a tree, the least bit first. -/
theorem lw_rev (Z : Prb R B ad L) (hB0 : ∀ i, B i → i < lo ∨ g < i) {o n len cap v : Nat} {t : Pm Dc} (had : ∀ m, m < 2 ^ n → ad (a + m) = (b, o + m)) (haL : a + 2 ^ n ≤ L) (hv : v = if (revP decM t a n 0).2.x = none then 0 else (revP decM t a n 0).1) (h : Mch R g f lo bs L w t) (hn : 2 ^ n ≤ len) (hn8 : n ≤ 8) :
    Calls Tryz.prog 112 #[.pointer (some ⟨g, 0, none⟩), .slice (some ⟨b, o, none⟩) len cap, .int .i64 (n : Int)] w
      (MPost R B g f lo bs L w (.int .i64 (v : Int)) (revP decM t a n 0).2) := by
  have HP := Lib.hid h
  have HT := Lib.hid (revG_ok decM_ok (k := 0) (v := 0) (okD_any h.ok) haL (fun h => by cases h))
  have HAL := Lib.hid haL
  have HAD := Lib.hid had
  have HBL := Lib.hid hB0
  have HV := Lib.hid hv
  have HZ := Lib.hid Z
  clear h hB0 hv Z had haL
  go_enter Tryz.func112, Tryz.ntmps112
  go_wp2_with fail
  go_loopw [7, 8, 9, 10, 12] (fun v m _ _ i wr => ∃ (j x : Nat) (T : Tg Dc), j ≤ n ∧ T = revG decM t a 0 j ∧ i = .int .i64 (j : Int) ∧ v = .int .i64 (x : Int) ∧ m = .int .i64 (T.m : Int) ∧ x = T.o ∧ Mch R g f lo bs L wr T.t ∧ Only (owns f g B) w wr) (fun _ _ _ _ i _ => n - (intOf i).toNat)
  case atStart => exact ⟨0, 0, _, Nat.zero_le _, rfl, rfl, rfl, rfl, rfl, HP.out, Only.refl _ _⟩
  case round =>
    clear HP
    obtain ⟨j, x, T, hj, hT, rfl, rfl, rfl, hx, hp, ho⟩ := hrel
    obtain ⟨t1, t2, t3, t4⟩ := HT.out j hj
    rw [← hT] at t1 t2 t3 t4
    have HO := Lib.hid ho
    have HT0 := Lib.hid hT
    rw [← hx] at t4
    clear ho hT t1
    by_cases hlt : j < n
    · have hpow : 2 ^ (j + 1) ≤ 2 ^ n := Nat.pow_le_pow_right (by omega) hlt
      have h256 := pow8 hn8
      have hmn : T.m < 2 ^ n := by omega
      have K := Lib.hid (lw_bit (k := want 0 j) HZ.out HBL.out (HAD.out T.m hmn) (by have := HAL.out; omega) hp)
      have hm1 : (T.m : Int) < (len : Int) := by omega
      have hm0 : (0 : Int) ≤ (T.m : Int) := by omega
      have hu := (bitP_ok decM_ok (k := 0) (a := a + T.m) (w := want 0 j) (okD_any hp.ok) (by have := HAL.out; omega) (fun h => by cases h)).1
      have HST := Lib.hid (show tgStep decM a j (want 0 j) T = revG decM t a 0 (j + 1) by rw [HT0.out]; rfl)
      have hsm : (tgStep decM a j (want 0 j) T).m = 2 * T.m + (bitP decM T.t (a + T.m) (want 0 j)).1 := rfl
      have hso : (tgStep decM a j (want 0 j) T).o = T.o + (bitP decM T.t (a + T.m) (want 0 j)).1 * 2 ^ j := rfl
      have hst : (tgStep decM a j (want 0 j) T).t = (bitP decM T.t (a + T.m) (want 0 j)).2 := rfl
      rw [← hst] at K
      generalize (bitP decM T.t (a + T.m) (want 0 j)).1 = u at *
      have hlt' : (j : Int) < (n : Int) := by omega
      have hm5 : T.m < 512 := by omega
      have e1 := i64_or_shift x u j t4 hu (by omega)
      have e2 : IntKind.i64.wrap (2 * (T.m : Int)) = 2 * (T.m : Int) := IntWalk.i64_in _ (by omega)
      have e4 : IntKind.i64.wrap (2 * (T.m : Int) + (u : Int)) = ((2 * T.m + u : Nat) : Int) := by rw [show 2 * (T.m : Int) + (u : Int) = ((2 * T.m + u : Nat) : Int) by omega]; exact IntWalk.i64_in _ (by omega)
      rw [← hx] at hso
      have HSO := Lib.hid hso
      have HSM := Lib.hid hsm
      clear hp t2 t3 t4 hx hpow h256 hu hsm hst HT hmn hso
      generalize x + u * 2 ^ j = x' at *
      generalize tgStep decM a j (want 0 j) T = T' at *
      generalize T.m = y at *
      go_wp2_with fail
      refine K.out.mono ?_
      rintro e w1 ⟨rfl, hp1, ho1⟩
      have HP1 := Lib.hid hp1
      have HO1 := Lib.hid (HO.out.trans ho1)
      clear hp1 ho1 HO K
      go_wp2_with fail
      go_roundw
      case rel => exact ⟨j + 1, x', T', by omega, HST.out, by go_num, rfl, by rw [HSM.out]; go_num, HSO.out.symm, HP1.out, HO1.out⟩
      case measure => simp [intOf]; omega
    · obtain rfl : j = n := by omega
      obtain ⟨r, c, bad, hB, hbx⟩ := hp.cells
      have HB := Lib.hid hp
      have KT := Lib.hid (told_any (x := (x : Int)) hB)
      have hv : v = if bad = true then 0 else x := by
        have e1 : (revP decM t a j 0).2 = T.t := by rw [HT0.out]; rfl
        have e2 : (revP decM t a j 0).1 = x := by show (revG decM t a 0 j).o = x; rw [← HT0.out]; omega
        rw [HV.out, e1, e2]
        by_cases hb : bad = true
        · rw [if_pos hb, if_pos (hbx.1 hb)]
        · rw [if_neg hb, if_neg (fun h => hb (hbx.2 h))]
      clear hB hbx hx t2 t3 t4 HT HV hp
      generalize T.m = y at *
      cases bad
      all_goals
        simp only [if_true, Bool.false_eq_true, if_false] at hv KT
        subst hv
        go_wp2_with fail
        refine KT.out.mono ?_
        rintro e w2 ⟨rfl, rfl⟩
        go_wp2_with fail
        go_ret
        have e1 : (revP decM t a j 0).2 = T.t := by rw [HT0.out]; rfl
        rw [e1]
        exact ⟨rfl, HB.out, HO.out⟩

/-- Bits told straight. -/
theorem lw_straight (Z : Prb R B ad L) (hB0 : ∀ i, B i → i < lo ∨ g < i) {n : Nat} {t : Pm Dc} (h : Mch R g f lo bs L w t) (hn : n ≤ 32) :
    Calls Tryz.prog 113 #[.pointer (some ⟨g, 0, none⟩), .int .i64 (n : Int)] w
      (MPost R B g f lo bs L w (.int .u32 ((straightD n t.x).1 : Int)) ⟨t.ps, (straightD n t.x).2⟩) := by
  refine (straight_any h.pd h.ok.x hn).mono ?_
  rintro e w' ⟨rfl, h1, h2⟩
  refine ⟨rfl, ⟨h1, Z.only h.row h2 (fun i hi e => ?_), ⟨h.ok.ps, h.ok.len, (straightD_ok h.ok.x).1⟩⟩, h2.mono fun i hi => by rcases hi with h | h; exact .inl h; exact .inr (.inl h)⟩
  have h3 := hB0 i hi
  have h4 := h.pd.lo
  rcases e with e | e <;> omega
theorem lw_bad {t : Pm Dc} (h : Mch R g f lo bs L w t) : Calls Tryz.prog 65 #[.pointer (some ⟨g, 0, none⟩)] w fun e w' => e = .returned (.bool (decM.bad t.x)) ∧ w = w' := by
  obtain ⟨r, c, bad, hB, hbx⟩ := h.cells
  have : decM.bad t.x = bad := by
    show t.x.isNone = bad
    cases bad with
    | true => rw [hbx.1 rfl]; rfl
    | false =>
      cases hx : t.x with
      | none => have := hbx.2 hx; cases this
      | some _ => rfl
  rw [this]
  exact bad_any hB
end
end Go.Proofs.YtpdpbbmkicemdaaGreat
