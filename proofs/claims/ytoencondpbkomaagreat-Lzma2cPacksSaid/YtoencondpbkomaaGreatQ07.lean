/-
  LzFitN, LzCodeN, LzGo, CwRun, CwAt, PkBes, CwBes, AppTwo: put together.
-/
import Derived.Test.YtoencondpbkomaaGreatQ03
import Derived.Test.YtoencondpbkomaaGreatQ06
import Derived.Test.YtoencondpbkomaaGreatQ05
import Derived.Test.YtoencondpbkomaaGreatQ04
import Derived.Test.YtoencondpbkomaaGreatQ01
import Derived.Deep.RegionLaw
set_option linter.unusedVariables false
set_option linter.unusedSimpArgs false
/-
  Whether a packet may be coded, as numbers.
-/
namespace Go.Proofs.YtoencondpbkomaaGreat

/-- whether it can't be, whatever is there -/
def lateP (ended : Bool) (kd len : Int) : Bool := ended || decide (kd ≠ 0 ∧ kd ≠ 6 ∧ kd ≠ 7 ∧ (len < 2 ∨ 273 < len))
/-- whether it can -/
def hasP (z : Lzs) (kd : Int) (d : Nat) : Bool :=
  if kd = 0 ∨ kd = 7 then true else if kd = 1 then z.has d else if kd = 2 then z.has z.r0 else if kd = 3 then z.has z.r1 else if kd = 4 then z.has z.r2 else if kd = 5 then z.has z.r3 else if kd = 6 then z.has z.r0 else false
def fitsP (z : Lzs) (kd : Int) (d : Nat) (len : Int) : Bool := if lateP z.ended kd len = true then false else hasP z kd d

theorem fits_may {z : Lzs} {kd len : Int} {d : Nat} (h : fitsP z kd d len = true) : z.ended = false ∧ 0 ≤ kd ∧ kd ≤ 7 ∧ (z.out.length = 0 → kd = 0 ∨ kd = 7) ∧ (1 ≤ kd ∧ kd ≤ 5 → 2 ≤ len ∧ len ≤ 273) ∧
    (kd = 1 → z.has d = true) ∧ (kd = 2 → z.has z.r0 = true) ∧ (kd = 3 → z.has z.r1 = true) ∧ (kd = 4 → z.has z.r2 = true) ∧ (kd = 5 → z.has z.r3 = true) ∧ (kd = 6 → z.has z.r0 = true) := by
  have hl : lateP z.ended kd len = false := by
    cases hl : lateP z.ended kd len with
    | false => rfl
    | true => unfold fitsP at h; rw [hl] at h; cases h
  unfold fitsP at h
  rw [hl] at h
  have h : hasP z kd d = true := h
  unfold lateP at hl
  have he : z.ended = false := by
    cases he : z.ended with
    | false => rfl
    | true => rw [he] at hl; cases hl
  rw [he] at hl
  have hl2 := of_decide_eq_false (show decide (kd ≠ 0 ∧ kd ≠ 6 ∧ kd ≠ 7 ∧ (len < 2 ∨ 273 < len)) = false from hl)
  have hno : ∀ e, z.has e = true → z.out.length ≠ 0 := by
    intro e he h0
    unfold Lzs.has at he
    have := of_decide_eq_true he
    omega
  unfold hasP at h
  split at h
  · rename_i hk
    exact ⟨he, by omega, by omega, fun _ => hk, by omega, by omega, by omega, by omega, by omega, by omega, by omega⟩
  split at h
  · rename_i hk
    exact ⟨he, by omega, by omega, fun h0 => absurd h0 (hno _ h), by omega, fun _ => h, by omega, by omega, by omega, by omega, by omega⟩
  split at h
  · rename_i hk
    exact ⟨he, by omega, by omega, fun h0 => absurd h0 (hno _ h), by omega, by omega, fun _ => h, by omega, by omega, by omega, by omega⟩
  split at h
  · rename_i hk
    exact ⟨he, by omega, by omega, fun h0 => absurd h0 (hno _ h), by omega, by omega, by omega, fun _ => h, by omega, by omega, by omega⟩
  split at h
  · rename_i hk
    exact ⟨he, by omega, by omega, fun h0 => absurd h0 (hno _ h), by omega, by omega, by omega, by omega, fun _ => h, by omega, by omega⟩
  split at h
  · rename_i hk
    exact ⟨he, by omega, by omega, fun h0 => absurd h0 (hno _ h), by omega, by omega, by omega, by omega, by omega, fun _ => h, by omega⟩
  split at h
  · rename_i hk
    exact ⟨he, by omega, by omega, fun h0 => absurd h0 (hno _ h), by omega, by omega, by omega, by omega, by omega, by omega, fun _ => h⟩
  · cases h
end Go.Proofs.YtoencondpbkomaaGreat

/-
  Packets are coded, as numbers.
-/
namespace Go.Proofs.YtoencondpbkomaaGreat
open Go.RowKit

def Pq.pk (q : Pq) : Pk := ⟨q.k, q.v.toNat, q.n, UInt8.ofNat q.a.toNat⟩
/-- whether it is coded -/
def takesP (most : Int) (z : Lzs) (q : Pq) : Bool := fitsP z q.k q.v.toNat q.n && decide (IntKind.i64.wrap ((z.out.length : Int) + max 1 q.n) ≤ most)
def codeS (most : Int) (s : Lzs × Pm En) (q : Pq) : Lzs × Pm En := if takesP most s.1 q = true then (packP encM s.1 s.2 q.pk).2 else s
def codeG (most : Int) (qs : Nat → Pq) (s : Lzs × Pm En) : Nat → Lzs × Pm En
  | 0 => s
  | j + 1 => codeS most (codeG most qs s j) (qs j)

theorem fits_pk {z : Lzs} {q : Pq} (hq : PqLit q) (h : fitsP z q.k q.v.toNat q.n = true) : PkFine q.pk ∧ PkMay encM z q.pk ∧ PkLen encM q.pk := by
  obtain ⟨_, h1, h2, h3, h4, _⟩ := fits_may h
  refine ⟨⟨by show -1000000 ≤ q.k; omega, by show q.k ≤ 1000000; omega, by show q.v.toNat < 4294967296; have := hq.v; omega⟩, fun _ => ⟨h1, h2, fun h0 => ?_, fun h => (h4 h).1⟩, ?_⟩
  · rcases h3 h0 with h | h
    · exact .inl h
    · exact .inr (.inr h)
  · by_cases hk : 1 ≤ q.k ∧ q.k ≤ 5
    · have := h4 hk
      exact .inl ⟨by show -900000 ≤ q.n; omega, by show q.n ≤ 900000; omega⟩
    · exact .inr ⟨rfl, by show q.k = 0 ∨ q.k = 6 ∨ q.k = 7; omega⟩

/-- the bounds, behind j packets -/
theorem codeG_ok {most : Int} {qs : Nat → Pq} {s : Lzs × Pm En} {L N k m : Nat} (hq : ∀ i, i < m → PqLit (qs i)) (hz : ZNear s.1 L N) (ht : PmOk okE L (k + 27 * m) s.2) :
    ∀ j, j ≤ m → ZNear (codeG most qs s j).1 L (N + 273 * j) ∧ PmOk okE L (k + 27 * (m - j)) (codeG most qs s j).2
  | 0, _ => ⟨hz, ht⟩
  | j + 1, hj => by
    obtain ⟨h1, h2⟩ := codeG_ok hq hz ht j (by omega)
    show ZNear (codeS most (codeG most qs s j) (qs j)).1 L _ ∧ PmOk okE L _ (codeS most (codeG most qs s j) (qs j)).2
    unfold codeS
    split
    · rename_i hc
      unfold takesP at hc
      have hf : fitsP (codeG most qs s j).1 (qs j).k (qs j).v.toNat (qs j).n = true := by
        revert hc
        cases fitsP (codeG most qs s j).1 (qs j).k (qs j).v.toNat (qs j).n <;> simp
      obtain ⟨f1, f2, f3⟩ := fits_pk (hq j (by omega)) hf
      obtain ⟨p1, p2, _⟩ := packP_near encM_ok (k := k + 27 * (m - (j + 1))) h1 (by rw [show k + 27 * (m - (j + 1)) + 27 = k + 27 * (m - j) by omega]; exact h2) f1 f2
      exact ⟨p1.more (by omega), p2⟩
    · exact ⟨h1.more (by omega), h2.mono encM_ok (by omega)⟩
end Go.Proofs.YtoencondpbkomaaGreat

/-
  What a coder's packets leave: they tell, and are not bad; the end mark is long.
-/
namespace Go.Proofs.YtoencondpbkomaaGreat

theorem copyG_all : ∀ (f n : Nat) {z : Lzs}, z.has z.r0 = true → (copyG f n z).2.bad = z.bad ∧ (copyG f n z).2.ended = z.ended ∧ (copyG f n z).2.out.length = z.out.length + f
  | 0, n, z, _ => ⟨rfl, rfl, rfl⟩
  | f + 1, n, z, h => by
    rw [copyG_go h]
    have h2 : (z.push (z.back z.r0)).has (z.push (z.back z.r0)).r0 = true := by
      unfold Lzs.has at h ⊢
      have := of_decide_eq_true h
      refine decide_eq_true ⟨?_, this.2⟩
      show z.r0 < (z.out ++ [_]).length
      rw [List.length_append]
      omega
    obtain ⟨a, b, c⟩ := copyG_all f (n + 1) h2
    refine ⟨a, b, ?_⟩
    rw [c]
    show (z.out ++ [_]).length + f = _
    rw [List.length_append, List.length_singleton]
    omega
theorem tailP_all {σ : Type} {M : Mach σ} {many : Nat} {z : Lzs} {t : Pm σ} (h1 : z.bad = false) (h2 : M.bad t.x = false) (h3 : z.ended = false) (h : z.has z.r0 = true) (hm : 1 ≤ many) :
    (tailP M many z t).2.1.bad = false ∧ (tailP M many z t).2.1.ended = false ∧ z.out.length < (tailP M many z t).2.1.out.length := by
  unfold tailP
  rw [if_neg (by rw [h1, h2, h3]; simp)]
  obtain ⟨a, b, c⟩ := copyG_all many 0 h
  refine ⟨a.trans h1, b.trans h3, ?_⟩
  show _ < (copyG many 0 z).2.out.length
  rw [c]
  omega

/-! ### lengths -/
theorem even_grow (n l r : Nat) : l ≤ (En.even ⟨n, l, r⟩).l ∧ (En.even ⟨n, l, r⟩).r = r * 256 ^ ((En.even ⟨n, l, r⟩).l - l) := by
  unfold En.even
  split
  · exact ⟨by dsimp only; omega, by dsimp only; rw [show l + 1 - l = 1 by omega, Nat.pow_one]⟩
  · exact ⟨Nat.le_refl _, by dsimp only; rw [Nat.sub_self, Nat.pow_zero, Nat.mul_one]⟩
theorem one_grow (e : En) (b : Nat) : e.l ≤ (e.one b).l ∧ (e.one b).r * 2 ≤ e.r * 256 ^ ((e.one b).l - e.l) := by
  have key : ∀ n, e.l ≤ (En.even ⟨n, e.l, e.r / 2⟩).l ∧ (En.even ⟨n, e.l, e.r / 2⟩).r * 2 ≤ e.r * 256 ^ ((En.even ⟨n, e.l, e.r / 2⟩).l - e.l) := by
    intro n
    obtain ⟨h1, h2⟩ := even_grow n e.l (e.r / 2)
    refine ⟨h1, ?_⟩
    rw [h2, Nat.mul_assoc, Nat.mul_comm _ 2, ← Nat.mul_assoc]
    exact Nat.mul_le_mul_right _ (by omega)
  unfold En.one
  split
  · exact key _
  · exact key _
theorem strE_grow (e : En) (v n : Nat) : ∀ j, e.l ≤ (strE e v n j).l ∧ (strE e v n j).r * 2 ^ j ≤ e.r * 256 ^ ((strE e v n j).l - e.l)
  | 0 => ⟨Nat.le_refl _, by show e.r * 2 ^ 0 ≤ e.r * 256 ^ (e.l - e.l); rw [Nat.sub_self]; omega⟩
  | j + 1 => by
    obtain ⟨h1, h2⟩ := strE_grow e v n j
    obtain ⟨h3, h4⟩ := one_grow (strE e v n j) (bitOf v (n - 1 - j))
    refine ⟨Nat.le_trans h1 h3, ?_⟩
    show ((strE e v n j).one _).r * 2 ^ (j + 1) ≤ e.r * 256 ^ (((strE e v n j).one _).l - e.l)
    generalize (strE e v n j).one (bitOf v (n - 1 - j)) = o at *
    generalize strE e v n j = s at *
    rw [show o.l - e.l = (s.l - e.l) + (o.l - s.l) by omega, Nat.pow_add 256, Nat.pow_succ 2 j]
    calc o.r * (2 ^ j * 2) = (o.r * 2) * 2 ^ j := by rw [Nat.mul_comm (2 ^ j) 2, Nat.mul_assoc]
      _ ≤ (s.r * 256 ^ (o.l - s.l)) * 2 ^ j := Nat.mul_le_mul_right _ h4
      _ = (s.r * 2 ^ j) * 256 ^ (o.l - s.l) := by rw [Nat.mul_assoc, Nat.mul_comm (256 ^ _) (2 ^ j), ← Nat.mul_assoc]
      _ ≤ (e.r * 256 ^ (s.l - e.l)) * 256 ^ (o.l - s.l) := Nat.mul_le_mul_right _ h2
      _ = e.r * (256 ^ (s.l - e.l) * 256 ^ (o.l - s.l)) := by rw [Nat.mul_assoc]
theorem str_long {e : En} (he : EnOk e) (v : Nat) : e.l + 2 ≤ (strE e v 26 26).l := by
  obtain ⟨h1, h2⟩ := strE_grow e v 26 26
  have h3 := (strE_ok he v 26 26).1
  have h4 := he.2.1
  rcases Nat.lt_or_ge ((strE e v 26 26).l) (e.l + 2) with hlt | hge
  · exfalso
    have hk : (strE e v 26 26).l - e.l ≤ 1 := by omega
    have hp : 256 ^ ((strE e v 26 26).l - e.l) ≤ 256 ^ 1 := Nat.pow_le_pow_right (by omega) hk
    have h5 : e.r * 256 ^ ((strE e v 26 26).l - e.l) ≤ 4294967296 * 256 ^ 1 := Nat.mul_le_mul (by omega) hp
    have h6 : 16777216 * 2 ^ 26 ≤ (strE e v 26 26).r * 2 ^ 26 := Nat.mul_le_mul_right _ h3
    omega
  · exact hge
/-- a coder's bytes only grow -/
theorem len_simu (F c : Nat) : Simu encM okE encM (fun _ _ => True) (fun e => e.l + c ≤ F) (fun _ => True) where
  okm := encM_ok
  bit := fun _ _ _ _ _ => .inl trivial
  str := fun _ _ _ _ _ => .inl trivial
  fbit := by
    intro x k p w hx hp hw h
    have := reach_len (bit_reach (b := w.toNat) hx.1 hp)
    have h : (x.bit p w.toNat).l + c ≤ F := h
    omega
  fstr := by
    intro x k n v hx h
    have h2 := strE_reach x v n 0 n
    rw [Nat.zero_add] at h2
    have := reach_len h2
    have h : (strE x v n n).l + c ≤ F := h
    have h3 : x.l ≤ (strE x v n n).l := this
    omega
  dbit := fun _ => trivial
  dstr := fun _ => trivial
  same := fun _ => rfl
theorem dist_long {L k l : Nat} {t : Pm En} (ht : PmOk okE L (k + 12) t) (hL0 : 1847 ≤ L) : t.x.l + 2 ≤ (distP encM t l 4294967295).2.x.l := by
  have hv : (4294967295 : Nat) < 4294967296 := by decide
  obtain ⟨s1, s2, s3⟩ := slot_spec hv
  have hslot : slotOf 4294967295 = 63 := by decide +kernel
  have hmv : encM.mayN ((slotOf 4294967295 : Nat) : Int) := fun _ => by omega
  have htell : (treeP encM t (432 + 64 * min l 3) 6 ((slotOf 4294967295 : Nat) : Int)).1 = 63 := by rw [treeP_tell encM_ok rfl s1, hslot]
  have hT := (treeP_ok encM_ok (k := k + 6) (n := 6) (a := 432 + 64 * min l 3) (v := ((slotOf 4294967295 : Nat) : Int)) (t := t) ht (by show 432 + 64 * min l 3 + 64 ≤ L; omega) hmv).2
  have hmono := fun hf => (treeP_sim (len_simu (distP encM t l 4294967295).2.x.l 2) (u := t) (v' := 0) (k := k + 6) (n := 6) (a := 432 + 64 * min l 3) (v := ((slotOf 4294967295 : Nat) : Int)) (t := t) ht (by show 432 + 64 * min l 3 + 64 ≤ L; omega) hmv hf).1
  refine hmono ?_
  have hdef : distP encM t l 4294967295 = distB encM (treeP encM t (432 + 64 * min l 3) 6 ((slotOf 4294967295 : Nat) : Int)) 4294967295 := rfl
  rw [hdef]
  generalize treeP encM t (432 + 64 * min l 3) 6 ((slotOf 4294967295 : Nat) : Int) = sl at *
  unfold distB
  rw [if_neg (by rw [htell]; decide), if_neg (by rw [htell]; decide), htell]
  unfold distC
  have hS := encM_ok.str (k := k + 5) (n := 26) (v := (4294967295 + 4294967296 - (2 + 63 % 2) * 2 ^ (63 / 2 - 1)) % 4294967296 / 16) hT.x (by decide) (fun _ => by decide)
  have hp2 : PmOk okE L (k + 5) (⟨sl.2.ps, (encM.str sl.2.x 26 ((4294967295 + 4294967296 - (2 + 63 % 2) * 2 ^ (63 / 2 - 1)) % 4294967296 / 16)).2⟩ : Pm En) := ⟨hT.ps, hT.len, hS.2⟩
  have hmr : encM.mayN ((4294967295 % 16 : Nat) : Int) := fun _ => by omega
  have hrev := (revP_sim (len_simu (revP encM ⟨sl.2.ps, (encM.str sl.2.x 26 ((4294967295 + 4294967296 - (2 + 63 % 2) * 2 ^ (63 / 2 - 1)) % 4294967296 / 16)).2⟩ 803 4 ((4294967295 % 16 : Nat) : Int)).2.x.l 0) (u := ⟨sl.2.ps, (encM.str sl.2.x 26 ((4294967295 + 4294967296 - (2 + 63 % 2) * 2 ^ (63 / 2 - 1)) % 4294967296 / 16)).2⟩) (v' := 0) (k := k) (n := 4) (a := 803) (v := ((4294967295 % 16 : Nat) : Int)) (hp2.mono encM_ok (show k + 4 ≤ k + 5 by omega)) (by show 803 + 16 ≤ L; omega) hmr (Nat.le_refl _)).1
  have hlong := str_long hT.x.1 ((4294967295 + 4294967296 - (2 + 63 % 2) * 2 ^ (63 / 2 - 1)) % 4294967296 / 16)
  exact Nat.le_trans hlong hrev

/-- a packet that fits, and is no end mark, tells -/
theorem pack_enc {L k N : Nat} {z : Lzs} {t : Pm En} {q : Pq} (hz : ZNear z L N) (ht : PmOk okE L (k + 27) t) (hq : PqLit q) (hf : fitsP z q.k q.v.toNat q.n = true) (hb : z.bad = false) :
    (q.k ≠ 7 → (packP encM z t q.pk).2.1.bad = false ∧ (packP encM z t q.pk).2.1.ended = false ∧ z.out.length < (packP encM z t q.pk).2.1.out.length) ∧
    (q.k = 7 → (packP encM z t q.pk).2.1.bad = false ∧ (packP encM z t q.pk).2.1.ended = true ∧ (packP encM z t q.pk).2.1.out = z.out ∧ t.x.l + 2 ≤ (packP encM z t q.pk).2.2.x.l) := by
  obtain ⟨f0, f1, f2, f3, f4, f5, f6, f7, f8, f9, f10⟩ := fits_may hf
  obtain ⟨pf, pm, _⟩ := fits_pk hq hf
  have hL0 : 1847 ≤ L := by have := hz.len; omega
  obtain ⟨s, hs⟩ : ∃ s, s = z.out.length % 2 ^ z.pb := ⟨_, rfl⟩
  have hs15 : s ≤ 15 := by
    have h1 : z.out.length % 2 ^ z.pb < 2 ^ z.pb := Nat.mod_lt _ (Nat.two_pow_pos _)
    have h2 : 2 ^ z.pb ≤ 2 ^ 4 := pow_le_of hz.pb
    omega
  have hkm : encM.mayN q.pk.kind := fun he => f1
  obtain ⟨k1, k2⟩ := kindP_ok encM_ok (k := k + 22) (em := decide (z.out.length = 0)) (kd := q.pk.kind) (t := t) ht hL0 hs15 hz.st hkm
  obtain ⟨ktell, kbad⟩ := kindP_tell encM_ok rfl (s := s) (st := z.st) (em := decide (z.out.length = 0)) (kd := q.pk.kind) (t := t) f1 f2 (fun e => by
    rcases f3 (of_decide_eq_true e) with h | h
    · exact .inl h
    · exact .inr (.inr h))
  have kmono := fun F hf => (kindP_sim (len_simu F 2) (u := t) (kd' := 0) (k := k + 22) (em := decide (z.out.length = 0)) (kd := q.pk.kind) (t := t) ht hL0 hz.st hs15 hkm hf).1
  unfold packP
  rw [← hs]
  generalize kindP encM t (decide (z.out.length = 0)) z.st s q.pk.kind = kb at *
  obtain ⟨kv, kd, tk⟩ := kb
  dsimp only at k1 k2 ktell kbad kmono
  subst kbad
  have ktell : (kv : Int) = if q.k = 7 then 1 else q.k := ktell
  have hzb : (z.bad || false) = false := by rw [hb]; rfl
  by_cases h0 : kv = 0
  · have hk0 : q.k = 0 := by
      rw [h0] at ktell
      split at ktell
      · omega
      · omega
    refine ⟨fun _ => ?_, fun h => by omega⟩
    have eA : packK encM (kv, false, tk) z s q.pk = packL encM (litP encM { z with bad := z.bad || false } tk q.pk.byte) { z with bad := z.bad || false } := by unfold packK; rw [if_pos h0]
    rw [eA]
    unfold packL
    rw [if_neg (show ¬ encM.bad _ = true from fun h => by cases h)]
    exact ⟨hzb, f0, by show z.out.length < (z.out ++ [_]).length; rw [List.length_append, List.length_singleton]; omega⟩
  by_cases h1 : kv = 1
  · have hk1 : q.k = 1 ∨ q.k = 7 := by
      rw [h1] at ktell
      split at ktell
      · rename_i h; exact .inr h
      · exact .inl (by omega)
    obtain ⟨ls, hls⟩ : ∃ ls : Int, ls = if q.pk.kind = 7 then 0 else q.pk.len - 2 := ⟨_, rfl⟩
    obtain ⟨ds, hds⟩ : ∃ ds : Nat, ds = if q.pk.kind = 7 then 4294967295 else q.pk.dist := ⟨_, rfl⟩
    have hlm : encM.mayN ls := fun he => by
      rw [hls]
      split
      · omega
      · rename_i h7
        rcases hk1 with h | h
        · have := (f4 (by omega)).1
          show 0 ≤ q.n - 2
          omega
        · exact absurd h h7
    have hdb : ds < 4294967296 := by
      rw [hds]
      split
      · decide
      · exact pf.d
    have eA : packK encM (kv, false, tk) z s q.pk = packM encM (lenP encM tk 819 s ls) { z with bad := z.bad || false } ds := by unfold packK; rw [if_neg h0, if_pos h1, hls, hds]
    rw [eA]
    obtain ⟨l1, l2⟩ := lenP_ok encM_ok (k := k + 12) (a := 819) (s := s) (v := ls) k2 (show 819 + 514 ≤ L by omega) hs15 hlm
    have lmono := fun F hf => (lenP_sim (len_simu F 2) (u := tk) (v' := 0) (k := k + 12) (a := 819) (s := s) (v := ls) k2 (show 819 + 514 ≤ L by omega) hs15 hlm hf).1
    generalize lenP encM tk 819 s ls = lr at *
    unfold packM packD
    have hdt := distP_tell (k := k) (l := lr.1) l2 hL0 hdb
    have hdl : ds = 4294967295 → lr.2.x.l + 2 ≤ (distP encM lr.2 lr.1 ds).2.x.l := fun h => by rw [h]; exact dist_long (k := k) l2 hL0
    generalize distP encM lr.2 lr.1 ds = dr at *
    have hbm : encM.bad dr.2.x = false := rfl
    refine ⟨fun h7 => ?_, fun h7 => ?_⟩
    · have hk : q.k = 1 := by omega
      have hdd : ds = q.v.toNat := by rw [hds]; exact if_neg h7
      have hhas := f5 hk
      rw [← hdd, ← hdt] at hhas
      have hne : dr.1 ≠ 4294967295 := by
        unfold Lzs.has at hhas
        have := of_decide_eq_true hhas
        have := hz.dict
        omega
      exact tailP_all hzb hbm (show (decide (dr.1 = 4294967295) && !encM.bad dr.2.x) = false by rw [decide_eq_false hne]; rfl) hhas (by omega)
    · have hdd : ds = 4294967295 := by rw [hds]; exact if_pos h7
      have hen : (decide (dr.1 = 4294967295) && !encM.bad dr.2.x) = true := by rw [decide_eq_true (by rw [hdt, hdd]), hbm]; rfl
      unfold tailP
      dsimp only
      rw [hen, if_pos (by simp)]
      refine ⟨?_, rfl, rfl, ?_⟩
      · show ((z.bad || false) || encM.bad dr.2.x) = false
        rw [hzb, hbm]; rfl
      · exact kmono _ (lmono _ (hdl hdd))
  have hk7 : q.k ≠ 7 := fun h => by rw [if_pos h] at ktell; omega
  rw [if_neg hk7] at ktell
  refine ⟨fun _ => ?_, fun h => absurd h hk7⟩
  by_cases h6 : kv = 6
  · have eA : packK encM (kv, false, tk) z s q.pk = tailP encM 1 { z with bad := z.bad || false, st := aft 9 11 z.st } tk := by unfold packK; rw [if_neg h0, if_neg h1, if_pos h6]
    rw [eA]
    exact tailP_all hzb rfl f0 (f10 (by omega)) (by decide)
  · have eA : packK encM (kv, false, tk) z s q.pk = packR encM (lenP encM tk 1333 s (q.pk.len - 2)) { z with bad := z.bad || false } (kv - 2) := by unfold packK; rw [if_neg h0, if_neg h1, if_neg h6]
    rw [eA]
    unfold packR
    have hhas : z.has (z.rep (kv - 2)) = true := by
      have hkk : kv = 2 ∨ kv = 3 ∨ kv = 4 ∨ kv = 5 := by omega
      rcases hkk with h | h | h | h
      · rw [h]; exact f6 (by omega)
      · rw [h]; exact f7 (by omega)
      · rw [h]; exact f8 (by omega)
      · rw [h]; exact f9 (by omega)
    exact tailP_all hzb rfl f0 hhas (by omega)
end Go.Proofs.YtoencondpbkomaaGreat

/-
  Packets one behind the other, each coded if it fits: numbers.
-/
namespace Go.Proofs.YtoencondpbkomaaGreat
open Go.RowKit

/-- the greatest number: no packet is left out as it tells too much -/
def mostI : Int := 9223372036854775807
theorem takes_all (z : Lzs) (q : Pq) : takesP mostI z q = fitsP z q.k q.v.toNat q.n := by
  unfold takesP mostI
  have h : ∀ x : Int, IntKind.i64.wrap x ≤ 9223372036854775807 := fun x => by
    rw [IntWalk.i64_left]
    unfold wrap64
    omega
  rw [decide_eq_true (h _), Bool.and_true]
theorem codeS_fits (s : Lzs × Pm En) (q : Pq) : codeS mostI s q = if fitsP s.1 q.pk.kind q.pk.dist q.pk.len = true then (packP encM s.1 s.2 q.pk).2 else s := by
  unfold codeS
  rw [takes_all]
  rfl
/-- behind the first j of a list -/
def runG (qs : Nat → Pq) (s : Lzs × Pm En) (j : Nat) : Lzs × Pm En := codeG mostI qs s j
/-- a coder that begins, as numbers -/
def freshS (lc lp pb dict : Nat) : Lzs × Pm En := (Lzs.start lc lp pb dict, ⟨List.replicate (probsN lc lp) 1024, En.new⟩)
theorem fresh_near {lc lp pb dict : Nat} (h : SetOk lc lp pb dict) : ZNear (freshS lc lp pb dict).1 (probsN lc lp) 0 :=
  ⟨h.1, h.2.1, h.2.2.1, h.2.2.2.2, Nat.le_refl _, (show 0 ≤ 11 by decide), (show 0 < 4294967296 by decide), (show 0 < 4294967296 by decide), (show 0 < 4294967296 by decide), (show 0 < 4294967296 by decide), rfl⟩
theorem fresh_pm {lc lp pb dict m : Nat} (hm : m ≤ 1000000) : PmOk okE (probsN lc lp) m (freshS lc lp pb dict).2 :=
  ⟨fun p hp => by rw [List.eq_of_mem_replicate hp]; exact ⟨by decide, by decide⟩, by show (List.replicate _ _).length = _; simp, enOk_new, by show 5 + 32 * m ≤ _; omega⟩

section
variable {qs : Nat → Pq} {lc lp pb dict n : Nat}
theorem run_ok (h : SetOk lc lp pb dict) (hq : ∀ i, i < n → PqLit (qs i)) (hn : n ≤ 10000) (j : Nat) (hj : j ≤ n) :
    ZNear (runG qs (freshS lc lp pb dict) j).1 (probsN lc lp) (273 * j) ∧ PmOk okE (probsN lc lp) (27 * (n - j)) (runG qs (freshS lc lp pb dict) j).2 := by
  obtain ⟨a, b⟩ := codeG_ok (most := mostI) (s := freshS lc lp pb dict) (k := 0) (m := n) hq (fresh_near h) (fresh_pm (m := 0 + 27 * n) (by omega)) j hj
  exact ⟨a.more (by omega), b.mono encM_ok (by omega)⟩
theorem run_succ (s : Lzs × Pm En) (j : Nat) : runG qs s (j + 1) = if fitsP (runG qs s j).1 (qs j).pk.kind (qs j).pk.dist (qs j).pk.len = true then (packP encM (runG qs s j).1 (runG qs s j).2 (qs j).pk).2 else runG qs s j :=
  codeS_fits (runG qs s j) (qs j)
theorem run_bad (h : SetOk lc lp pb dict) (hq : ∀ i, i < n → PqLit (qs i)) (hn : n ≤ 3000) : ∀ j, j ≤ n → (runG qs (freshS lc lp pb dict) j).1.bad = false
  | 0, _ => rfl
  | j + 1, hj => by
    have ih := run_bad h hq hn j (by omega)
    obtain ⟨h1, h2⟩ := run_ok h hq (by omega) j (by omega)
    rw [run_succ]
    split
    · rename_i hf
      obtain ⟨p1, p2⟩ := pack_enc (k := 0) h1 (h2.mono encM_ok (by omega)) (hq j (by omega)) hf ih
      by_cases hk : (qs j).k = 7
      · exact (p2 hk).1
      · exact (p1 hk).1
    · exact ih
/-- behind an end mark no packet fits -/
theorem run_ended (s : Lzs × Pm En) {j : Nat} (h : (runG qs s j).1.ended = true) : ∀ m, runG qs s (j + m) = runG qs s j
  | 0 => rfl
  | m + 1 => by
    have ih := run_ended s h m
    rw [show j + (m + 1) = (j + m) + 1 by omega, run_succ, ih]
    have : fitsP (runG qs s j).1 (qs (j + m)).pk.kind (qs (j + m)).pk.dist (qs (j + m)).pk.len = false := by unfold fitsP lateP; rw [h]; rfl
    rw [this]
    rfl
end
end Go.Proofs.YtoencondpbkomaaGreat

/-
  The program's coder of LZMA: the byte at a distance; bits 1 one behind the other; a byte more was told.
-/
namespace Go.Proofs.YtoencondpbkomaaGreat
open Go.RowKit

section
variable {K : Koc} {w w' : World} {Ge Ge' : Option Nat} {A : Option Addr} {c : Nat} {z : Lzs} {k : Nat} {t : Pm En}

theorem back_not {d : Nat} (h : z.has d = false) : z.back d = 0 := by unfold Lzs.back; rw [if_neg (by rw [h]; simp)]

set_option maxRecDepth 100000 in
set_option maxHeartbeats 2000000 in
theorem cat_any (h : Cw K w Ge A c z k t) {d : Nat} (hd : d < 4294967296) (hl : z.out.length ≤ 1000000000) :
    Calls Tryz.prog 87 #[.pointer (some ⟨K.g, 0, none⟩), .int .u32 (d : Int)] w fun e w' => e = .returned (.int .u8 ((z.back d).toNat : Int)) ∧ ∃ n, w.drewN n = w' := by
  have KH := chas_any h hd
  have c5 := h.f.c5
  have hS : Sl w A z.out.length (bv z.out) := Sl.of_own h.told
  cases hh : z.has d with
  | false =>
    rw [hh] at KH
    have KH := Lib.hid KH
    rw [back_not hh]
    clear h hS c5 hh
    go_enter Tryz.func87, Tryz.ntmps87
    go_wp2_with fail
    refine KH.out.mono ?_
    rintro e w1 ⟨rfl, n, rfl⟩
    go_wp2_with fail
    go_ret
    exact ⟨rfl, n, rfl⟩
  | true =>
    rw [hh] at KH
    have KH := Lib.hid KH
    obtain ⟨h1, h2⟩ := of_decide_eq_true hh
    have hb : z.back d = z.out.getD (z.out.length - 1 - d) 0 := by unfold Lzs.back; rw [if_pos hh]
    obtain ⟨i, hi⟩ : ∃ i, i = z.out.length - 1 - d := ⟨_, rfl⟩
    obtain ⟨b, o, rfl, _, hc⟩ := hS.2 (by omega)
    have cx : w.cell? ⟨b, o + i, none⟩ = some (.int .u8 ((z.back d).toNat : Int)) := by rw [hc i (by omega), bv_get _ _ (by omega), hb, hi]
    have ed : IntKind.i64.wrap (d : Int) = (d : Int) := IntWalk.i64_in _ (by omega)
    have e1 : IntKind.i64.wrap ((z.out.length : Int) - 1) = (z.out.length : Int) - 1 := IntWalk.i64_in _ (by omega)
    have e2 : IntKind.i64.wrap ((z.out.length : Int) - 1 - (d : Int)) = (i : Int) := by rw [show (z.out.length : Int) - 1 - (d : Int) = (i : Int) by omega]; exact IntWalk.i64_in _ (by omega)
    have i0 : (0 : Int) ≤ (i : Int) := by omega
    have i1 : (i : Int) < (z.out.length : Int) := by omega
    clear hS hc hi hb h1 h2 hd hl h hh
    generalize z.back d = x at *
    generalize z.out.length = n at *
    go_enter Tryz.func87, Tryz.ntmps87
    go_wp2_with fail
    refine KH.out.mono ?_
    rintro e w1 ⟨rfl, n1, rfl⟩
    go_wp2_with fail
    go_quiet (fail)
    go_wp2_with fail
    go_ret
    exact ⟨rfl, n1 + nq, by rw [World.drewN_drewN]⟩

/-- bits 1, one behind the other -/
def onesP (t : Pm En) (al : List Nat) : Pm En := al.foldl (fun t a => (bitP encM t a 1).2) t
theorem ones_succ (t : Pm En) {al : List Nat} {j : Nat} (h : j < al.length) : onesP t (al.take (j + 1)) = (bitP encM (onesP t (al.take j)) al[j] 1).2 := by
  unfold onesP
  rw [List.take_add_one, List.getElem?_eq_getElem h, List.foldl_append]
  rfl

set_option maxRecDepth 100000 in
set_option maxHeartbeats 4000000 in
theorem cones_any {q n cap : Nat} {al : List Nat} (h : Cw K w Ge A c z (k + n) t) (hn : al.length = n) (hn5 : n ≤ 100) (hq : q < w.heap.size) (hqo : ¬ K.own Ge q) (ha : ∀ a ∈ al, a < 1847 + K.nl)
    (hc : ∀ j, (hj : j < al.length) → w.cell? ⟨q, j, none⟩ = some (.pointer (some ⟨(K.ad al[j]).1, (K.ad al[j]).2, none⟩))) :
    Calls Tryz.prog 85 #[.pointer (some ⟨K.g, 0, none⟩), .slice (some ⟨q, 0, none⟩) n cap] w (CMid K w Ge (.tuple #[]) A c z k (onesP t al)) := by
  have HZ := Lib.hid h
  have HH := Lib.hid (And.intro hn (And.intro hn5 (And.intro hq hqo)))
  have HA := Lib.hid ha
  have HC := Lib.hid hc
  clear h hn hn5 hq hqo ha hc
  go_enter Tryz.func85, Tryz.ntmps85
  go_wp2_with fail
  go_loopw [5, 8] (fun _ i wr => ∃ (j : Nat) (G' : Option Nat), j ≤ n ∧ i = .int .i64 (j : Int) ∧ Cw K wr G' A c z (k + n - j) (onesP t (al.take j)) ∧ Nwr w Ge G' ∧ Only (K.own Ge) w wr) (fun _ i _ => n - (intOf i).toNat)
  case atStart => exact ⟨0, Ge, Nat.zero_le _, rfl, HZ.out, Nwr.refl _ _, Only.refl _ _⟩
  case round =>
    clear HZ
    obtain ⟨j, G', hj, rfl, hz, hN, hO⟩ := hrel
    have hlen := HH.out.1
    have hn5 := HH.out.2.1
    by_cases hlt : j < n
    · have hjl : j < al.length := by omega
      obtain ⟨a, haj⟩ : ∃ a, a = al[j] := ⟨_, rfl⟩
      have hst := ones_succ t hjl
      rw [← haj] at hst
      have hal : a < 1847 + K.nl := by rw [haj]; exact HA.out _ (List.getElem_mem hjl)
      have hcj := HC.out j hjl
      rw [← haj] at hcj
      obtain ⟨b, i, hab⟩ : ∃ b i, K.ad a = (b, i) := ⟨_, _, rfl⟩
      rw [hab] at hcj
      have cx : wr.cell? ⟨q, j, none⟩ = some (.pointer (some ⟨b, i, none⟩)) := by
        have hk := hO.block q HH.out.2.2.1 HH.out.2.2.2
        rw [← hcj]
        simp only [World.cell?, hk]
      have K1 := Cw.bit1 (k := k + n - (j + 1)) (by rw [show k + n - (j + 1) + 1 = k + n - j by omega]; exact hz) hab hal
      rw [← hst] at K1
      have K1 := Lib.hid K1
      have c4 := hz.f.c4
      have i1 : (j : Int) < (n : Int) := by omega
      have i0 : (0 : Int) ≤ (j : Int) := by omega
      have HN := Lib.hid hN
      have HO := Lib.hid hO
      clear hz hN hO hst hal hcj hab haj hjl hlen
      go_wp2_with fail
      refine K1.out.mono ?_
      rintro e w1 ⟨rfl, G2, hz1, hn1, ho1⟩
      have HZ1 := Lib.hid hz1
      have HN1 := Lib.hid (HN.out.trans hn1 HO.out.size)
      have HO1 := Lib.hid (cset_trans HO.out HN.out ho1)
      clear hz1 hn1 ho1 HN HO K1
      go_wp2_with fail
      go_roundw
      case rel => exact ⟨j + 1, G2, by omega, by go_num, HZ1.out, HN1.out, HO1.out⟩
      case measure => simp [intOf]; omega
    · obtain rfl : j = n := by omega
      rw [show k + j - j = k by omega, List.take_of_length_le (by omega)] at hz
      have HZ := Lib.hid hz
      have HN := Lib.hid hN
      have HO := Lib.hid hO
      clear hz hN hO hlen
      go_wp2_with fail
      first | go_end0 | refine bodyPost_ret (results_none rfl _ _ _) rfl ?_
      exact ⟨rfl, G', HZ.out, HN.out, HO.out⟩

/-- One byte more was told, and the cell that leads to them is stored. -/
theorem Cw.pushed {w1 w3 : World} {A2 : Option Addr} {c2 : Nat} {x : UInt8} (h : Cw K w Ge A c z k t) (h1 : Only (fun _ => False) w w1)
    (ho : w3.ownsRow 0 5 1 (.slice A2 (z.out.length + 1) c2) (z.out.length + 1) (bv z.out ++ [.int .u8 (x.toNat : Int)])) (hg : w1.grownBy w3 (Value.slice A z.out.length c).ownBlock)
    (hq : (Value.slice A2 (z.out.length + 1) c2).ownBlock = (Value.slice A z.out.length c).ownBlock ∨ (Value.slice A2 (z.out.length + 1) c2).ownBlock = some w1.heap.size) :
    w3.cell? ⟨K.g, 5, none⟩ = some (.slice A z.out.length c) ∧ w3.frozen? ⟨K.g, 5, none⟩ = false ∧ w3.cell? ⟨K.g, 7, none⟩ = some (.int .u32 (z.r0 : Int)) ∧
    Cw K (w3.setCell ⟨K.g, 5, none⟩ (.slice A2 (z.out.length + 1) c2)) Ge A2 c2 (z.push x) k t ∧ Nwr w (tb A z.out.length c) (tb A2 (z.push x).out.length c2) ∧
    Only (K.all Ge (tb A z.out.length c)) w (w3.setCell ⟨K.g, 5, none⟩ (.slice A2 (z.out.length + 1) c2)) := by
  obtain ⟨o1, o2, o3, o4, o5⟩ := h.old
  have hs1 := h1.size
  have hta := h.ap.ta
  have hO3 : Only (fun i => tb A z.out.length c = some i) w w3 :=
    (h1.mono (fun _ h => h.elim)).trans ⟨hg.os, hg.tape, hg.output, hg.size, fun i hi hn => hg.block i hi fun e => hn e.symm⟩
  have hq' : ∀ i, tb A2 (z.out.length + 1) c2 = some i → tb A z.out.length c = some i ∨ i = w1.heap.size := by
    intro i hi
    rcases hq with e | e
    · exact .inl (e.symm.trans hi)
    · unfold tb at hi; rw [e] at hi; injection hi with hi; exact .inr hi.symm
  have hap : ∀ i, tb A2 (z.out.length + 1) c2 = some i → i ≠ K.g ∧ i ≠ K.lb ∧ i ≠ K.eg ∧ Ge ≠ some i := by
    intro i hi
    rcases hq' i hi with e | e
    · exact hta i e
    · refine ⟨by omega, by omega, by omega, fun e2 => ?_⟩
      have := o4 i e2
      omega
  have hOf := (Only.refl (fun j => j = K.g) w3).setCell (p := ⟨K.g, 5, none⟩) (.inl rfl) (.slice A2 (z.out.length + 1) c2)
  have hlen : (z.push x).out.length = z.out.length + 1 := by show (z.out ++ [x]).length = _; simp
  have hpn := h.mch.pn.only hO3 (fun e => (hta _ e).2.2.1 rfl) (fun i hi e => (hta _ e).2.2.2 hi)
  have hrow := (K.prb _ h.ap.gl).only h.mch.row hO3 (fun i hi e => by rcases hi with rfl | rfl; exact (hta _ e).1 rfl; exact (hta _ e).2.1 rfl)
  refine ⟨hrow.1.cell 5 (by decide), hrow.1.free _, hrow.1.cell 7 (by decide), ⟨⟨hpn.only hOf (fun e => h.ap.ge e.symm) (fun j hj => (h.ap.eo j hj).1), ⟨?_, hrow.2.1.only hOf (fun e => h.ap.gl e.symm), hrow.2.2⟩, h.mch.ok⟩, ?_, ?_⟩, ?_, ?_⟩
  · have := hrow.1.put 5 (by decide) (.slice A2 (z.out.length + 1) c2)
    have e : (cwFs K z A c).set 5 (.slice A2 (z.out.length + 1) c2) = cwFs K (z.push x) A2 c2 := by
      unfold cwFs
      rw [hlen]
      rfl
    rw [e] at this
    exact this
  · rw [hlen]
    have e : bv (z.push x).out = bv z.out ++ [.int .u8 (x.toNat : Int)] := by show bv (z.out ++ [x]) = _; rw [bv_append]; rfl
    rw [e]
    exact own_only' ho hOf (fun i hi e2 => (hap i hi).1 e2)
  · rw [hlen]
    exact ⟨h.ap.gl, h.ap.ge, h.ap.le, h.ap.eo, hap⟩
  · rw [hlen]
    intro i hi
    rcases hq' i hi with e | e
    · exact .inl e
    · exact .inr (by omega)
  · exact (hO3.mono (fun i hi => .inr hi)).setCell (p := ⟨K.g, 5, none⟩) (.inl (.inl (.inr (.inr (.inl rfl))))) _
theorem CPut.after {w1 : World} {Ge1 : Option Nat} {A1 : Option Addr} {c1 : Nat} {z1 z2 : Lzs} {k1 k2 : Nat} {t1 t2 : Pm En} {v : Value} {e : Ending} (_ : Cw K w1 Ge1 A1 c1 z1 k1 t1) (hn : Nwr w Ge Ge1) {Gt : Option Nat} (hnt : Nwr w Gt (tb A1 z1.out.length c1)) (ho : Only (K.all Ge Gt) w w1)
    (hp : CPut K w1 Ge1 (tb A1 z1.out.length c1) v z2 k2 t2 e w') : CPut K w Ge Gt v z2 k2 t2 e w' := by
  obtain ⟨rfl, G2, A2, c2, hz, hn2, hnt2, ho2⟩ := hp
  refine ⟨rfl, G2, A2, c2, hz, hn.trans hn2 ho.size, hnt.trans hnt2 ho.size, ho.trans' ho2 fun i hi => ?_⟩
  rcases hi with (hi | hi | hi) | hi
  · exact .inl (.inl (.inl hi))
  · rcases hn i hi with e | e
    · exact .inl (.inl (.inr (.inl e)))
    · exact .inr e
  · exact .inl (.inl (.inr (.inr hi)))
  · rcases hnt i hi with e | e
    · exact .inl (.inr e)
    · exact .inr e
end
end Go.Proofs.YtoencondpbkomaaGreat

/-
  A literal behind a copy: its numbers.
-/
namespace Go.Proofs.YtoencondpbkomaaGreat
open Go.RowKit

theorem and_one (x : Nat) (h : x < 9223372036854775808) : bits .and .i64 (x : Int) 1 = ((x % 2 : Nat) : Int) := by
  show IntKind.i64.wrap ((BitVec.ofInt 64 (x : Int) &&& BitVec.ofInt 64 ((1 : Nat) : Int)).toNat : Int) = _
  rw [BitVec.toNat_and, ofInt_w64 x (by omega), ofInt_w64 1 (by omega), Nat.and_one_is_mod]
  exact IntWalk.i64_in _ (by omega)
theorem bit_shr (v : UInt8) (k : Nat) : bits .and .i64 (wrap64 (v.toNat : Int) / 2 ^ k) 1 = ((bitOf v.toNat k : Nat) : Int) := by
  have hv := v.toNat_lt
  rw [shr_nat v.toNat k (by omega), and_one _ (by have := Nat.div_le_self v.toNat (2 ^ k); omega)]
  rfl
theorem bes_facts {y m idx p1 p2 : Nat} (hy : y ≤ 1) (hm : m < 256) (h1 : p1 = 1 + y) (h2 : p2 = p1 * 256) (hi : idx = p2 + m) :
    IntKind.i64.wrap (1 + (y : Int)) = (p1 : Int) ∧ IntKind.i64.wrap ((p1 : Int) * 256) = (p2 : Int) ∧ IntKind.i64.wrap ((p2 : Int) + (m : Int)) = (idx : Int) ∧ (0 : Int) ≤ (idx : Int) ∧ (idx : Int) < 768 := by
  refine ⟨?_, ?_, ?_, by omega, by omega⟩
  · rw [show 1 + (y : Int) = (p1 : Int) by omega]; exact IntWalk.i64_in _ (by omega)
  · rw [show (p1 : Int) * 256 = (p2 : Int) by omega]; exact IntWalk.i64_in _ (by omega)
  · rw [show (p2 : Int) + (m : Int) = (idx : Int) by omega]; exact IntWalk.i64_in _ (by omega)

theorem lt_256 {m j : Nat} (h : m < 2 ^ (j + 1)) (hj : j < 8) : m < 256 := Nat.lt_of_lt_of_le h (Nat.le_trans (Nat.pow_le_pow_right (by decide) hj) (by decide))
theorem bes_wraps {m b : Nat} (hm : m < 256) (hb : b ≤ 1) : IntKind.i64.wrap (2 * (m : Int)) = 2 * (m : Int) ∧ IntKind.i64.wrap (2 * (m : Int) + (b : Int)) = ((2 * m + b : Nat) : Int) := by
  refine ⟨IntWalk.i64_in _ (by omega), ?_⟩
  rw [show 2 * (m : Int) + (b : Int) = ((2 * m + b : Nat) : Int) by omega]
  exact IntWalk.i64_in _ (by omega)
theorem bes_seven {j : Nat} (hj : j < 8) : IntKind.i64.wrap (7 - (j : Int)) = ((7 - j : Nat) : Int) := by
  rw [show 7 - (j : Int) = ((7 - j : Nat) : Int) by omega]
  exact IntWalk.i64_in _ (by omega)
theorem bes_at {A a idx y m nl p1 p2 : Nat} (hA : A = 1847 + a ∧ a + 768 ≤ nl ∧ nl ≤ 100000000) (hy : y ≤ 1) (hm : m < 256) (h1 : p1 = 1 + y) (h2 : p2 = p1 * 256) (hi : idx = p2 + m) :
    1847 ≤ A + 256 * (1 + y) + m ∧ a + idx = A + 256 * (1 + y) + m - 1847 ∧ A + 256 * (1 + y) + m < 1847 + nl := by omega
theorem bes_at2 {A a m nl : Nat} (hA : A = 1847 + a ∧ a + 768 ≤ nl ∧ nl ≤ 100000000) (hm : m < 256) : 1847 ≤ A + m ∧ a + m = A + m - 1847 ∧ A + m < 1847 + nl := by omega
theorem bes_m {m : Nat} (h : m < 256) : (m : Int) < 256 ∧ (0 : Int) ≤ (m : Int) ∧ (m : Int) < 768 := by omega
end Go.Proofs.YtoencondpbkomaaGreat

/-
  The program's coder of LZMA: a literal behind a copy.
-/
namespace Go.Proofs.YtoencondpbkomaaGreat
open Go.RowKit

theorem lgE_same {A j : Nat} {o v : UInt8} {G : Lg En} (h : G.same = true) : lgStep encM A (want (o.toNat : Int) j) (want (v.toNat : Int) j) G =
    ⟨2 * G.m + bitOf v.toNat j, decide (bitOf v.toNat j = bitOf o.toNat j), (bitP encM G.t (A + 256 * (1 + bitOf o.toNat j) + G.m) ((bitOf v.toNat j : Nat) : Int)).2⟩ := by
  unfold lgStep
  rw [if_pos h, want_nat, want_nat, Int.toNat_natCast]
  rfl
theorem lgE_other {A j : Nat} {o v : UInt8} {G : Lg En} (h : G.same = false) : lgStep encM A (want (o.toNat : Int) j) (want (v.toNat : Int) j) G =
    ⟨2 * G.m + bitOf v.toNat j, false, (bitP encM G.t (A + G.m) ((bitOf v.toNat j : Nat) : Int)).2⟩ := by
  unfold lgStep
  rw [if_neg (by rw [h]; simp), want_nat]
  rfl
theorem bes_eq (b y : Nat) : ((b : Int) == (y : Int)) = decide (b = y) := by
  by_cases h : b = y
  · subst h; simp
  · have : ¬ (b : Int) = (y : Int) := by omega
    simp [h, this]

section
variable {K : Koc} {w w' : World} {Ge Ge' : Option Nat} {A' : Option Addr} {c : Nat} {z : Lzs} {k : Nat} {t : Pm En}

set_option maxRecDepth 100000 in
set_option maxHeartbeats 8000000 in
theorem cbes_any {a cap A : Nat} {x : UInt8} (h : Cw K w Ge A' c z (k + 8) t) (ho : z.out.length ≤ 1000000) (hr0 : z.r0 < 4294967296) (hA : A = 1847 + a) (ha : a + 768 ≤ K.nl) (hnl : K.nl ≤ 100000000) :
    Calls Tryz.prog 89 #[.pointer (some ⟨K.g, 0, none⟩), .slice (some ⟨K.lb, a, none⟩) 768 cap, .int .u8 (x.toNat : Int)] w (CMid K w Ge (.tuple #[]) A' c z k (litG encM t A (z.back z.r0) x true 8).t) := by
  have c7 := h.f.c7
  have KA := Lib.hid (cat_any h hr0 (by omega))
  have hG := Lib.hid (litG_ok encM_ok (k := k) (a := A) (o := z.back z.r0) (v := x) (same := true) (t := t) (L := 1847 + K.nl) h.mch.ok (by omega))
  obtain ⟨v, hv⟩ : ∃ v : UInt8, v = z.back z.r0 := ⟨_, rfl⟩
  rw [← hv] at KA hG ⊢
  have HZ0 := Lib.hid h
  have HA := Lib.hid (And.intro hA (And.intro ha hnl))
  clear hr0 hv h hA ha hnl ho
  go_enter Tryz.func89, Tryz.ntmps89
  go_wp2_with fail
  refine KA.out.mono ?_
  rintro e w1 ⟨rfl, n1, hw1⟩
  have HZ1 := Lib.hid (show Cw K w1 Ge A' c z (k + 8) t by rw [← hw1]; exact HZ0.out.drewN n1)
  have HO1 := Lib.hid (show Only (K.own Ge) w w1 by rw [← hw1]; exact (Only.refl _ w).drewN n1)
  clear c7 KA HZ0 hw1
  go_wp2_with fail
  go_loopw [7, 8, 9, 10, 11, 12, 21] (fun m sm _ _ _ _ i wr => ∃ (j : Nat) (G : Lg En) (G' : Option Nat), j ≤ 8 ∧ G = litG encM t A v x true j ∧ i = .int .i64 (j : Int) ∧ m = .int .i64 (G.m : Int) ∧ sm = .bool G.same ∧ Cw K wr G' A' c z (k + 8 - j) G.t ∧ Nwr w Ge G' ∧ Only (K.own Ge) w wr) (fun _ _ _ _ _ _ i _ => 8 - (intOf i).toNat)
  case atStart => exact ⟨0, _, Ge, by omega, rfl, rfl, rfl, rfl, HZ1.out, Nwr.refl _ _, HO1.out⟩
  case round =>
    clear HZ1 HO1
    obtain ⟨j, G, G', hj, hGj, rfl, rfl, rfl, hz, hn, ho⟩ := hrel
    obtain ⟨t1, t2, t3⟩ := hG.out j hj
    rw [← hGj] at t1 t2 t3
    have HGJ := Lib.hid hGj
    have HO := Lib.hid ho
    have HN := Lib.hid hn
    have HZ := Lib.hid hz
    by_cases hlt : j < 8
    · have hlt' : (j : Int) < 8 := by omega
      have e7 := bes_seven hlt
      have e9 : min (7 - j) 64 = 7 - j := by omega
      have E8 := Lib.hid (bit_shr v (7 - j))
      have E9 := Lib.hid (bit_shr x (7 - j))
      have hm256 := lt_256 t3 hlt
      have hy := bitOf_le v.toNat (7 - j)
      have hb := bitOf_le x.toNat (7 - j)
      have hst2 : lgStep encM A (want (v.toNat : Int) (7 - j)) (want (x.toNat : Int) (7 - j)) G = litG encM t A v x true (j + 1) := by rw [hGj]; rfl
      obtain ⟨y, hyy⟩ : ∃ y, y = bitOf v.toNat (7 - j) := ⟨_, rfl⟩
      obtain ⟨u, huu⟩ : ∃ u, u = bitOf x.toNat (7 - j) := ⟨_, rfl⟩
      rw [← hyy] at E8 hy
      rw [← huu] at E9 hb
      obtain ⟨p1, hp1⟩ : ∃ p1, p1 = 1 + y := ⟨_, rfl⟩
      obtain ⟨p2, hp2⟩ : ∃ p2, p2 = p1 * 256 := ⟨_, rfl⟩
      obtain ⟨idx, hidx⟩ : ∃ idx, idx = p2 + G.m := ⟨_, rfl⟩
      obtain ⟨q1, q2, q3, q4, q5⟩ := bes_facts hy hm256 hp1 hp2 hidx
      have e12 := bes_wraps hm256 hb
      obtain ⟨e1, e2⟩ := e12
      have q3' : IntKind.i64.wrap ((G.m : Int) + (p2 : Int)) = (idx : Int) := by rw [show (G.m : Int) + (p2 : Int) = (p2 : Int) + (G.m : Int) by omega]; exact q3
      have hm := bes_m hm256
      obtain ⟨m1, m2, m3⟩ := hm
      have heq := bes_eq u y
      have HJ := Lib.hid hlt
      have HSZ := Lib.hid ho.size
      cases hsame : G.same with
      | true =>
        have hst := lgE_same (A := A) (j := 7 - j) (o := v) (v := x) hsame
        rw [hst2, ← hyy, ← huu] at hst
        have hat := bes_at HA.out hy hm256 hp1 hp2 hidx
        rw [show k + 8 - j = k + 8 - (j + 1) + 1 by omega] at hz
        have HST := Lib.hid hst
        have KB := Lib.hid (fun (wq : World) (hq : Cw K wq G' A' c z (k + 8 - (j + 1) + 1) G.t) => hq.bit (a := A + 256 * (1 + y) + G.m) (b := K.lb) (i := a + idx) (bit := u) (Koc.ad_lit hat.1 hat.2.1) hat.2.2 hb)
        obtain ⟨B, hB⟩ : ∃ B, B = bitP encM G.t (A + 256 * (1 + y) + G.m) (u : Int) := ⟨_, rfl⟩
        rw [← hB] at KB HST
        have HZ := Lib.hid hz
        clear hst hst2 hidx hp1 hp2 hyy huu hat hsame t1 t2 t3 hm256 hz hn ho hy hb hGj hj hB
        obtain ⟨Gt, hGt⟩ : ∃ Gt, Gt = G.t := ⟨_, rfl⟩
        rw [← hGt] at KB HZ
        generalize G.m = m at *
        clear hGt
        obtain ⟨mm, hmm⟩ : ∃ mm, mm = 2 * m + u := ⟨_, rfl⟩
        rw [← hmm] at e2 HST
        clear hmm
        go_upto_region 5 with fail
        go_quiet (fail)
        rw [E8.out, E9.out]
        clear E8 E9
        have HZ := Lib.hid (HZ.out.drewN nq)
        have HO := Lib.hid (HO.out.drewN nq)
        have HSZ := Lib.hid HO.out.size
        generalize wr.drewN nq = wq at *
        have c4 := HZ.out.f.c4
        have KB := Lib.hid (fun n => KB.out _ (HZ.out.drewN n))
        go_wp2_with fail
        go_region_held3 (fun w' => w'.cell? ⟨K.g, 4, none⟩ = some (.pointer (some ⟨K.eg, 0, none⟩))) (first | assumption | go_keep | exact c4 | exact f4) (first | (go_at_call 84; refine (KB.out _).mono ?_; rintro e w3 ⟨rfl, G3, hz3, hn3, ho3⟩; have f4 := hz3.f.c4; have HZ3 := Lib.hid hz3; have HN3 := Lib.hid (HN.out.trans hn3 HSZ.out); have HO3 := Lib.hid (cset_trans HO.out HN.out (Only.of_drewN ho3)); clear hz3 hn3 ho3))
        clear c4 f4 KB HZ HO HN
        go_wp2_with fail
        go_roundw
        case rel => exact ⟨j + 1, litG encM t A v x true (j + 1), G3, by have := HJ.out; omega, rfl, by go_num, by rw [HST.out], by rw [HST.out], by rw [HST.out]; rw [show k + 8 - (j + 1) = k + 8 - (j + 1) from rfl]; exact HZ3.out, HN3.out, HO3.out⟩
        case measure => simp [intOf]; have := HJ.out; omega
      | false =>
        have hst := lgE_other (A := A) (j := 7 - j) (o := v) (v := x) hsame
        rw [hst2, ← huu] at hst
        have hat := bes_at2 HA.out hm256
        rw [show k + 8 - j = k + 8 - (j + 1) + 1 by omega] at hz
        have HST := Lib.hid hst
        have KB := Lib.hid (fun (wq : World) (hq : Cw K wq G' A' c z (k + 8 - (j + 1) + 1) G.t) => hq.bit (a := A + G.m) (b := K.lb) (i := a + G.m) (bit := u) (Koc.ad_lit hat.1 hat.2.1) hat.2.2 hb)
        obtain ⟨B, hB⟩ : ∃ B, B = bitP encM G.t (A + G.m) (u : Int) := ⟨_, rfl⟩
        rw [← hB] at KB HST
        have HZ := Lib.hid hz
        clear hst hst2 hidx hp1 hp2 hyy huu hat hsame t1 t2 t3 hm256 hz hn ho hy hb hGj hj hB
        obtain ⟨Gt, hGt⟩ : ∃ Gt, Gt = G.t := ⟨_, rfl⟩
        rw [← hGt] at KB HZ
        generalize G.m = m at *
        clear hGt
        obtain ⟨mm, hmm⟩ : ∃ mm, mm = 2 * m + u := ⟨_, rfl⟩
        rw [← hmm] at e2 HST
        clear hmm
        go_upto_region 5 with fail
        go_quiet (fail)
        rw [E8.out, E9.out]
        clear E8 E9
        have HZ := Lib.hid (HZ.out.drewN nq)
        have HO := Lib.hid (HO.out.drewN nq)
        have HSZ := Lib.hid HO.out.size
        generalize wr.drewN nq = wq at *
        have c4 := HZ.out.f.c4
        have KB := Lib.hid (fun n => KB.out _ (HZ.out.drewN n))
        go_wp2_with fail
        go_region_held3 (fun w' => w'.cell? ⟨K.g, 4, none⟩ = some (.pointer (some ⟨K.eg, 0, none⟩))) (first | assumption | go_keep | exact c4 | exact f4) (first | (go_at_call 84; refine (KB.out _).mono ?_; rintro e w3 ⟨rfl, G3, hz3, hn3, ho3⟩; have f4 := hz3.f.c4; have HZ3 := Lib.hid hz3; have HN3 := Lib.hid (HN.out.trans hn3 HSZ.out); have HO3 := Lib.hid (cset_trans HO.out HN.out (Only.of_drewN ho3)); clear hz3 hn3 ho3))
        clear c4 f4 KB HZ HO HN
        go_wp2_with fail
        go_roundw
        case rel => exact ⟨j + 1, litG encM t A v x true (j + 1), G3, by have := HJ.out; omega, rfl, by go_num, by rw [HST.out], by rw [HST.out], by rw [HST.out]; rw [show k + 8 - (j + 1) = k + 8 - (j + 1) from rfl]; exact HZ3.out, HN3.out, HO3.out⟩
        case measure => simp [intOf]; have := HJ.out; omega
    · obtain rfl : j = 8 := by omega
      have hlt' : ¬ ((8 : Nat) : Int) < 8 := by omega
      rw [show k + 8 - 8 = k by omega] at hz
      have HZ2 := Lib.hid hz
      clear hz hn ho t1 t2 t3 hGj HZ
      generalize G.m = m at *
      generalize G.same = sm at *
      go_wp2_with fail
      first | go_end0 | refine bodyPost_ret (results_none rfl _ _ _) rfl ?_
      have := HZ2.out
      rw [HGJ.out] at this
      exact ⟨rfl, G', this, HN.out, HO.out⟩
end
end Go.Proofs.YtoencondpbkomaaGreat

/-
  append, with what is known of the row then.
-/
namespace Go.Proofs.YtoencondpbkomaaGreat
open Go.RowKit

section
variable {P : Program} (w : World)
/-- append, with what is known of the row then -/
theorem wpList_app2 {ops : Array Oper} {rest : List Oper} {o : Oper} {a : Act} {Q : Exit → Act → World → Prop} (hgd : o.guard = none) (s x : Operand) (t : TypeId)
    (ho : o.op = .call { callee := .builtin .append, args := #[s, x], argTypes := #[t, t] })
    (base : Nat) (e : TypeId) (i : TypeInfo) (z : Value) (bytes : Nat) (ht : P.underlying t = some (.slice e)) (hi : P.info? e = some i) (hz : i.zero = some z)
    (hsize : i.size = 1) (hby : i.bytes = bytes) (hzs : z.cells.size = 1)
    (v : Value) (n : Nat) (xs : List Value) (hs : a.eval s = v) (hown : w.ownsRow base e 1 v n xs)
    (A : Option Addr) (m c : Nat) (news : List Value) (hx : a.eval x = .slice A m c) (hr : Sl w A m news) (h1 : ∀ u ∈ news, u.oneCell' = true)
    (hbytes : (n + m) * bytes ≤ 140737488355328) (hb0 : 0 < bytes) (hbase : base ≤ w.heap.size)
    (h : ∀ A' c' w', w'.ownsRow base e 1 (.slice A' (n + m) c') (n + m) (xs ++ news) → w.grownBy w' v.ownBlock → ((Value.slice A' (n + m) c').ownBlock = v.ownBlock ∨ (Value.slice A' (n + m) c').ownBlock = some w.heap.size) → wpList P ops Q rest (a.put o.dst (.slice A' (n + m) c')) w') : wpList P ops Q (o :: rest) a w :=
  wpList_plain hgd fun K hK => by
    obtain ⟨v', w', hrun, h2, h3, h4⟩ := run_app (P := P) w base t o.type e i z bytes ht hi hz hsize hby hzs v n xs hown A m c news hr h1 hbytes hb0 hbase
    obtain ⟨A', c', rfl, h2⟩ := own_form h2
    unfold Oper.wp execOp
    simp only [ho, resolve, invoke, builtin, Sem.run_bind, Sem.run_pure, Result.andThen_ok, List.map_toArray, List.map_cons, List.map_nil, hs, hx, hrun]
    exact hK _ _ (h A' c' w' h2 h3 h4)
end
end Go.Proofs.YtoencondpbkomaaGreat
