/-
  LzGo, CwRun, Only, Pure, Arith, Info, SrcFeed, BytN, Byt, OwnRow, PcPure, RdDec, RdEven, Prow, RdTell: put together.
-/
import Derived.Test.YtjganponepafpaaQ05
import Derived.Test.YtjganponepafpaaQ01
import Derived.WalkKit
import Derived.Laws.BitsAllLaws
import Derived.Laws.BitsLemmas
import Derived.Test.YtjganponepafpaaRows
import Derived.Tactics
import Derived.Tactics2
import Derived.Laws.Pointers
import Derived.RegionTactic
import Derived.RegionCalls
import Derived.BigQuiet
import Derived.Lib.SliceRun
import Derived.Deep.AppendLies
import Derived.LoopTactic
import Derived.Test.YtjganponepafpaaQ02
import Derived.Deep.RegionLaw
import Derived.Deep.RegionHeld3
import Derived.StillTailTactics
set_option linter.unusedVariables false
set_option linter.unusedSimpArgs false
/-
  What a coder's packets leave: they tell, and are not bad; the end mark is long.
-/
namespace Go.Proofs.Ytjganponepafpaa

theorem copyG_all : ∀ (f n : Nat) {z : Lzs}, z.has z.r0 = true → (copyG f n z).2.bad = z.bad ∧ (copyG f n z).2.ended = z.ended ∧ (copyG f n z).2.out.length = z.out.length + f
  | 0, n, z, _ => ⟨rfl, rfl, rfl⟩
  | f + 1, n, z, h => by
    rw [copyG_go h]
    have h2 : (z.push (z.back z.r0)).has (z.push (z.back z.r0)).r0 = true := by
      unfold Lzs.has at h ⊢
      have := of_decide_eq_true h
      refine decide_eq_true ⟨?_, this.2⟩
      show z.r0 < (z.out ++ [_]).length
      rw [List.length_append]
      omega
    obtain ⟨a, b, c⟩ := copyG_all f (n + 1) h2
    refine ⟨a, b, ?_⟩
    rw [c]
    show (z.out ++ [_]).length + f = _
    rw [List.length_append, List.length_singleton]
    omega
theorem tailP_all {σ : Type} {M : Mach σ} {many : Nat} {z : Lzs} {t : Pm σ} (h1 : z.bad = false) (h2 : M.bad t.x = false) (h3 : z.ended = false) (h : z.has z.r0 = true) (hm : 1 ≤ many) :
    (tailP M many z t).2.1.bad = false ∧ (tailP M many z t).2.1.ended = false ∧ z.out.length < (tailP M many z t).2.1.out.length := by
  unfold tailP
  rw [if_neg (by rw [h1, h2, h3]; simp)]
  obtain ⟨a, b, c⟩ := copyG_all many 0 h
  refine ⟨a.trans h1, b.trans h3, ?_⟩
  show _ < (copyG many 0 z).2.out.length
  rw [c]
  omega

/-! ### lengths -/
theorem even_grow (n l r : Nat) : l ≤ (En.even ⟨n, l, r⟩).l ∧ (En.even ⟨n, l, r⟩).r = r * 256 ^ ((En.even ⟨n, l, r⟩).l - l) := by
  unfold En.even
  split
  · exact ⟨by dsimp only; omega, by dsimp only; rw [show l + 1 - l = 1 by omega, Nat.pow_one]⟩
  · exact ⟨Nat.le_refl _, by dsimp only; rw [Nat.sub_self, Nat.pow_zero, Nat.mul_one]⟩
theorem one_grow (e : En) (b : Nat) : e.l ≤ (e.one b).l ∧ (e.one b).r * 2 ≤ e.r * 256 ^ ((e.one b).l - e.l) := by
  have key : ∀ n, e.l ≤ (En.even ⟨n, e.l, e.r / 2⟩).l ∧ (En.even ⟨n, e.l, e.r / 2⟩).r * 2 ≤ e.r * 256 ^ ((En.even ⟨n, e.l, e.r / 2⟩).l - e.l) := by
    intro n
    obtain ⟨h1, h2⟩ := even_grow n e.l (e.r / 2)
    refine ⟨h1, ?_⟩
    rw [h2, Nat.mul_assoc, Nat.mul_comm _ 2, ← Nat.mul_assoc]
    exact Nat.mul_le_mul_right _ (by omega)
  unfold En.one
  split
  · exact key _
  · exact key _
theorem strE_grow (e : En) (v n : Nat) : ∀ j, e.l ≤ (strE e v n j).l ∧ (strE e v n j).r * 2 ^ j ≤ e.r * 256 ^ ((strE e v n j).l - e.l)
  | 0 => ⟨Nat.le_refl _, by show e.r * 2 ^ 0 ≤ e.r * 256 ^ (e.l - e.l); rw [Nat.sub_self]; omega⟩
  | j + 1 => by
    obtain ⟨h1, h2⟩ := strE_grow e v n j
    obtain ⟨h3, h4⟩ := one_grow (strE e v n j) (bitOf v (n - 1 - j))
    refine ⟨Nat.le_trans h1 h3, ?_⟩
    show ((strE e v n j).one _).r * 2 ^ (j + 1) ≤ e.r * 256 ^ (((strE e v n j).one _).l - e.l)
    generalize (strE e v n j).one (bitOf v (n - 1 - j)) = o at *
    generalize strE e v n j = s at *
    rw [show o.l - e.l = (s.l - e.l) + (o.l - s.l) by omega, Nat.pow_add 256, Nat.pow_succ 2 j]
    calc o.r * (2 ^ j * 2) = (o.r * 2) * 2 ^ j := by rw [Nat.mul_comm (2 ^ j) 2, Nat.mul_assoc]
      _ ≤ (s.r * 256 ^ (o.l - s.l)) * 2 ^ j := Nat.mul_le_mul_right _ h4
      _ = (s.r * 2 ^ j) * 256 ^ (o.l - s.l) := by rw [Nat.mul_assoc, Nat.mul_comm (256 ^ _) (2 ^ j), ← Nat.mul_assoc]
      _ ≤ (e.r * 256 ^ (s.l - e.l)) * 256 ^ (o.l - s.l) := Nat.mul_le_mul_right _ h2
      _ = e.r * (256 ^ (s.l - e.l) * 256 ^ (o.l - s.l)) := by rw [Nat.mul_assoc]
theorem str_long {e : En} (he : EnOk e) (v : Nat) : e.l + 2 ≤ (strE e v 26 26).l := by
  obtain ⟨h1, h2⟩ := strE_grow e v 26 26
  have h3 := (strE_ok he v 26 26).1
  have h4 := he.2.1
  rcases Nat.lt_or_ge ((strE e v 26 26).l) (e.l + 2) with hlt | hge
  · exfalso
    have hk : (strE e v 26 26).l - e.l ≤ 1 := by omega
    have hp : 256 ^ ((strE e v 26 26).l - e.l) ≤ 256 ^ 1 := Nat.pow_le_pow_right (by omega) hk
    have h5 : e.r * 256 ^ ((strE e v 26 26).l - e.l) ≤ 4294967296 * 256 ^ 1 := Nat.mul_le_mul (by omega) hp
    have h6 : 16777216 * 2 ^ 26 ≤ (strE e v 26 26).r * 2 ^ 26 := Nat.mul_le_mul_right _ h3
    omega
  · exact hge
/-- a coder's bytes only grow -/
theorem len_simu (F c : Nat) : Simu encM okE encM (fun _ _ => True) (fun e => e.l + c ≤ F) (fun _ => True) where
  okm := encM_ok
  bit := fun _ _ _ _ _ => .inl trivial
  str := fun _ _ _ _ _ => .inl trivial
  fbit := by
    intro x k p w hx hp hw h
    have := reach_len (bit_reach (b := w.toNat) hx.1 hp)
    have h : (x.bit p w.toNat).l + c ≤ F := h
    omega
  fstr := by
    intro x k n v hx h
    have h2 := strE_reach x v n 0 n
    rw [Nat.zero_add] at h2
    have := reach_len h2
    have h : (strE x v n n).l + c ≤ F := h
    have h3 : x.l ≤ (strE x v n n).l := this
    omega
  dbit := fun _ => trivial
  dstr := fun _ => trivial
  same := fun _ => rfl
theorem dist_long {L k l : Nat} {t : Pm En} (ht : PmOk okE L (k + 12) t) (hL0 : 1847 ≤ L) : t.x.l + 2 ≤ (distP encM t l 4294967295).2.x.l := by
  have hv : (4294967295 : Nat) < 4294967296 := by decide
  obtain ⟨s1, s2, s3⟩ := slot_spec hv
  have hslot : slotOf 4294967295 = 63 := by decide +kernel
  have hmv : encM.mayN ((slotOf 4294967295 : Nat) : Int) := fun _ => by omega
  have htell : (treeP encM t (432 + 64 * min l 3) 6 ((slotOf 4294967295 : Nat) : Int)).1 = 63 := by rw [treeP_tell encM_ok rfl s1, hslot]
  have hT := (treeP_ok encM_ok (k := k + 6) (n := 6) (a := 432 + 64 * min l 3) (v := ((slotOf 4294967295 : Nat) : Int)) (t := t) ht (by show 432 + 64 * min l 3 + 64 ≤ L; omega) hmv).2
  have hmono := fun hf => (treeP_sim (len_simu (distP encM t l 4294967295).2.x.l 2) (u := t) (v' := 0) (k := k + 6) (n := 6) (a := 432 + 64 * min l 3) (v := ((slotOf 4294967295 : Nat) : Int)) (t := t) ht (by show 432 + 64 * min l 3 + 64 ≤ L; omega) hmv hf).1
  refine hmono ?_
  have hdef : distP encM t l 4294967295 = distB encM (treeP encM t (432 + 64 * min l 3) 6 ((slotOf 4294967295 : Nat) : Int)) 4294967295 := rfl
  rw [hdef]
  generalize treeP encM t (432 + 64 * min l 3) 6 ((slotOf 4294967295 : Nat) : Int) = sl at *
  unfold distB
  rw [if_neg (by rw [htell]; decide), if_neg (by rw [htell]; decide), htell]
  unfold distC
  have hS := encM_ok.str (k := k + 5) (n := 26) (v := (4294967295 + 4294967296 - (2 + 63 % 2) * 2 ^ (63 / 2 - 1)) % 4294967296 / 16) hT.x (by decide) (fun _ => by decide)
  have hp2 : PmOk okE L (k + 5) (⟨sl.2.ps, (encM.str sl.2.x 26 ((4294967295 + 4294967296 - (2 + 63 % 2) * 2 ^ (63 / 2 - 1)) % 4294967296 / 16)).2⟩ : Pm En) := ⟨hT.ps, hT.len, hS.2⟩
  have hmr : encM.mayN ((4294967295 % 16 : Nat) : Int) := fun _ => by omega
  have hrev := (revP_sim (len_simu (revP encM ⟨sl.2.ps, (encM.str sl.2.x 26 ((4294967295 + 4294967296 - (2 + 63 % 2) * 2 ^ (63 / 2 - 1)) % 4294967296 / 16)).2⟩ 803 4 ((4294967295 % 16 : Nat) : Int)).2.x.l 0) (u := ⟨sl.2.ps, (encM.str sl.2.x 26 ((4294967295 + 4294967296 - (2 + 63 % 2) * 2 ^ (63 / 2 - 1)) % 4294967296 / 16)).2⟩) (v' := 0) (k := k) (n := 4) (a := 803) (v := ((4294967295 % 16 : Nat) : Int)) (hp2.mono encM_ok (show k + 4 ≤ k + 5 by omega)) (by show 803 + 16 ≤ L; omega) hmr (Nat.le_refl _)).1
  have hlong := str_long hT.x.1 ((4294967295 + 4294967296 - (2 + 63 % 2) * 2 ^ (63 / 2 - 1)) % 4294967296 / 16)
  exact Nat.le_trans hlong hrev

/-- a packet that fits, and is no end mark, tells -/
theorem pack_enc {L k N : Nat} {z : Lzs} {t : Pm En} {q : Pq} (hz : ZNear z L N) (ht : PmOk okE L (k + 27) t) (hq : PqLit q) (hf : fitsP z q.k q.v.toNat q.n = true) (hb : z.bad = false) :
    (q.k ≠ 7 → (packP encM z t q.pk).2.1.bad = false ∧ (packP encM z t q.pk).2.1.ended = false ∧ z.out.length < (packP encM z t q.pk).2.1.out.length) ∧
    (q.k = 7 → (packP encM z t q.pk).2.1.bad = false ∧ (packP encM z t q.pk).2.1.ended = true ∧ (packP encM z t q.pk).2.1.out = z.out ∧ t.x.l + 2 ≤ (packP encM z t q.pk).2.2.x.l) := by
  obtain ⟨f0, f1, f2, f3, f4, f5, f6, f7, f8, f9, f10⟩ := fits_may hf
  obtain ⟨pf, pm, _⟩ := fits_pk hq hf
  have hL0 : 1847 ≤ L := by have := hz.len; omega
  obtain ⟨s, hs⟩ : ∃ s, s = z.out.length % 2 ^ z.pb := ⟨_, rfl⟩
  have hs15 : s ≤ 15 := by
    have h1 : z.out.length % 2 ^ z.pb < 2 ^ z.pb := Nat.mod_lt _ (Nat.two_pow_pos _)
    have h2 : 2 ^ z.pb ≤ 2 ^ 4 := pow_le_of hz.pb
    omega
  have hkm : encM.mayN q.pk.kind := fun he => f1
  obtain ⟨k1, k2⟩ := kindP_ok encM_ok (k := k + 22) (em := decide (z.out.length = 0)) (kd := q.pk.kind) (t := t) ht hL0 hs15 hz.st hkm
  obtain ⟨ktell, kbad⟩ := kindP_tell encM_ok rfl (s := s) (st := z.st) (em := decide (z.out.length = 0)) (kd := q.pk.kind) (t := t) f1 f2 (fun e => by
    rcases f3 (of_decide_eq_true e) with h | h
    · exact .inl h
    · exact .inr (.inr h))
  have kmono := fun F hf => (kindP_sim (len_simu F 2) (u := t) (kd' := 0) (k := k + 22) (em := decide (z.out.length = 0)) (kd := q.pk.kind) (t := t) ht hL0 hz.st hs15 hkm hf).1
  unfold packP
  rw [← hs]
  generalize kindP encM t (decide (z.out.length = 0)) z.st s q.pk.kind = kb at *
  obtain ⟨kv, kd, tk⟩ := kb
  dsimp only at k1 k2 ktell kbad kmono
  subst kbad
  have ktell : (kv : Int) = if q.k = 7 then 1 else q.k := ktell
  have hzb : (z.bad || false) = false := by rw [hb]; rfl
  by_cases h0 : kv = 0
  · have hk0 : q.k = 0 := by
      rw [h0] at ktell
      split at ktell
      · omega
      · omega
    refine ⟨fun _ => ?_, fun h => by omega⟩
    have eA : packK encM (kv, false, tk) z s q.pk = packL encM (litP encM { z with bad := z.bad || false } tk q.pk.byte) { z with bad := z.bad || false } := by unfold packK; rw [if_pos h0]
    rw [eA]
    unfold packL
    rw [if_neg (show ¬ encM.bad _ = true from fun h => by cases h)]
    exact ⟨hzb, f0, by show z.out.length < (z.out ++ [_]).length; rw [List.length_append, List.length_singleton]; omega⟩
  by_cases h1 : kv = 1
  · have hk1 : q.k = 1 ∨ q.k = 7 := by
      rw [h1] at ktell
      split at ktell
      · rename_i h; exact .inr h
      · exact .inl (by omega)
    obtain ⟨ls, hls⟩ : ∃ ls : Int, ls = if q.pk.kind = 7 then 0 else q.pk.len - 2 := ⟨_, rfl⟩
    obtain ⟨ds, hds⟩ : ∃ ds : Nat, ds = if q.pk.kind = 7 then 4294967295 else q.pk.dist := ⟨_, rfl⟩
    have hlm : encM.mayN ls := fun he => by
      rw [hls]
      split
      · omega
      · rename_i h7
        rcases hk1 with h | h
        · have := (f4 (by omega)).1
          show 0 ≤ q.n - 2
          omega
        · exact absurd h h7
    have hdb : ds < 4294967296 := by
      rw [hds]
      split
      · decide
      · exact pf.d
    have eA : packK encM (kv, false, tk) z s q.pk = packM encM (lenP encM tk 819 s ls) { z with bad := z.bad || false } ds := by unfold packK; rw [if_neg h0, if_pos h1, hls, hds]
    rw [eA]
    obtain ⟨l1, l2⟩ := lenP_ok encM_ok (k := k + 12) (a := 819) (s := s) (v := ls) k2 (show 819 + 514 ≤ L by omega) hs15 hlm
    have lmono := fun F hf => (lenP_sim (len_simu F 2) (u := tk) (v' := 0) (k := k + 12) (a := 819) (s := s) (v := ls) k2 (show 819 + 514 ≤ L by omega) hs15 hlm hf).1
    generalize lenP encM tk 819 s ls = lr at *
    unfold packM packD
    have hdt := distP_tell (k := k) (l := lr.1) l2 hL0 hdb
    have hdl : ds = 4294967295 → lr.2.x.l + 2 ≤ (distP encM lr.2 lr.1 ds).2.x.l := fun h => by rw [h]; exact dist_long (k := k) l2 hL0
    generalize distP encM lr.2 lr.1 ds = dr at *
    have hbm : encM.bad dr.2.x = false := rfl
    refine ⟨fun h7 => ?_, fun h7 => ?_⟩
    · have hk : q.k = 1 := by omega
      have hdd : ds = q.v.toNat := by rw [hds]; exact if_neg h7
      have hhas := f5 hk
      rw [← hdd, ← hdt] at hhas
      have hne : dr.1 ≠ 4294967295 := by
        unfold Lzs.has at hhas
        have := of_decide_eq_true hhas
        have := hz.dict
        omega
      exact tailP_all hzb hbm (show (decide (dr.1 = 4294967295) && !encM.bad dr.2.x) = false by rw [decide_eq_false hne]; rfl) hhas (by omega)
    · have hdd : ds = 4294967295 := by rw [hds]; exact if_pos h7
      have hen : (decide (dr.1 = 4294967295) && !encM.bad dr.2.x) = true := by rw [decide_eq_true (by rw [hdt, hdd]), hbm]; rfl
      unfold tailP
      dsimp only
      rw [hen, if_pos (by simp)]
      refine ⟨?_, rfl, rfl, ?_⟩
      · show ((z.bad || false) || encM.bad dr.2.x) = false
        rw [hzb, hbm]; rfl
      · exact kmono _ (lmono _ (hdl hdd))
  have hk7 : q.k ≠ 7 := fun h => by rw [if_pos h] at ktell; omega
  rw [if_neg hk7] at ktell
  refine ⟨fun _ => ?_, fun h => absurd h hk7⟩
  by_cases h6 : kv = 6
  · have eA : packK encM (kv, false, tk) z s q.pk = tailP encM 1 { z with bad := z.bad || false, st := aft 9 11 z.st } tk := by unfold packK; rw [if_neg h0, if_neg h1, if_pos h6]
    rw [eA]
    exact tailP_all hzb rfl f0 (f10 (by omega)) (by decide)
  · have eA : packK encM (kv, false, tk) z s q.pk = packR encM (lenP encM tk 1333 s (q.pk.len - 2)) { z with bad := z.bad || false } (kv - 2) := by unfold packK; rw [if_neg h0, if_neg h1, if_neg h6]
    rw [eA]
    unfold packR
    have hhas : z.has (z.rep (kv - 2)) = true := by
      have hkk : kv = 2 ∨ kv = 3 ∨ kv = 4 ∨ kv = 5 := by omega
      rcases hkk with h | h | h | h
      · rw [h]; exact f6 (by omega)
      · rw [h]; exact f7 (by omega)
      · rw [h]; exact f8 (by omega)
      · rw [h]; exact f9 (by omega)
    exact tailP_all hzb rfl f0 hhas (by omega)
end Go.Proofs.Ytjganponepafpaa

/-
  Packets one behind the other, each coded if it fits: numbers.
-/
namespace Go.Proofs.Ytjganponepafpaa
open Go.RowKit

/-- the greatest number: no packet is left out as it tells too much -/
def mostI : Int := 9223372036854775807
theorem takes_all (z : Lzs) (q : Pq) : takesP mostI z q = fitsP z q.k q.v.toNat q.n := by
  unfold takesP mostI
  have h : ∀ x : Int, IntKind.i64.wrap x ≤ 9223372036854775807 := fun x => by
    rw [IntWalk.i64_left]
    unfold wrap64
    omega
  rw [decide_eq_true (h _), Bool.and_true]
theorem codeS_fits (s : Lzs × Pm En) (q : Pq) : codeS mostI s q = if fitsP s.1 q.pk.kind q.pk.dist q.pk.len = true then (packP encM s.1 s.2 q.pk).2 else s := by
  unfold codeS
  rw [takes_all]
  rfl
/-- behind the first j of a list -/
def runG (qs : Nat → Pq) (s : Lzs × Pm En) (j : Nat) : Lzs × Pm En := codeG mostI qs s j
/-- a coder that begins, as numbers -/
def freshS (lc lp pb dict : Nat) : Lzs × Pm En := (Lzs.start lc lp pb dict, ⟨List.replicate (probsN lc lp) 1024, En.new⟩)
theorem fresh_near {lc lp pb dict : Nat} (h : SetOk lc lp pb dict) : ZNear (freshS lc lp pb dict).1 (probsN lc lp) 0 :=
  ⟨h.1, h.2.1, h.2.2.1, h.2.2.2.2, Nat.le_refl _, (show 0 ≤ 11 by decide), (show 0 < 4294967296 by decide), (show 0 < 4294967296 by decide), (show 0 < 4294967296 by decide), (show 0 < 4294967296 by decide), rfl⟩
theorem fresh_pm {lc lp pb dict m : Nat} (hm : m ≤ 1000000) : PmOk okE (probsN lc lp) m (freshS lc lp pb dict).2 :=
  ⟨fun p hp => by rw [List.eq_of_mem_replicate hp]; exact ⟨by decide, by decide⟩, by show (List.replicate _ _).length = _; simp, enOk_new, by show 5 + 32 * m ≤ _; omega⟩

section
variable {qs : Nat → Pq} {lc lp pb dict n : Nat}
theorem run_ok (h : SetOk lc lp pb dict) (hq : ∀ i, i < n → PqLit (qs i)) (hn : n ≤ 10000) (j : Nat) (hj : j ≤ n) :
    ZNear (runG qs (freshS lc lp pb dict) j).1 (probsN lc lp) (273 * j) ∧ PmOk okE (probsN lc lp) (27 * (n - j)) (runG qs (freshS lc lp pb dict) j).2 := by
  obtain ⟨a, b⟩ := codeG_ok (most := mostI) (s := freshS lc lp pb dict) (k := 0) (m := n) hq (fresh_near h) (fresh_pm (m := 0 + 27 * n) (by omega)) j hj
  exact ⟨a.more (by omega), b.mono encM_ok (by omega)⟩
theorem run_succ (s : Lzs × Pm En) (j : Nat) : runG qs s (j + 1) = if fitsP (runG qs s j).1 (qs j).pk.kind (qs j).pk.dist (qs j).pk.len = true then (packP encM (runG qs s j).1 (runG qs s j).2 (qs j).pk).2 else runG qs s j :=
  codeS_fits (runG qs s j) (qs j)
theorem run_bad (h : SetOk lc lp pb dict) (hq : ∀ i, i < n → PqLit (qs i)) (hn : n ≤ 3000) : ∀ j, j ≤ n → (runG qs (freshS lc lp pb dict) j).1.bad = false
  | 0, _ => rfl
  | j + 1, hj => by
    have ih := run_bad h hq hn j (by omega)
    obtain ⟨h1, h2⟩ := run_ok h hq (by omega) j (by omega)
    rw [run_succ]
    split
    · rename_i hf
      obtain ⟨p1, p2⟩ := pack_enc (k := 0) h1 (h2.mono encM_ok (by omega)) (hq j (by omega)) hf ih
      by_cases hk : (qs j).k = 7
      · exact (p2 hk).1
      · exact (p1 hk).1
    · exact ih
/-- behind an end mark no packet fits -/
theorem run_ended (s : Lzs × Pm En) {j : Nat} (h : (runG qs s j).1.ended = true) : ∀ m, runG qs s (j + m) = runG qs s j
  | 0 => rfl
  | m + 1 => by
    have ih := run_ended s h m
    rw [show j + (m + 1) = (j + m) + 1 by omega, run_succ, ih]
    have : fitsP (runG qs s j).1 (qs (j + m)).pk.kind (qs (j + m)).pk.dist (qs (j + m)).pk.len = false := by unfold fitsP lateP; rw [h]; rfl
    rw [this]
    rfl
end
end Go.Proofs.Ytjganponepafpaa

/-
  What was there is as it was, but for the blocks of a set.
-/
namespace Go.Proofs.Ytjganponepafpaa
open Go.RowKit

structure Only (S : Nat → Prop) (a w : World) : Prop where
  os : w.os = a.os
  tape : w.tape = a.tape
  output : w.output = a.output
  size : a.heap.size ≤ w.heap.size
  block : ∀ i, i < a.heap.size → ¬ S i → w.heap[i]? = a.heap[i]?

section
variable {S S' : Nat → Prop} {a b c w w' : World}
theorem Only.refl (S : Nat → Prop) (w : World) : Only S w w := ⟨rfl, rfl, rfl, Nat.le_refl _, fun _ _ _ => rfl⟩
theorem Only.trans (h : Only S a b) (k : Only S b c) : Only S a c :=
  ⟨k.os.trans h.os, k.tape.trans h.tape, k.output.trans h.output, Nat.le_trans h.size k.size, fun i hi hn => (k.block i (Nat.lt_of_lt_of_le hi h.size) hn).trans (h.block i hi hn)⟩
theorem Only.mono (h : Only S a w) (hS : ∀ i, S i → S' i) : Only S' a w := ⟨h.os, h.tape, h.output, h.size, fun i hi hn => h.block i hi fun hs => hn (hS i hs)⟩
theorem Only.drewN (h : Only S a w) (n : Nat) : Only S a (w.drewN n) := ⟨h.os, h.tape, h.output, h.size, h.block⟩
theorem Only.drew (h : Only S a w) : Only S a w.drew := ⟨h.os, h.tape, h.output, h.size, h.block⟩
theorem Only.of_drewN {n : Nat} (h : Only S (a.drewN n) w) : Only S a w := ⟨h.os, h.tape, h.output, h.size, h.block⟩
theorem Only.of_drew (h : Only S a.drew w) : Only S a w := ⟨h.os, h.tape, h.output, h.size, h.block⟩
theorem Only.setCell (h : Only S a w) {p : Addr} (hp : S p.block ∨ a.heap.size ≤ p.block) (u : Value) : Only S a (w.setCell p u) :=
  ⟨h.os, h.tape, h.output, by simpa [World.setCell] using h.size, fun i hi hn => (Below.heap_setCell w p u i (by
    rintro rfl
    rcases hp with hp | hp
    · exact hn hp
    · omega)).trans (h.block i hi hn)⟩
theorem Only.alloc (h : Only S a w) (o : Obj) : Only S a (w.alloc o) :=
  ⟨h.os, h.tape, h.output, Nat.le_trans h.size (by simp), fun i hi hn => (Below.heap_alloc w o i (Nat.lt_of_lt_of_le hi h.size)).trans (h.block i hi hn)⟩
theorem Only.of_grown {g : Nat} (h : a.grownBy w (some g)) (hg : S g) : Only S a w := ⟨h.os, h.tape, h.output, h.size, fun i hi hn => h.block i hi fun e => by injection e with e; exact hn (e ▸ hg)⟩
theorem Only.of_below (h : Below a.heap.size a w) : Only S a w := ⟨h.os, h.tape, h.output, h.size, fun i hi _ => h.block i hi⟩
theorem Only.then (h : Only S a b) (k : Below b.heap.size b c) : Only S a c := h.trans (Only.of_below k)
theorem Only.below {B : Nat} (h : Only S a w) (hB : B ≤ a.heap.size) (hS : ∀ i, S i → B ≤ i) : Below B a w :=
  ⟨h.os, h.tape, h.output, h.size, fun i hi => h.block i (by omega) fun hs => by have := hS i hs; omega⟩
theorem Only.trans' (h : Only S a b) (k : Only S' b c) (hS : ∀ i, S' i → S i ∨ a.heap.size ≤ i) : Only S a c :=
  ⟨k.os.trans h.os, k.tape.trans h.tape, k.output.trans h.output, Nat.le_trans h.size k.size, fun i hi hn => (k.block i (Nat.lt_of_lt_of_le hi h.size) (fun hs => by
    rcases hS i hs with h1 | h1
    · exact hn h1
    · omega)).trans (h.block i hi hn)⟩
theorem Only.cell (h : Only S w w') {p : Addr} (hp : p.block < w.heap.size) (hn : ¬ S p.block) : w'.cell? p = w.cell? p := World.cell?_of_block (h.block _ hp hn)
theorem Blk.only {g : Nat} {t : TypeId} {cs : Array Value} (h : Blk w g t cs) (hb : Only S w w') (hg : ¬ S g) : Blk w' g t cs := (hb.block g h.lt hg).trans h
theorem Sl.only {A : Option Addr} {n : Nat} {xs : List Value} (h : Sl w A n xs) (hb : Only S w w') (hne : 0 < n → ∀ b o, A = some ⟨b, o, none⟩ → ¬ S b) : Sl w' A n xs :=
  h.keep hb.size fun hn b o e hlt => hb.block b hlt (hne hn b o e)
theorem own_only {base : Nat} {e : TypeId} {g n c : Nat} {xs : List Value} (h : w.ownsRow base e 1 (.slice (some ⟨g, 0, none⟩) n c) n xs) (hb : Only S w w') (hg : ¬ S g) : w'.ownsRow base e 1 (.slice (some ⟨g, 0, none⟩) n c) n xs := by
  refine ⟨h.1, ?_⟩
  rcases h.2 with ⟨hv, _⟩ | ⟨g', cap, cur, hv, hb', hh, r⟩
  · cases hv
  · refine .inr ⟨g', cap, cur, hv, hb', ?_, r⟩
    injection hv with h1
    injection h1 with h1
    injection h1 with h1
    subst h1
    have hlt : g < w.heap.size := by
      rcases Nat.lt_or_ge g w.heap.size with hlt | hge
      · exact hlt
      · rw [Array.getElem?_eq_none hge] at hh; cases hh
    exact (hb.block g hlt hg).trans hh
end
end Go.Proofs.Ytjganponepafpaa

/-
  Numbers and rows as the document has them, over lists of bytes: plain mathematics, no program.
-/
namespace Go.Proofs.Ytjganponepafpaa

/-- bytes as a number, the least first -/
def leVal : List UInt8 → Nat
  | [] => 0
  | b :: r => b.toNat + 256 * leVal r

theorem pow256 (k : Nat) : (256 : Nat) ^ k = 2 ^ (8 * k) := by
  rw [Nat.pow_mul]
/-- the size least bytes of v, the least first -/
def leBytes (size v : Nat) : List UInt8 := (List.range size).map fun i => UInt8.ofNat (v / 256 ^ i % 256)
theorem leBytes_length (size v : Nat) : (leBytes size v).length = size := by simp [leBytes]
theorem leBytes_succ (k v : Nat) : leBytes (k + 1) v = leBytes k v ++ [UInt8.ofNat (v / 256 ^ k % 256)] := by
  simp [leBytes, List.range_succ]
/-- how many bytes follow the first of the shortest short number that is v: k -/
structure IsFol (v k : Nat) : Prop where
  le : k ≤ 8
  lt : k < 8 → v < 2 ^ (7 * k + 7)
  ge : ∀ j, j < k → 2 ^ (7 * j + 7) ≤ v
def folAux (v : Nat) : Nat → Nat → Nat
  | 0, k => k
  | f + 1, k => if v < 2 ^ (7 * k + 7) then k else folAux v f (k + 1)
def fol (v : Nat) : Nat := folAux v 8 0
/-- what stands above the following bytes -/
theorem IsFol.top {v k : Nat} (h : IsFol v k) (hv : v < 18446744073709551616) : v / 256 ^ k < 2 ^ (7 - k) ∧ (7 ≤ k → v / 256 ^ k = 0) := by
  have hk := h.le
  have h1 := h.lt
  have : k = 0 ∨ k = 1 ∨ k = 2 ∨ k = 3 ∨ k = 4 ∨ k = 5 ∨ k = 6 ∨ k = 7 ∨ k = 8 := by omega
  rcases this with rfl | rfl | rfl | rfl | rfl | rfl | rfl | rfl | rfl <;> simp at h1 ⊢ <;> omega
/-- the shortest short number that is v -/
def shortBytes (v : Nat) : List UInt8 := UInt8.ofNat (256 - 2 ^ (8 - fol v) + v / 256 ^ fol v) :: leBytes (fol v) v
end Go.Proofs.Ytjganponepafpaa

/-
  Arithmetic of fixed width as the walk writes it: shifts, or, and, and sums that do not wrap.
-/
namespace Go.Proofs.Ytjganponepafpaa
open Go.RowKit

theorem u64_in (x : Nat) (h : x < 18446744073709551616) : IntKind.u64.wrap (x : Int) = (x : Int) := by
  rw [IntKind.wrap_u64]; omega
theorem cast_pow2 (k : Nat) : ((2 : Int) ^ k) = ((2 ^ k : Nat) : Int) := by
  rw [Int.natCast_pow]; rfl

theorem put_byte (v k : Nat) : ((v : Int) / 2 ^ (8 * k) % 256) = (((UInt8.ofNat (v / 256 ^ k % 256)).toNat : Nat) : Int) := by
  have hb : (UInt8.ofNat (v / 256 ^ k % 256)).toNat = v / 256 ^ k % 256 := by simp
  rw [hb, cast_pow2, ← pow256]
  omega

end Go.Proofs.Ytjganponepafpaa

/-
  What a type's facts say, in parts.
-/
namespace Go.Proofs.Ytjganponepafpaa
open Go.RowKit

theorem info_parts {P : Program} {t : TypeId} {z : Value} {s b : Nat} (h : (P.info? t).map (fun i => (i.zero, i.size, i.bytes)) = some (some z, s, b)) : ∃ i, P.info? t = some i ∧ i.zero = some z ∧ i.size = s ∧ i.bytes = b := by
  cases hi : P.info? t with
  | none => rw [hi] at h; cases h
  | some i =>
    rw [hi] at h
    simp only [Option.map_some, Option.some.injEq, Prod.mk.injEq] at h
    exact ⟨i, rfl, h.1, h.2.1, h.2.2⟩
theorem info_u8 : (Try.prog.info? 5).map (fun i => (i.zero, i.size, i.bytes)) = some (some (.int .u8 0), 1, 1) := by kernel_rfl

end Go.Proofs.Ytjganponepafpaa

/-
  A feed: made of bytes, it gives each once, in order. Its row lies from block lo on, ahead of its own block.
-/
namespace Go.Proofs.Ytjganponepafpaa
open Go.RowKit

end Go.Proofs.Ytjganponepafpaa

/-
  A row of bytes of the call's own, its block named; rows compared.
-/
namespace Go.Proofs.Ytjganponepafpaa
open Go.RowKit

/-- Block q holds the bytes bs. -/
def Byt (w : World) (q c : Nat) (bs : List UInt8) : Prop := w.ownsRow 0 5 1 (.slice (some ⟨q, 0, none⟩) bs.length c) bs.length (bv bs)

theorem bv_set (bs : List UInt8) (i : Nat) (y : UInt8) : (bv bs).set i (.int .u8 (y.toNat : Int)) = bv (bs.set i y) := by
  simp [bv, List.map_set]

section
variable {w w' : World} {q c : Nat} {bs : List UInt8}
theorem Byt.cell (h : Byt w q c bs) {i : Nat} (hi : i < bs.length) : w.cell? ⟨q, i, none⟩ = some (.int .u8 ((bs.getD i 0).toNat : Int)) := by
  rw [World.ownsRow.cellAt h i (by omega), bv_get bs i hi]
theorem Byt.free (h : Byt w q c bs) (i : Nat) : w.frozen? ⟨q, i, none⟩ = false := World.ownsRow.frozenAt h i
theorem Byt.put (h : Byt w q c bs) (i : Nat) (y : UInt8) : Byt (w.setCell ⟨q, i, none⟩ (.int .u8 (y.toNat : Int))) q c (bs.set i y) := by
  have := (World.ownsRow.stored h i (.int .u8 (y.toNat : Int))).1
  rw [bv_set] at this
  unfold Byt
  rw [List.length_set]
  exact this
theorem Byt.drewN (h : Byt w q c bs) (n : Nat) : Byt (w.drewN n) q c bs := h
theorem Byt.only {S : Nat → Prop} (h : Byt w q c bs) (hb : Only S w w') (hS : ¬ S q) : Byt w' q c bs := own_only h hb hS
theorem Byt.lt (h : Byt w q c bs) : q < w.heap.size := (World.ownsRow.lt h q rfl).2
theorem Byt.own (h : Byt w q c bs) : w.ownsRow 0 5 1 (.slice (some ⟨q, 0, none⟩) bs.length c) bs.length (bv bs) := h
theorem Byt.sl (h : Byt w q c bs) : Sl w (some ⟨q, 0, none⟩) bs.length (bv bs) := (own_facts h).1
theorem Byt.cap (h : Byt w q c bs) : bs.length ≤ c ∧ c ≤ maxLen := by
  obtain ⟨_, h2, h3, _⟩ := own_facts h
  exact ⟨h2, h3⟩
end

set_option maxHeartbeats 1000000 in
theorem bytesSame_any {A B : Option Addr} {n ca cb : Nat} {bs : List UInt8} {w : World} (hA : Sl w A n (bv bs)) (hB : Sl w B n (bv bs)) (hn : n ≤ 1000000000) :
    Calls Try.prog 9 #[.slice A n ca, .slice B n cb] w fun e w' => e = .returned (.bool true) ∧ ∃ d, w.drewN d = w' := by
  have HA := Lib.hid hA
  have HB := Lib.hid hB
  have hl : bs.length = n := by rw [← bv_length]; exact hA.1
  have HL := Lib.hid hl
  clear hA hB hl
  go_enter Try.func9, Try.ntmps9
  go_wp2_with fail
  go_loopw [5] (fun i wr => ∃ j k : Nat, j ≤ n ∧ i = .int .i64 (j : Int) ∧ wr = w.drewN k) (fun i _ => n - (intOf i).toNat)
  case atStart => exact ⟨0, 0, Nat.zero_le _, rfl, rfl⟩
  case round =>
    obtain ⟨j, k, hj, rfl, rfl⟩ := hrel
    by_cases hlt : j < n
    · obtain ⟨ba, oa, rfl, hba, hca⟩ := HA.out.2 (by omega)
      obtain ⟨bb, ob, rfl, hbb, hcb⟩ := HB.out.2 (by omega)
      have c1 : w.cell? ⟨ba, oa + j, none⟩ = some (.int .u8 ((bs.getD j 0).toNat : Int)) := by rw [hca j hlt, bv_get bs j (by have := HL.out; omega)]
      have c2 : w.cell? ⟨bb, ob + j, none⟩ = some (.int .u8 ((bs.getD j 0).toNat : Int)) := by rw [hcb j hlt, bv_get bs j (by have := HL.out; omega)]
      generalize bs.getD j 0 = x at *
      have i0 : (0 : Int) ≤ (j : Int) := by omega
      have i1 : (j : Int) < (n : Int) := by omega
      clear hca hcb
      go_wp2_with fail
      go_quiet (fail)
      go_wp2_with fail
      go_roundw
      case rel => exact ⟨j + 1, k + nq, by omega, by go_num, rfl⟩
      case measure => simp [intOf]; omega
    · obtain rfl : j = n := by omega
      go_wp2_with fail
      go_ret
      exact ⟨rfl, _, rfl⟩
end Go.Proofs.Ytjganponepafpaa



/-
  An own row stays.
-/
namespace Go.Proofs.Ytjganponepafpaa
open Go.RowKit

theorem own_only' {S : Nat → Prop} {w w' : World} {base : Nat} {e : TypeId} {v : Value} {n : Nat} {xs : List Value} (h : w.ownsRow base e 1 v n xs) (hb : Only S w w') (hg : ∀ i, v.ownBlock = some i → ¬ S i) : w'.ownsRow base e 1 v n xs := by
  refine ⟨h.1, ?_⟩
  rcases h.2 with hv | ⟨g', cap, cur, hv, hb', hh, r⟩
  · exact .inl hv
  · refine .inr ⟨g', cap, cur, hv, hb', ?_, r⟩
    subst hv
    have hlt : g' < w.heap.size := by
      rcases Nat.lt_or_ge g' w.heap.size with hlt | hge
      · exact hlt
      · rw [Array.getElem?_eq_none hge] at hh; cases hh
    exact (hb.block g' hlt (hg g' rfl)).trans hh
theorem own_old {w : World} {base : Nat} {e : TypeId} {v : Value} {n i : Nat} {xs : List Value} (h : w.ownsRow base e 1 v n xs) (hi : v.ownBlock = some i) : i < w.heap.size := (World.ownsRow.lt h i hi).2
end Go.Proofs.Ytjganponepafpaa

/-
  The program's coder as numbers: the bytes that it gave, the byte that waits, the bytes FF behind it, low; and the one great number that it stands for.
-/
namespace Go.Proofs.Ytjganponepafpaa

structure Co where
  gs : List UInt8
  wt : Nat
  fu : Nat
  lo : Nat

def Co.new : Co := ⟨[], 0, 0, 0⟩
/-- what waited is given, more by m -/
def Co.gave (c : Co) (m : Nat) : List UInt8 := c.gs ++ (UInt8.ofNat (c.wt + m) :: List.replicate c.fu (UInt8.ofNat (255 + m)))
/-- a byte is given -/
def Co.give (c : Co) : Co :=
  if 4294967296 ≤ c.lo then ⟨c.gave 1, c.lo / 16777216 % 256, 0, c.lo % 16777216 * 256⟩
  else if c.lo < 4278190080 then ⟨c.gave 0, c.lo / 16777216, 0, c.lo % 16777216 * 256⟩
  else ⟨c.gs, c.wt, c.fu + 1, c.lo % 16777216 * 256⟩

/-- the coder c stands for n, as long as l; what is added stays below r -/
structure CoN (c : Co) (n l r : Nat) : Prop where
  num : n + 4294967296 = (be c.gs * 256 + c.wt + 1) * 256 ^ c.fu * 4294967296 + c.lo
  len : l = c.gs.length + c.fu + 5
  wt : c.wt < 256
  top : c.lo + r ≤ 8589934592
  full : c.wt = 255 → c.lo + r ≤ 4294967296
  pos : 1 ≤ r

theorem coN_new : CoN Co.new 0 5 4294967295 := ⟨by decide, rfl, by decide, by decide, by decide, by decide⟩
theorem CoN.mono {c : Co} {n l r r' : Nat} (h : CoN c n l r) (hr : r' ≤ r) (h1 : 1 ≤ r') : CoN c n l r' :=
  ⟨h.num, h.len, h.wt, by have := h.top; omega, fun e => by have := h.full e; omega, h1⟩
theorem CoN.low {c : Co} {n l r : Nat} (h : CoN c n l r) : c.lo < 8589934592 := by have := h.top; have := h.pos; omega

/-- what is added -/
def Co.plus (c : Co) (z : Nat) : Co := ⟨c.gs, c.wt, c.fu, c.lo + z⟩
theorem CoN.plus {c : Co} {n l r r' z : Nat} (h : CoN c n l r) (hz : z + r' ≤ r) (h1 : 1 ≤ r') : CoN (c.plus z) (n + z) l r' :=
  ⟨by have := h.num; show n + z + 4294967296 = (be c.gs * 256 + c.wt + 1) * 256 ^ c.fu * 4294967296 + (c.lo + z); omega, h.len, h.wt, by have := h.top; show c.lo + z + r' ≤ _; omega, fun e => by have := h.full e; show c.lo + z + r' ≤ _; omega, h1⟩

theorem be_fulls : ∀ k : Nat, be (List.replicate k (UInt8.ofNat 255)) + 1 = 256 ^ k
  | 0 => rfl
  | k + 1 => by
    have := be_fulls k
    rw [List.replicate_succ', be_snoc, Nat.pow_succ]
    have e : (UInt8.ofNat 255).toNat = 255 := rfl
    rw [e]
    omega
theorem gave_len (c : Co) (m : Nat) : (c.gave m).length = c.gs.length + 1 + c.fu := by unfold Co.gave; simp; omega
theorem be_gave_zero (c : Co) (h : c.wt < 256) : be (c.gave 0) + 1 = (be c.gs * 256 + c.wt + 1) * 256 ^ c.fu := by
  have e : (UInt8.ofNat (c.wt + 0)).toNat = c.wt := by simp; omega
  have k := be_fulls c.fu
  have hc : UInt8.ofNat (c.wt + 0) :: List.replicate c.fu (UInt8.ofNat (255 + 0)) = [UInt8.ofNat (c.wt + 0)] ++ List.replicate c.fu (UInt8.ofNat 255) := rfl
  unfold Co.gave
  rw [hc, ← List.append_assoc, be_append, be_snoc, e, List.length_replicate, Nat.add_mul (be c.gs * 256 + c.wt) 1]
  omega
theorem be_gave_one (c : Co) (h : c.wt < 255) : be (c.gave 1) = (be c.gs * 256 + c.wt + 1) * 256 ^ c.fu := by
  have e : (UInt8.ofNat (c.wt + 1)).toNat = c.wt + 1 := by simp; omega
  have hc : UInt8.ofNat (c.wt + 1) :: List.replicate c.fu (UInt8.ofNat (255 + 1)) = [UInt8.ofNat (c.wt + 1)] ++ List.replicate c.fu 0 := rfl
  unfold Co.gave
  rw [hc, ← List.append_assoc, be_append, be_snoc, e, List.length_replicate, be_zeros, Nat.add_zero, Nat.add_assoc]

theorem give_carry {n X lo h m : Nat} (hn : n + 4294967296 = X * 4294967296 + lo) (hlo : lo = 4294967296 + h * 16777216 + m) : n * 256 + 4294967296 = (X * 256 + h + 1) * 4294967296 + m * 256 := by omega
theorem give_low {n X Y lo h m : Nat} (hn : n + 4294967296 = X * 4294967296 + lo) (hY : Y + 1 = X) (hlo : lo = h * 16777216 + m) : n * 256 + 4294967296 = (Y * 256 + h + 1) * 4294967296 + m * 256 := by omega
theorem give_full {n X lo m : Nat} (hn : n + 4294967296 = X * 4294967296 + lo) (hlo : lo = 255 * 16777216 + m) : n * 256 + 4294967296 = X * 256 * 4294967296 + m * 256 := by omega

theorem CoN.give {c : Co} {n l r : Nat} (h : CoN c n l r) (hr : r < 16777216) : CoN c.give (n * 256) (l + 1) (r * 256) := by
  obtain ⟨h1, h2, h3, h4, h5, h6⟩ := h
  unfold Co.give
  by_cases hc : 4294967296 ≤ c.lo
  · rw [if_pos hc]
    have hw : c.wt < 255 := by
      rcases Nat.lt_or_ge c.wt 255 with h | h
      · exact h
      · have := h5 (by omega)
        omega
    have hX := be_gave_one c hw
    rw [← hX] at h1
    refine ⟨?_, ?_, Nat.mod_lt _ (by decide), ?_, ?_, by omega⟩
    · show n * 256 + 4294967296 = (be (c.gave 1) * 256 + c.lo / 16777216 % 256 + 1) * 256 ^ 0 * 4294967296 + c.lo % 16777216 * 256
      rw [Nat.pow_zero, Nat.mul_one]
      exact give_carry h1 (by omega)
    · show l + 1 = (c.gave 1).length + 0 + 5
      rw [gave_len]
      omega
    · show c.lo % 16777216 * 256 + r * 256 ≤ _
      omega
    · show c.lo / 16777216 % 256 = 255 → c.lo % 16777216 * 256 + r * 256 ≤ _
      intro e
      omega
  · rw [if_neg hc]
    by_cases hl : c.lo < 4278190080
    · rw [if_pos hl]
      have hX := be_gave_zero c h3
      refine ⟨?_, ?_, ?_, ?_, ?_, by omega⟩
      · show n * 256 + 4294967296 = (be (c.gave 0) * 256 + c.lo / 16777216 + 1) * 256 ^ 0 * 4294967296 + c.lo % 16777216 * 256
        rw [Nat.pow_zero, Nat.mul_one]
        exact give_low h1 hX (by omega)
      · show l + 1 = (c.gave 0).length + 0 + 5
        rw [gave_len]
        omega
      · show c.lo / 16777216 < 256
        omega
      · show c.lo % 16777216 * 256 + r * 256 ≤ _
        omega
      · show c.lo / 16777216 = 255 → c.lo % 16777216 * 256 + r * 256 ≤ _
        intro e
        omega
    · rw [if_neg hl]
      refine ⟨?_, ?_, h3, ?_, ?_, by omega⟩
      · show n * 256 + 4294967296 = (be c.gs * 256 + c.wt + 1) * 256 ^ (c.fu + 1) * 4294967296 + c.lo % 16777216 * 256
        rw [Nat.pow_succ, ← Nat.mul_assoc]
        exact give_full h1 (by omega)
      · show l + 1 = c.gs.length + (c.fu + 1) + 5
        omega
      · show c.lo % 16777216 * 256 + r * 256 ≤ _
        omega
      · show c.wt = 255 → c.lo % 16777216 * 256 + r * 256 ≤ _
        intro e
        have := h5 e
        omega

/-- k bytes are given -/
def Co.gives (c : Co) : Nat → Co
  | 0 => c
  | k + 1 => (c.gives k).give
theorem give_lo (c : Co) : c.give.lo = c.lo % 16777216 * 256 := by
  unfold Co.give
  split
  · rfl
  · split <;> rfl
theorem give_zero {c : Co} (h : c.lo = 0) : c.give.fu = 0 ∧ c.give.wt = 0 ∧ c.give.lo = 0 := by
  unfold Co.give
  rw [if_neg (by omega), if_pos (by omega)]
  exact ⟨rfl, by show c.lo / 16777216 = 0; omega, by show c.lo % 16777216 * 256 = 0; omega⟩
theorem CoN.gives {c : Co} {n l : Nat} (h : CoN c n l 1) : ∀ k, CoN (c.gives k) (n * 256 ^ k) (l + k) 1
  | 0 => by rw [Nat.pow_zero, Nat.mul_one]; exact h
  | k + 1 => by
    have := (CoN.gives h k).give (by decide)
    rw [Nat.pow_succ, ← Nat.mul_assoc]
    exact this.mono (by decide) (by decide)
/-- In the end all is given. -/
theorem CoN.finish {c : Co} {n l r : Nat} (h : CoN c n l r) : be (c.gives 5).gs = n ∧ (c.gives 5).gs.length = l := by
  have h0 := h.low
  have h5 := (h.mono h.pos (Nat.le_refl 1)).gives 5
  have l1 : (c.gives 1).lo = c.lo % 16777216 * 256 := give_lo _
  have l2 : (c.gives 2).lo = (c.gives 1).lo % 16777216 * 256 := give_lo _
  have l3 : (c.gives 3).lo = (c.gives 2).lo % 16777216 * 256 := give_lo _
  have l4 : (c.gives 4).lo = (c.gives 3).lo % 16777216 * 256 := give_lo _
  obtain ⟨z1, z2, z3⟩ : (c.gives 5).fu = 0 ∧ (c.gives 5).wt = 0 ∧ (c.gives 5).lo = 0 := give_zero (c := c.gives 4) (by omega)
  obtain ⟨k1, k2, _⟩ := h5
  rw [z1, z2, z3, Nat.pow_zero] at k1
  rw [z1] at k2
  exact ⟨by omega, by omega⟩

theorem gives_succ (c : Co) (k : Nat) : c.gives (k + 1) = (c.gives k).give := rfl
theorem give_fu (c : Co) : c.give.gs.length + c.give.fu = c.gs.length + c.fu + 1 := by
  unfold Co.give
  split
  · show (c.gave 1).length + 0 = _; rw [gave_len]; omega
  · split
    · show (c.gave 0).length + 0 = _; rw [gave_len]; omega
    · show c.gs.length + (c.fu + 1) = _; omega
theorem gives_len (c : Co) : ∀ k, (c.gives k).gs.length + (c.gives k).fu = c.gs.length + c.fu + k
  | 0 => rfl
  | k + 1 => by have := give_fu (c.gives k); have := gives_len c k; rw [gives_succ]; omega
end Go.Proofs.Ytjganponepafpaa

/-
  The decoder's small calls: a byte comes in, the decoder is refused, what it told.
-/
namespace Go.Proofs.Ytjganponepafpaa
open Go.RowKit

/-- the decoder's own blocks -/
def two (f g : Nat) : Nat → Prop := fun i => i = f ∨ i = g

theorem u32_of (x : Int) (h0 : 0 ≤ x) (h : x < 4294967296) : IntKind.u32.wrap x = x := by
  simp [IntKind.wrap, IntKind.bits, IntKind.signed]; omega
end Go.Proofs.Ytjganponepafpaa

/-
  The decoder is evened out, and tells a bit straight.
-/
namespace Go.Proofs.Ytjganponepafpaa
open Go.RowKit

end Go.Proofs.Ytjganponepafpaa

/-
  Probabilities in a block of their own.
-/
namespace Go.Proofs.Ytjganponepafpaa
open Go.RowKit

/-- probabilities as cells -/
def pv (ps : List Nat) : List Value := ps.map fun (p : Nat) => Value.int .u16 (p : Int)
theorem pv_length (ps : List Nat) : (pv ps).length = ps.length := by simp [pv]
theorem pv_get (ps : List Nat) (i : Nat) (h : i < ps.length) : (pv ps)[i]? = some (.int .u16 ((ps.getD i 0 : Nat) : Int)) := by
  simp [pv, List.getD, h]
theorem pv_set (ps : List Nat) (i q : Nat) : (pv ps).set i (.int .u16 (q : Int)) = pv (ps.set i q) := by
  simp [pv, List.map_set]

/-- Block b holds the probabilities ps. -/
def Row (w : World) (b : Nat) (ps : List Nat) (c : Nat) : Prop := w.ownsRow 0 34 1 (.slice (some ⟨b, 0, none⟩) ps.length c) ps.length (pv ps)

section
variable {w w' : World} {b c : Nat} {ps : List Nat}
theorem Row.cell (h : Row w b ps c) {i : Nat} (hi : i < ps.length) : w.cell? ⟨b, i, none⟩ = some (.int .u16 ((ps.getD i 0 : Nat) : Int)) := by
  rw [World.ownsRow.cellAt h i (by omega), pv_get ps i hi]
theorem Row.free (h : Row w b ps c) (i : Nat) : w.frozen? ⟨b, i, none⟩ = false := World.ownsRow.frozenAt h i
theorem Row.put (h : Row w b ps c) (i q : Nat) : Row (w.setCell ⟨b, i, none⟩ (.int .u16 (q : Int))) b (ps.set i q) c := by
  have := (World.ownsRow.stored h i (.int .u16 (q : Int))).1
  rw [pv_set] at this
  unfold Row
  rw [List.length_set]
  exact this
theorem Row.drewN (h : Row w b ps c) (n : Nat) : Row (w.drewN n) b ps c := h
theorem Row.only {S : Nat → Prop} (h : Row w b ps c) (hb : Only S w w') (hS : ¬ S b) : Row w' b ps c := own_only h hb hS
theorem Row.lt (h : Row w b ps c) : b < w.heap.size := (World.ownsRow.lt h b rfl).2
theorem Row.cap (h : Row w b ps c) : ps.length ≤ c ∧ c ≤ maxLen := by
  obtain ⟨_, h2, h3, _⟩ := own_facts h
  exact ⟨h2, h3⟩
end

end Go.Proofs.Ytjganponepafpaa

/-
  The decoder tells a bit with a probability.
-/
namespace Go.Proofs.Ytjganponepafpaa
open Go.RowKit

def three (f g b : Nat) : Nat → Prop := fun i => i = f ∨ i = g ∨ i = b
theorem u16_in (x : Int) (h : 0 ≤ x ∧ x < 65536) : IntKind.u16.wrap x = x := by
  simp [IntKind.wrap, IntKind.bits, IntKind.signed]
  omega

end Go.Proofs.Ytjganponepafpaa
