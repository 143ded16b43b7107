/-
  LzGo, CwRun, LzCoded, CdNum, AppFour, CdList, CdUp: put together.
-/
import Derived.Test.YtpdpbbmkicemdaaGreatMc13
import Derived.Test.YtpdpbbmkicemdaaGreatMc01
import Derived.Deep.RegionLaw
import Derived.Deep.AppendLies
set_option linter.unusedVariables false
set_option linter.unusedSimpArgs false
/-
  What a coder's packets leave: they tell, and are not bad; the end mark is long.
-/
namespace Go.Proofs.YtpdpbbmkicemdaaGreat

theorem copyG_all : ∀ (f n : Nat) {z : Lzs}, z.has z.r0 = true → (copyG f n z).2.bad = z.bad ∧ (copyG f n z).2.ended = z.ended ∧ (copyG f n z).2.out.length = z.out.length + f
  | 0, n, z, _ => ⟨rfl, rfl, rfl⟩
  | f + 1, n, z, h => by
    rw [copyG_go h]
    have h2 : (z.push (z.back z.r0)).has (z.push (z.back z.r0)).r0 = true := by
      unfold Lzs.has at h ⊢
      have := of_decide_eq_true h
      refine decide_eq_true ⟨?_, this.2⟩
      show z.r0 < (z.out ++ [_]).length
      rw [List.length_append]
      omega
    obtain ⟨a, b, c⟩ := copyG_all f (n + 1) h2
    refine ⟨a, b, ?_⟩
    rw [c]
    show (z.out ++ [_]).length + f = _
    rw [List.length_append, List.length_singleton]
    omega
theorem tailP_all {σ : Type} {M : Mach σ} {many : Nat} {z : Lzs} {t : Pm σ} (h1 : z.bad = false) (h2 : M.bad t.x = false) (h3 : z.ended = false) (h : z.has z.r0 = true) (hm : 1 ≤ many) :
    (tailP M many z t).2.1.bad = false ∧ (tailP M many z t).2.1.ended = false ∧ z.out.length < (tailP M many z t).2.1.out.length := by
  unfold tailP
  rw [if_neg (by rw [h1, h2, h3]; simp)]
  obtain ⟨a, b, c⟩ := copyG_all many 0 h
  refine ⟨a.trans h1, b.trans h3, ?_⟩
  show _ < (copyG many 0 z).2.out.length
  rw [c]
  omega

/-! ### lengths -/
theorem even_grow (n l r : Nat) : l ≤ (En.even ⟨n, l, r⟩).l ∧ (En.even ⟨n, l, r⟩).r = r * 256 ^ ((En.even ⟨n, l, r⟩).l - l) := by
  unfold En.even
  split
  · exact ⟨by dsimp only; omega, by dsimp only; rw [show l + 1 - l = 1 by omega, Nat.pow_one]⟩
  · exact ⟨Nat.le_refl _, by dsimp only; rw [Nat.sub_self, Nat.pow_zero, Nat.mul_one]⟩
theorem one_grow (e : En) (b : Nat) : e.l ≤ (e.one b).l ∧ (e.one b).r * 2 ≤ e.r * 256 ^ ((e.one b).l - e.l) := by
  have key : ∀ n, e.l ≤ (En.even ⟨n, e.l, e.r / 2⟩).l ∧ (En.even ⟨n, e.l, e.r / 2⟩).r * 2 ≤ e.r * 256 ^ ((En.even ⟨n, e.l, e.r / 2⟩).l - e.l) := by
    intro n
    obtain ⟨h1, h2⟩ := even_grow n e.l (e.r / 2)
    refine ⟨h1, ?_⟩
    rw [h2, Nat.mul_assoc, Nat.mul_comm _ 2, ← Nat.mul_assoc]
    exact Nat.mul_le_mul_right _ (by omega)
  unfold En.one
  split
  · exact key _
  · exact key _
theorem strE_grow (e : En) (v n : Nat) : ∀ j, e.l ≤ (strE e v n j).l ∧ (strE e v n j).r * 2 ^ j ≤ e.r * 256 ^ ((strE e v n j).l - e.l)
  | 0 => ⟨Nat.le_refl _, by show e.r * 2 ^ 0 ≤ e.r * 256 ^ (e.l - e.l); rw [Nat.sub_self]; omega⟩
  | j + 1 => by
    obtain ⟨h1, h2⟩ := strE_grow e v n j
    obtain ⟨h3, h4⟩ := one_grow (strE e v n j) (bitOf v (n - 1 - j))
    refine ⟨Nat.le_trans h1 h3, ?_⟩
    show ((strE e v n j).one _).r * 2 ^ (j + 1) ≤ e.r * 256 ^ (((strE e v n j).one _).l - e.l)
    generalize (strE e v n j).one (bitOf v (n - 1 - j)) = o at *
    generalize strE e v n j = s at *
    rw [show o.l - e.l = (s.l - e.l) + (o.l - s.l) by omega, Nat.pow_add 256, Nat.pow_succ 2 j]
    calc o.r * (2 ^ j * 2) = (o.r * 2) * 2 ^ j := by rw [Nat.mul_comm (2 ^ j) 2, Nat.mul_assoc]
      _ ≤ (s.r * 256 ^ (o.l - s.l)) * 2 ^ j := Nat.mul_le_mul_right _ h4
      _ = (s.r * 2 ^ j) * 256 ^ (o.l - s.l) := by rw [Nat.mul_assoc, Nat.mul_comm (256 ^ _) (2 ^ j), ← Nat.mul_assoc]
      _ ≤ (e.r * 256 ^ (s.l - e.l)) * 256 ^ (o.l - s.l) := Nat.mul_le_mul_right _ h2
      _ = e.r * (256 ^ (s.l - e.l) * 256 ^ (o.l - s.l)) := by rw [Nat.mul_assoc]
theorem str_long {e : En} (he : EnOk e) (v : Nat) : e.l + 2 ≤ (strE e v 26 26).l := by
  obtain ⟨h1, h2⟩ := strE_grow e v 26 26
  have h3 := (strE_ok he v 26 26).1
  have h4 := he.2.1
  rcases Nat.lt_or_ge ((strE e v 26 26).l) (e.l + 2) with hlt | hge
  · exfalso
    have hk : (strE e v 26 26).l - e.l ≤ 1 := by omega
    have hp : 256 ^ ((strE e v 26 26).l - e.l) ≤ 256 ^ 1 := Nat.pow_le_pow_right (by omega) hk
    have h5 : e.r * 256 ^ ((strE e v 26 26).l - e.l) ≤ 4294967296 * 256 ^ 1 := Nat.mul_le_mul (by omega) hp
    have h6 : 16777216 * 2 ^ 26 ≤ (strE e v 26 26).r * 2 ^ 26 := Nat.mul_le_mul_right _ h3
    omega
  · exact hge
/-- a coder's bytes only grow -/
theorem len_simu (F c : Nat) : Simu encM okE encM (fun _ _ => True) (fun e => e.l + c ≤ F) (fun _ => True) where
  okm := encM_ok
  bit := fun _ _ _ _ _ => .inl trivial
  str := fun _ _ _ _ _ => .inl trivial
  fbit := by
    intro x k p w hx hp hw h
    have := reach_len (bit_reach (b := w.toNat) hx.1 hp)
    have h : (x.bit p w.toNat).l + c ≤ F := h
    omega
  fstr := by
    intro x k n v hx h
    have h2 := strE_reach x v n 0 n
    rw [Nat.zero_add] at h2
    have := reach_len h2
    have h : (strE x v n n).l + c ≤ F := h
    have h3 : x.l ≤ (strE x v n n).l := this
    omega
  dbit := fun _ => trivial
  dstr := fun _ => trivial
  same := fun _ => rfl
theorem dist_long {L k l : Nat} {t : Pm En} (ht : PmOk okE L (k + 12) t) (hL0 : 1847 ≤ L) : t.x.l + 2 ≤ (distP encM t l 4294967295).2.x.l := by
  have hv : (4294967295 : Nat) < 4294967296 := by decide
  obtain ⟨s1, s2, s3⟩ := slot_spec hv
  have hslot : slotOf 4294967295 = 63 := by decide +kernel
  have hmv : encM.mayN ((slotOf 4294967295 : Nat) : Int) := fun _ => by omega
  have htell : (treeP encM t (432 + 64 * min l 3) 6 ((slotOf 4294967295 : Nat) : Int)).1 = 63 := by rw [treeP_tell encM_ok rfl s1, hslot]
  have hT := (treeP_ok encM_ok (k := k + 6) (n := 6) (a := 432 + 64 * min l 3) (v := ((slotOf 4294967295 : Nat) : Int)) (t := t) ht (by show 432 + 64 * min l 3 + 64 ≤ L; omega) hmv).2
  have hmono := fun hf => (treeP_sim (len_simu (distP encM t l 4294967295).2.x.l 2) (u := t) (v' := 0) (k := k + 6) (n := 6) (a := 432 + 64 * min l 3) (v := ((slotOf 4294967295 : Nat) : Int)) (t := t) ht (by show 432 + 64 * min l 3 + 64 ≤ L; omega) hmv hf).1
  refine hmono ?_
  have hdef : distP encM t l 4294967295 = distB encM (treeP encM t (432 + 64 * min l 3) 6 ((slotOf 4294967295 : Nat) : Int)) 4294967295 := rfl
  rw [hdef]
  generalize treeP encM t (432 + 64 * min l 3) 6 ((slotOf 4294967295 : Nat) : Int) = sl at *
  unfold distB
  rw [if_neg (by rw [htell]; decide), if_neg (by rw [htell]; decide), htell]
  unfold distC
  have hS := encM_ok.str (k := k + 5) (n := 26) (v := (4294967295 + 4294967296 - (2 + 63 % 2) * 2 ^ (63 / 2 - 1)) % 4294967296 / 16) hT.x (by decide) (fun _ => by decide)
  have hp2 : PmOk okE L (k + 5) (⟨sl.2.ps, (encM.str sl.2.x 26 ((4294967295 + 4294967296 - (2 + 63 % 2) * 2 ^ (63 / 2 - 1)) % 4294967296 / 16)).2⟩ : Pm En) := ⟨hT.ps, hT.len, hS.2⟩
  have hmr : encM.mayN ((4294967295 % 16 : Nat) : Int) := fun _ => by omega
  have hrev := (revP_sim (len_simu (revP encM ⟨sl.2.ps, (encM.str sl.2.x 26 ((4294967295 + 4294967296 - (2 + 63 % 2) * 2 ^ (63 / 2 - 1)) % 4294967296 / 16)).2⟩ 803 4 ((4294967295 % 16 : Nat) : Int)).2.x.l 0) (u := ⟨sl.2.ps, (encM.str sl.2.x 26 ((4294967295 + 4294967296 - (2 + 63 % 2) * 2 ^ (63 / 2 - 1)) % 4294967296 / 16)).2⟩) (v' := 0) (k := k) (n := 4) (a := 803) (v := ((4294967295 % 16 : Nat) : Int)) (hp2.mono encM_ok (show k + 4 ≤ k + 5 by omega)) (by show 803 + 16 ≤ L; omega) hmr (Nat.le_refl _)).1
  have hlong := str_long hT.x.1 ((4294967295 + 4294967296 - (2 + 63 % 2) * 2 ^ (63 / 2 - 1)) % 4294967296 / 16)
  exact Nat.le_trans hlong hrev

/-- a packet that fits, and is no end mark, tells -/
theorem pack_enc {L k N : Nat} {z : Lzs} {t : Pm En} {q : Pq} (hz : ZNear z L N) (ht : PmOk okE L (k + 27) t) (hq : PqLit q) (hf : fitsP z q.k q.v.toNat q.n = true) (hb : z.bad = false) :
    (q.k ≠ 7 → (packP encM z t q.pk).2.1.bad = false ∧ (packP encM z t q.pk).2.1.ended = false ∧ z.out.length < (packP encM z t q.pk).2.1.out.length) ∧
    (q.k = 7 → (packP encM z t q.pk).2.1.bad = false ∧ (packP encM z t q.pk).2.1.ended = true ∧ (packP encM z t q.pk).2.1.out = z.out ∧ t.x.l + 2 ≤ (packP encM z t q.pk).2.2.x.l) := by
  obtain ⟨f0, f1, f2, f3, f4, f5, f6, f7, f8, f9, f10⟩ := fits_may hf
  obtain ⟨pf, pm, _⟩ := fits_pk hq hf
  have hL0 : 1847 ≤ L := by have := hz.len; omega
  obtain ⟨s, hs⟩ : ∃ s, s = z.out.length % 2 ^ z.pb := ⟨_, rfl⟩
  have hs15 : s ≤ 15 := by
    have h1 : z.out.length % 2 ^ z.pb < 2 ^ z.pb := Nat.mod_lt _ (Nat.two_pow_pos _)
    have h2 : 2 ^ z.pb ≤ 2 ^ 4 := pow_le_of hz.pb
    omega
  have hkm : encM.mayN q.pk.kind := fun he => f1
  obtain ⟨k1, k2⟩ := kindP_ok encM_ok (k := k + 22) (em := decide (z.out.length = 0)) (kd := q.pk.kind) (t := t) ht hL0 hs15 hz.st hkm
  obtain ⟨ktell, kbad⟩ := kindP_tell encM_ok rfl (s := s) (st := z.st) (em := decide (z.out.length = 0)) (kd := q.pk.kind) (t := t) f1 f2 (fun e => by
    rcases f3 (of_decide_eq_true e) with h | h
    · exact .inl h
    · exact .inr (.inr h))
  have kmono := fun F hf => (kindP_sim (len_simu F 2) (u := t) (kd' := 0) (k := k + 22) (em := decide (z.out.length = 0)) (kd := q.pk.kind) (t := t) ht hL0 hz.st hs15 hkm hf).1
  unfold packP
  rw [← hs]
  generalize kindP encM t (decide (z.out.length = 0)) z.st s q.pk.kind = kb at *
  obtain ⟨kv, kd, tk⟩ := kb
  dsimp only at k1 k2 ktell kbad kmono
  subst kbad
  have ktell : (kv : Int) = if q.k = 7 then 1 else q.k := ktell
  have hzb : (z.bad || false) = false := by rw [hb]; rfl
  by_cases h0 : kv = 0
  · have hk0 : q.k = 0 := by
      rw [h0] at ktell
      split at ktell
      · omega
      · omega
    refine ⟨fun _ => ?_, fun h => by omega⟩
    have eA : packK encM (kv, false, tk) z s q.pk = packL encM (litP encM { z with bad := z.bad || false } tk q.pk.byte) { z with bad := z.bad || false } := by unfold packK; rw [if_pos h0]
    rw [eA]
    unfold packL
    rw [if_neg (show ¬ encM.bad _ = true from fun h => by cases h)]
    exact ⟨hzb, f0, by show z.out.length < (z.out ++ [_]).length; rw [List.length_append, List.length_singleton]; omega⟩
  by_cases h1 : kv = 1
  · have hk1 : q.k = 1 ∨ q.k = 7 := by
      rw [h1] at ktell
      split at ktell
      · rename_i h; exact .inr h
      · exact .inl (by omega)
    obtain ⟨ls, hls⟩ : ∃ ls : Int, ls = if q.pk.kind = 7 then 0 else q.pk.len - 2 := ⟨_, rfl⟩
    obtain ⟨ds, hds⟩ : ∃ ds : Nat, ds = if q.pk.kind = 7 then 4294967295 else q.pk.dist := ⟨_, rfl⟩
    have hlm : encM.mayN ls := fun he => by
      rw [hls]
      split
      · omega
      · rename_i h7
        rcases hk1 with h | h
        · have := (f4 (by omega)).1
          show 0 ≤ q.n - 2
          omega
        · exact absurd h h7
    have hdb : ds < 4294967296 := by
      rw [hds]
      split
      · decide
      · exact pf.d
    have eA : packK encM (kv, false, tk) z s q.pk = packM encM (lenP encM tk 819 s ls) { z with bad := z.bad || false } ds := by unfold packK; rw [if_neg h0, if_pos h1, hls, hds]
    rw [eA]
    obtain ⟨l1, l2⟩ := lenP_ok encM_ok (k := k + 12) (a := 819) (s := s) (v := ls) k2 (show 819 + 514 ≤ L by omega) hs15 hlm
    have lmono := fun F hf => (lenP_sim (len_simu F 2) (u := tk) (v' := 0) (k := k + 12) (a := 819) (s := s) (v := ls) k2 (show 819 + 514 ≤ L by omega) hs15 hlm hf).1
    generalize lenP encM tk 819 s ls = lr at *
    unfold packM packD
    have hdt := distP_tell (k := k) (l := lr.1) l2 hL0 hdb
    have hdl : ds = 4294967295 → lr.2.x.l + 2 ≤ (distP encM lr.2 lr.1 ds).2.x.l := fun h => by rw [h]; exact dist_long (k := k) l2 hL0
    generalize distP encM lr.2 lr.1 ds = dr at *
    have hbm : encM.bad dr.2.x = false := rfl
    refine ⟨fun h7 => ?_, fun h7 => ?_⟩
    · have hk : q.k = 1 := by omega
      have hdd : ds = q.v.toNat := by rw [hds]; exact if_neg h7
      have hhas := f5 hk
      rw [← hdd, ← hdt] at hhas
      have hne : dr.1 ≠ 4294967295 := by
        unfold Lzs.has at hhas
        have := of_decide_eq_true hhas
        have := hz.dict
        omega
      exact tailP_all hzb hbm (show (decide (dr.1 = 4294967295) && !encM.bad dr.2.x) = false by rw [decide_eq_false hne]; rfl) hhas (by omega)
    · have hdd : ds = 4294967295 := by rw [hds]; exact if_pos h7
      have hen : (decide (dr.1 = 4294967295) && !encM.bad dr.2.x) = true := by rw [decide_eq_true (by rw [hdt, hdd]), hbm]; rfl
      unfold tailP
      dsimp only
      rw [hen, if_pos (by simp)]
      refine ⟨?_, rfl, rfl, ?_⟩
      · show ((z.bad || false) || encM.bad dr.2.x) = false
        rw [hzb, hbm]; rfl
      · exact kmono _ (lmono _ (hdl hdd))
  have hk7 : q.k ≠ 7 := fun h => by rw [if_pos h] at ktell; omega
  rw [if_neg hk7] at ktell
  refine ⟨fun _ => ?_, fun h => absurd h hk7⟩
  by_cases h6 : kv = 6
  · have eA : packK encM (kv, false, tk) z s q.pk = tailP encM 1 { z with bad := z.bad || false, st := aft 9 11 z.st } tk := by unfold packK; rw [if_neg h0, if_neg h1, if_pos h6]
    rw [eA]
    exact tailP_all hzb rfl f0 (f10 (by omega)) (by decide)
  · have eA : packK encM (kv, false, tk) z s q.pk = packR encM (lenP encM tk 1333 s (q.pk.len - 2)) { z with bad := z.bad || false } (kv - 2) := by unfold packK; rw [if_neg h0, if_neg h1, if_neg h6]
    rw [eA]
    unfold packR
    have hhas : z.has (z.rep (kv - 2)) = true := by
      have hkk : kv = 2 ∨ kv = 3 ∨ kv = 4 ∨ kv = 5 := by omega
      rcases hkk with h | h | h | h
      · rw [h]; exact f6 (by omega)
      · rw [h]; exact f7 (by omega)
      · rw [h]; exact f8 (by omega)
      · rw [h]; exact f9 (by omega)
    exact tailP_all hzb rfl f0 hhas (by omega)
end Go.Proofs.YtpdpbbmkicemdaaGreat

/-
  Packets one behind the other, each coded if it fits: numbers.
-/
namespace Go.Proofs.YtpdpbbmkicemdaaGreat
open Go.RowKit

/-- the greatest number: no packet is left out as it tells too much -/
def mostI : Int := 9223372036854775807
theorem takes_all (z : Lzs) (q : Pq) : takesP mostI z q = fitsP z q.k q.v.toNat q.n := by
  unfold takesP mostI
  have h : ∀ x : Int, IntKind.i64.wrap x ≤ 9223372036854775807 := fun x => by
    rw [IntWalk.i64_left]
    unfold wrap64
    omega
  rw [decide_eq_true (h _), Bool.and_true]
theorem codeS_fits (s : Lzs × Pm En) (q : Pq) : codeS mostI s q = if fitsP s.1 q.pk.kind q.pk.dist q.pk.len = true then (packP encM s.1 s.2 q.pk).2 else s := by
  unfold codeS
  rw [takes_all]
  rfl
/-- behind the first j of a list -/
def runG (qs : Nat → Pq) (s : Lzs × Pm En) (j : Nat) : Lzs × Pm En := codeG mostI qs s j
/-- a coder that begins, as numbers -/
def freshS (lc lp pb dict : Nat) : Lzs × Pm En := (Lzs.start lc lp pb dict, ⟨List.replicate (probsN lc lp) 1024, En.new⟩)
theorem fresh_near {lc lp pb dict : Nat} (h : SetOk lc lp pb dict) : ZNear (freshS lc lp pb dict).1 (probsN lc lp) 0 :=
  ⟨h.1, h.2.1, h.2.2.1, h.2.2.2.2, Nat.le_refl _, (show 0 ≤ 11 by decide), (show 0 < 4294967296 by decide), (show 0 < 4294967296 by decide), (show 0 < 4294967296 by decide), (show 0 < 4294967296 by decide), rfl⟩
theorem fresh_pm {lc lp pb dict m : Nat} (hm : m ≤ 1000000) : PmOk okE (probsN lc lp) m (freshS lc lp pb dict).2 :=
  ⟨fun p hp => by rw [List.eq_of_mem_replicate hp]; exact ⟨by decide, by decide⟩, by show (List.replicate _ _).length = _; simp, enOk_new, by show 5 + 32 * m ≤ _; omega⟩

section
variable {qs : Nat → Pq} {lc lp pb dict n : Nat}
theorem run_ok (h : SetOk lc lp pb dict) (hq : ∀ i, i < n → PqLit (qs i)) (hn : n ≤ 10000) (j : Nat) (hj : j ≤ n) :
    ZNear (runG qs (freshS lc lp pb dict) j).1 (probsN lc lp) (273 * j) ∧ PmOk okE (probsN lc lp) (27 * (n - j)) (runG qs (freshS lc lp pb dict) j).2 := by
  obtain ⟨a, b⟩ := codeG_ok (most := mostI) (s := freshS lc lp pb dict) (k := 0) (m := n) hq (fresh_near h) (fresh_pm (m := 0 + 27 * n) (by omega)) j hj
  exact ⟨a.more (by omega), b.mono encM_ok (by omega)⟩
theorem run_succ (s : Lzs × Pm En) (j : Nat) : runG qs s (j + 1) = if fitsP (runG qs s j).1 (qs j).pk.kind (qs j).pk.dist (qs j).pk.len = true then (packP encM (runG qs s j).1 (runG qs s j).2 (qs j).pk).2 else runG qs s j :=
  codeS_fits (runG qs s j) (qs j)
theorem run_bad (h : SetOk lc lp pb dict) (hq : ∀ i, i < n → PqLit (qs i)) (hn : n ≤ 3000) : ∀ j, j ≤ n → (runG qs (freshS lc lp pb dict) j).1.bad = false
  | 0, _ => rfl
  | j + 1, hj => by
    have ih := run_bad h hq hn j (by omega)
    obtain ⟨h1, h2⟩ := run_ok h hq (by omega) j (by omega)
    rw [run_succ]
    split
    · rename_i hf
      obtain ⟨p1, p2⟩ := pack_enc (k := 0) h1 (h2.mono encM_ok (by omega)) (hq j (by omega)) hf ih
      by_cases hk : (qs j).k = 7
      · exact (p2 hk).1
      · exact (p1 hk).1
    · exact ih
/-- behind an end mark no packet fits -/
theorem run_ended (s : Lzs × Pm En) {j : Nat} (h : (runG qs s j).1.ended = true) : ∀ m, runG qs s (j + m) = runG qs s j
  | 0 => rfl
  | m + 1 => by
    have ih := run_ended s h m
    rw [show j + (m + 1) = (j + m) + 1 by omega, run_succ, ih]
    have : fitsP (runG qs s j).1 (qs (j + m)).pk.kind (qs (j + m)).pk.dist (qs (j + m)).pk.len = false := by unfold fitsP lateP; rw [h]; rfl
    rw [this]
    rfl
end
end Go.Proofs.YtpdpbbmkicemdaaGreat

/-
  What is coded is unpacked to what the packets tell; with a byte more, or one fewer, it is refused.
-/
namespace Go.Proofs.YtpdpbbmkicemdaaGreat

section
variable {most : Int} {qs : Nat → Pq} {n L : Nat} {s0 : Lzs × Pm En}

theorem takes_fits {z : Lzs} {q : Pq} (h : takesP most z q = true) : fitsP z q.k q.v.toNat q.n = true := by
  unfold takesP at h
  revert h
  cases fitsP z q.k q.v.toNat q.n <;> simp

/-- a coder's run: its packets, and what is known of them -/
structure Run (most : Int) (qs : Nat → Pq) (n L : Nat) (s0 : Lzs × Pm En) : Prop where
  lit : ∀ i, i < n → PqLit (qs i)
  last : ∀ i, i + 1 < n → (qs i).k ≠ 7
  near : ∀ j, j ≤ n → ZNear (codeG most qs s0 j).1 L 900000
  pm : ∀ j, j ≤ n → PmOk okE L (27 * (n - j)) (codeG most qs s0 j).2
  bad0 : s0.1.bad = false
  ended0 : s0.1.ended = false

theorem code_skip {j : Nat} (h : ¬ takesP most (codeG most qs s0 j).1 (qs j) = true) : codeG most qs s0 (j + 1) = codeG most qs s0 j := if_neg h
theorem code_take {j : Nat} (h : takesP most (codeG most qs s0 j).1 (qs j) = true) : codeG most qs s0 (j + 1) = (packP encM (codeG most qs s0 j).1 (codeG most qs s0 j).2 (qs j).pk).2 := if_pos h

theorem Run.pm' (R : Run most qs n L s0) {j : Nat} (hj : j < n) : PmOk okE L (27 * (n - (j + 1)) + 27) (codeG most qs s0 j).2 := (R.pm j (by omega)).mono encM_ok (by omega)
theorem Run.state (R : Run most qs n L s0) : ∀ j, j ≤ n → (codeG most qs s0 j).1.bad = false ∧ ((codeG most qs s0 j).1.ended = false ∨ j = n)
  | 0, _ => ⟨R.bad0, .inl R.ended0⟩
  | j + 1, hj => by
    obtain ⟨h1, h2⟩ := R.state j (by omega)
    by_cases ht : takesP most (codeG most qs s0 j).1 (qs j) = true
    · rw [code_take ht]
      obtain ⟨p1, p2⟩ := pack_enc (R.near j (by omega)) (R.pm' (show j < n by omega)) (R.lit j (by omega)) (takes_fits ht) h1
      by_cases h7 : (qs j).k = 7
      · obtain ⟨a, _, _, _⟩ := p2 h7
        refine ⟨a, .inr ?_⟩
        rcases Nat.lt_or_ge (j + 1) n with h | h
        · exact absurd h7 (R.last j h)
        · omega
      · obtain ⟨a, b, _⟩ := p1 h7
        exact ⟨a, .inl b⟩
    · rw [code_skip ht]
      refine ⟨h1, ?_⟩
      rcases h2 with h | h
      · exact .inl h
      · omega
theorem Run.out (R : Run most qs n L s0) : ∀ m j, j + m = n → (codeG most qs s0 j).1.out.length ≤ (codeG most qs s0 n).1.out.length
  | 0, j, h => by
    obtain rfl : j = n := h
    exact Nat.le_refl _
  | m + 1, j, h => by
    refine Nat.le_trans ?_ (R.out m (j + 1) (by omega))
    by_cases ht : takesP most (codeG most qs s0 j).1 (qs j) = true
    · rw [code_take ht]
      obtain ⟨p1, p2⟩ := pack_enc (R.near j (by omega)) (R.pm' (show j < n by omega)) (R.lit j (by omega)) (takes_fits ht) (R.state j (by omega)).1
      by_cases h7 : (qs j).k = 7
      · rw [(p2 h7).2.2.1]
        exact Nat.le_refl _
      · exact Nat.le_of_lt (p1 h7).2.2
    · rw [code_skip ht]
      exact Nat.le_refl _
theorem Run.reach (R : Run most qs n L s0) {bs : List UInt8} (hf : Ends bs (codeG most qs s0 n).2.x) : ∀ m j, j + m = n → Reach (codeG most qs s0 j).2.x (codeG most qs s0 n).2.x
  | 0, j, h => by
    obtain rfl : j = n := h
    exact Reach.refl _
  | m + 1, j, h => by
    have ih := R.reach hf m (j + 1) (by omega)
    by_cases ht : takesP most (codeG most qs s0 j).1 (qs j) = true
    · rw [code_take ht] at ih
      obtain ⟨f1, f2, _⟩ := fits_pk (R.lit j (by omega)) (takes_fits ht)
      exact (packP_sim (enc_simu (more := []) hf) (u := ⟨[], none⟩) (p' := pk0) (R.near j (by omega)) (R.pm' (show j < n by omega)) f1 f2 ih).1
    · rw [code_skip ht] at ih
      exact ih

/-- a decoder that goes the same way -/
theorem run_gen (R : Run most qs n L s0) (J : Nat → Pm Dc → Prop) (res : Option (List UInt8))
    (step : ∀ j u, j < n → J j u → takesP most (codeG most qs s0 j).1 (qs j) = true → (qs j).k ≠ 7 →
      ((packP decM (codeG most qs s0 j).1 u pk0).2.1 = (codeG most qs s0 (j + 1)).1 ∧ decM.bad (packP decM (codeG most qs s0 j).1 u pk0).2.2.x = false ∧ J (j + 1) (packP decM (codeG most qs s0 j).1 u pk0).2.2) ∨
      ((packP decM (codeG most qs s0 j).1 u pk0).2.1.bad = true ∧ res = none))
    (keep : ∀ j u, j < n → J j u → codeG most qs s0 (j + 1) = codeG most qs s0 j → J (j + 1) u)
    (endN : ∀ u, J n u → (codeG most qs s0 n).1.ended = false → finD (codeG most qs s0 n).1 u = res)
    (endE : ∀ j u, j + 1 = n → J j u → takesP most (codeG most qs s0 j).1 (qs j) = true → (qs j).k = 7 → finD (codeG most qs s0 j).1 u = res) :
    ∀ m j, j + m = n → (codeG most qs s0 j).1.ended = false → ∀ u F, J j u → (codeG most qs s0 n).1.out.length ≤ (codeG most qs s0 j).1.out.length + F →
      finU (upG (((codeG most qs s0 n).1.out.length : Nat) : Int) F (codeG most qs s0 j).1 u) = res
  | 0, j, h => by
    obtain rfl : j = n := h
    intro he u F hJ hF
    rw [upG_done (by omega)]
    exact endN u hJ he
  | m + 1, j, h => by
    intro he u F hJ hF
    have hj : j < n := by omega
    by_cases ht : takesP most (codeG most qs s0 j).1 (qs j) = true
    · obtain ⟨p1, p2⟩ := pack_enc (R.near j (by omega)) (R.pm' hj) (R.lit j hj) (takes_fits ht) (R.state j (by omega)).1
      by_cases h7 : (qs j).k = 7
      · have hjn : j + 1 = n := by
          rcases Nat.lt_or_ge (j + 1) n with h | h
          · exact absurd h7 (R.last j h)
          · omega
        have ho : (codeG most qs s0 n).1.out = (codeG most qs s0 j).1.out := by
          rw [← hjn, code_take ht]
          exact (p2 h7).2.2.1
        rw [upG_done (by rw [ho]; omega)]
        exact endE j u hjn hJ ht h7
      · obtain ⟨a, b, c⟩ := p1 h7
        have hout := R.out m (j + 1) (by omega)
        rw [← code_take ht] at a b c
        obtain ⟨F', rfl⟩ : ∃ F', F = F' + 1 := ⟨F - 1, by omega⟩
        have hlt : (((codeG most qs s0 j).1.out.length : Nat) : Int) < (((codeG most qs s0 n).1.out.length : Nat) : Int) := by omega
        rcases step j u hj hJ ht h7 with ⟨e1, e2, e3⟩ | ⟨e1, e2⟩
        · have hs : ¬ stopD (((codeG most qs s0 n).1.out.length : Nat) : Int) (packP decM (codeG most qs s0 j).1 u pk0) = true := by
            unfold stopD
            rw [e1, a, b, e2, decide_eq_false (by omega)]
            simp
          rw [upG_go hlt hs, e1]
          exact run_gen R J res step keep endN endE m (j + 1) (by omega) b _ F' e3 (by omega)
        · have hs : stopD (((codeG most qs s0 n).1.out.length : Nat) : Int) (packP decM (codeG most qs s0 j).1 u pk0) = true := by
            unfold stopD
            rw [e1]
            rfl
          rw [upG_stop hlt hs, e2]
          rfl
    · have hc := code_skip ht
      have := run_gen R J res step keep endN endE m (j + 1) (by omega) (by rw [hc]; exact he) u F (keep j u hj hJ hc) (by rw [hc]; exact hF)
      rw [hc] at this
      exact this

theorem full_step (R : Run most qs n L s0) {bs more : List UInt8} (hf : Ends bs (codeG most qs s0 n).2.x) {j : Nat} {u : Pm Dc} (hj : j < n) (hs : Sm (fun e d => d = decAt bs more e) (codeG most qs s0 j).2 u) (ht : takesP most (codeG most qs s0 j).1 (qs j) = true) :
    (packP decM (codeG most qs s0 j).1 u pk0).2.1 = (codeG most qs s0 (j + 1)).1 ∧ decM.bad (packP decM (codeG most qs s0 j).1 u pk0).2.2.x = false ∧ Sm (fun e d => d = decAt bs more e) (codeG most qs s0 (j + 1)).2 (packP decM (codeG most qs s0 j).1 u pk0).2.2 := by
  obtain ⟨f1, f2, _⟩ := fits_pk (R.lit j hj) (takes_fits ht)
  have hr := R.reach hf (n - (j + 1)) (j + 1) (by omega)
  rw [code_take ht] at hr ⊢
  rcases (packP_sim (enc_simu (more := more) hf) (u := u) (p' := pk0) (R.near j (by omega)) (R.pm' hj) f1 f2 hr).2 (.inr hs) with h | ⟨_, e2, e3⟩
  · exact h.elim
  · exact ⟨e2, by rw [e3.2]; rfl, e3⟩

/-- the coder's bytes -/
theorem run_all (R : Run most qs n L s0) {bs : List UInt8} (hf : Ends bs (codeG most qs s0 n).2.x) (hd : s0.1.out = []) {u : Pm Dc} (hs : Sm (fun e d => d = decAt bs [] e) s0.2 u) :
    finU (upG (((codeG most qs s0 n).1.out.length : Nat) : Int) (codeG most qs s0 n).1.out.length s0.1 u) = some (codeG most qs s0 n).1.out := by
  have hleft : leftD (decAt bs [] (codeG most qs s0 n).2.x) = true := by rw [ends_dec hf]; rfl
  refine run_gen R (fun j u => Sm (fun e d => d = decAt bs [] e) (codeG most qs s0 j).2 u) _ ?_ ?_ ?_ ?_ n 0 (by omega) R.ended0 u _ hs (by show _ ≤ s0.1.out.length + _; omega)
  · intro j u hj hJ ht _
    exact .inl (full_step R hf hj hJ ht)
  · intro j u _ hJ hc
    rw [hc]
    exact hJ
  · intro u hJ _
    unfold finD
    rw [if_pos (by rw [hJ.2]; exact hleft)]
  · intro j u hjn hJ ht h7
    have hj : j < n := by omega
    obtain ⟨_, p2⟩ := pack_enc (R.near j (by omega)) (R.pm' hj) (R.lit j hj) (takes_fits ht) (R.state j (by omega)).1
    obtain ⟨a, b, c, _⟩ := p2 h7
    rw [← code_take ht, hjn] at a b c
    obtain ⟨e1, e2, e3⟩ := full_step R hf hj hJ ht
    rw [hjn] at e1 e3
    unfold finD
    split
    · rw [c]
    · have hen : endD (codeG most qs s0 j).1.out.length (packP decM (codeG most qs s0 j).1 u pk0) = false := by
        unfold endD
        rw [e1, a, b, c, e3.2, hleft]
        simp
      rw [if_neg (by rw [hen]; simp), e1]

/-- where the code is 0 a literal is told -/
theorem zero_lit {r N : Nat} {s : List UInt8} {z : Lzs} {u : Pm Dc} {p : Pk} (hx : u.x = some (r, 0, s)) (hr : 16777216 ≤ r) (hps : PsOk u.ps) (hl : u.ps.length = L) (hz : ZNear z L N) : (packP decM z u p).2.1.ended = z.ended := by
  have hL0 : 1847 ≤ L := by have := hz.len; omega
  have hs15 : z.out.length % 2 ^ z.pb ≤ 15 := by
    have h1 : z.out.length % 2 ^ z.pb < 2 ^ z.pb := Nat.mod_lt _ (Nat.two_pow_pos _)
    have h2 : 2 ^ z.pb ≤ 2 ^ 4 := pow_le_of hz.pb
    omega
  have hst := hz.st
  have hp := getD_ok hps (show 16 * z.st + z.out.length % 2 ^ z.pb < u.ps.length by omega)
  have hb : (bitP decM u (16 * z.st + z.out.length % 2 ^ z.pb) (min p.kind 1)).1 = 0 := by
    show (bitD u.x (u.ps.getD (16 * z.st + z.out.length % 2 ^ z.pb) 0)).1 = 0
    rw [hx]
    show (if _ then _ else _ : Nat × Nat × Dc).1 = 0
    rw [if_pos (by
      have h1 : 8192 ≤ r / 2048 := by omega
      have h2 := hp.1
      have := Nat.mul_le_mul h1 h2
      omega)]
  have hk : (kindP decM u (decide (z.out.length = 0)) z.st (z.out.length % 2 ^ z.pb) p.kind).1 = 0 := by
    unfold kindP kd1
    rw [if_pos hb]
  unfold packP packK
  rw [if_pos hk]
  unfold packL
  split
  · rfl
  · rfl

/-- another byte behind them -/
theorem run_more (R : Run most qs n L s0) {bs : List UInt8} {y : UInt8} (hf : Ends bs (codeG most qs s0 n).2.x) (hd : s0.1.out = []) {u : Pm Dc} (hs : Sm (fun e d => d = decAt bs [y] e) s0.2 u) :
    finU (upG (((codeG most qs s0 n).1.out.length : Nat) : Int) (codeG most qs s0 n).1.out.length s0.1 u) = none := by
  have hleft : ∀ e, leftD (decAt bs [y] e) = false := by
    intro e
    show (decide (_ = 0) && decide (bs.drop e.l ++ [y] = [])) = false
    rw [decide_eq_false (show ¬ bs.drop e.l ++ [y] = [] from by simp)]
    simp
  refine run_gen R (fun j u => Sm (fun e d => d = decAt bs [y] e) (codeG most qs s0 j).2 u) _ ?_ ?_ ?_ ?_ n 0 (by omega) R.ended0 u _ hs (by show _ ≤ s0.1.out.length + _; omega)
  · intro j u hj hJ ht _
    exact .inl (full_step R hf hj hJ ht)
  · intro j u _ hJ hc
    rw [hc]
    exact hJ
  · intro u hJ hen
    have hpm := R.pm n (Nat.le_refl _)
    unfold finD
    rw [if_neg (by rw [hJ.2, hleft]; simp)]
    have hx : u.x = some ((codeG most qs s0 n).2.x.r, 0, [y]) := by rw [hJ.2, ends_dec hf]
    have he := zero_lit (p := pk0) hx hpm.x.1.1 (by rw [hJ.1]; exact hpm.ps) (by rw [hJ.1]; exact hpm.len) (R.near n (Nat.le_refl _))
    rw [if_pos (by unfold endD; rw [he, hen]; rfl)]
  · intro j u hjn hJ ht h7
    have hj : j < n := by omega
    obtain ⟨e1, e2, e3⟩ := full_step R hf hj hJ ht
    unfold finD
    rw [if_neg (by rw [hJ.2, hleft]; simp), if_pos]
    unfold endD
    rw [e3.2, hleft]
    simp

theorem dead_fin {z : Lzs} {u : Pm Dc} (h : u.x = none) : finD z u = none := by
  unfold finD
  rw [if_neg (by rw [h]; intro h; cases h), if_pos]
  have hx : (packP decM z u pk0).2.2.x = none := by
    unfold packP
    exact packK_dead (short_simu 0) (kindP_dead (M2 := decM) (Dead := fun d => d = none) (short_simu 0).dbit h)
  have hb : (packP decM z u pk0).2.1.bad = true := packP_badM (by rw [hx]; rfl)
  unfold endD
  rw [hb]
  simp

/-- a byte fewer -/
theorem run_less (R : Run most qs n L s0) {bs : List UInt8} {y : UInt8} (hf : Ends bs (codeG most qs s0 n).2.x) (hd : s0.1.out = []) {v u : Pm Dc} (hs : Sm (fun e d => d = decAt bs [] e) s0.2 v) (hv : Lk (OneMore y) (fun d => d = none) v u) :
    finU (upG (((codeG most qs s0 n).1.out.length : Nat) : Int) (codeG most qs s0 n).1.out.length s0.1 u) = none := by
  have hend : ∀ (v u : Pm Dc), v.x = decAt bs [] (codeG most qs s0 n).2.x → Lk (OneMore y) (fun d => d = none) v u → u.x = none := by
    intro v u hv h
    rcases h with h | ⟨_, r, c, s, h1, h2⟩
    · exact h
    · rw [hv, ends_dec hf] at h1
      injection h1 with h1
      injection h1 with _ h1
      injection h1 with _ h1
      have := congrArg List.length h1
      simp at this
  refine run_gen R (fun j u => ∃ v, Sm (fun e d => d = decAt bs [] e) (codeG most qs s0 j).2 v ∧ Lk (OneMore y) (fun d => d = none) v u) _ ?_ ?_ ?_ ?_ n 0 (by omega) R.ended0 u _ ⟨v, hs, hv⟩ (by show _ ≤ s0.1.out.length + _; omega)
  · rintro j u hj ⟨v, hJ, hl⟩ ht _
    obtain ⟨e1, e2, e3⟩ := full_step R hf hj hJ ht
    have hpm : PmOk okD L (0 + 27) v := by
      have h := R.pm' hj
      refine ⟨by rw [hJ.1]; exact h.ps, by rw [hJ.1]; exact h.len, ?_⟩
      rw [hJ.2]
      have hb := between hf (R.reach hf (n - j) j (by omega))
      intro r c s hx
      injection hx with hx
      injection hx with h1 hx
      injection hx with h2 _
      have := h.x.1.1
      have := h.x.1.2.1
      omega
    rcases (packP_sim (short_simu y) (u := u) (p' := pk0) (k := 0) (R.near j (by omega)) hpm pk0_fine (pk0_may _) trivial).2 hl with h | ⟨_, g2, g3⟩
    · exact .inr ⟨packP_badM (by rw [h]; rfl), rfl⟩
    · left
      refine ⟨g2.trans e1, ?_, _, e3, .inr g3⟩
      obtain ⟨r, c, s, _, h2⟩ := g3.2
      rw [h2]
      rfl
  · rintro j u _ ⟨v, hJ, hl⟩ hc
    rw [hc]
    exact ⟨v, hJ, hl⟩
  · rintro u ⟨v, hJ, hl⟩ _
    exact dead_fin (hend v u hJ.2 hl)
  · rintro j u hjn ⟨v, hJ, hl⟩ ht h7
    have hj : j < n := by omega
    rcases hl with h | hl
    · exact dead_fin h
    obtain ⟨_, p2⟩ := pack_enc (R.near j (by omega)) (R.pm' hj) (R.lit j hj) (takes_fits ht) (R.state j (by omega)).1
    obtain ⟨_, _, _, hlen⟩ := p2 h7
    rw [← code_take ht, hjn] at hlen
    obtain ⟨e1, e2, e3⟩ := full_step R hf hj hJ ht
    rw [hjn] at e3
    have hleft : leftD u.x = false := by
      obtain ⟨r, c, s, h1, h2⟩ := hl.2
      rw [hJ.2] at h1
      injection h1 with h1
      injection h1 with _ h1
      injection h1 with _ h1
      have h3 := congrArg List.length h1
      simp only [List.append_nil, List.length_drop, List.length_append, List.length_singleton] at h3
      rw [hf.len] at h3
      rw [h2]
      show (decide (c = 0) && decide (s = [])) = false
      rw [decide_eq_false (show ¬ s = [] from fun h => by rw [h] at h3; simp at h3; omega)]
      simp
    have hpm : PmOk okD L (0 + 27) v := by
      have h := R.pm' hj
      refine ⟨by rw [hJ.1]; exact h.ps, by rw [hJ.1]; exact h.len, ?_⟩
      rw [hJ.2]
      have hb := between hf (R.reach hf (n - j) j (by omega))
      intro r c s hx
      injection hx with hx
      injection hx with h1 hx
      injection hx with h2 _
      have := h.x.1.1
      have := h.x.1.2.1
      omega
    have hx : (packP decM (codeG most qs s0 j).1 u pk0).2.2.x = none := by
      rcases (packP_sim (short_simu y) (u := u) (p' := pk0) (k := 0) (R.near j (by omega)) hpm pk0_fine (pk0_may _) trivial).2 (.inr hl) with h | ⟨_, _, g3⟩
      · exact h
      · exact hend _ _ e3.2 (.inr g3)
    have hb : (packP decM (codeG most qs s0 j).1 u pk0).2.1.bad = true := packP_badM (by rw [hx]; rfl)
    unfold finD
    rw [if_neg (by rw [hleft]; simp), if_pos]
    unfold endD
    rw [hb]
    simp
end

theorem started_less {bs : List UInt8} {y : UInt8} (h : started (bs ++ [y]) ≠ none) : started bs = none ∨ OneMore y (started (bs ++ [y])) (started bs) := by
  match bs, h with
  | [], _ => exact .inl rfl
  | [_], _ => exact .inl rfl
  | [_, _], _ => exact .inl rfl
  | [_, _, _], _ => exact .inl rfl
  | [_, _, _, _], _ => exact .inl rfl
  | z :: a :: b :: c :: d :: t, h =>
    by_cases hc : z.toNat = 0 ∧ ((a.toNat * 256 + b.toNat) * 256 + c.toNat) * 256 + d.toNat < 4294967295
    · have e1 : started (z :: a :: b :: c :: d :: t) = some (4294967295, ((a.toNat * 256 + b.toNat) * 256 + c.toNat) * 256 + d.toNat, t) := if_pos hc
      have e2 : started ((z :: a :: b :: c :: d :: t) ++ [y]) = some (4294967295, ((a.toNat * 256 + b.toNat) * 256 + c.toNat) * 256 + d.toNat, t ++ [y]) := if_pos hc
      rw [e1, e2]
      exact .inr ⟨_, _, _, rfl, rfl⟩
    · exact .inl (if_neg hc)

/-- What is coded is unpacked; with a byte more, or one fewer, it is refused. -/
theorem coded_ok {most : Int} {qs : Nat → Pq} {lc lp pb dict n : Nat} (h : SetOk lc lp pb dict) (hq : ∀ i, i < n → PqLit (qs i)) (hl : ∀ i, i + 1 < n → (qs i).k ≠ 7) (hn : n ≤ 3000) {s : Lzs × Pm En}
    (hs : s = codeG most qs (Lzs.start lc lp pb dict, ⟨List.replicate (probsN lc lp) 1024, En.new⟩) n) {bs : List UInt8} (hb : be bs = s.2.x.n) (hlen : bs.length = s.2.x.l) (y : UInt8) :
    unpackN bs lc lp pb dict ((s.1.out.length : Nat) : Int) = some s.1.out ∧ unpackN (bs ++ [y]) lc lp pb dict ((s.1.out.length : Nat) : Int) = none ∧ unpackN (bs.take (bs.length - 1)) lc lp pb dict ((s.1.out.length : Nat) : Int) = none ∧ 5 ≤ bs.length ∧ s.1.out.length ≤ 900000 := by
  have hnear : ZNear (Lzs.start lc lp pb dict) (probsN lc lp) 0 := start_near h
  have hpm : PmOk okE (probsN lc lp) (0 + 27 * n) (⟨List.replicate (probsN lc lp) 1024, En.new⟩ : Pm En) := start_pm ⟨enOk_new, by show 5 + 32 * (0 + 27 * n) ≤ _; omega⟩
  have hG := fun j (hj : j ≤ n) => codeG_ok (most := most) (s := (Lzs.start lc lp pb dict, ⟨List.replicate (probsN lc lp) 1024, En.new⟩)) hq hnear hpm j hj
  have R : Run most qs n (probsN lc lp) (Lzs.start lc lp pb dict, ⟨List.replicate (probsN lc lp) 1024, En.new⟩) :=
    ⟨hq, hl, fun j hj => (hG j hj).1.more (by omega), fun j hj => (hG j hj).2.mono encM_ok (by omega), rfl, rfl⟩
  subst hs
  have hf : Ends bs (codeG most qs (Lzs.start lc lp pb dict, ⟨List.replicate (probsN lc lp) 1024, En.new⟩) n).2.x := ends_of (R.pm n (Nat.le_refl _)).x.1 hb hlen
  have hreach := R.reach hf n 0 (by omega)
  have h5 : 5 ≤ bs.length := by rw [hlen]; exact enOk_len (R.pm n (Nat.le_refl _)).x.1
  have e0 : started bs = decAt bs [] En.new := by
    have := started_dec (more := []) hf hreach
    rwa [List.append_nil] at this
  have e1 : started (bs ++ [y]) = decAt bs [y] En.new := started_dec (more := [y]) hf hreach
  refine ⟨?_, ?_, ?_, h5, (R.near n (Nat.le_refl _)).out⟩
  · unfold unpackN
    rw [Int.toNat_natCast]
    exact run_all R hf rfl ⟨rfl, e0⟩
  · unfold unpackN
    rw [Int.toNat_natCast]
    exact run_more R hf rfl ⟨rfl, e1⟩
  · unfold unpackN
    rw [Int.toNat_natCast]
    obtain ⟨bs', y', rfl⟩ : ∃ bs' y', bs = bs' ++ [y'] := ⟨bs.dropLast, bs.getLast (by intro e; rw [e] at h5; simp at h5), (List.dropLast_concat_getLast _).symm⟩
    have et : (bs' ++ [y']).take ((bs' ++ [y']).length - 1) = bs' := by
      rw [List.length_append, List.length_singleton, Nat.add_sub_cancel, List.take_append_of_le_length (Nat.le_refl _), List.take_length]
    rw [et]
    refine run_less (y := y') R hf rfl (v := ⟨List.replicate (probsN lc lp) 1024, started (bs' ++ [y'])⟩) ⟨rfl, e0⟩ ?_
    rcases started_less (bs := bs') (y := y') (by rw [e0]; exact decAt_some _ _ _) with h | h
    · exact .inl h
    · exact .inr ⟨rfl, h⟩
end Go.Proofs.YtpdpbbmkicemdaaGreat

/-
  What is coded of a list is unpacked, and with a byte more or fewer refused: the answers.
-/
namespace Go.Proofs.YtpdpbbmkicemdaaGreat
open Go.RowKit

section
variable {qs : Nat → Pq} {lc lp pb dict n : Nat} {most : Int}
theorem codeG_len (h : SetOk lc lp pb dict) (hq : ∀ i, i < n → PqLit (qs i)) (hn : n ≤ 3000) : (codeG most qs (freshS lc lp pb dict) n).2.x.l ≤ 3000000 ∧ (codeG most qs (freshS lc lp pb dict) n).1.out.length ≤ 273 * n := by
  obtain ⟨k, hk⟩ : ∃ k, k + 27 * n = 28124999 := ⟨28124999 - 27 * n, by omega⟩
  have hp : PmOk okE (probsN lc lp) (k + 27 * n) (freshS lc lp pb dict).2 :=
    ⟨fun p hp => by rw [List.eq_of_mem_replicate hp]; exact ⟨by decide, by decide⟩, by show (List.replicate _ _).length = _; simp, enOk_new, by show 5 + 32 * (k + 27 * n) ≤ _; omega⟩
  obtain ⟨a, b⟩ := codeG_ok (most := most) (s := freshS lc lp pb dict) hq (fresh_near h) hp n (Nat.le_refl _)
  have e : (codeG most qs (freshS lc lp pb dict) n).2.x.l + 32 * (k + 27 * (n - n)) ≤ 900000000 := b.x.2
  have := a.out
  exact ⟨by omega, by omega⟩
theorem res_some {bs out : List UInt8} {size : Int} (h : SetOk lc lp pb dict) (hu : unpackN bs lc lp pb dict size = some out) : lzRes bs lc lp pb dict size = some out ∧ lzCode bs lc lp pb dict size = 0 := by
  unfold lzRes lzCode
  rw [if_pos (setOk_may h), if_pos (setOk_may h)]
  simp only [Int.toNat_natCast]
  rw [hu]
  exact ⟨rfl, rfl⟩
theorem res_none {bs : List UInt8} {size : Int} (h : SetOk lc lp pb dict) (hu : unpackN bs lc lp pb dict size = none) : lzRes bs lc lp pb dict size = none ∧ lzCode bs lc lp pb dict size = 12 := by
  unfold lzRes lzCode
  rw [if_pos (setOk_may h), if_pos (setOk_may h)]
  simp only [Int.toNat_natCast]
  rw [hu]
  exact ⟨rfl, rfl⟩
theorem coded_all (h : SetOk lc lp pb dict) (hq : ∀ i, i < n → PqLit (qs i)) (hl : ∀ i, i + 1 < n → (qs i).k ≠ 7) (hn : n ≤ 301) {s : Lzs × Pm En} (hs : s = codeG most qs (freshS lc lp pb dict) n) {bs : List UInt8} (hb : be bs = s.2.x.n) (hlen : bs.length = s.2.x.l) :
    (lzRes bs lc lp pb dict ((s.1.out.length : Nat) : Int) = some s.1.out ∧ lzCode bs lc lp pb dict ((s.1.out.length : Nat) : Int) = 0) ∧
    (lzRes (bs ++ [0]) lc lp pb dict ((s.1.out.length : Nat) : Int) = none ∧ lzCode (bs ++ [0]) lc lp pb dict ((s.1.out.length : Nat) : Int) = 12) ∧
    (lzRes (bs.take (bs.length - 1)) lc lp pb dict ((s.1.out.length : Nat) : Int) = none ∧ lzCode (bs.take (bs.length - 1)) lc lp pb dict ((s.1.out.length : Nat) : Int) = 12) ∧ 5 ≤ bs.length ∧ bs.length ≤ 3000000 ∧ s.1.out.length ≤ 100000 := by
  obtain ⟨h1, h2, h3, h4, _⟩ := coded_ok (most := most) (qs := qs) (n := n) h hq hl (by omega) hs hb hlen 0
  obtain ⟨l1, l2⟩ := codeG_len (most := most) h hq (by omega)
  rw [← hs] at l1 l2
  exact ⟨res_some h h1, res_none h h2, res_none h h3, h4, by omega, by omega⟩
end
end Go.Proofs.YtpdpbbmkicemdaaGreat

/-
  One struct of four cells is appended onto a row of the call's own.
-/
namespace Go.Proofs.YtpdpbbmkicemdaaGreat
open Go.RowKit

section
variable {P : Program} {w : World}
theorem own_form4 {v : Value} {w : World} {base : Nat} {e : TypeId} {n : Nat} {xs : List Value} (h : w.ownsRow base e 4 v n xs) : ∃ A c, v = .slice A n c := by
  rcases h.2 with ⟨rfl, rfl⟩ | ⟨g, cap, cur, rfl, _⟩
  · exact ⟨none, 0, rfl⟩
  · exact ⟨_, cap, rfl⟩
theorem wpList_app4 {ops : Array Oper} {rest : List Oper} {o : Oper} {a : Act} {Q : Exit → Act → World → Prop} (hgd : o.guard = none) (s x : Operand) (t : TypeId)
    (ho : o.op = .call { callee := .builtin .append, args := #[s, x], argTypes := #[t, t] })
    (base : Nat) (e : TypeId) (i : TypeInfo) (z : Value) (bytes : Nat) (ht : P.underlying t = some (.slice e)) (hi : P.info? e = some i) (hz : i.zero = some z)
    (hsize : i.size = 4) (hby : i.bytes = bytes) (hzs : z.cells.size = 4)
    (v : Value) (n : Nat) (xs : List Value) (hs : a.eval s = v) (hown : w.ownsRow base e 4 v n xs)
    (ad : Addr) (m c : Nat) (news : List Value) (hx : a.eval x = .slice (some ad) m c) (hl : news.length = m * 4) (hnews : ∀ j u, news[j]? = some u → w.cell? (ad.add j) = some u) (h1 : ∀ u ∈ news, u.oneCell' = true)
    (h63 : n + m ≤ maxLen) (hbytes : (n + m) * bytes ≤ 140737488355328) (hbase : base ≤ w.heap.size)
    (h : ∀ A' c' w', w'.ownsRow base e 4 (.slice A' (n + m) c') (n + m) (xs ++ news) → w.grownBy w' v.ownBlock → wpList P ops Q rest (a.put o.dst (.slice A' (n + m) c')) w') : wpList P ops Q (o :: rest) a w :=
  wpList_plain hgd fun K hK => by
    obtain ⟨v', w', hrun, h2, h3, _, _⟩ := run_append_own_at (P := P) w base t o.type e i z 4 bytes ht hi hz hsize hby hzs (by omega) v n xs hown ad m c news hl hnews h1 h63 hbytes hbase
    obtain ⟨A', c', rfl⟩ := own_form4 h2
    unfold Oper.wp execOp
    simp only [ho, resolve, invoke, builtin, Sem.run_bind, Sem.run_pure, Result.andThen_ok, List.map_toArray, List.map_cons, List.map_nil, hs, hx, hrun]
    exact hK _ _ (h A' c' w' h2 h3)
end
end Go.Proofs.YtpdpbbmkicemdaaGreat

/-
  A row of packets of the call's own, as a list.
-/
namespace Go.Proofs.YtpdpbbmkicemdaaGreat
open Go.RowKit

def pkV (q : Pq) : List Value := [.int .i64 q.k, .int .u8 q.a, .int .i64 q.n, .int .u32 q.v]
theorem pkV_len : ∀ (L : List Pq), (L.flatMap pkV).length = L.length * 4
  | [] => rfl
  | q :: L => by rw [List.flatMap_cons, List.length_append, pkV_len L]; show 4 + _ = (L.length + 1) * 4; omega
theorem pkV_get : ∀ (L : List Pq) (i k : Nat), i < L.length → k < 4 → (L.flatMap pkV)[i * 4 + k]? = (pkV (L.getD i ⟨0, 0, 0, 0⟩))[k]?
  | q :: L, 0, k, _, hk => by
    rw [List.flatMap_cons, Nat.zero_mul, Nat.zero_add, List.getElem?_append_left (by show k < 4; exact hk)]
    rfl
  | q :: L, i + 1, k, hi, hk => by
    rw [List.flatMap_cons, List.getElem?_append_right (by show 4 ≤ _; omega), show (i + 1) * 4 + k - (pkV q).length = i * 4 + k by show (i + 1) * 4 + k - 4 = _; omega, pkV_get L i k (by simp at hi; omega) hk]
    rfl
theorem pkts_row {w : World} {base : Nat} {e : TypeId} {A : Option Addr} {n c : Nat} {L : List Pq} (h : w.ownsRow base e 4 (.slice A n c) n (L.flatMap pkV)) : L.length = n ∧ Pkts w A n (fun i => L.getD i ⟨0, 0, 0, 0⟩) := by
  have hl : L.length = n := by
    have := h.1
    rw [pkV_len] at this
    omega
  refine ⟨hl, fun hn => ?_⟩
  rcases h.2 with ⟨_, h0⟩ | ⟨g, cap, cur, hv, _, hh, _, _, _, ht⟩
  · omega
  · injection hv with e1 _ _
    refine ⟨g, 0, e1, (Array.getElem?_eq_some_iff.1 hh).1, fun i hi => ?_⟩
    have key : ∀ k, k < 4 → w.cell? ⟨g, 0 + i * 4 + k, none⟩ = (pkV (L.getD i ⟨0, 0, 0, 0⟩))[k]? := by
      intro k hk
      have hb : i * 4 + k < n * 4 := by omega
      have h1 := pkV_get L i k (by omega) hk
      rw [← ht, List.getElem?_take_of_lt hb] at h1
      rw [← h1]
      simp [World.cell?, hh, Nat.zero_add]
    exact ⟨key 0 (by omega), key 1 (by omega), key 2 (by omega), key 3 (by omega)⟩
end Go.Proofs.YtpdpbbmkicemdaaGreat

/-
  A stream is unpacked under the great quota at any later world; what is made beside it.
-/
namespace Go.Proofs.YtpdpbbmkicemdaaGreat
open Go.RowKit

theorem up_later (C : UpCon) {lc lp pb dict m c gm : Nat} {sz cd : Int} {A : Option Addr} {bs : List UInt8} {o : Option (List UInt8)} {W : World} (h6 : lc + lp ≤ 6) (hm : m = bs.length) (hA : Sl W A m (bv bs)) (hne : 0 < m → ∀ q o, A = some ⟨q, o, none⟩ → q ≠ gm)
    (hr : lzRes bs lc lp pb dict sz = o) (hc : lzCode bs lc lp pb dict sz = cd) (hl : m ≤ 4000000) (hs1 : 0 ≤ sz) (hs2 : sz ≤ 100000) (hM : MeterAt W 75 gm muchQ Tel.zero) :
    Calls Tryz.prog 8 #[.slice A m c, .agg #[.int .i64 (lc : Int), .int .i64 (lp : Int), .int .i64 (pb : Int), .int .i64 (dict : Int)], .int .i64 sz, .pointer (some ⟨gm, 0, none⟩)] W fun x w' =>
      Only (fun i => i = gm) W w' ∧ ∃ X cX, x = .returned (.tuple #[.slice X (o.getD []).length cX, .int .i64 cd]) ∧ Sl w' X (o.getD []).length (bv (o.getD [])) := by
  have KU := C.up (c := c) (a := (lc : Int)) (b := (lp : Int)) (cc := (pb : Int)) (d := (dict : Int)) (size := sz) hm hA hne (by omega) hM (fun _ => by omega) (by omega) (by omega)
  rw [hr, hc] at KU
  exact KU.mono fun e w' ⟨_, h2, X, cX, h3, h4⟩ => ⟨h2, X, cX, h3, h4⟩

/-- what was made of a region's own: a row, a byte, a meter -/
structure Rg (w5 v : World) (ra : Option (Nat × Nat × List UInt8)) (rb rm : Option Nat) : Prop where
  bel : Below w5.heap.size w5 v
  row : ∀ x c ys, ra = some (x, c, ys) → v.ownsRow w5.heap.size 5 1 (.slice (some ⟨x, 0, none⟩) ys.length c) ys.length (bv ys)
  one : ∀ x, rb = some x → Sl v (some ⟨x, 0, none⟩) 1 (bv [0])
  met : ∀ g, rm = some g → MeterAt v 75 g muchQ Tel.zero ∧ w5.heap.size ≤ g
  ab : ∀ x c ys y, ra = some (x, c, ys) → rb = some y → x ≠ y
  am : ∀ x c ys y, ra = some (x, c, ys) → rm = some y → x ≠ y

theorem Rg.start (w5 : World) (k : Nat) : Rg w5 (w5.drewN k) none none none :=
  ⟨below_drewN (Below.refl _ _) k, fun _ _ _ h => (nomatch h), fun _ h => (nomatch h), fun _ h => (nomatch h), fun _ _ _ _ h => (nomatch h), fun _ _ _ _ h => (nomatch h)⟩
theorem Rg.start' (w5 : World) : Rg w5 w5 none none none :=
  ⟨Below.refl _ _, fun _ _ _ h => (nomatch h), fun _ h => (nomatch h), fun _ h => (nomatch h), fun _ _ _ _ h => (nomatch h), fun _ _ _ _ h => (nomatch h)⟩
section
variable {w5 v v' : World} {ra : Option (Nat × Nat × List UInt8)} {rb rm : Option Nat}
theorem Rg.drewN (h : Rg w5 v ra rb rm) (k : Nat) : Rg w5 (v.drewN k) ra rb rm :=
  ⟨below_drewN h.bel k, fun x c ys e => (h.row x c ys e : v.ownsRow _ _ _ _ _ _), fun x e => (h.one x e).drewN k, fun g e => ⟨(h.met g e).1.drewN k, (h.met g e).2⟩, h.ab, h.am⟩
theorem Rg.a1 (h : Rg w5 v none rb rm) : Rg w5 (v.alloc (.cells #[] 5)) (some (v.heap.size, 0, [])) rb rm := by
  refine ⟨h.bel.alloc h.bel.size _, fun x c ys e => ?_, fun x e => (h.one x e).alloc _, fun g e => ⟨(h.met g e).1.alloc _, (h.met g e).2⟩, fun x c ys y e e2 => ?_, fun x c ys y e e2 => ?_⟩
  · injection e with e
    injection e with e1 e2
    injection e2 with e2 e3
    subst e1 e2 e3
    exact own_empty v h.bel.size _
  · injection e with e
    injection e with e1 _
    subst e1
    obtain ⟨b', o', e', hlt, _⟩ := (h.one y e2).2 (by decide)
    injection e' with e'
    injection e' with e'
    omega
  · injection e with e
    injection e with e1 _
    subst e1
    have := (h.met y e2).1.lt
    omega
theorem Rg.b (h : Rg w5 v ra none rm) : Rg w5 (v.alloc (.cells #[.int .u8 0] 5)) ra (some v.heap.size) rm := by
  refine ⟨h.bel.alloc h.bel.size _, fun x c ys e => own_below (h.row x c ys e) ((Below.refl _ _).alloc (Nat.le_refl _) _), fun x e => ?_, fun g e => ⟨(h.met g e).1.alloc _, (h.met g e).2⟩, fun x c ys y e e2 => ?_, h.am⟩
  · injection e with e
    subst e
    exact sl_one v _ _
  · injection e2 with e2
    subst e2
    have := (World.ownsRow.lt (h.row x c ys e) x rfl).2
    omega
theorem Rg.ab' (h : Rg w5 v none none rm) : Rg w5 ((v.alloc (.cells #[] 5)).alloc (.cells #[.int .u8 0] 5)) (some (v.heap.size, 0, [])) (some (v.heap.size + 1)) rm := by
  have := h.a1.b
  simpa using this
theorem Rg.ba' (h : Rg w5 v none none rm) : Rg w5 ((v.alloc (.cells #[.int .u8 0] 5)).alloc (.cells #[] 5)) (some (v.heap.size + 1, 0, [])) (some v.heap.size) rm := by
  have := h.b.a1
  simpa using this
theorem Rg.app (h : Rg w5 v ra rb rm) {x c : Nat} {ys zs : List UInt8} (hra : ra = some (x, c, ys)) {g cap n : Nat} (ho : v'.ownsRow w5.heap.size 5 1 (.slice (some ⟨g, 0, none⟩) n cap) n (bv ys ++ bv zs)) (hg : v.grownBy v' (some x)) (hl : x = g ∨ g = v.heap.size) : Rg w5 v' (some (g, cap, ys ++ zs)) rb rm := by
  have hx := World.ownsRow.lt (h.row x c ys hra) x rfl
  have hn : n = (ys ++ zs).length := by
    have := ho.1
    rw [← bv_append, bv_length] at this
    omega
  refine ⟨h.bel.grown hg h.bel.size (fun k e => by injection e with e; omega), fun x' c' ys' e => ?_, fun y e => (h.one y e).grown hg (fun _ b o e' => ?_), fun y e => ⟨(h.met y e).1.grown hg (fun e' => ?_), (h.met y e).2⟩, fun x' c' ys' y e e2 => ?_, fun x' c' ys' y e e2 => ?_⟩
  · injection e with e
    injection e with e1 e2
    injection e2 with e2 e3
    subst e1 e2 e3
    rw [bv_append, ← hn]
    exact ho
  · injection e' with e'
    injection e' with e'
    exact fun e2 => h.ab x c ys y hra e (by omega)
  · injection e' with e'
    exact h.am x c ys y hra e e'.symm
  · injection e with e
    injection e with e1 _
    subst e1
    rcases hl with hl | hl
    · rw [← hl]
      exact h.ab x c ys y hra e2
    · obtain ⟨b', o', e', hlt, _⟩ := (h.one y e2).2 (by decide)
      injection e' with e'
      injection e' with e'
      omega
  · injection e with e
    injection e with e1 _
    subst e1
    rcases hl with hl | hl
    · rw [← hl]
      exact h.am x c ys y hra e2
    · have := (h.met y e2).1.lt
      omega
theorem Rg.much (h : Rg w5 v ra rb none) : Calls Tryz.prog 7 #[] v fun e v' => ∃ g, e = .returned (.pointer (some ⟨g, 0, none⟩)) ∧ Rg w5 v' ra rb (some g) := by
  refine (much_any v).mono ?_
  rintro e v' ⟨g, rfl, hM, hg, hb⟩
  refine ⟨g, rfl, below_go h.bel hb (Nat.le_refl _), fun x c ys e => own_below (h.row x c ys e) hb, fun x e => (h.one x e).below hb, fun g' e => ?_, h.ab, fun x c ys y e e2 => ?_⟩
  · injection e with e
    subst e
    have := h.bel.size
    exact ⟨hM, by omega⟩
  · injection e2 with e2
    subst e2
    have := (World.ownsRow.lt (h.row x c ys e) x rfl).2
    omega
theorem rg_app_old {ops : Array Oper} {o : Oper} {a : Act} {K : Act → World → Prop} {Q : Exit → Act → World → Prop} {E : Prop} (hgd : o.guard = none) (s x : Operand)
    (ho : o.op = .call { callee := .builtin .append, args := #[s, x], argTypes := #[22, 22] })
    {xa c n0 m cb : Nat} {ad : Addr} {ys zs : List UInt8} (hs : a.eval s = .slice (some ⟨xa, 0, none⟩) n0 c) (hx : a.eval x = .slice (some ad) m cb) (h : Rg w5 v (some (xa, c, ys)) rb rm) (hn0 : n0 = ys.length) (hr : Sl v (some ad) m (bv zs)) (hm : 0 < m) (hb : n0 + m ≤ 1000000000)
    (hk : ∀ g cap v', Rg w5 v' (some (g, cap, ys ++ zs)) rb rm → K (a.put o.dst (.slice (some ⟨g, 0, none⟩) (n0 + m) cap)) v') :
    if Region.wanted o (yielded ops a.tmps) = true then Oper.wp Tryz.prog o a v K Q else E := by
  obtain ⟨i, hi, hz0, hz1, hz2⟩ := info_parts info_u8
  have hrow := h.row xa c ys rfl
  rw [← hn0] at hrow
  obtain ⟨b', o', e', _⟩ := hr.2 hm
  injection e' with e'
  refine step_append_lies (w := v) hgd s x 22 ho w5.heap.size 5 i _ 1 1 Tryz.underlying22 hi hz0 hz1 hz2 rfl (by decide) _ n0 (bv ys) hs hrow ad m cb (bv zs) hx (by rw [hr.1]; omega) (by rw [e'] at hr ⊢; exact hr.news) (bv_one _) hm (by unfold maxLen; omega) (by omega) h.bel.size _ rfl ?_
  intro g cap v' ho' hg hl _
  exact hk g cap v' (h.app rfl ho' (by simpa [Value.ownBlock] using hg) (hl.imp (fun e => by simpa [Value.ownBlock] using e) id))
theorem Rg.old (h : Rg w5 v ra rb rm) {A : Option Addr} {m : Nat} {xs : List Value} (hs : Sl w5 A m xs) : Sl v A m xs := hs.below h.bel
theorem Rg.up (C : UpCon) {lc lp pb dict m c gm x : Nat} {sz cd : Int} {bs : List UInt8} {o : Option (List UInt8)} (h : Rg w5 v (some (x, c, bs)) rb (some gm)) (h6 : lc + lp ≤ 6) (hm : m = bs.length)
    (hr : lzRes bs lc lp pb dict sz = o) (hc : lzCode bs lc lp pb dict sz = cd) (hl : m ≤ 4000000) (hs1 : 0 ≤ sz) (hs2 : sz ≤ 100000) :
    Calls Tryz.prog 8 #[.slice (some ⟨x, 0, none⟩) m c, .agg #[.int .i64 (lc : Int), .int .i64 (lp : Int), .int .i64 (pb : Int), .int .i64 (dict : Int)], .int .i64 sz, .pointer (some ⟨gm, 0, none⟩)] v fun e w' =>
      Below w5.heap.size w5 w' ∧ ∃ X cX, e = .returned (.tuple #[.slice X (o.getD []).length cX, .int .i64 cd]) := by
  obtain ⟨hM, hg⟩ := h.met gm rfl
  subst hm
  refine (up_later C (c := c) h6 rfl (own_facts (h.row x c bs rfl)).1 (fun _ q o e => ?_) hr hc hl hs1 hs2 hM).mono ?_
  · injection e with e
    injection e with e
    have := h.am x c bs gm rfl rfl
    omega
  · rintro e w' ⟨hO, X, cX, rfl, _⟩
    exact ⟨h.bel.trans (hO.below h.bel.size (by rintro i rfl; exact hg)), X, cX, rfl⟩
end
end Go.Proofs.YtpdpbbmkicemdaaGreat
