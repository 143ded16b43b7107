/-
  LwCopies: put together.
-/
import Derived.Test.YtoencondpbkomaaGreatDoorT17
import Derived.BigQuiet
set_option linter.unusedVariables false
set_option linter.unusedSimpArgs false
/-
  The program's decoder of LZMA: a packet that is no literal, behind its first bit.
-/
namespace Go.Proofs.YtoencondpbkomaaGreatDoor
open Go.RowKit

/-- the window is as long as it need be -/
def Fit (K : Kon) (z : Lzs) : Prop := 1 ≤ K.sz ∧ K.sz ≤ 1048576 ∧ (z.dict = K.sz ∨ (z.out.length ≤ K.sz ∧ K.sz ≤ z.dict))
theorem fit_has {K : Kon} {z : Lzs} (h : Fit K z) (d : Nat) : (⟨K.sz, z.out, false⟩ : Ws).has (d : Int) = z.has d := by
  obtain ⟨h1, _, h2⟩ := h
  unfold Ws.has Lzs.has
  rw [Bool.eq_iff_iff]
  simp
  omega
theorem fit_at {K : Kon} {z : Lzs} (h : Fit K z) (d : Nat) : (⟨K.sz, z.out, false⟩ : Ws).at_ (d : Int) = z.back d := by
  unfold Ws.at_ Lzs.back
  rw [fit_has h, Int.toNat_natCast]
theorem fit_count {K : Kon} {z : Lzs} (_ : Fit K z) : (⟨K.sz, z.out, false⟩ : Ws).count = min K.sz z.out.length := rfl

/-- how such a packet may end: r is what the document says of it -/
def Outcome (z1 : Lzs) (t1 : Pm Dc) (left1 : Nat) (r : Nat × Lzs × Pm Dc) : Prop :=
  t1 = r.2.2 ∧ ((t1.x = none ∧ left1 = 0) ∨
    (t1.x ≠ none ∧ r.2.1.bad = true ∧ z1.bad = true ∧ z1.ended = false ∧ left1 = 0) ∨
    (t1.x ≠ none ∧ z1.bad = false ∧ z1.ended = true ∧ r = (0, z1, t1) ∧ left1 = 0) ∨
    (t1.x ≠ none ∧ z1.bad = false ∧ z1.ended = false ∧ z1.has z1.r0 = true ∧ 1 ≤ left1 ∧ left1 ≤ 273 ∧ r = ((copyG left1 0 z1).1, (copyG left1 0 z1).2, t1)))
def CopiesPost (K : Kon) (w : World) (Gw : Nat → Prop) (z : Lzs) (N : Nat) (r : Nat × Lzs × Pm Dc) (e : Ending) (w' : World) : Prop :=
  ∃ z1 t1 left1, MidPost K w Gw (.tuple #[]) z1 t1 left1 e w' ∧ z1.out = z.out ∧ z1.dict = z.dict ∧ ZNear z1 (1847 + K.nl) N ∧ Outcome z1 t1 left1 r

theorem tailP_same {σ : Type} {M : Mach σ} {many : Nat} {z : Lzs} {t : Pm σ} : (tailP M many z t).2.2 = t := by
  unfold tailP
  split <;> rfl
theorem tail_ended {n : Nat} {z : Lzs} {t : Pm Dc} (hb : z.bad = false) (hd : t.x ≠ none) (he : z.ended = true) : tailP decM n z t = (0, z, t) := by
  have hm : decM.bad t.x = false := by
    show t.x.isNone = false
    cases hx : t.x with
    | none => exact absurd hx hd
    | some _ => rfl
  unfold tailP
  rw [hb, hm, he]
  simp
  cases z
  simp at hb he
  simp [hb, he]
theorem tail_live {n : Nat} {z : Lzs} {t : Pm Dc} (hb : z.bad = false) (hd : t.x ≠ none) (he : z.ended = false) : tailP decM n z t = ((copyG n 0 z).1, (copyG n 0 z).2, t) := by
  have hm : decM.bad t.x = false := by
    show t.x.isNone = false
    cases hx : t.x with
    | none => exact absurd hx hd
    | some _ => rfl
  unfold tailP
  rw [hb, hm, he]
  simp
theorem dead_bad {t : Pm Dc} (hd : t.x = none) : decM.bad t.x = true := by rw [hd]; rfl
theorem live_bad {t : Pm Dc} (hd : t.x ≠ none) : decM.bad t.x = false := by
  show t.x.isNone = false
  cases hx : t.x with
  | none => exact absurd hx hd
  | some _ => rfl
theorem out_dead {z1 : Lzs} {t1 : Pm Dc} {r : Nat × Lzs × Pm Dc} (h : t1 = r.2.2) (hd : t1.x = none) : Outcome z1 t1 0 r := ⟨h, .inl ⟨hd, rfl⟩⟩
theorem out_ended {z1 : Lzs} {t1 : Pm Dc} {n : Nat} {r : Nat × Lzs × Pm Dc} (hr : r = tailP decM n z1 t1) (hb : z1.bad = false) (hd : t1.x ≠ none) (he : z1.ended = true) : Outcome z1 t1 0 r := by
  rw [tail_ended hb hd he] at hr
  exact ⟨by rw [hr], .inr (.inr (.inl ⟨hd, hb, he, hr, rfl⟩))⟩
theorem out_live {z1 : Lzs} {t1 : Pm Dc} {n : Nat} {r : Nat × Lzs × Pm Dc} (hr : r = tailP decM n z1 t1) (hb : z1.bad = false) (hd : t1.x ≠ none) (he : z1.ended = false) (hh : z1.has z1.r0 = true) (h1 : 1 ≤ n) (h2 : n ≤ 273) : Outcome z1 t1 n r := by
  rw [tail_live hb hd he] at hr
  exact ⟨by rw [hr], .inr (.inr (.inr ⟨hd, hb, he, hh, h1, h2, hr⟩))⟩
theorem out_none {z1 : Lzs} {t1 : Pm Dc} {n : Nat} {r : Nat × Lzs × Pm Dc} (hr : r = tailP decM n z1 t1) (hb : z1.bad = false) (hd : t1.x ≠ none) (he : z1.ended = false) (hh : z1.has z1.r0 = false) (h1 : 1 ≤ n) : Outcome { z1 with bad := true } t1 0 r := by
  rw [tail_live hb hd he] at hr
  obtain ⟨m, rfl⟩ : ∃ m, n = m + 1 := ⟨n - 1, by omega⟩
  rw [copyG_stop (by rw [hh]; simp)] at hr
  exact ⟨by rw [hr], .inr (.inl ⟨hd, by rw [hr], rfl, he, rfl⟩)⟩

section
variable {K : Kon} {w w' : World} {Gw : Nat → Prop} {z : Lzs} {t : Pm Dc} {left : Nat}

theorem Lw.has (h : Lw K w Gw z t left) (hf : Fit K z) (d : Nat) : Calls Tryz.prog 145 #[.pointer (some ⟨K.wg, 0, none⟩), .int .i64 (d : Int)] w fun x w' => x = .returned (.bool (z.has d)) ∧ w = w' := by
  have := whas_any (d := (d : Int)) h.win
  rw [fit_has hf] at this
  exact this
theorem near_bad {L N : Nat} (h : ZNear z L N) (b : Bool) : ZNear { z with bad := b } L N := ⟨h.lc, h.lp, h.pb, h.dict, h.out, h.st, h.r0, h.r1, h.r2, h.r3, h.len⟩
theorem near_fresh {L N d : Nat} (h : ZNear z L N) (hd : d < 4294967296) : ZNear (z.fresh d) L N :=
  ⟨h.lc, h.lp, h.pb, h.dict, h.out, aft_le (by decide) (by decide), hd, h.r0, h.r1, h.r2, h.len⟩
theorem near_single {L N : Nat} (h : ZNear z L N) : ZNear { z with st := aft 9 11 z.st } L N :=
  ⟨h.lc, h.lp, h.pb, h.dict, h.out, aft_le (by decide) (by decide), h.r0, h.r1, h.r2, h.r3, h.len⟩
theorem near_again {L N j : Nat} (h : ZNear z L N) : ZNear { z.again j with st := aft 8 11 z.st } L N := by
  refine ⟨h.lc, h.lp, h.pb, h.dict, h.out, aft_le (by decide) (by decide), rep_lt h j, ?_, ?_, ?_, h.len⟩
  · show (if j = 0 then z.r1 else z.r0) < _
    split
    · exact h.r1
    · exact h.r0
  · show (if j ≤ 1 then z.r2 else z.r1) < _
    split
    · exact h.r2
    · exact h.r1
  · show (if j ≤ 2 then z.r3 else z.r2) < _
    split
    · exact h.r3
    · exact h.r2

/-! what the document says of the three kinds -/
theorem pk_match {b : Nat × Pm Dc} {em : Bool} {s l d : Nat} (h0 : b.1 = 0) (hb : z.bad = false) (hv : (distP decM (lenP decM b.2 819 s (-2)).2 (lenP decM b.2 819 s (-2)).1 0).2.x ≠ none → l = (lenP decM b.2 819 s (-2)).1 ∧ d = (distP decM (lenP decM b.2 819 s (-2)).2 (lenP decM b.2 819 s (-2)).1 0).1) :
    (distP decM (lenP decM b.2 819 s (-2)).2 (lenP decM b.2 819 s (-2)).1 0).2 = (packK decM (kd2 decM b em z.st s 0) z s pk0).2.2 ∧
    ((distP decM (lenP decM b.2 819 s (-2)).2 (lenP decM b.2 819 s (-2)).1 0).2.x ≠ none → packK decM (kd2 decM b em z.st s 0) z s pk0 = tailP decM (l + 2) (z.fresh d) (distP decM (lenP decM b.2 819 s (-2)).2 (lenP decM b.2 819 s (-2)).1 0).2) := by
  have hk : kd2 decM b em z.st s 0 = (1, false, b.2) := by unfold kd2; rw [if_pos h0]
  have hp : packK decM (kd2 decM b em z.st s 0) z s pk0 = packD decM (lenP decM b.2 819 s (-2)).1 (distP decM (lenP decM b.2 819 s (-2)).2 (lenP decM b.2 819 s (-2)).1 0) { z with bad := z.bad || false, r0 := 0, r1 := z.r0, r2 := z.r1, r3 := z.r2, st := aft 7 10 z.st } := by
    rw [hk]
    rfl
  rw [hp]
  generalize lenP decM b.2 819 s (-2) = B at *
  generalize distP decM B.2 B.1 0 = D at *
  unfold packD
  refine ⟨by rw [tailP_same], fun hx => ?_⟩
  obtain ⟨rfl, rfl⟩ := hv hx
  rw [live_bad hx, hb]
  congr 1
  unfold Lzs.fresh
  rw [Bool.not_false, Bool.and_true, Bool.or_false, hb]
theorem pk_single {b : Nat × Pm Dc} {s : Nat} (h0 : b.1 ≠ 0) (hb : z.bad = false) (h6 : (kd3 decM (bitP decM b.2 (204 + z.st) 0) z.st s 0).1 = 6) :
    packK decM (kd2 decM b false z.st s 0) z s pk0 = tailP decM 1 { z with st := aft 9 11 z.st } (kd3 decM (bitP decM b.2 (204 + z.st) 0) z.st s 0).2.2 := by
  have hk : kd2 decM b false z.st s 0 = kd3 decM (bitP decM b.2 (204 + z.st) 0) z.st s 0 := by unfold kd2; rw [if_neg h0, if_neg (by simp)]; rfl
  have hn : (kd3 decM (bitP decM b.2 (204 + z.st) 0) z.st s 0).2.1 = false := by
    unfold kd3
    split
    · rfl
    · unfold kd4
      split <;> rfl
  rw [hk]
  generalize kd3 decM (bitP decM b.2 (204 + z.st) 0) z.st s 0 = kd at *
  unfold packK
  rw [if_neg (by omega), if_neg (by omega), if_pos h6, hn, hb]
  first
    | (congr 1; done)
    | (congr 1; cases z; simp at hb; simp [hb])
theorem pk_again {b : Nat × Pm Dc} {s l : Nat} (h0 : b.1 ≠ 0) (hb : z.bad = false) (h2 : 2 ≤ (kd3 decM (bitP decM b.2 (204 + z.st) 0) z.st s 0).1) (h5 : (kd3 decM (bitP decM b.2 (204 + z.st) 0) z.st s 0).1 ≤ 5)
    (hv : (lenP decM (kd3 decM (bitP decM b.2 (204 + z.st) 0) z.st s 0).2.2 1333 s (-2)).2.x ≠ none → l = (lenP decM (kd3 decM (bitP decM b.2 (204 + z.st) 0) z.st s 0).2.2 1333 s (-2)).1) :
    (lenP decM (kd3 decM (bitP decM b.2 (204 + z.st) 0) z.st s 0).2.2 1333 s (-2)).2 = (packK decM (kd2 decM b false z.st s 0) z s pk0).2.2 ∧
    ((lenP decM (kd3 decM (bitP decM b.2 (204 + z.st) 0) z.st s 0).2.2 1333 s (-2)).2.x ≠ none → packK decM (kd2 decM b false z.st s 0) z s pk0 = tailP decM (l + 2) { z.again ((kd3 decM (bitP decM b.2 (204 + z.st) 0) z.st s 0).1 - 2) with st := aft 8 11 z.st } (lenP decM (kd3 decM (bitP decM b.2 (204 + z.st) 0) z.st s 0).2.2 1333 s (-2)).2) := by
  have hk : kd2 decM b false z.st s 0 = kd3 decM (bitP decM b.2 (204 + z.st) 0) z.st s 0 := by unfold kd2; rw [if_neg h0, if_neg (by simp)]; rfl
  have hn : (kd3 decM (bitP decM b.2 (204 + z.st) 0) z.st s 0).2.1 = false := by
    unfold kd3
    split
    · rfl
    · unfold kd4
      split <;> rfl
  rw [hk]
  generalize kd3 decM (bitP decM b.2 (204 + z.st) 0) z.st s 0 = kd at *
  have hp : packK decM kd z s pk0 = tailP decM ((lenP decM kd.2.2 1333 s (-2)).1 + 2) { z.again (kd.1 - 2) with st := aft 8 11 z.st } (lenP decM kd.2.2 1333 s (-2)).2 := by
    unfold packK
    rw [if_neg (by omega), if_neg (by omega), if_neg (by omega), hn, hb]
    unfold packR
    congr 1
    cases z
    simp at hb
    subst hb
    rfl
  rw [hp]
  exact ⟨by rw [tailP_same], fun hx => by rw [hv hx]⟩
theorem pk_empty {b : Nat × Pm Dc} {s : Nat} (h0 : b.1 ≠ 0) : b.2 = (packK decM (kd2 decM b true z.st s 0) z s pk0).2.2 ∧ (packK decM (kd2 decM b true z.st s 0) z s pk0).2.1.bad = true := by
  have hk : kd2 decM b true z.st s 0 = (6, true, b.2) := by unfold kd2; rw [if_neg h0, if_pos rfl]
  rw [hk]
  unfold packK
  rw [if_neg (by show ¬ 6 = 0; omega), if_neg (by show ¬ 6 = 1; omega), if_pos rfl]
  refine ⟨by rw [tailP_same], ?_⟩
  unfold tailP
  rw [if_pos (by simp)]
  simp

set_option maxRecDepth 100000 in
set_option maxHeartbeats 16000000 in
theorem lcopies_any {s N : Nat} (h : Lw K w Gw z t 0) (hz : ZNear z (1847 + K.nl) N) (hN : N ≤ 1000000) (hf : Fit K z) (hs : s = z.out.length % 2 ^ z.pb) (hb : z.bad = false) (he : z.ended = false) :
    Calls Tryz.prog 108 #[.pointer (some ⟨K.g, 0, none⟩)] w (CopiesPost K w Gw z N (packK decM (kd2 decM (bitP decM t (192 + z.st) 0) (decide (z.out.length = 0)) z.st s 0) z s pk0)) := by
  have hst0 := hz.st
  have hpb := hz.pb
  have hout : z.out.length ≤ 1000000 := Nat.le_trans hz.out hN
  have KB := Lib.hid ((h.drewN 1).bit (a := 192 + z.st) (b := K.g) (i := 399 + z.st) 0 (Kon.ad_rep (by omega) (by omega) (by omega)) (by omega))
  have c10 := h.f.c10
  have c5 := h.f.c5
  obtain ⟨B, hB⟩ : ∃ B, B = bitP decM t (192 + z.st) 0 := ⟨_, rfl⟩
  rw [← hB] at KB ⊢
  obtain ⟨st, hst⟩ : ∃ st, st = z.st := ⟨_, rfl⟩
  have HOUT := Lib.hid (And.intro hz (And.intro hN (And.intro hf (And.intro hs (And.intro hb (And.intro he (And.intro hst0 (And.intro hpb hout))))))))
  rw [← hst] at c10 KB
  have i1 : (st : Int) < 12 := by omega
  have i0 : (0 : Int) ≤ (st : Int) := by omega
  have HST := Lib.hid hst
  by_cases hu : B.1 = 0
  · have hu2 : ((B.1 : Int) == 0) = true := by simp [hu]
    have HU := Lib.hid hu
    clear h hst hs hB hst0 hpb hout hz hf hb he hu
    go_enter Tryz.func108, Tryz.ntmps108
    go_wp2_with fail
    go_still_tail 13, (by kernel_rfl)
    change wpList _ _ _ _ _ w.drew
    go_wp2_with fail
    refine KB.out.mono ?_
    rintro e w2 ⟨rfl, hz2, ho2⟩
    have HO2 := Lib.hid (Only.of_drewN ho2)
    have HZ2 := Lib.hid hz2
    clear hz2 ho2 KB c5 c10
    have KM := Lib.hid (lmatch_any (s := s) (-2) 0 HZ2.out HOUT.out.2.2.2.2.2.2.2.1 HOUT.out.2.2.2.2.2.2.2.2 HOUT.out.2.2.2.1 (by decide))
    go_wp2_with fail
    refine KM.out.mono ?_
    rintro e w3 ⟨l, d, ⟨rfl, hz3, ho3⟩, hl, hd, hlv⟩
    have HZ3 := Lib.hid hz3
    have HO3 := Lib.hid (HO2.out.trans ho3)
    obtain ⟨n, hn⟩ : ∃ n, n = l + 2 := ⟨_, rfl⟩
    have HR := pk_match (z := z) (s := s) (em := decide (z.out.length = 0)) (l := l) (d := d) HU.out HOUT.out.2.2.2.2.1 hlv
    rw [← hn] at HR
    rw [← hn]
    have HR := Lib.hid HR
    have HLV := Lib.hid (show 1 ≤ n ∧ n ≤ 273 by omega)
    have HDD := Lib.hid hd
    clear hz3 ho3 KM hl hd hlv hn
    have x5 := HZ3.out.f.c5
    have KQ := Lib.hid HZ3.out.isBad
    by_cases hd : ((distP decM (lenP decM B.2 819 s (-2)).2 (lenP decM B.2 819 s (-2)).1 0).2).x = none
    · rw [dead_bad hd] at KQ
      have HD := Lib.hid hd
      clear hd
      go_wp2_with fail
      refine KQ.out.mono ?_
      rintro e q1 ⟨rfl, rfl⟩
      clear KQ
      go_wp2_with fail
      first | go_end0 | refine bodyPost_ret (results_none rfl _ _ _) rfl ?_
      exact ⟨_, _, 0, ⟨rfl, HZ3.out, HO3.out⟩, rfl, rfl, near_fresh HOUT.out.1 HDD.out, out_dead (HR.out.1) HD.out⟩
    · rw [live_bad hd] at KQ
      have xe := HZ3.out.f.ended
      have HD := Lib.hid hd
      clear hd
      obtain ⟨en, hen⟩ : ∃ en, en = (z.fresh d).ended := ⟨_, rfl⟩
      rw [← hen] at xe
      have HEN := Lib.hid hen
      clear hen
      cases en with
      | true =>
        go_wp2_with fail
        refine KQ.out.mono ?_
        rintro e q1 ⟨rfl, rfl⟩
        clear KQ
        go_wp2_with fail
        first | go_end0 | refine bodyPost_ret (results_none rfl _ _ _) rfl ?_
        exact ⟨_, _, 0, ⟨rfl, HZ3.out, HO3.out⟩, rfl, rfl, near_fresh HOUT.out.1 HDD.out, out_ended (HR.out.2 HD.out) (HOUT.out.2.2.2.2.1) HD.out HEN.out.symm⟩
      | false =>
        have x6 := HZ3.out.f.c6
        have x11 := HZ3.out.f.c11
        have KH := Lib.hid (fun n => (HZ3.out.drewN n).has (by exact HOUT.out.2.2.1) (z.fresh d).r0)
        obtain ⟨hh, hhe⟩ : ∃ hh, hh = (z.fresh d).has (z.fresh d).r0 := ⟨_, rfl⟩
        rw [← hhe] at KH
        have HH := Lib.hid hhe
        obtain ⟨r0, hr0⟩ : ∃ r0, r0 = (z.fresh d).r0 := ⟨_, rfl⟩
        have hr032 : r0 < 4294967296 := by rw [hr0]; exact (near_fresh HOUT.out.1 HDD.out).r0
        rw [← hr0] at x11 KH
        have y0 : IntKind.i64.wrap (r0 : Int) = (r0 : Int) := IntWalk.i64_in _ (by omega)
        clear hr0 hr032 hhe
        cases hh with
        | true =>
          have x63 := HZ3.out.f.left
          have y63 := HZ3.out.f.fz 1863
          have HF := Lib.hid (fun dn => (HZ3.out.drewN dn).put 16 (by decide) (.int .i64 ((n : Nat) : Int)) (z' := z.fresh d) (left' := n) rfl rfl)
          have HFO := Lib.hid (fun dn => (HO3.out.drewN dn).own_put 16 (.int .i64 ((n : Nat) : Int)))
          go_wp2_with fail
          refine KQ.out.mono ?_
          rintro e q1 ⟨rfl, rfl⟩
          clear KQ
          go_wp2_with fail
          go_quiet ((go_at_call 145; exact quiet_same_at (KH.out _)))
          go_wp2_with fail
          first | go_end0 | refine bodyPost_ret (results_none rfl _ _ _) rfl ?_
          exact ⟨_, _, _, ⟨rfl, HF.out _, HFO.out _⟩, rfl, rfl, near_fresh HOUT.out.1 HDD.out, out_live (HR.out.2 HD.out) (HOUT.out.2.2.2.2.1) HD.out HEN.out.symm HH.out.symm (by have := HLV.out; omega) (by have := HLV.out; omega)⟩
        | false =>
          have x65 := HZ3.out.f.bad
          have y65 := HZ3.out.f.fz 1865
          have HF := Lib.hid (fun dn => (HZ3.out.drewN dn).put 18 (by decide) (.bool true) (z' := { z.fresh d with bad := true }) (left' := 0) rfl rfl)
          have HFO := Lib.hid (fun dn => (HO3.out.drewN dn).own_put 18 (.bool true))
          go_wp2_with fail
          refine KQ.out.mono ?_
          rintro e q1 ⟨rfl, rfl⟩
          clear KQ
          go_wp2_with fail
          go_quiet ((go_at_call 145; exact quiet_same_at (KH.out _)))
          go_wp2_with fail
          first | go_end0 | refine bodyPost_ret (results_none rfl _ _ _) rfl ?_
          exact ⟨_, _, 0, ⟨rfl, HF.out _, HFO.out _⟩, rfl, rfl, near_bad (near_fresh HOUT.out.1 HDD.out) true, out_none (HR.out.2 HD.out) (HOUT.out.2.2.2.2.1) HD.out HEN.out.symm HH.out.symm (by have := HLV.out; omega)⟩
  · have hu2 : ((B.1 : Int) == 0) = false := by simp; omega
    have HU := Lib.hid hu
    by_cases hem : z.out.length = 0
    · have em1 : decide (z.out.length = 0) = true := by simp [hem]
      rw [em1]
      have KN := Lib.hid (fun (w1 : World) (h1 : Lw K w1 Gw z B.2 0) => wcount_any h1.win)
      have hc : ((⟨K.sz, z.out, false⟩ : Ws).count : Int) = 0 := by rw [fit_count hf, hem]; simp
      rw [hc] at KN
      have HEM := Lib.hid hem
      clear h hst hs hB hst0 hpb hout hz hf hb he hu hem em1 hc
      go_enter Tryz.func108, Tryz.ntmps108
      go_wp2_with fail
      go_still_tail 13, (by kernel_rfl)
      change wpList _ _ _ _ _ w.drew
      go_wp2_with fail
      refine KB.out.mono ?_
      rintro e w2 ⟨rfl, hz2, ho2⟩
      have HO2 := Lib.hid (Only.of_drewN ho2)
      have HZ2 := Lib.hid hz2
      clear hz2 ho2 KB c5 c10
      have x6 := HZ2.out.f.c6
      have KN2 := Lib.hid (KN.out _ HZ2.out)
      go_wp2_with fail
      refine KN2.out.mono ?_
      rintro e w3 ⟨rfl, rfl⟩
      clear KN KN2 x6
      have x5 := HZ2.out.f.c5
      have KQ := Lib.hid HZ2.out.isBad
      by_cases hd : (B.2).x = none
      · rw [dead_bad hd] at KQ
        have HD := Lib.hid hd
        clear hd
        go_wp2_with fail
        refine KQ.out.mono ?_
        rintro e q1 ⟨rfl, rfl⟩
        clear KQ
        go_wp2_with fail
        first | go_end0 | refine bodyPost_ret (results_none rfl _ _ _) rfl ?_
        exact ⟨_, _, 0, ⟨rfl, HZ2.out, HO2.out⟩, rfl, rfl, HOUT.out.1, out_dead ((pk_empty (s := s) HU.out).1) HD.out⟩
      · rw [live_bad hd] at KQ
        have xe := HZ2.out.f.ended
        have HD := Lib.hid hd
        clear hd
        rw [HOUT.out.2.2.2.2.2.1] at xe
        have x6 := HZ2.out.f.c6
        have x11 := HZ2.out.f.c11
        have KH := Lib.hid (fun n => (HZ2.out.drewN n).has (by exact HOUT.out.2.2.1) (z).r0)
        obtain ⟨hh, hhe⟩ : ∃ hh, hh = (z).has (z).r0 := ⟨_, rfl⟩
        rw [← hhe] at KH
        have HH := Lib.hid hhe
        obtain ⟨r0, hr0⟩ : ∃ r0, r0 = (z).r0 := ⟨_, rfl⟩
        have hr032 : r0 < 4294967296 := by rw [hr0]; exact (HOUT.out.1).r0
        rw [← hr0] at x11 KH
        have y0 : IntKind.i64.wrap (r0 : Int) = (r0 : Int) := IntWalk.i64_in _ (by omega)
        clear hr0 hr032 hhe
        obtain rfl : hh = false := by
          rw [HH.out]
          unfold Lzs.has
          have := HEM.out
          simp
          omega
        have x65 := HZ2.out.f.bad
        have y65 := HZ2.out.f.fz 1865
        have HF := Lib.hid (fun dn => (HZ2.out.drewN dn).put 18 (by decide) (.bool true) (z' := { z with bad := true }) (left' := 0) rfl rfl)
        have HFO := Lib.hid (fun dn => (HO2.out.drewN dn).own_put 18 (.bool true))
        go_wp2_with fail
        refine KQ.out.mono ?_
        rintro e q1 ⟨rfl, rfl⟩
        clear KQ
        go_wp2_with fail
        go_quiet ((go_at_call 145; exact quiet_same_at (KH.out _)))
        go_wp2_with fail
        first | go_end0 | refine bodyPost_ret (results_none rfl _ _ _) rfl ?_
        exact ⟨_, _, 0, ⟨rfl, HF.out _, HFO.out _⟩, rfl, rfl, near_bad (HOUT.out.1) true, (pk_empty (s := s) HU.out).1, .inr (.inl ⟨HD.out, (pk_empty (s := s) HU.out).2, rfl, HOUT.out.2.2.2.2.2.1, rfl⟩)⟩
    · have em1 : decide (z.out.length = 0) = false := decide_eq_false hem
      rw [em1]
      have KN := Lib.hid (fun (w1 : World) (h1 : Lw K w1 Gw z B.2 0) => wcount_any h1.win)
      obtain ⟨cn, hcn⟩ : ∃ cn, cn = (⟨K.sz, z.out, false⟩ : Ws).count := ⟨_, rfl⟩
      rw [← hcn] at KN
      have hc : (cn : Int) > 0 := by rw [hcn, fit_count hf]; have := hf.1; omega
      clear h hst hs hB hst0 hpb hout hz hf hb he hu hem em1 hcn
      go_enter Tryz.func108, Tryz.ntmps108
      go_wp2_with fail
      go_still_tail 13, (by kernel_rfl)
      change wpList _ _ _ _ _ w.drew
      go_wp2_with fail
      refine KB.out.mono ?_
      rintro e w2 ⟨rfl, hz2, ho2⟩
      have HO2 := Lib.hid (Only.of_drewN ho2)
      have HZ2 := Lib.hid hz2
      clear hz2 ho2 KB c5 c10
      have x6 := HZ2.out.f.c6
      have KN2 := Lib.hid (KN.out _ HZ2.out)
      have KM := Lib.hid (lagain_any (s := s) (-2) HZ2.out HOUT.out.2.2.2.2.2.2.1 HOUT.out.2.2.2.2.2.2.2.1 HOUT.out.2.2.2.2.2.2.2.2 HOUT.out.2.2.2.1)
      go_wp2_with fail
      refine KN2.out.mono ?_
      rintro e w3 ⟨rfl, rfl⟩
      clear KN KN2 x6
      go_wp2_with fail
      refine KM.out.mono ?_
      clear KM
      rintro e w3 (⟨h6, rfl, hz3, ho3⟩ | ⟨h2, h5, l, ⟨rfl, hz3, ho3⟩, hl, hlv⟩)
      · have HZ3 := Lib.hid hz3
        have HO3 := Lib.hid (HO2.out.trans ho3)
        have HR := Lib.hid (pk_single (z := z) (s := s) HU.out HOUT.out.2.2.2.2.1 h6)
        clear hz3 ho3 h6
        have x5 := HZ3.out.f.c5
        have KQ := Lib.hid HZ3.out.isBad
        by_cases hd : ((kd3 decM (bitP decM B.2 (204 + z.st) 0) z.st s 0).2.2).x = none
        · rw [dead_bad hd] at KQ
          have HD := Lib.hid hd
          clear hd
          go_wp2_with fail
          refine KQ.out.mono ?_
          rintro e q1 ⟨rfl, rfl⟩
          clear KQ
          go_wp2_with fail
          first | go_end0 | refine bodyPost_ret (results_none rfl _ _ _) rfl ?_
          exact ⟨_, _, 0, ⟨rfl, HZ3.out, HO3.out⟩, rfl, rfl, near_single HOUT.out.1, out_dead (by rw [HR.out, tailP_same]) HD.out⟩
        · rw [live_bad hd] at KQ
          have xe := HZ3.out.f.ended
          have HD := Lib.hid hd
          clear hd
          obtain ⟨en, hen⟩ : ∃ en, en = (({ z with st := aft 9 11 z.st } : Lzs)).ended := ⟨_, rfl⟩
          rw [← hen] at xe
          have HEN := Lib.hid hen
          clear hen
          cases en with
          | true =>
            go_wp2_with fail
            refine KQ.out.mono ?_
            rintro e q1 ⟨rfl, rfl⟩
            clear KQ
            go_wp2_with fail
            first | go_end0 | refine bodyPost_ret (results_none rfl _ _ _) rfl ?_
            exact ⟨_, _, 0, ⟨rfl, HZ3.out, HO3.out⟩, rfl, rfl, near_single HOUT.out.1, out_ended (HR.out) (HOUT.out.2.2.2.2.1) HD.out HEN.out.symm⟩
          | false =>
            have x6 := HZ3.out.f.c6
            have x11 := HZ3.out.f.c11
            have KH := Lib.hid (fun n => (HZ3.out.drewN n).has (by exact HOUT.out.2.2.1) (({ z with st := aft 9 11 z.st } : Lzs)).r0)
            obtain ⟨hh, hhe⟩ : ∃ hh, hh = (({ z with st := aft 9 11 z.st } : Lzs)).has (({ z with st := aft 9 11 z.st } : Lzs)).r0 := ⟨_, rfl⟩
            rw [← hhe] at KH
            have HH := Lib.hid hhe
            obtain ⟨r0, hr0⟩ : ∃ r0, r0 = (({ z with st := aft 9 11 z.st } : Lzs)).r0 := ⟨_, rfl⟩
            have hr032 : r0 < 4294967296 := by rw [hr0]; exact (near_single HOUT.out.1).r0
            rw [← hr0] at x11 KH
            have y0 : IntKind.i64.wrap (r0 : Int) = (r0 : Int) := IntWalk.i64_in _ (by omega)
            clear hr0 hr032 hhe
            cases hh with
            | true =>
              have x63 := HZ3.out.f.left
              have y63 := HZ3.out.f.fz 1863
              have HF := Lib.hid (fun dn => (HZ3.out.drewN dn).put 16 (by decide) (.int .i64 ((1 : Nat) : Int)) (z' := ({ z with st := aft 9 11 z.st } : Lzs)) (left' := 1) rfl rfl)
              have HFO := Lib.hid (fun dn => (HO3.out.drewN dn).own_put 16 (.int .i64 ((1 : Nat) : Int)))
              go_wp2_with fail
              refine KQ.out.mono ?_
              rintro e q1 ⟨rfl, rfl⟩
              clear KQ
              go_wp2_with fail
              go_quiet ((go_at_call 145; exact quiet_same_at (KH.out _)))
              go_wp2_with fail
              first | go_end0 | refine bodyPost_ret (results_none rfl _ _ _) rfl ?_
              exact ⟨_, _, _, ⟨rfl, HF.out _, HFO.out _⟩, rfl, rfl, near_single HOUT.out.1, out_live (HR.out) (HOUT.out.2.2.2.2.1) HD.out HEN.out.symm HH.out.symm (by omega) (by omega)⟩
            | false =>
              have x65 := HZ3.out.f.bad
              have y65 := HZ3.out.f.fz 1865
              have HF := Lib.hid (fun dn => (HZ3.out.drewN dn).put 18 (by decide) (.bool true) (z' := { ({ z with st := aft 9 11 z.st } : Lzs) with bad := true }) (left' := 0) rfl rfl)
              have HFO := Lib.hid (fun dn => (HO3.out.drewN dn).own_put 18 (.bool true))
              go_wp2_with fail
              refine KQ.out.mono ?_
              rintro e q1 ⟨rfl, rfl⟩
              clear KQ
              go_wp2_with fail
              go_quiet ((go_at_call 145; exact quiet_same_at (KH.out _)))
              go_wp2_with fail
              first | go_end0 | refine bodyPost_ret (results_none rfl _ _ _) rfl ?_
              exact ⟨_, _, 0, ⟨rfl, HF.out _, HFO.out _⟩, rfl, rfl, near_bad (near_single HOUT.out.1) true, out_none (HR.out) (HOUT.out.2.2.2.2.1) HD.out HEN.out.symm HH.out.symm (by omega)⟩
      · have HZ3 := Lib.hid hz3
        have HO3 := Lib.hid (HO2.out.trans ho3)
        obtain ⟨n, hn⟩ : ∃ n, n = l + 2 := ⟨_, rfl⟩
        have HR := pk_again (z := z) (s := s) (l := l) HU.out HOUT.out.2.2.2.2.1 h2 h5 hlv
        rw [← hn] at HR
        rw [← hn]
        have HR := Lib.hid HR
        have HLV := Lib.hid (show 1 ≤ n ∧ n ≤ 273 by omega)
        clear hz3 ho3 h2 h5 hl hlv hn
        have x5 := HZ3.out.f.c5
        have KQ := Lib.hid HZ3.out.isBad
        by_cases hd : ((lenP decM (kd3 decM (bitP decM B.2 (204 + z.st) 0) z.st s 0).2.2 1333 s (-2)).2).x = none
        · rw [dead_bad hd] at KQ
          have HD := Lib.hid hd
          clear hd
          go_wp2_with fail
          refine KQ.out.mono ?_
          rintro e q1 ⟨rfl, rfl⟩
          clear KQ
          go_wp2_with fail
          first | go_end0 | refine bodyPost_ret (results_none rfl _ _ _) rfl ?_
          exact ⟨_, _, 0, ⟨rfl, HZ3.out, HO3.out⟩, rfl, rfl, near_again HOUT.out.1, out_dead (HR.out.1) HD.out⟩
        · rw [live_bad hd] at KQ
          have xe := HZ3.out.f.ended
          have HD := Lib.hid hd
          clear hd
          obtain ⟨en, hen⟩ : ∃ en, en = (({ z.again ((kd3 decM (bitP decM B.2 (204 + z.st) 0) z.st s 0).1 - 2) with st := aft 8 11 z.st } : Lzs)).ended := ⟨_, rfl⟩
          rw [← hen] at xe
          have HEN := Lib.hid hen
          clear hen
          cases en with
          | true =>
            go_wp2_with fail
            refine KQ.out.mono ?_
            rintro e q1 ⟨rfl, rfl⟩
            clear KQ
            go_wp2_with fail
            first | go_end0 | refine bodyPost_ret (results_none rfl _ _ _) rfl ?_
            exact ⟨_, _, 0, ⟨rfl, HZ3.out, HO3.out⟩, rfl, rfl, near_again HOUT.out.1, out_ended (HR.out.2 HD.out) (HOUT.out.2.2.2.2.1) HD.out HEN.out.symm⟩
          | false =>
            have x6 := HZ3.out.f.c6
            have x11 := HZ3.out.f.c11
            have KH := Lib.hid (fun n => (HZ3.out.drewN n).has (by exact HOUT.out.2.2.1) (({ z.again ((kd3 decM (bitP decM B.2 (204 + z.st) 0) z.st s 0).1 - 2) with st := aft 8 11 z.st } : Lzs)).r0)
            obtain ⟨hh, hhe⟩ : ∃ hh, hh = (({ z.again ((kd3 decM (bitP decM B.2 (204 + z.st) 0) z.st s 0).1 - 2) with st := aft 8 11 z.st } : Lzs)).has (({ z.again ((kd3 decM (bitP decM B.2 (204 + z.st) 0) z.st s 0).1 - 2) with st := aft 8 11 z.st } : Lzs)).r0 := ⟨_, rfl⟩
            rw [← hhe] at KH
            have HH := Lib.hid hhe
            obtain ⟨r0, hr0⟩ : ∃ r0, r0 = (({ z.again ((kd3 decM (bitP decM B.2 (204 + z.st) 0) z.st s 0).1 - 2) with st := aft 8 11 z.st } : Lzs)).r0 := ⟨_, rfl⟩
            have hr032 : r0 < 4294967296 := by rw [hr0]; exact (near_again HOUT.out.1).r0
            rw [← hr0] at x11 KH
            have y0 : IntKind.i64.wrap (r0 : Int) = (r0 : Int) := IntWalk.i64_in _ (by omega)
            clear hr0 hr032 hhe
            cases hh with
            | true =>
              have x63 := HZ3.out.f.left
              have y63 := HZ3.out.f.fz 1863
              have HF := Lib.hid (fun dn => (HZ3.out.drewN dn).put 16 (by decide) (.int .i64 ((n : Nat) : Int)) (z' := ({ z.again ((kd3 decM (bitP decM B.2 (204 + z.st) 0) z.st s 0).1 - 2) with st := aft 8 11 z.st } : Lzs)) (left' := n) rfl rfl)
              have HFO := Lib.hid (fun dn => (HO3.out.drewN dn).own_put 16 (.int .i64 ((n : Nat) : Int)))
              go_wp2_with fail
              refine KQ.out.mono ?_
              rintro e q1 ⟨rfl, rfl⟩
              clear KQ
              go_wp2_with fail
              go_quiet ((go_at_call 145; exact quiet_same_at (KH.out _)))
              go_wp2_with fail
              first | go_end0 | refine bodyPost_ret (results_none rfl _ _ _) rfl ?_
              exact ⟨_, _, _, ⟨rfl, HF.out _, HFO.out _⟩, rfl, rfl, near_again HOUT.out.1, out_live (HR.out.2 HD.out) (HOUT.out.2.2.2.2.1) HD.out HEN.out.symm HH.out.symm (by have := HLV.out; omega) (by have := HLV.out; omega)⟩
            | false =>
              have x65 := HZ3.out.f.bad
              have y65 := HZ3.out.f.fz 1865
              have HF := Lib.hid (fun dn => (HZ3.out.drewN dn).put 18 (by decide) (.bool true) (z' := { ({ z.again ((kd3 decM (bitP decM B.2 (204 + z.st) 0) z.st s 0).1 - 2) with st := aft 8 11 z.st } : Lzs) with bad := true }) (left' := 0) rfl rfl)
              have HFO := Lib.hid (fun dn => (HO3.out.drewN dn).own_put 18 (.bool true))
              go_wp2_with fail
              refine KQ.out.mono ?_
              rintro e q1 ⟨rfl, rfl⟩
              clear KQ
              go_wp2_with fail
              go_quiet ((go_at_call 145; exact quiet_same_at (KH.out _)))
              go_wp2_with fail
              first | go_end0 | refine bodyPost_ret (results_none rfl _ _ _) rfl ?_
              exact ⟨_, _, 0, ⟨rfl, HF.out _, HFO.out _⟩, rfl, rfl, near_bad (near_again HOUT.out.1) true, out_none (HR.out.2 HD.out) (HOUT.out.2.2.2.2.1) HD.out HEN.out.symm HH.out.symm (by have := HLV.out; omega)⟩
end
end Go.Proofs.YtoencondpbkomaaGreatDoor
