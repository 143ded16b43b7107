/-
  LwMatch, LwAgain: put together.
-/
import Derived.Test.YtoencondpbkomaaGreatDoorT16
import Derived.Deep.RegionLaw
import Derived.Deep.RegionHeld3
set_option linter.unusedVariables false
set_option linter.unusedSimpArgs false
/-
  The program's decoder of LZMA: a match with a new distance.
-/
namespace Go.Proofs.YtoencondpbkomaaGreatDoor
open Go.RowKit

/-- a new distance comes first -/
def Lzs.fresh (z : Lzs) (d : Nat) : Lzs := { z with r0 := d, r1 := z.r0, r2 := z.r1, r3 := z.r2, st := aft 7 10 z.st, ended := decide (d = 4294967295) }
def MatchPost (K : Kon) (w : World) (Gw : Nat → Prop) (z : Lzs) (B : Nat × Pm Dc) (v : Nat) (left : Nat) (e : Ending) (w' : World) : Prop :=
  ∃ l d : Nat, MidPost K w Gw (.int .i64 ((l + 2 : Nat) : Int)) (z.fresh d) (distP decM B.2 B.1 v).2 left e w' ∧ l < 272 ∧ d < 4294967296 ∧ ((distP decM B.2 B.1 v).2.x ≠ none → l = B.1 ∧ d = (distP decM B.2 B.1 v).1)

section
variable {K : Kon} {w w' : World} {Gw : Nat → Prop} {z : Lzs} {t : Pm Dc} {left : Nat}

theorem dist_same {B : Nat × Pm Dc} {l v : Nat} (h : B.2.x ≠ none → l = B.1) : (distP decM B.2 l v).2 = (distP decM B.2 B.1 v).2 ∧ ((distP decM B.2 B.1 v).2.x ≠ none → l = B.1) := by
  by_cases hd : B.2.x = none
  · rw [distP_none hd, distP_none hd]
    exact ⟨rfl, fun h2 => absurd hd h2⟩
  · rw [h hd]
    exact ⟨rfl, fun _ => rfl⟩

set_option maxRecDepth 100000 in
set_option maxHeartbeats 4000000 in
theorem lmatch_any {s : Nat} (u : Int) (v : Nat) (h : Lw K w Gw z t left) (hp : z.pb ≤ 4) (ho : z.out.length ≤ 1000000) (hs : s = z.out.length % 2 ^ z.pb) (hv : v < 4294967296) :
    Calls Tryz.prog 142 #[.pointer (some ⟨K.g, 0, none⟩)] w (MatchPost K w Gw z (lenP decM t 819 s u) v left) := by
  have KL := Lib.hid (llen_any (A := 819) (o := 578) (v := u) h hp ho (by omega) (by omega) rfl hs)
  obtain ⟨B, hB⟩ : ∃ B, B = lenP decM t 819 s u := ⟨_, rfl⟩
  rw [← hB] at KL ⊢
  have HV := Lib.hid hv
  have HS := Lib.hid (fun (w1 : World) (h1 : Lw K w1 Gw z B.2 left) => (h1.put 10 (by decide) (.int .i64 ((aft 7 10 z.st : Nat) : Int)) (z' := { z with st := aft 7 10 z.st }) rfl rfl))
  obtain ⟨st, hst⟩ : ∃ st, st = z.st := ⟨_, rfl⟩
  have HST := Lib.hid hst
  clear h hp ho hs hB hv hst
  go_enter Tryz.func142, Tryz.ntmps142
  go_wp2_with fail
  refine KL.out.mono ?_
  rintro e w1 ⟨l, ⟨rfl, hz1, ho1⟩, hl, hlv⟩
  have HO1 := Lib.hid (ho1.own_put 10 (.int .i64 ((aft 7 10 z.st : Nat) : Int)))
  have HZ1 := Lib.hid (HS.out w1 hz1)
  have HLV := Lib.hid (And.intro hl hlv)
  have c10 := hz1.f.c10
  rw [← HST.out] at c10
  have z10 := hz1.f.fz 10
  have KC := Lib.hid (pmat_any st w1)
  have e1 : IntKind.i64.wrap ((l : Int) + 2) = ((l + 2 : Nat) : Int) := by rw [show (l : Int) + 2 = ((l + 2 : Nat) : Int) by omega]; exact IntWalk.i64_in _ (by omega)
  have HE1 := Lib.hid e1
  clear hz1 ho1 hl hlv KL HS e1
  go_wp2_with fail
  refine KC.out.mono ?_
  rintro e w2 ⟨rfl, rfl⟩
  clear KC
  go_wp2_with fail
  have ez : (Value.int .i64 ((aft 7 10 st : Nat) : Int)) = .int .i64 ((aft 7 10 z.st : Nat) : Int) := by rw [HST.out]
  rw [show w1.setCell ⟨K.g, 10, none⟩ (.int .i64 ((aft 7 10 st : Nat) : Int)) = w1.setCell ⟨K.g, fat 10, none⟩ (.int .i64 ((aft 7 10 z.st : Nat) : Int)) by rw [ez]; rfl]
  generalize w1.setCell ⟨K.g, fat 10, none⟩ (.int .i64 ((aft 7 10 z.st : Nat) : Int)) = w3 at *
  clear c10 z10 ez
  have KD := Lib.hid (fun n => ldist_any (l := l) v (HZ1.out.drewN n) (by have := HLV.out.1; omega) HV.out)
  have KP := Lib.hid (fun (w5 : World) (d : Nat) (t' : Pm Dc) (h5 : Lw K w5 Gw { z with st := aft 7 10 z.st } t' left) => lpush_any (d := d) h5)
  go_wp2_with fail
  go_region_held3 (fun _ => True) (first | trivial | assumption | go_keep)
    (first
      | (go_at_call 182; refine (KD.out _).mono ?_; rintro e w4 ⟨d, ⟨rfl, hz4, ho4⟩, hd, hdv⟩; have KQ := Lib.hid (KP.out w4 d _ hz4); have HO4 := Lib.hid (Only.of_drewN ho4); have HD := Lib.hid (And.intro hd hdv); clear hz4 ho4 hd hdv KP)
      | (go_at_call 153; refine KQ.out.mono ?_; rintro e w6 ⟨rfl, hz6, ho6⟩; have HZ6 := Lib.hid hz6; have HO6 := Lib.hid (HO1.out.trans (HO4.out.trans ho6)); clear hz6 ho6 KQ))
  have c11 := HZ6.out.f.c11
  have z64 := HZ6.out.f.fz 1864
  have c64 := HZ6.out.f.ended
  have HN := Lib.hid (HZ6.out.put 17 (by decide) (.bool (decide (d = 4294967295))) (z' := z.fresh d) rfl rfl)
  have HNO := Lib.hid (HO6.out.own_put 17 (.bool (decide (d = 4294967295))))
  clear KD HZ1 HO1
  have q1 : ((d : Int) == 4294967295) = decide (d = 4294967295) := by rw [Bool.eq_iff_iff]; simp; omega
  obtain ⟨b, hb⟩ : ∃ b, b = decide (d = 4294967295) := ⟨_, rfl⟩
  rw [← hb] at q1 HN HNO
  have HB := Lib.hid hb
  have e1 := HE1.out
  clear hb HE1
  go_wp2_with fail
  go_ret
  refine ⟨l, d, ⟨rfl, ?_, HNO.out⟩, HLV.out.1, HD.out.1, ?_⟩
  · have := HN.out
    rw [(dist_same HLV.out.2).1] at this
    exact this
  · have h2 := dist_same (v := v) HLV.out.2
    intro hx
    have hl := h2.2 hx
    refine ⟨hl, ?_⟩
    have h3 := HD.out.2 (by rw [h2.1]; exact hx)
    rw [h3, hl]
end
end Go.Proofs.YtoencondpbkomaaGreatDoor

/-
  The program's decoder of LZMA: a packet by an elder distance.
-/
namespace Go.Proofs.YtoencondpbkomaaGreatDoor
open Go.RowKit

def AgainPost (K : Kon) (w : World) (Gw : Nat → Prop) (z : Lzs) (kd : Nat × Bool × Pm Dc) (s : Nat) (u : Int) (left : Nat) (e : Ending) (w' : World) : Prop :=
  (kd.1 = 6 ∧ MidPost K w Gw (.int .i64 ((1 : Nat) : Int)) { z with st := aft 9 11 z.st } kd.2.2 left e w') ∨
  (2 ≤ kd.1 ∧ kd.1 ≤ 5 ∧ ∃ l : Nat, MidPost K w Gw (.int .i64 ((l + 2 : Nat) : Int)) { z.again (kd.1 - 2) with st := aft 8 11 z.st } (lenP decM kd.2.2 1333 s u).2 left e w' ∧ l < 272 ∧ ((lenP decM kd.2.2 1333 s u).2.x ≠ none → l = (lenP decM kd.2.2 1333 s u).1))

section
variable {K : Kon} {w w' : World} {Gw : Nat → Prop} {z : Lzs} {t : Pm Dc} {left : Nat}

theorem elder_kd {e : Ending} (hs : z.st ≤ 11) (hok : PmOk okD (1847 + K.nl) 0 t) (h : ElderPost K w Gw z t left e w') :
    ∃ j : Nat, (kd4 decM (bitP decM t (216 + z.st) 0) z.st 0).1 = j + 2 ∧ 1 ≤ j ∧ j ≤ 3 ∧ MidPost K w Gw (.int .i64 (j : Int)) z (kd4 decM (bitP decM t (216 + z.st) 0) z.st 0).2.2 left e w' := by
  rcases h with ⟨h0, hm⟩ | ⟨h0, hm⟩
  · refine ⟨1, ?_, by omega, by omega, ?_⟩
    · unfold kd4
      rw [if_pos h0]
    · unfold kd4
      rw [if_pos h0]
      exact hm
  · have hb1 := (bitP_ok decM_ok (k := 0) (a := 216 + z.st) (w := 0) (okD_any hok) (by omega) (fun h => by cases h))
    have hb2 := (bitP_ok decM_ok (k := 0) (a := 228 + z.st) (w := 0) (okD_any hb1.2) (by omega) (fun h => by cases h)).1
    refine ⟨2 + (bitP decM (bitP decM t (216 + z.st) 0).2 (228 + z.st) 0).1, ?_, by omega, by omega, ?_⟩
    · unfold kd4
      rw [if_neg h0]
      show (if (bitP decM (bitP decM t (216 + z.st) 0).2 (228 + z.st) 0).1 = 0 then 4 else 5) = _
      split <;> omega
    · unfold kd4
      rw [if_neg h0]
      exact hm

set_option maxRecDepth 100000 in
set_option maxHeartbeats 8000000 in
theorem lagain_any {s : Nat} (u : Int) (h : Lw K w Gw z t left) (hst0 : z.st ≤ 11) (hp : z.pb ≤ 4) (ho : z.out.length ≤ 1000000) (hs : s = z.out.length % 2 ^ z.pb) :
    Calls Tryz.prog 144 #[.pointer (some ⟨K.g, 0, none⟩)] w (AgainPost K w Gw z (kd3 decM (bitP decM t (204 + z.st) 0) z.st s 0) s u left) := by
  have hs15 : s ≤ 15 := by rw [hs]; exact mod_pb hp
  have hb1 := (bitP_ok decM_ok (k := 0) (a := 204 + z.st) (w := 0) (okD_any h.mch.ok) (by omega) (fun h => by cases h))
  have KB := Lib.hid ((h.drewN 1).bit (a := 204 + z.st) (b := K.g) (i := 411 + z.st) 0 (Kon.ad_rep (by omega) (by omega) (by omega)) (by omega))
  have c10 := h.f.c10
  have c5 := h.f.c5
  obtain ⟨B, hB⟩ : ∃ B, B = bitP decM t (204 + z.st) 0 := ⟨_, rfl⟩
  rw [← hB] at KB hb1 ⊢
  have HOUT := Lib.hid (And.intro hst0 (And.intro hp (And.intro ho hs)))
  have HBO := Lib.hid hb1.2
  obtain ⟨st, hst⟩ : ∃ st, st = z.st := ⟨_, rfl⟩
  rw [← hst] at c10 KB
  have i1 : (st : Int) < 12 := by omega
  have i0 : (0 : Int) ≤ (st : Int) := by omega
  have j1 : (s : Int) < 16 := by omega
  have j0 : (0 : Int) ≤ (s : Int) := by omega
  have HST := Lib.hid hst
  by_cases hu : B.1 = 0
  · have hu2 : ((B.1 : Int) == 1) = false := by rw [hu]; rfl
    have KB2 := Lib.hid (fun (w1 : World) (h1 : Lw K w1 Gw z B.2 left) => h1.bit (a := 240 + 16 * z.st + s) (b := K.g) (i := 207 + z.st * 16 + s) 0 (Kon.ad_long (by omega) (by omega) (by omega)) (by omega))
    have hb2 := (bitP_ok decM_ok (k := 0) (a := 240 + 16 * z.st + s) (w := 0) (okD_any hb1.2) (by omega) (fun h => by cases h)).1
    have hkd : kd3 decM B z.st s 0 = (if (bitP decM B.2 (240 + 16 * z.st + s) 0).1 = 0 then 6 else 2, false, (bitP decM B.2 (240 + 16 * z.st + s) 0).2) := by unfold kd3; rw [if_pos hu]; rfl
    rw [hkd]
    obtain ⟨C, hC⟩ : ∃ C, C = bitP decM B.2 (240 + 16 * z.st + s) 0 := ⟨_, rfl⟩
    rw [← hC] at KB2 hb2 ⊢
    rw [← hst] at KB2
    have KP := Lib.hid (fun (w1 : World) (h1 : Lw K w1 Gw z B.2 left) => lplace_mid h1 hp ho)
    rw [← hs] at KP
    have hB1 : B.1 = 0 := hu
    clear h hst hs hB hst0 hs15 hp ho hkd hC hb1 hu
    by_cases hc : C.1 = 0
    · have hc2 : ((C.1 : Int) == 0) = true := by simp [hc]
      rw [if_pos hc]
      clear hc
      go_enter Tryz.func144, Tryz.ntmps144
      go_wp2_with fail
      go_still_tail 12, (by kernel_rfl)
      change wpList _ _ _ _ _ w.drew
      go_wp2_with fail
      refine KB.out.mono ?_
      rintro e w2 ⟨rfl, hz2, ho2⟩
      have HO2 := Lib.hid (Only.of_drewN ho2)
      have HZ2 := Lib.hid hz2
      clear hz2 ho2 KB c5 c10
      have KP2 := Lib.hid (KP.out _ (HZ2.out.drewN 1))
      have c5 := HZ2.out.f.c5
      have c10 := HZ2.out.f.c10
      rw [← HST.out] at c10
      clear KP
      go_wp2_with fail
      go_region_held3 (fun w' => w'.cell? ⟨K.g, 5, none⟩ = some (.pointer (some ⟨K.dg, 0, none⟩)) ∧ w'.cell? ⟨K.g, 10, none⟩ = some (.int .i64 (st : Int)))
        (first | assumption | go_keep | exact ⟨c5, c10⟩ | exact ⟨f5, f10⟩ | exact ⟨e5, e10⟩)
        (first
          | (go_at_call 135; refine KP2.out.mono ?_; rintro e w3 ⟨rfl, hz3, ho3⟩; have f5 := hz3.f.c5; have f10 := hz3.f.c10; rw [← HST.out] at f10; have HO3 := Lib.hid (HO2.out.trans (Only.of_drewN ho3)); have KC2 := Lib.hid (KB2.out w3 hz3); clear hz3 ho3 KP2)
          | (go_at_call 134; refine KC2.out.mono ?_; rintro e w4 ⟨rfl, hz4, ho4⟩; have e5 := hz4.f.c5; have e10 := hz4.f.c10; rw [← HST.out] at e10; have HZ4 := Lib.hid hz4; have HO4 := Lib.hid (HO3.out.trans ho4); clear hz4 ho4 KC2))
      have z10 := HZ4.out.f.fz 10
      have c10 := HZ4.out.f.c10
      rw [← HST.out] at c10
      have KC := Lib.hid (psing_any st w4)
      have HY := Lib.hid (HZ4.out.put 10 (by decide) (.int .i64 ((aft 9 11 st : Nat) : Int)) (z' := { z with st := aft 9 11 st }) rfl rfl)
      have HYO := Lib.hid (HO4.out.own_put 10 (.int .i64 ((aft 9 11 st : Nat) : Int)))
      go_wp2_with fail
      refine KC.out.mono ?_
      rintro e v2 ⟨rfl, rfl⟩
      clear KC
      go_wp2_with fail
      go_ret
      have hy := HY.out
      have hyo := HYO.out
      rw [HST.out] at hy hyo
      have hrw : Value.int .i64 ((aft 9 11 st : Nat) : Int) = .int .i64 ((aft 9 11 z.st : Nat) : Int) := by rw [HST.out]
      rw [hrw]
      exact .inl ⟨rfl, rfl, hy, hyo⟩
    · have hc2 : ((C.1 : Int) == 0) = false := by simp; omega
      rw [if_neg hc]
      clear hc
      go_enter Tryz.func144, Tryz.ntmps144
      go_wp2_with fail
      go_still_tail 12, (by kernel_rfl)
      change wpList _ _ _ _ _ w.drew
      go_wp2_with fail
      refine KB.out.mono ?_
      rintro e w2 ⟨rfl, hz2, ho2⟩
      have HO2 := Lib.hid (Only.of_drewN ho2)
      have HZ2 := Lib.hid hz2
      clear hz2 ho2 KB c5 c10
      have KP2 := Lib.hid (KP.out _ (HZ2.out.drewN 1))
      have c5 := HZ2.out.f.c5
      have c10 := HZ2.out.f.c10
      rw [← HST.out] at c10
      clear KP
      go_wp2_with fail
      go_region_held3 (fun w' => w'.cell? ⟨K.g, 5, none⟩ = some (.pointer (some ⟨K.dg, 0, none⟩)) ∧ w'.cell? ⟨K.g, 10, none⟩ = some (.int .i64 (st : Int)))
        (first | assumption | go_keep | exact ⟨c5, c10⟩ | exact ⟨f5, f10⟩ | exact ⟨e5, e10⟩)
        (first
          | (go_at_call 135; refine KP2.out.mono ?_; rintro e w3 ⟨rfl, hz3, ho3⟩; have f5 := hz3.f.c5; have f10 := hz3.f.c10; rw [← HST.out] at f10; have HO3 := Lib.hid (HO2.out.trans (Only.of_drewN ho3)); have KC2 := Lib.hid (KB2.out w3 hz3); clear hz3 ho3 KP2)
          | (go_at_call 134; refine KC2.out.mono ?_; rintro e w4 ⟨rfl, hz4, ho4⟩; have e5 := hz4.f.c5; have e10 := hz4.f.c10; rw [← HST.out] at e10; have HZ4 := Lib.hid hz4; have HO4 := Lib.hid (HO3.out.trans ho4); clear hz4 ho4 KC2))
      have hout : (z).out = z.out := rfl
      have KL := Lib.hid (llen_any (A := 1333) (o := 1092) (s := s) (v := u) HZ4.out (by exact HOUT.out.2.1) (by exact HOUT.out.2.2.1) (by omega) (by omega) rfl (by exact HOUT.out.2.2.2))
      clear hout
      go_wp2_with fail
      refine KL.out.mono ?_
      rintro e v1 ⟨l, ⟨rfl, hy1, hq1⟩, hl, hlv⟩
      clear KL
      have HQ1 := Lib.hid (HO4.out.trans hq1)
      have HLV := Lib.hid (And.intro hl hlv)
      have d10 := hy1.f.c10
      rw [show (z).st = st from HST.out.symm] at d10
      have z10 := hy1.f.fz 10
      have KC := Lib.hid (pag_any st v1)
      have HY := Lib.hid (hy1.put 10 (by decide) (.int .i64 ((aft 8 11 st : Nat) : Int)) (z' := { z with st := aft 8 11 st }) rfl rfl)
      have HYO := Lib.hid (HQ1.out.own_put 10 (.int .i64 ((aft 8 11 st : Nat) : Int)))
      have e1 : IntKind.i64.wrap ((l : Int) + 2) = ((l + 2 : Nat) : Int) := by rw [show (l : Int) + 2 = ((l + 2 : Nat) : Int) by omega]; exact IntWalk.i64_in _ (by omega)
      have HE1 := Lib.hid e1
      clear hy1 hq1 hl hlv e1
      go_wp2_with fail
      refine KC.out.mono ?_
      rintro e v2 ⟨rfl, rfl⟩
      clear KC
      have e1 := HE1.out
      go_wp2_with fail
      go_ret
      have hy := HY.out
      have hyo := HYO.out
      rw [HST.out] at hy hyo
      have hrw : Value.int .i64 ((aft 8 11 st : Nat) : Int) = .int .i64 ((aft 8 11 z.st : Nat) : Int) := by rw [HST.out]
      rw [hrw]
      exact .inr ⟨Nat.le_refl 2, (by show 2 ≤ 5; omega), l, ⟨rfl, hy, hyo⟩, HLV.out.1, HLV.out.2⟩
  · have hu1 : B.1 = 1 := by have := hb1.1; omega
    have hu2 : ((B.1 : Int) == 1) = true := by rw [hu1]; rfl
    have hkd : kd3 decM B z.st s 0 = kd4 decM (bitP decM B.2 (216 + z.st) 0) z.st 0 := by unfold kd3; rw [if_neg hu]; rfl
    rw [hkd]
    have KE := Lib.hid (fun (w1 : World) (h1 : Lw K w1 Gw z B.2 left) => lelder_any h1 hst0)
    obtain ⟨C, hC⟩ : ∃ C, C = kd4 decM (bitP decM B.2 (216 + z.st) 0) z.st 0 := ⟨_, rfl⟩
    rw [← hC]
    have HC := Lib.hid hC
    clear h hst hs hB hst0 hs15 hp ho hkd hC hb1 hu
    go_enter Tryz.func144, Tryz.ntmps144
    go_wp2_with fail
    go_still_tail 12, (by kernel_rfl)
    change wpList _ _ _ _ _ w.drew
    go_wp2_with fail
    refine KB.out.mono ?_
    rintro e w2 ⟨rfl, hz2, ho2⟩
    have HO2 := Lib.hid (Only.of_drewN ho2)
    have HZ2 := Lib.hid hz2
    clear hz2 ho2 KB c5 c10
    have KE2 := Lib.hid (fun n => KE.out (w2.drewN n) (HZ2.out.drewN n))
    have KF := Lib.hid (fun (w3 : World) (j : Nat) (t' : Pm Dc) (hj1 : 1 ≤ j) (hj3 : j ≤ 3) (h3 : Lw K w3 Gw z t' left) => lcome_any hj1 hj3 h3)
    clear KE
    go_wp2_with fail
    go_region_held3 (fun _ => True) (first | trivial | assumption | go_keep)
      (first
        | (go_at_call 183; refine (KE2.out _).mono ?_; intro e w3 he3; obtain ⟨j, hj, hj1, hj3, rfl, hz3, ho3⟩ := elder_kd HOUT.out.1 HBO.out he3; rw [← HC.out] at hj hz3; have KG := Lib.hid (KF.out w3 j _ hj1 hj3 hz3); have HO3 := Lib.hid (HO2.out.trans (Only.of_drewN ho3)); have HJ := Lib.hid (And.intro hj (And.intro hj1 hj3)); clear he3 hz3 ho3 hj hj1 hj3 KE2)
        | (go_at_call 154; refine KG.out.mono ?_; rintro e w4 ⟨rfl, hz4, ho4⟩; have HZ4 := Lib.hid hz4; have HO4 := Lib.hid (HO3.out.trans ho4); clear hz4 ho4 KG))
    clear KF
    have hout : (z.again j).out = z.out := rfl
    have KL := Lib.hid (llen_any (A := 1333) (o := 1092) (s := s) (v := u) HZ4.out (by exact HOUT.out.2.1) (by exact HOUT.out.2.2.1) (by omega) (by omega) rfl (by exact HOUT.out.2.2.2))
    clear hout
    go_wp2_with fail
    refine KL.out.mono ?_
    rintro e v1 ⟨l, ⟨rfl, hy1, hq1⟩, hl, hlv⟩
    clear KL
    have HQ1 := Lib.hid (HO4.out.trans hq1)
    have HLV := Lib.hid (And.intro hl hlv)
    have d10 := hy1.f.c10
    rw [show (z.again j).st = st from HST.out.symm] at d10
    have z10 := hy1.f.fz 10
    have KC := Lib.hid (pag_any st v1)
    have HY := Lib.hid (hy1.put 10 (by decide) (.int .i64 ((aft 8 11 st : Nat) : Int)) (z' := { z.again j with st := aft 8 11 st }) rfl rfl)
    have HYO := Lib.hid (HQ1.out.own_put 10 (.int .i64 ((aft 8 11 st : Nat) : Int)))
    have e1 : IntKind.i64.wrap ((l : Int) + 2) = ((l + 2 : Nat) : Int) := by rw [show (l : Int) + 2 = ((l + 2 : Nat) : Int) by omega]; exact IntWalk.i64_in _ (by omega)
    have HE1 := Lib.hid e1
    clear hy1 hq1 hl hlv e1
    go_wp2_with fail
    refine KC.out.mono ?_
    rintro e v2 ⟨rfl, rfl⟩
    clear KC
    have e1 := HE1.out
    go_wp2_with fail
    go_ret
    have hy := HY.out
    have hyo := HYO.out
    rw [HST.out] at hy hyo
    have hrw : Value.int .i64 ((aft 8 11 st : Nat) : Int) = .int .i64 ((aft 8 11 z.st : Nat) : Int) := by rw [HST.out]
    rw [hrw]
    have hj := HJ.out
    have hjj : C.1 - 2 = j := by omega
    refine .inr ⟨by omega, by omega, l, ⟨rfl, ?_, hyo⟩, HLV.out.1, HLV.out.2⟩
    rw [hjj]
    exact hy
end
end Go.Proofs.YtoencondpbkomaaGreatDoor
