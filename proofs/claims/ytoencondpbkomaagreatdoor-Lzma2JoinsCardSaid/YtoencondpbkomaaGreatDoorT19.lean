/-
  LwRw, PkBes, LwBes: put together.
-/
import Derived.Test.YtoencondpbkomaaGreatDoorT18
import Derived.Test.YtoencondpbkomaaGreatDoorT13
set_option linter.unusedVariables false
set_option linter.unusedSimpArgs false
/-
  The program's decoder of LZMA: a literal's row of probabilities.
-/
namespace Go.Proofs.YtoencondpbkomaaGreatDoor
open Go.RowKit

section
variable {K : Kon} {w w' : World} {Gw : Nat → Prop} {z : Lzs} {t : Pm Dc} {left : Nat}
theorem Lw.at_ (h : Lw K w Gw z t left) (hf : Fit K z) (d : Nat) (n : Nat) : Calls Tryz.prog 137 #[.pointer (some ⟨K.wg, 0, none⟩), .int .i64 (d : Int)] (w.drewN n) fun x w' => x = .returned (.int .u8 ((z.back d).toNat : Int)) ∧ ∃ k, (w.drewN n).drewN k = w' := by
  have := wat_any (d := (d : Int)) (h.drewN n).win hf.2.1
  rw [fit_at hf] at this
  exact this

theorem Lw.quiet (h : Lw K w Gw z t left) (hO : Only (fun _ => False) w w') : Lw K w' Gw z t left :=
  ⟨⟨h.mch.sc, h.mch.pd.only h.mch.sc hO (fun _ h => h.elim), (K.prb _ h.ap.gn).only h.mch.row hO (fun _ _ h => h), h.mch.ok⟩, h.win.only hO (fun _ _ h => h), h.ap⟩
/-- the row of a literal's probabilities -/
theorem lrow_call {a N : Nat} (hz : ZNear z (1847 + K.nl) N) (hN : N ≤ 1000000) (ha : litAt z = 1847 + a) (hc : K.nl ≤ K.nc ∧ K.nc ≤ 1000000) (W : World) :
    Calls Tryz.prog 136 #[.slice (some ⟨K.lb, 0, none⟩) K.nc K.nc, .agg #[.int .i64 (z.lc : Int), .int .i64 (z.lp : Int), .int .i64 (z.pb : Int), .int .i64 K.sd], .int .i64 (z.out.length : Int), .int .u8 ((z.back 0).toNat : Int)] W
      fun e w' => e = .returned (.slice (some ⟨K.lb, a, none⟩) 768 (K.nc - a)) ∧ Only (fun _ => False) W w' := by
  have hin := (hz.fine hN).small
  unfold litAt at ha hin
  exact prow_any hz.lc hz.lp (Nat.le_trans hz.out hN) (z.back 0).toNat_lt (by omega) (by omega) (by omega) W
end
end Go.Proofs.YtoencondpbkomaaGreatDoor

/-
  A literal behind a copy: its numbers.
-/
namespace Go.Proofs.YtoencondpbkomaaGreatDoor
open Go.RowKit

theorem u8_of_low (m : Nat) : IntKind.u8.wrap (m : Int) = (((UInt8.ofNat m).toNat : Nat) : Int) := by
  have h : (UInt8.ofNat m).toNat = m % 256 := by simp
  rw [h]
  simp [IntKind.wrap, IntKind.bits, IntKind.signed]
theorem u8_less (m : Nat) (h : 256 ≤ m) : IntKind.u8.wrap ((m : Int) - 256) = (((UInt8.ofNat m).toNat : Nat) : Int) := by
  rw [show (m : Int) - 256 = ((m - 256 : Nat) : Int) by omega, u8_of_low]
  have : UInt8.ofNat (m - 256) = UInt8.ofNat m := by
    apply UInt8.toNat_inj.1
    simp
    omega
  rw [this]
theorem and_one (x : Nat) (h : x < 9223372036854775808) : bits .and .i64 (x : Int) 1 = ((x % 2 : Nat) : Int) := by
  show IntKind.i64.wrap ((BitVec.ofInt 64 (x : Int) &&& BitVec.ofInt 64 ((1 : Nat) : Int)).toNat : Int) = _
  rw [BitVec.toNat_and, ofInt_w64 x (by omega), ofInt_w64 1 (by omega), Nat.and_one_is_mod]
  exact IntWalk.i64_in _ (by omega)
theorem bit_shr (v : UInt8) (k : Nat) : bits .and .i64 (wrap64 (v.toNat : Int) / 2 ^ k) 1 = ((bitOf v.toNat k : Nat) : Int) := by
  have hv := v.toNat_lt
  rw [shr_nat v.toNat k (by omega), and_one _ (by have := Nat.div_le_self v.toNat (2 ^ k); omega)]
  rfl
theorem bes_facts {y m idx p1 p2 : Nat} (hy : y ≤ 1) (hm : m < 256) (h1 : p1 = 1 + y) (h2 : p2 = p1 * 256) (hi : idx = p2 + m) :
    IntKind.i64.wrap (1 + (y : Int)) = (p1 : Int) ∧ IntKind.i64.wrap ((p1 : Int) * 256) = (p2 : Int) ∧ IntKind.i64.wrap ((p2 : Int) + (m : Int)) = (idx : Int) ∧ (0 : Int) ≤ (idx : Int) ∧ (idx : Int) < 768 := by
  refine ⟨?_, ?_, ?_, by omega, by omega⟩
  · rw [show 1 + (y : Int) = (p1 : Int) by omega]; exact IntWalk.i64_in _ (by omega)
  · rw [show (p1 : Int) * 256 = (p2 : Int) by omega]; exact IntWalk.i64_in _ (by omega)
  · rw [show (p2 : Int) + (m : Int) = (idx : Int) by omega]; exact IntWalk.i64_in _ (by omega)

theorem lt_256 {m j : Nat} (h : m < 2 ^ (j + 1)) (hj : j < 8) : m < 256 := Nat.lt_of_lt_of_le h (Nat.le_trans (Nat.pow_le_pow_right (by decide) hj) (by decide))
theorem bes_wraps {m b : Nat} (hm : m < 256) (hb : b ≤ 1) : IntKind.i64.wrap (2 * (m : Int)) = 2 * (m : Int) ∧ IntKind.i64.wrap (2 * (m : Int) + (b : Int)) = ((2 * m + b : Nat) : Int) := by
  refine ⟨IntWalk.i64_in _ (by omega), ?_⟩
  rw [show 2 * (m : Int) + (b : Int) = ((2 * m + b : Nat) : Int) by omega]
  exact IntWalk.i64_in _ (by omega)
theorem bes_seven {j : Nat} (hj : j < 8) : IntKind.i64.wrap (7 - (j : Int)) = ((7 - j : Nat) : Int) := by
  rw [show 7 - (j : Int) = ((7 - j : Nat) : Int) by omega]
  exact IntWalk.i64_in _ (by omega)
theorem bes_at {A a idx y m nl p1 p2 : Nat} (hA : A = 1847 + a ∧ a + 768 ≤ nl ∧ nl ≤ 100000000) (hy : y ≤ 1) (hm : m < 256) (h1 : p1 = 1 + y) (h2 : p2 = p1 * 256) (hi : idx = p2 + m) :
    1847 ≤ A + 256 * (1 + y) + m ∧ a + idx = A + 256 * (1 + y) + m - 1847 ∧ A + 256 * (1 + y) + m < 1847 + nl := by omega
theorem bes_at2 {A a m nl : Nat} (hA : A = 1847 + a ∧ a + 768 ≤ nl ∧ nl ≤ 100000000) (hm : m < 256) : 1847 ≤ A + m ∧ a + m = A + m - 1847 ∧ A + m < 1847 + nl := by omega
theorem bes_neq (b y : Nat) : ((b : Int) != (y : Int)) = !decide (b = y) := by
  by_cases h : b = y
  · subst h; simp
  · have : ¬ (b : Int) = (y : Int) := by omega
    simp [h, this]
theorem bes_end {m : Nat} (h : 256 ≤ m) (h2 : m < 512) : ¬ (m : Int) < 256 ∧ IntKind.i64.wrap ((m : Int) - 256) = (m : Int) - 256 := ⟨by omega, IntWalk.i64_in _ (by omega)⟩
theorem bes_m {m : Nat} (h : m < 256) : (m : Int) < 256 ∧ (0 : Int) ≤ (m : Int) ∧ (m : Int) < 768 := by omega
end Go.Proofs.YtoencondpbkomaaGreatDoor

/-
  The program's decoder of LZMA: a literal behind a copy.
-/
namespace Go.Proofs.YtoencondpbkomaaGreatDoor
open Go.RowKit

section
variable {K : Kon} {w w' : World} {Gw : Nat → Prop} {z : Lzs} {t : Pm Dc} {left : Nat}

/-- a literal's step, told -/
theorem lg_same {A j : Nat} {o v : UInt8} {G : Lg Dc} (h : G.same = true) : lgStep decM A (want (o.toNat : Int) j) (want (v.toNat : Int) j) G =
    ⟨2 * G.m + (bitP decM G.t (A + 256 * (1 + bitOf o.toNat j) + G.m) 0).1, decide ((bitP decM G.t (A + 256 * (1 + bitOf o.toNat j) + G.m) 0).1 = bitOf o.toNat j), (bitP decM G.t (A + 256 * (1 + bitOf o.toNat j) + G.m) 0).2⟩ := by
  unfold lgStep
  rw [if_pos h, want_nat, Int.toNat_natCast]
  rfl
theorem lg_other {A j : Nat} {o v : UInt8} {G : Lg Dc} (h : G.same = false) : lgStep decM A (want (o.toNat : Int) j) (want (v.toNat : Int) j) G =
    ⟨2 * G.m + (bitP decM G.t (A + G.m) 0).1, false, (bitP decM G.t (A + G.m) 0).2⟩ := by
  unfold lgStep
  rw [if_neg (by rw [h]; simp)]
  rfl

def BesPost (K : Kon) (w : World) (Gw : Nat → Prop) (z : Lzs) (r : Lg Dc) (left : Nat) (e : Ending) (w' : World) : Prop := MidPost K w Gw (.int .u8 (((UInt8.ofNat r.m).toNat : Nat) : Int)) z r.t left e w'

set_option maxRecDepth 100000 in
set_option maxHeartbeats 8000000 in
theorem lbes_any {a c A : Nat} {x : UInt8} (h : Lw K w Gw z t left) (hf : Fit K z) (hr0 : z.r0 < 4294967296) (hA : A = 1847 + a) (ha : a + 768 ≤ K.nl) (hnl : K.nl ≤ 100000000) :
    Calls Tryz.prog 139 #[.pointer (some ⟨K.g, 0, none⟩), .slice (some ⟨K.lb, a, none⟩) 768 c] w (BesPost K w Gw z (litG decM t A (z.back z.r0) x true 8) left) := by
  have c6 := h.f.c6
  have c11 := h.f.c11
  have KA := Lib.hid (fun n => h.at_ hf z.r0 n)
  have hG := Lib.hid (litG_ok decM_ok (k := 0) (a := A) (o := z.back z.r0) (v := x) (same := true) (t := t) (L := 1847 + K.nl) (okD_any h.mch.ok) (by omega))
  obtain ⟨r0, hr⟩ : ∃ r0, r0 = z.r0 := ⟨_, rfl⟩
  rw [← hr] at c11 KA hG ⊢
  have y0 : IntKind.i64.wrap (r0 : Int) = (r0 : Int) := IntWalk.i64_in _ (by omega)
  obtain ⟨v, hv⟩ : ∃ v : UInt8, v = z.back r0 := ⟨_, rfl⟩
  rw [← hv] at KA hG ⊢
  have HZ0 := Lib.hid h
  have HA := Lib.hid (And.intro hA (And.intro ha hnl))
  clear hr0 hr hv hf h hA ha hnl
  go_enter Tryz.func139, Tryz.ntmps139
  go_wp2_with fail
  go_quiet ((go_at_call 137; exact quiet_drew_at (KA.out _)))
  have HZ1 := Lib.hid (HZ0.out.drewN nq)
  have HO1 := Lib.hid ((Only.refl K.own w).drewN nq)
  generalize w.drewN nq = w1 at *
  clear c6 c11 KA HZ0 y0
  go_wp2_with fail
  go_loopw [6, 7, 8, 9, 22] (fun m _ _ _ i wr => ∃ (j : Nat) (G : Lg Dc), j ≤ 8 ∧ G = litG decM t A v x true j ∧ G.same = true ∧ i = .int .i64 (j : Int) ∧ m = .int .i64 (G.m : Int) ∧ Lw K wr Gw z G.t left ∧ Only K.own w wr) (fun _ _ _ _ i _ => 8 - (intOf i).toNat)
  case atStart => exact ⟨0, _, by omega, rfl, rfl, rfl, rfl, HZ1.out, HO1.out⟩
  case round =>
    clear HZ1 HO1
    obtain ⟨j, G, hj, hGj, hsame, rfl, rfl, hz, ho⟩ := hrel
    obtain ⟨t1, t2, t3⟩ := hG.out j hj
    rw [← hGj] at t1 t2 t3
    have HGJ := Lib.hid hGj
    have HO := Lib.hid ho
    have HZ := Lib.hid hz
    by_cases hlt : j < 8
    · have hlt' : (j : Int) < 8 := by omega
      have e7 := bes_seven hlt
      have E8 := Lib.hid (bit_shr v (7 - j))
      have hm256 := lt_256 t3 hlt
      have hy := bitOf_le v.toNat (7 - j)
      have hst := lg_same (A := A) (j := 7 - j) (o := v) (v := x) hsame
      have hst2 : lgStep decM A (want (v.toNat : Int) (7 - j)) (want (x.toNat : Int) (7 - j)) G = litG decM t A v x true (j + 1) := by rw [hGj]; rfl
      rw [hst2] at hst
      clear hst2
      obtain ⟨y, hyy⟩ : ∃ y, y = bitOf v.toNat (7 - j) := ⟨_, rfl⟩
      rw [← hyy] at E8 hy hst
      obtain ⟨p1, hp1⟩ : ∃ p1, p1 = 1 + y := ⟨_, rfl⟩
      obtain ⟨p2, hp2⟩ : ∃ p2, p2 = p1 * 256 := ⟨_, rfl⟩
      obtain ⟨idx, hidx⟩ : ∃ idx, idx = p2 + G.m := ⟨_, rfl⟩
      obtain ⟨q1, q2, q3, q4, q5⟩ := bes_facts hy hm256 hp1 hp2 hidx
      have hat := bes_at HA.out hy hm256 hp1 hp2 hidx
      have KB := Lib.hid ((hz.drewN 1).bit (a := A + 256 * (1 + y) + G.m) (b := K.lb) (i := a + idx) 0 (Kon.ad_lit hat.1 hat.2.1) hat.2.2)
      have hb1 := (bitP_ok decM_ok (k := 0) (a := A + 256 * (1 + y) + G.m) (w := 0) (okD_any hz.mch.ok) hat.2.2 (fun h => by cases h)).1
      have c5 := hz.f.c5
      obtain ⟨B, hB⟩ : ∃ B, B = bitP decM G.t (A + 256 * (1 + y) + G.m) 0 := ⟨_, rfl⟩
      rw [← hB] at KB hst hb1
      obtain ⟨e1, e2⟩ := bes_wraps hm256 hb1
      have HST := Lib.hid hst
      have HJ := Lib.hid hlt
      have HY := Lib.hid (And.intro hy hb1)
      have hneq := bes_neq B.1 y
      clear hst hB hidx hp1 hp2 hyy hat hsame t1 t2 t3 hm256 hz ho hb1 hy hGj hj
      generalize G.m = m at *
      obtain ⟨m2, hm2⟩ : ∃ m2, m2 = 2 * m + B.1 := ⟨_, rfl⟩
      rw [← hm2] at e2 HST
      have HM2 := Lib.hid hm2
      clear hm2
      go_upto_region 7 with fail
      rw [E8.out]
      clear E8
      go_wp2_with fail
      go_region_held3 (fun w' => w'.cell? ⟨K.g, 5, none⟩ = some (.pointer (some ⟨K.dg, 0, none⟩))) (first | assumption | go_keep | exact c5) (first | (go_at_call 134; refine KB.out.mono ?_; rintro e w3 ⟨rfl, hz3, ho3⟩; have d5 := hz3.f.c5; have HZ3 := Lib.hid hz3; have HO3 := Lib.hid (HO.out.trans (Only.of_drewN ho3)); clear hz3 ho3))
      clear c5 KB HZ HO
      obtain ⟨sm, hsm⟩ : ∃ sm, sm = decide (B.1 = y) := ⟨_, rfl⟩
      rw [← hsm] at hneq HST
      clear hsm
      cases sm with
      | true =>
        go_wp2_with fail
        go_roundw
        case rel => exact ⟨j + 1, litG decM t A v x true (j + 1), by have := HJ.out; omega, rfl, by rw [HST.out], by go_num, by rw [HST.out], by rw [HST.out]; exact HZ3.out, HO3.out⟩
        case measure => simp [intOf]; have := HJ.out; omega
      | false =>
        have HG2 := Lib.hid (show ∃ (j2 : Nat) (G2 : Lg Dc), j2 ≤ 8 ∧ G2 = litG decM t A v x true j2 ∧ (j2 < 8 → G2.same = false) ∧ G2.m = m2 ∧ Lw K w3 Gw z G2.t left from ⟨j + 1, _, by have := HJ.out; omega, rfl, fun _ => by rw [HST.out], by rw [HST.out], by rw [HST.out]; exact HZ3.out⟩)
        go_wp2_with fail
        clear HST HM2 HZ3 HGJ hneq d5 q1 q2 q3 q4 q5 e1 e2 e7 hlt hlt'
        go_loopw [6] (fun m wr => ∃ (j2 : Nat) (G2 : Lg Dc), j2 ≤ 8 ∧ G2 = litG decM t A v x true j2 ∧ (j2 < 8 → G2.same = false) ∧ m = .int .i64 (G2.m : Int) ∧ Lw K wr Gw z G2.t left ∧ Only K.own w wr) (fun m _ => 512 - (intOf m).toNat)
        case atStart =>
          obtain ⟨j2, G2, g1, g2, g3, g4, g5⟩ := HG2.out
          exact ⟨j2, G2, g1, g2, g3, by rw [g4], g5, HO3.out⟩
        case round =>
          clear HG2
          obtain ⟨j2, G2, hj2, hG2, hsm2, rfl, hz2, ho2⟩ := hrel
          obtain ⟨t1, t2, t3⟩ := hG.out j2 hj2
          rw [← hG2] at t1 t2 t3
          have HO4 := Lib.hid ho2
          have HZ4 := Lib.hid hz2
          by_cases hlt2 : j2 < 8
          · have hm256 := lt_256 t3 hlt2
            have hst := lg_other (A := A) (j := 7 - j2) (o := v) (v := x) (hsm2 hlt2)
            have hst2 : lgStep decM A (want (v.toNat : Int) (7 - j2)) (want (x.toNat : Int) (7 - j2)) G2 = litG decM t A v x true (j2 + 1) := by rw [hG2]; rfl
            rw [hst2] at hst
            clear hst2
            have hat := bes_at2 HA.out hm256
            have KB := Lib.hid ((hz2.drewN 1).bit (a := A + G2.m) (b := K.lb) (i := a + G2.m) 0 (Kon.ad_lit hat.1 hat.2.1) hat.2.2)
            have hb1 := (bitP_ok decM_ok (k := 0) (a := A + G2.m) (w := 0) (okD_any hz2.mch.ok) hat.2.2 (fun h => by cases h)).1
            have c5 := hz2.f.c5
            obtain ⟨B, hB⟩ : ∃ B, B = bitP decM G2.t (A + G2.m) 0 := ⟨_, rfl⟩
            rw [← hB] at KB hst hb1
            obtain ⟨e1, e2⟩ := bes_wraps hm256 hb1
            obtain ⟨q1, q2, q3⟩ := bes_m hm256
            have HST2 := Lib.hid hst
            have HJ2 := Lib.hid (And.intro hlt2 (And.intro hm256 (Nat.le_trans (Nat.one_le_two_pow (n := j2)) t2)))
            clear hst hB hat hsm2 t1 t2 t3 hm256 hz2 ho2 hb1 hG2 hj2 hlt2
            generalize G2.m = m at *
            obtain ⟨m2, hm2⟩ : ∃ m2, m2 = 2 * m + B.1 := ⟨_, rfl⟩
            rw [← hm2] at e2 HST2
            have HM2 := Lib.hid hm2
            clear hm2
            go_wp2_with fail
            go_region_held3 (fun w' => w'.cell? ⟨K.g, 5, none⟩ = some (.pointer (some ⟨K.dg, 0, none⟩))) (first | assumption | go_keep | exact c5) (first | (go_at_call 134; refine KB.out.mono ?_; rintro e w5 ⟨rfl, hz5, ho5⟩; have d5 := hz5.f.c5; have HZ5 := Lib.hid hz5; have HO5 := Lib.hid (HO4.out.trans (Only.of_drewN ho5)); clear hz5 ho5))
            go_wp2_with fail
            go_roundw
            case rel => exact ⟨j2 + 1, litG decM t A v x true (j2 + 1), by have := HJ2.out; omega, rfl, fun _ => by rw [HST2.out], by rw [HST2.out], by rw [HST2.out]; exact HZ5.out, HO5.out⟩
            case measure =>
              simp [intOf]
              have := HJ2.out
              have := HM2.out
              omega
          · obtain rfl : j2 = 8 := by omega
            obtain ⟨q1, e1⟩ := bes_end t2 t3
            have e2 := u8_less G2.m t2
            have HG8 := Lib.hid hG2
            clear t1 t2 t3 hsm2 hz2 ho2 hG2 hj2 hlt2
            generalize hmm : G2.m = m at *
            have HMM := Lib.hid hmm
            clear hmm
            go_wp2_with fail
            go_ret
            unfold BesPost
            rw [← HG8.out, HMM.out]
            exact ⟨rfl, HZ4.out, HO4.out⟩
    · obtain rfl : j = 8 := by omega
      have hlt' : ¬ ((8 : Nat) : Int) < 8 := by omega
      have HG2 := Lib.hid (show ∃ (j2 : Nat) (G2 : Lg Dc), j2 ≤ 8 ∧ G2 = litG decM t A v x true j2 ∧ (j2 < 8 → G2.same = false) ∧ G2.m = G.m ∧ Lw K wr Gw z G2.t left from ⟨8, _, by omega, hGj, fun h => absurd h (by omega), rfl, hz⟩)
      clear HGJ hsame t1 t2 t3 hz ho hj hGj hlt
      generalize G.m = m0 at *
      go_wp2_with fail
      go_loopw [6] (fun m wr => ∃ (j2 : Nat) (G2 : Lg Dc), j2 ≤ 8 ∧ G2 = litG decM t A v x true j2 ∧ (j2 < 8 → G2.same = false) ∧ m = .int .i64 (G2.m : Int) ∧ Lw K wr Gw z G2.t left ∧ Only K.own w wr) (fun m _ => 512 - (intOf m).toNat)
      case atStart =>
        obtain ⟨j2, G2, g1, g2, g3, g4, g5⟩ := HG2.out
        exact ⟨j2, G2, g1, g2, g3, by rw [g4], g5, HO.out⟩
      case round =>
        clear HG2
        obtain ⟨j2, G2, hj2, hG2, hsm2, rfl, hz2, ho2⟩ := hrel
        obtain ⟨t1, t2, t3⟩ := hG.out j2 hj2
        rw [← hG2] at t1 t2 t3
        have HO4 := Lib.hid ho2
        have HZ4 := Lib.hid hz2
        by_cases hlt2 : j2 < 8
        · have hm256 := lt_256 t3 hlt2
          have hst := lg_other (A := A) (j := 7 - j2) (o := v) (v := x) (hsm2 hlt2)
          have hst2 : lgStep decM A (want (v.toNat : Int) (7 - j2)) (want (x.toNat : Int) (7 - j2)) G2 = litG decM t A v x true (j2 + 1) := by rw [hG2]; rfl
          rw [hst2] at hst
          clear hst2
          have hat := bes_at2 HA.out hm256
          have KB := Lib.hid ((hz2.drewN 1).bit (a := A + G2.m) (b := K.lb) (i := a + G2.m) 0 (Kon.ad_lit hat.1 hat.2.1) hat.2.2)
          have hb1 := (bitP_ok decM_ok (k := 0) (a := A + G2.m) (w := 0) (okD_any hz2.mch.ok) hat.2.2 (fun h => by cases h)).1
          have c5 := hz2.f.c5
          obtain ⟨B, hB⟩ : ∃ B, B = bitP decM G2.t (A + G2.m) 0 := ⟨_, rfl⟩
          rw [← hB] at KB hst hb1
          obtain ⟨e1, e2⟩ := bes_wraps hm256 hb1
          obtain ⟨q1, q2, q3⟩ := bes_m hm256
          have HST2 := Lib.hid hst
          have HJ2 := Lib.hid (And.intro hlt2 (And.intro hm256 (Nat.le_trans (Nat.one_le_two_pow (n := j2)) t2)))
          clear hst hB hat hsm2 t1 t2 t3 hm256 hz2 ho2 hb1 hG2 hj2 hlt2
          generalize G2.m = m at *
          obtain ⟨m2, hm2⟩ : ∃ m2, m2 = 2 * m + B.1 := ⟨_, rfl⟩
          rw [← hm2] at e2 HST2
          have HM2 := Lib.hid hm2
          clear hm2
          go_wp2_with fail
          go_region_held3 (fun w' => w'.cell? ⟨K.g, 5, none⟩ = some (.pointer (some ⟨K.dg, 0, none⟩))) (first | assumption | go_keep | exact c5) (first | (go_at_call 134; refine KB.out.mono ?_; rintro e w5 ⟨rfl, hz5, ho5⟩; have d5 := hz5.f.c5; have HZ5 := Lib.hid hz5; have HO5 := Lib.hid (HO4.out.trans (Only.of_drewN ho5)); clear hz5 ho5))
          go_wp2_with fail
          go_roundw
          case rel => exact ⟨j2 + 1, litG decM t A v x true (j2 + 1), by have := HJ2.out; omega, rfl, fun _ => by rw [HST2.out], by rw [HST2.out], by rw [HST2.out]; exact HZ5.out, HO5.out⟩
          case measure =>
            simp [intOf]
            have := HJ2.out
            have := HM2.out
            omega
        · obtain rfl : j2 = 8 := by omega
          obtain ⟨q1, e1⟩ := bes_end t2 t3
          have e2 := u8_less G2.m t2
          have HG8 := Lib.hid hG2
          clear t1 t2 t3 hsm2 hz2 ho2 hG2 hj2 hlt2
          generalize hmm : G2.m = m at *
          have HMM := Lib.hid hmm
          clear hmm
          go_wp2_with fail
          go_ret
          unfold BesPost
          rw [← HG8.out, HMM.out]
          exact ⟨rfl, HZ4.out, HO4.out⟩
end
end Go.Proofs.YtoencondpbkomaaGreatDoor
