/-
  LzLitW, LzPkt, LzBegin, LzLeft, LzUnpN, ZrMem, ZrRe, ZrInv: put together.
-/
import Derived.Test.YtiolfjhddbiglaaGreatDoorU10
import Derived.Test.YtiolfjhddbiglaaGreatDoorU11
import Derived.Deep.CutBlock
import Derived.Deep.CutRange
import Derived.Test.YtiolfjhddbiglaaGreatDoorU07
import Derived.Deep.RegionLaw
import Derived.Test.YtiolfjhddbiglaaGreatDoorU09
set_option linter.unusedVariables false
set_option linter.unusedSimpArgs false
/-
  The reference of LZMA: a literal is told, or coded.
-/
namespace Go.Proofs.YtiolfjhddbiglaaGreatDoor
open Go.RowKit

theorem u8_of_nat (m : Nat) : IntKind.u8.wrap (m : Int) = (((UInt8.ofNat m).toNat : Nat) : Int) := by
  have h : (UInt8.ofNat m).toNat = m % 256 := by simp
  rw [h]
  simp [IntKind.wrap, IntKind.bits, IntKind.signed]

section
variable {σ : Type} {M : Mach σ} {ok : Nat → σ → Prop} {R : Nat → Prop} {K : World → Value → Value → (Nat → Prop) → σ → Prop} {w : World} {g : Nat} {G : Nat → Prop} {z : Lzs} {t : Pm σ}

set_option maxRecDepth 100000 in
set_option maxHeartbeats 1200000 in
theorem zlit_any (Z : ZOps M ok R K) {w0 : World} {G0 : Nat → Prop} {L k : Nat} {v : UInt8} (h : ZAt R K w0 G0 w g z t) (ht : PmOk ok L (k + 8) t) (hf : ZFine z L) :
    Calls Tryz.prog 51 #[.pointer (some ⟨g, 0, none⟩), .int .u8 (v.toNat : Int)] w (LitPost R K M w0 G0 g z t v) := by
  have HT := Lib.hid ht
  have HF := Lib.hid hf
  have hv := v.toNat_lt
  have ev : IntKind.i64.wrap (v.toNat : Int) = (v.toNat : Int) := IntWalk.i64_in _ (by omega)
  have HV := Lib.hid hv
  have KB := Lib.hid (h.back (d := 0) (by decide) (by have := hf.out; omega) hf.dict)
  have HZ := Lib.hid h
  clear ht hf h hv
  go_enter Tryz.func51, Tryz.ntmps51
  go_wp2_with fail
  refine KB.out.mono ?_
  rintro e w1 ⟨rfl, k1, hw1⟩
  have hz1 := HZ.out.drewN Z k1
  have hw1' : w.drewN k1 = w1 := hw1
  rw [hw1'] at hz1
  obtain ⟨A, c, c7, _⟩ := hz1.told
  obtain ⟨d0, d1, _⟩ := hz1.cells
  have HZ1 := Lib.hid hz1
  have hF := HF.out
  -- the place of the probabilities
  obtain ⟨n, hn⟩ : ∃ n, n = z.out.length := ⟨_, rfl⟩
  obtain ⟨x, hx⟩ : ∃ x, x = (z.back 0).toNat := ⟨_, rfl⟩
  have hx8 : x < 256 := by rw [hx]; exact (z.back 0).toNat_lt
  obtain ⟨P1, hP1⟩ : ∃ P, P = 2 ^ z.lp := ⟨_, rfl⟩
  obtain ⟨P2, hP2⟩ : ∃ P, P = 2 ^ z.lc := ⟨_, rfl⟩
  obtain ⟨P3, hP3⟩ : ∃ P, P = 2 ^ (8 - z.lc) := ⟨_, rfl⟩
  have p11 : 1 ≤ P1 ∧ P1 ≤ 16 := by rw [hP1]; exact ⟨Nat.two_pow_pos _, pow_le_of hF.lp⟩
  have p21 : 1 ≤ P2 ∧ P2 ≤ 256 := by rw [hP2]; exact ⟨Nat.two_pow_pos _, pow_le_of hF.lc⟩
  have p31 : 1 ≤ P3 ∧ P3 ≤ 256 := by rw [hP3]; exact ⟨Nat.two_pow_pos _, pow_le_of (show 8 - z.lc ≤ 8 by omega)⟩
  have KP1 := Lib.hid (fun w => power_any (n := z.lp) (by have := hF.lp; omega) w)
  have KP2 := Lib.hid (fun w => power_any (n := z.lc) (by have := hF.lc; omega) w)
  have KP3 := Lib.hid (fun w => power_any (n := 8 - z.lc) (by omega) w)
  rw [← hP1] at KP1
  rw [← hP2] at KP2
  rw [← hP3] at KP3
  obtain ⟨r1, hr1⟩ : ∃ r, r = n % P1 := ⟨_, rfl⟩
  have r1lt : r1 < P1 := by rw [hr1]; exact Nat.mod_lt _ (by omega)
  obtain ⟨q1, hq1⟩ : ∃ q, q = r1 * P2 := ⟨_, rfl⟩
  have q1le : q1 ≤ 16 * 256 := by rw [hq1]; exact Nat.mul_le_mul (by omega) (by omega)
  obtain ⟨q2, hq2⟩ : ∃ q, q = x / P3 := ⟨_, rfl⟩
  have q2le : q2 ≤ 256 := by rw [hq2]; have := Nat.div_le_self x P3; omega
  obtain ⟨at_, hat⟩ : ∃ a, a = 1847 + 768 * (q1 + q2) := ⟨_, rfl⟩
  have hlit : litAt z = at_ := by rw [hat, hq1, hr1, hq2, hx, hn, hP1, hP2, hP3]; rfl
  have HAT := Lib.hid hlit
  have e1 : IntKind.i64.wrap (8 - (z.lc : Int)) = ((8 - z.lc : Nat) : Int) := by rw [show 8 - (z.lc : Int) = ((8 - z.lc : Nat) : Int) by have := hF.lc; omega]; exact IntWalk.i64_in _ (by omega)
  have e2 : (n : Int).tmod (P1 : Int) = (r1 : Int) := by rw [Int.tmod_eq_emod_of_nonneg (by omega), hr1]; exact (Int.natCast_emod n P1).symm
  have e2' : IntKind.i64.wrap (r1 : Int) = (r1 : Int) := IntWalk.i64_in _ (by omega)
  have e3 : IntKind.i64.wrap ((r1 : Int) * (P2 : Int)) = (q1 : Int) := by rw [← Int.natCast_mul, ← hq1]; exact IntWalk.i64_in _ (by omega)
  have e4 : IntKind.i64.wrap (x : Int) = (x : Int) := IntWalk.i64_in _ (by omega)
  have e5 : (x : Int).tdiv (P3 : Int) = (q2 : Int) := by rw [Int.tdiv_eq_ediv_of_nonneg (by omega), hq2]; exact (Int.natCast_ediv x P3).symm
  have e5' : IntKind.i64.wrap (q2 : Int) = (q2 : Int) := IntWalk.i64_in _ (by omega)
  have e6 : IntKind.i64.wrap ((q1 : Int) + (q2 : Int)) = (q1 : Int) + (q2 : Int) := IntWalk.i64_in _ (by omega)
  have e7 : IntKind.i64.wrap (768 * ((q1 : Int) + (q2 : Int))) = 768 * ((q1 : Int) + (q2 : Int)) := IntWalk.i64_in _ (by omega)
  have e8 : IntKind.i64.wrap (1847 + 768 * ((q1 : Int) + (q2 : Int))) = (at_ : Int) := by rw [show 1847 + 768 * ((q1 : Int) + (q2 : Int)) = (at_ : Int) by omega]; exact IntWalk.i64_in _ (by omega)
  have n1 : ¬ (P1 : Int) = 0 := by omega
  have n3 : ¬ (P3 : Int) = 0 := by omega
  have HA1 := Lib.hid (show at_ + 768 ≤ L ∧ L ≤ 100000000 by have := hF.small; rw [hlit] at this; omega)
  rw [← hn] at c7
  rw [← hx]
  clear hw1 hw1' hz1 hF hn hx hx8 hP1 hP2 hP3 p11 p21 p31 hr1 r1lt hq1 q1le hq2 q2le hat hlit KB HZ
  generalize z.has 0 = hh at *
  go_wp2_with fail
  go_quiet ((first | (go_at_call 49; with_reducible exact quiet_same_at (KP1.out _)) | (go_at_call 49; with_reducible exact quiet_same_at (KP2.out _)) | (go_at_call 49; with_reducible exact quiet_same_at (KP3.out _))))
  clear e1 e2 e2' e3 e4 e5 e5' e6 e7 e8 n1 n3 KP1 KP2 KP3 d0 d1 c7
  have HZ2 := Lib.hid (HZ1.out.drewN Z nq)
  generalize w1.drewN nq = w2 at *
  obtain ⟨_, _, _, _, s8, s9, _⟩ := HZ2.out.cells
  have KB2 := Lib.hid (HZ2.out.back (d := z.r0) HF.out.r0 (by have := HF.out.out; omega) HF.out.dict)
  clear HZ1
  go_wp2_with fail
  refine KB2.out.mono ?_
  rintro e w3 ⟨rfl, k3, hw3⟩
  have hz3 := HZ2.out.drewN Z k3
  have hw3' : w2.drewN k3 = w3 := hw3
  rw [hw3'] at hz3
  have HZ3 := Lib.hid hz3
  clear hz3 hw3 hw3' KB2 HZ2 s8 s9
  obtain ⟨o, ho⟩ : ∃ o, o = z.back z.r0 := ⟨_, rfl⟩
  have HO := Lib.hid ho
  rw [← ho]
  clear ho
  obtain ⟨same, hsame⟩ : ∃ s : Bool, s = decide (7 ≤ z.st) := ⟨_, rfl⟩
  have HS := Lib.hid hsame
  go_wp2_with fail
  go_loopw [8, 9, 12] (fun m sm i wr => LitRel R K M w0 G0 wr g z t at_ o v same m sm i) (fun _ _ i _ => (intOf i + 1).toNat)
  case atStart =>
    refine ⟨0, _, Nat.zero_le _, rfl, by omega, rfl, ?_, HZ3.out⟩
    show Value.bool _ = Value.bool same
    rw [HS.out]
    congr 1
    exact decide_eq_decide.2 (by omega)
  case round =>
    clear HZ3
    obtain ⟨j, iv, hj, rfl, hiv, rfl, rfl, hz⟩ := hrel
    obtain ⟨t1, t2, t3⟩ := litG_ok (o := o) (v := v) (same := same) Z.okm HT.out HA1.out.1 j hj
    by_cases hlt : j < 8
    · obtain ⟨i, hi⟩ : ∃ i, i = 7 - j := ⟨_, rfl⟩
      obtain rfl : iv = (i : Int) := by omega
      obtain ⟨b, hb, hb1⟩ := want_byte v i
      obtain ⟨y, hy, hy1⟩ := want_byte o i
      have hstep : litG M t at_ o v same (j + 1) = lgStep M at_ (y : Int) (b : Int) (litG M t at_ o v same j) := by rw [← hy, ← hb, hi]; rfl
      obtain ⟨lg, hlg⟩ : ∃ lg, lg = litG M t at_ o v same j := ⟨_, rfl⟩
      rw [← hlg] at t1 t2 t3 hz hstep ⊢
      have hpj : 2 ^ (j + 1) ≤ 2 ^ 8 := pow_le_of (by omega)
      have ha := HA1.out.1
      have hL := HA1.out.2
      have KP := Lib.hid (fun w => power_any (show i ≤ 40 by omega) w)
      obtain ⟨P, hP⟩ : ∃ P : Int, P = ((2 ^ i : Nat) : Int) := ⟨_, rfl⟩
      have hP1 : 1 ≤ P := by have := Nat.two_pow_pos i; omega
      have P0 : ¬ P = 0 := by omega
      have hv := HV.out
      have ho8 := o.toNat_lt
      have w1 := tdiv_lit (v := (v.toNat : Int)) (P := P) (by omega) (by omega) hP1
      have w2 := tdiv_lit (v := (o.toNat : Int)) (P := P) (by omega) (by omega) hP1
      have e1 : IntKind.i64.wrap ((v.toNat : Int).tdiv P) = (v.toNat : Int).tdiv P := IntWalk.i64_in _ (by omega)
      have e2 : ((v.toNat : Int).tdiv P).tmod 2 = (b : Int) := by rw [want_text hP]; exact hb
      have e3 : IntKind.i64.wrap (b : Int) = (b : Int) := IntWalk.i64_in _ (by omega)
      have td1 : (v.toNat : Int).tdiv P = (v.toNat : Int) / P := Int.tdiv_eq_ediv_of_nonneg (by omega)
      have td2 : (o.toNat : Int).tdiv P = (o.toNat : Int) / P := Int.tdiv_eq_ediv_of_nonneg (by omega)
      have e1' : IntKind.i64.wrap ((v.toNat : Int) / P) = (v.toNat : Int) / P := by rw [← td1]; exact e1
      have e2' : ((v.toNat : Int) / P).tmod 2 = (b : Int) := by rw [← td1]; exact e2
      have f1 : IntKind.i64.wrap ((o.toNat : Int).tdiv P) = (o.toNat : Int).tdiv P := IntWalk.i64_in _ (by omega)
      have f2 : ((o.toNat : Int).tdiv P).tmod 2 = (y : Int) := by rw [want_text hP]; exact hy
      have f3 : IntKind.i64.wrap (y : Int) = (y : Int) := IntWalk.i64_in _ (by omega)
      have f1' : IntKind.i64.wrap ((o.toNat : Int) / P) = (o.toNat : Int) / P := by rw [← td2]; exact f1
      have f2' : ((o.toNat : Int) / P).tmod 2 = (y : Int) := by rw [← td2]; exact f2
      have f0 : IntKind.i64.wrap (o.toNat : Int) = (o.toNat : Int) := IntWalk.i64_in _ (by omega)
      have e7 : IntKind.i64.wrap ((i : Int) - 1) = (i : Int) - 1 := IntWalk.i64_in _ (by omega)
      have e4 : IntKind.i64.wrap (2 * (lg.m : Int)) = 2 * (lg.m : Int) := IntWalk.i64_in _ (by omega)
      have ii : (i : Int) ≥ 0 := by omega
      have hmay : M.may (b : Int) := fun _ => by omega
      rw [← hP] at KP
      cases hsm : lg.same with
      | false =>
        obtain ⟨ad, had⟩ : ∃ ad, ad = at_ + lg.m := ⟨_, rfl⟩
        have hK := ZAt.bit Z hz (k := k + 8 - (j + 1)) (a := ad) (b := (b : Int)) (by rw [show k + 8 - (j + 1) + 1 = k + 8 - j by omega]; exact t1) (by omega) hL hmay
        have hb2 := (bitP_ok Z.okm (k := k + 8 - (j + 1)) (a := ad) (w := (b : Int)) (by rw [show k + 8 - (j + 1) + 1 = k + 8 - j by omega]; exact t1) (by omega) hmay).1
        have hst2 : lgStep M at_ (y : Int) (b : Int) lg = ⟨2 * lg.m + (bitP M lg.t ad (b : Int)).1, false, (bitP M lg.t ad (b : Int)).2⟩ := by unfold lgStep; rw [if_neg (by rw [hsm]; simp), had]
        obtain ⟨bb, hbb⟩ : ∃ bb, bb = (bitP M lg.t ad (b : Int)).1 := ⟨_, rfl⟩
        rw [← hbb] at hK hb2 hst2
        obtain ⟨m2, hm2⟩ : ∃ m2, m2 = 2 * lg.m + bb := ⟨_, rfl⟩
        rw [← hm2] at hst2
        have HST := Lib.hid (hstep.trans hst2)
        have e5 : IntKind.i64.wrap ((at_ : Int) + (lg.m : Int)) = (ad : Int) := by rw [show (at_ : Int) + (lg.m : Int) = (ad : Int) by omega]; exact IntWalk.i64_in _ (by omega)
        have e6 : IntKind.i64.wrap (2 * (lg.m : Int) + (bb : Int)) = (m2 : Int) := by rw [show 2 * (lg.m : Int) + (bb : Int) = (m2 : Int) by omega]; exact IntWalk.i64_in _ (by omega)
        have HK := Lib.hid hK
        have HI := Lib.hid (show i = 7 - j ∧ j < 8 from ⟨hi, hlt⟩)
        clear hK hb2 hst2 hbb hm2 had hsm hstep hlg t1 t2 t3 hz hpj ha hL hP hP1 hv ho8 w1 w2 hmay hi hlt hj hb hb1 hy hy1 f0 f1 f2 f3 f1' f2' td1 td2 hiv
        go_wp2_with fail
        refine (KP.out _).mono ?_
        rintro e w4 ⟨rfl, rfl⟩
        clear KP
        go_wp2_with fail
        (with_reducible refine HK.out.mono ?_)
        rintro e w5 ⟨rfl, hz5⟩
        have HZ5 := Lib.hid hz5
        clear hz5 HK e1 e2 e3 e4 e5 e1' e2'
        go_wp2_with fail
        go_roundw
        case rel =>
          refine ⟨j + 1, (i : Int) - 1, by have := HI.out; omega, rfl, by have := HI.out; omega, by rw [HST.out], by rw [HST.out], ?_⟩
          rw [HST.out]
          exact HZ5.out
        case measure => first | (simp [intOf]; done) | (simp [intOf]; omega)
      | true =>
        obtain ⟨ad, had⟩ : ∃ ad, ad = at_ + 256 * (1 + y) + lg.m := ⟨_, rfl⟩
        have hK := ZAt.bit Z hz (k := k + 8 - (j + 1)) (a := ad) (b := (b : Int)) (by rw [show k + 8 - (j + 1) + 1 = k + 8 - j by omega]; exact t1) (by omega) hL hmay
        have hb2 := (bitP_ok Z.okm (k := k + 8 - (j + 1)) (a := ad) (w := (b : Int)) (by rw [show k + 8 - (j + 1) + 1 = k + 8 - j by omega]; exact t1) (by omega) hmay).1
        have hst2 : lgStep M at_ (y : Int) (b : Int) lg = ⟨2 * lg.m + (bitP M lg.t ad (b : Int)).1, decide ((bitP M lg.t ad (b : Int)).1 = y), (bitP M lg.t ad (b : Int)).2⟩ := by unfold lgStep; rw [if_pos hsm, Int.toNat_natCast, had]
        obtain ⟨bb, hbb⟩ : ∃ bb, bb = (bitP M lg.t ad (b : Int)).1 := ⟨_, rfl⟩
        rw [← hbb] at hK hb2 hst2
        obtain ⟨m2, hm2⟩ : ∃ m2, m2 = 2 * lg.m + bb := ⟨_, rfl⟩
        rw [← hm2] at hst2
        have HST := Lib.hid (hstep.trans hst2)
        have e5 : IntKind.i64.wrap (1 + (y : Int)) = 1 + (y : Int) := IntWalk.i64_in _ (by omega)
        have e5b : IntKind.i64.wrap (256 * (1 + (y : Int))) = 256 * (1 + (y : Int)) := IntWalk.i64_in _ (by omega)
        have e5c : IntKind.i64.wrap ((at_ : Int) + 256 * (1 + (y : Int))) = (at_ : Int) + 256 * (1 + (y : Int)) := IntWalk.i64_in _ (by omega)
        have e5d : IntKind.i64.wrap ((at_ : Int) + 256 * (1 + (y : Int)) + (lg.m : Int)) = (ad : Int) := by rw [show (at_ : Int) + 256 * (1 + (y : Int)) + (lg.m : Int) = (ad : Int) by omega]; exact IntWalk.i64_in _ (by omega)
        have e6 : IntKind.i64.wrap (2 * (lg.m : Int) + (bb : Int)) = (m2 : Int) := by rw [show 2 * (lg.m : Int) + (bb : Int) = (m2 : Int) by omega]; exact IntWalk.i64_in _ (by omega)
        have HK := Lib.hid hK
        have HI := Lib.hid (show i = 7 - j ∧ j < 8 from ⟨hi, hlt⟩)
        clear hK hb2 hst2 hbb hm2 had hsm hstep hlg t1 t2 t3 hz hpj ha hL hP hP1 hv ho8 w1 w2 hmay hi hlt hj hb hb1 hy hy1 td1 td2 hiv
        go_wp2_with fail
        refine (KP.out _).mono ?_
        rintro e w4 ⟨rfl, rfl⟩
        go_wp2_with fail
        refine (KP.out _).mono ?_
        rintro e w4 ⟨rfl, rfl⟩
        clear KP
        go_wp2_with fail
        (with_reducible refine HK.out.mono ?_)
        rintro e w5 ⟨rfl, hz5⟩
        have HZ5 := Lib.hid hz5
        clear hz5 HK e1 e2 e3 e1' e2' f1' f2' f0 f1 f2 f3 e5 e5b e5c e5d
        go_wp2_with fail
        go_roundw
        case rel =>
          refine ⟨j + 1, (i : Int) - 1, by have := HI.out; omega, rfl, by have := HI.out; omega, by rw [HST.out], ?_, ?_⟩
          · rw [HST.out]
            congr 1
            first | rfl | exact decide_eq_decide.2 (by omega) | (rw [Bool.eq_iff_iff]; simp; omega)
          · rw [HST.out]
            exact HZ5.out
        case measure => first | (simp [intOf]; done) | (simp [intOf]; omega)
    · obtain rfl : j = 8 := by omega
      have iin : ¬ iv ≥ 0 := by omega
      obtain ⟨_, _, _, _, s8, _, _, _, _, _, _, fz⟩ := hz.cells
      have fz8 := fz 8
      have hdef : litP M z t v = ((litG M t at_ o v same 8).m, (litG M t at_ o v same 8).t) := by unfold litP; rw [HAT.out, ← HO.out, HS.out]
      have HDEF := Lib.hid hdef
      have HZ := Lib.hid hz
      have hst := HF.out.st
      obtain ⟨mm, hmm⟩ : ∃ mm, mm = (litG M t at_ o v same 8).m := ⟨_, rfl⟩
      have HMM := Lib.hid hmm
      rw [← hmm]
      have eu := u8_of_nat mm
      have hput : ∀ n : Nat, litSt z.st = n → ZAt R K w0 G0 (wr.setCell ⟨g, 8, none⟩ (.int .i64 (n : Int))) g { z with st := litSt z.st } (litP M z t v).2 := fun n hn => by
        rw [hdef, hn]
        exact ZAt.put Z hz (z' := { z with st := n }) (fun _ _ _ _ _ _ => rfl) rfl
      have HPUT := Lib.hid hput
      have HRES := Lib.hid (show (litP M z t v).1 = mm by rw [hdef, hmm])
      clear hz t1 t2 t3 hdef hmm hput hlt hj hiv fz
      obtain ⟨s, hs⟩ : ∃ s, s = z.st := ⟨_, rfl⟩
      rw [← hs] at s8 hst HPUT
      by_cases h4 : s < 4
      · have g4 : (s : Int) < 4 := by omega
        have H0 := Lib.hid (HPUT.out 0 (by unfold litSt; rw [if_pos h4]))
        clear h4 hst
        go_wp2_with fail
        go_ret
        refine ⟨?_, by rw [← hs]; exact H0.out⟩
        rw [HRES.out]
        rfl
      · have g4 : ¬ (s : Int) < 4 := by omega
        by_cases h10 : s < 10
        · have g10 : (s : Int) < 10 := by omega
          have h0 := HPUT.out (s - 3) (by unfold litSt; rw [if_neg h4, if_pos h10])
          rw [show ((s - 3 : Nat) : Int) = (s : Int) - 3 by omega] at h0
          have H0 := Lib.hid h0
          have es : IntKind.i64.wrap ((s : Int) - 3) = (s : Int) - 3 := IntWalk.i64_in _ (by omega)
          clear h4 h10 hst h0
          go_wp2_with fail
          go_ret
          refine ⟨?_, by rw [← hs]; exact H0.out⟩
          rw [HRES.out]
          rfl
        · have g10 : ¬ (s : Int) < 10 := by omega
          have g11 : (s : Int) ≤ 11 := by omega
          have h0 := HPUT.out (s - 6) (by unfold litSt; rw [if_neg h4, if_neg h10])
          rw [show ((s - 6 : Nat) : Int) = (s : Int) - 6 by omega] at h0
          have H0 := Lib.hid h0
          have es : IntKind.i64.wrap ((s : Int) - 6) = (s : Int) - 6 := IntWalk.i64_in _ (by omega)
          clear h4 h10 hst h0
          go_wp2_with fail
          go_ret
          refine ⟨?_, by rw [← hs]; exact H0.out⟩
          rw [HRES.out]
          rfl
end
end Go.Proofs.YtiolfjhddbiglaaGreatDoor

/-
  The reference of LZMA: a packet.
-/
namespace Go.Proofs.YtiolfjhddbiglaaGreatDoor
open Go.RowKit

section
variable {σ : Type} {M : Mach σ} {ok : Nat → σ → Prop} {R : Nat → Prop} {K : World → Value → Value → (Nat → Prop) → σ → Prop} {w w' w0 : World} {g : Nat} {G G0 : Nat → Prop} {z : Lzs} {t : Pm σ}

/-- the distances on their way: those up to the number j, but above i, have gone on by one -/
def Lzs.sh (z : Lzs) (j i : Nat) : Lzs :=
  { z with r1 := if i < 1 ∧ 1 ≤ j then z.r0 else z.r1, r2 := if i < 2 ∧ 2 ≤ j then z.r1 else z.r2, r3 := if i < 3 ∧ 3 ≤ j then z.r2 else z.r3 }
theorem sh_self (z : Lzs) (j : Nat) : z.sh j j = z := by
  unfold Lzs.sh
  rw [if_neg (by omega), if_neg (by omega), if_neg (by omega)]
theorem sh_again (z : Lzs) {j : Nat} (hj : j ≤ 3) : { z.sh j 0 with r0 := z.rep j } = z.again j := by
  have hjj : j = 0 ∨ j = 1 ∨ j = 2 ∨ j = 3 := by omega
  rcases hjj with rfl | rfl | rfl | rfl <;> rfl

theorem sh_step1 (z : Lzs) {j : Nat} (hj : j ≤ 3) (h : 1 ≤ j) : { z.sh j 1 with r1 := z.r0 } = z.sh j 0 := by
  have hjj : j = 1 ∨ j = 2 ∨ j = 3 := by omega
  rcases hjj with rfl | rfl | rfl <;> rfl
theorem sh_step2 (z : Lzs) {j : Nat} (hj : j ≤ 3) (h : 2 ≤ j) : { z.sh j 2 with r2 := z.r1 } = z.sh j 1 := by
  have hjj : j = 2 ∨ j = 3 := by omega
  rcases hjj with rfl | rfl <;> rfl
theorem sh_step3 (z : Lzs) {j : Nat} (hj : j ≤ 3) (h : 3 ≤ j) : { z.sh j 3 with r3 := z.r2 } = z.sh j 2 := by
  obtain rfl : j = 3 := by omega
  rfl

/-- what a packet leaves -/
def PackPost (R : Nat → Prop) (K : World → Value → Value → (Nat → Prop) → σ → Prop) (w0 : World) (G0 : Nat → Prop) (g : Nat) (r : Nat × Lzs × Pm σ) (x : Ending) (w' : World) : Prop :=
  x = .returned (.int .i64 (r.1 : Int)) ∧ ZAt R K w0 G0 w' g r.2.1 r.2.2
/-- behind the numbers of a packet -/
def TailAt (M : Mach σ) (R : Nat → Prop) (K : World → Value → Value → (Nat → Prop) → σ → Prop) (w0 : World) (G0 : Nat → Prop) (g : Nat) (L N : Nat) (r : Nat × Lzs × Pm σ) (v : Value) (wx : World) : Prop :=
  ∃ (n : Nat) (zz : Lzs) (tt : Pm σ), v = .int .i64 (n : Int) ∧ n ≤ 273 ∧ ZAt R K w0 G0 wx g zz tt ∧ tailP M n zz tt = r ∧ ZNear zz L N

theorem ZAt.over {w1 : World} (hN : ∀ i, G i → G0 i ∨ w0.heap.size ≤ i) (hO : Only G0 w0 w) (hB : Only (fun _ => False) w w1) (h : ZAt R K w1 G w' g z t) : ZAt R K w0 G0 w' g z t := by
  obtain ⟨G', hz, hN', hO'⟩ := h
  have hO1 : Only G0 w0 w1 := hO.trans (hB.mono (fun _ h => h.elim))
  have hs := hB.size
  refine ⟨G', hz, fun i hi => ?_, hO1.trans' hO' hN⟩
  rcases hN' i hi with h1 | h1
  · exact hN i h1
  · have := hO.size; exact .inr (by omega)

set_option maxRecDepth 100000 in
set_option maxHeartbeats 8000000 in
theorem zpacket_go (Z : ZOps M ok R K) (X : MachMore M R K) {L k N : Nat} {p : Pk} {d : Nat} (hd : p.dist = d) (h : Zz R K w g G z t) (ht : PmOk ok L (k + 27) t) (hz : ZNear z L N) (hN : N ≤ 900000) (hp : PkFine p) (hm : PkMay M z p) (hl : PkLen M p) :
    Calls Tryz.prog 28 #[.pointer (some ⟨g, 0, none⟩), .agg #[.int .i64 p.kind, .int .u8 (p.byte.toNat : Int), .int .i64 p.len, .int .u32 (d : Int)]] w
      (PackPost R K (w.alloc (.cells #[.int .i64 p.kind, .int .u8 (p.byte.toNat : Int), .int .i64 p.len, .int .u32 (d : Int)] 73)) G g (packP M z t p)) := by
  have hL0 : 1847 ≤ L := by have := hz.len; omega
  obtain ⟨A, c, c7, _⟩ := h.told
  obtain ⟨_, _, c2, _⟩ := h.cells
  obtain ⟨P, hP⟩ : ∃ P, P = 2 ^ z.pb := ⟨_, rfl⟩
  have hP1 : 1 ≤ P := by rw [hP]; exact Nat.two_pow_pos _
  have hP16 : P ≤ 16 := by rw [hP]; exact pow_le_of hz.pb
  obtain ⟨s, hs⟩ : ∃ s, s = z.out.length % P := ⟨_, rfl⟩
  have hs15 : s ≤ 15 := by have : s < P := by rw [hs]; exact Nat.mod_lt _ hP1
                           omega
  have KP := Lib.hid (fun w => power_any (n := z.pb) (by have := hz.pb; omega) w)
  rw [← hP] at KP
  have P0 : ¬ (P : Int) = 0 := by omega
  have hout := hz.out
  have e1 : ((z.out.length : Nat) : Int).tmod (P : Int) = (s : Int) := by rw [hs, Int.tmod_eq_emod_of_nonneg (by omega)]; exact (Int.natCast_emod _ _).symm
  have e2 : IntKind.i64.wrap (s : Int) = (s : Int) := IntWalk.i64_in _ (by omega)
  have hkm : M.mayN p.kind := fun he => (hm he).1
  have hdef : packP M z t p = packK M (kindP M t (decide (z.out.length = 0)) z.st s p.kind) z s p := by unfold packP; rw [hs, hP]
  obtain ⟨k1, k2⟩ := kindP_ok Z.okm (k := k + 22) (em := decide (z.out.length = 0)) (kd := p.kind) (t := t) ht hL0 hs15 hz.st hkm
  have ktell : M.enc = true → (((kindP M t (decide (z.out.length = 0)) z.st s p.kind).1 : Nat) : Int) = (if p.kind = 7 then 1 else p.kind) := fun he => by
    obtain ⟨a, b, c, _⟩ := hm he
    exact (kindP_tell Z.okm he a b (fun e => c (of_decide_eq_true e))).1
  obtain ⟨w1, hw1⟩ : ∃ w1, w1 = w.alloc (.cells #[.int .i64 p.kind, .int .u8 (p.byte.toNat : Int), .int .i64 p.len, .int .u32 (d : Int)] 73) := ⟨_, rfl⟩
  have hO1 : Only (fun _ => False) w w1 := by rw [hw1]; exact (Only.refl _ w).alloc _
  have hz1 : ZAt R K w1 G w1 g z t := ZAt.begin (h.only Z.mem hO1 (fun _ _ h => h) (fun _ _ h => h))
  have HB : Blk w1 w.heap.size 73 #[.int .i64 p.kind, .int .u8 (p.byte.toNat : Int), .int .i64 p.len, .int .u32 (d : Int)] := by rw [hw1]; exact Blk.fresh w _ _
  have hbl : w.heap.size < w1.heap.size := HB.lt
  have hbg : ¬ G w.heap.size := fun hg => by have := h.old hg; omega
  have d7 : w1.cell? ⟨g, 7, none⟩ = some (.slice A z.out.length c) := (hO1.cell (p := ⟨g, 7, none⟩) (h.old h.own) (fun h => h)).trans c7
  have d2 : w1.cell? ⟨g, 2, none⟩ = some (.int .i64 (z.pb : Int)) := (hO1.cell (p := ⟨g, 2, none⟩) (h.old h.own) (fun h => h)).trans c2
  have o0 : w1.cell? ⟨w.heap.size, 0, none⟩ = some (.int .i64 p.kind) := HB.cell 0
  have KK := Lib.hid (fun n => zkind_any Z (hz1.drewN Z n) (k := k + 22) (s := s) (kd := p.kind) ht (hz.fine (by omega)) hs15 hkm hp.k0 hp.k1)
  rw [hdef, ← hw1]
  obtain ⟨n, hnn⟩ : ∃ n, n = z.out.length := ⟨_, rfl⟩
  rw [← hnn] at d7 e1
  generalize kindP M t (decide (z.out.length = 0)) z.st s p.kind = kb at *
  obtain ⟨kv, kd, tk⟩ := kb
  dsimp only at k1 k2 ktell
  have hst : ∀ (wx : World) (z' : Lzs) (t' : Pm σ), ZAt R K w1 G wx g z' t' → wx.cell? ⟨w.heap.size, 0, none⟩ = some (.int .i64 p.kind) ∧ wx.cell? ⟨w.heap.size, 1, none⟩ = some (.int .u8 (p.byte.toNat : Int)) ∧ wx.cell? ⟨w.heap.size, 2, none⟩ = some (.int .i64 p.len) ∧ wx.cell? ⟨w.heap.size, 3, none⟩ = some (.int .u32 (d : Int)) := by
    intro wx z' t' hx
    exact ⟨(hx.stays hbl hbg 0).trans (HB.cell 0), (hx.stays hbl hbg 1).trans (HB.cell 1), (hx.stays hbl hbg 2).trans (HB.cell 2), (hx.stays hbl hbg 3).trans (HB.cell 3)⟩
  have HST := Lib.hid hst
  have HW1 := Lib.hid hw1
  clear hw1
  have HKB := Lib.hid (And.intro k1 (And.intro k2 ktell))
  have HZN := Lib.hid (And.intro hz (And.intro hN (And.intro hs15 hL0)))
  have HPF := Lib.hid (And.intro hp (And.intro hm (And.intro hd hl)))

  obtain ⟨res, hrr⟩ : ∃ r, r = packK M (kv, kd, tk) z s p := ⟨_, rfl⟩
  rw [← hrr]
  have HRR := Lib.hid hrr
  clear hrr
  clear hst hdef k1 k2 ktell hz hN hs15 hL0 hp hm hd hl h ht hP hP1 hP16 hs hout hkm hO1 hz1 HB hbl hbg c7 c2 hnn
  go_enter Tryz.func28, Tryz.ntmps28
  go_wp2_with fail
  rw [← HW1.out]
  clear HW1
  go_quiet ((go_at_call 49; exact quiet_same_at (KP.out _)))
  go_wp2_with fail
  refine (KK.out _).mono ?_
  rintro e w2 ⟨rfl, hz2⟩
  have HZ2 := Lib.hid hz2
  clear hz2 KK KP d7 d2 o0 e1 e2 P0
  go_upto_block 0 with fail
  go_cut [7] from 28 (fun s7 wx => TailAt M R K w1 G g L N res s7 wx)
  case first =>
    obtain ⟨z2, hz2⟩ : ∃ z2 : Lzs, z2 = { z with bad := z.bad || kd } := ⟨_, rfl⟩
    have hz2e : ZNear z2 L N := by rw [hz2]; exact ⟨HZN.out.1.lc, HZN.out.1.lp, HZN.out.1.pb, HZN.out.1.dict, HZN.out.1.out, HZN.out.1.st, HZN.out.1.r0, HZN.out.1.r1, HZN.out.1.r2, HZN.out.1.r3, HZN.out.1.len⟩
    have HN2 := Lib.hid hz2e
    have hzz : ZAt R K w1 G w2 g z2 tk := by rw [hz2]; exact HZ2.out
    have HZZ := Lib.hid hzz
    have HZE := Lib.hid hz2
    clear hz2 hz2e HZ2
    obtain ⟨b0, b1, b2, b3⟩ := HST.out _ _ _ hzz
    by_cases hk0 : kv = 0
    · subst hk0
      have hpm : PmOk ok L (k + 8) tk := HKB.out.2.1.mono Z.okm (by omega)
      have KL := Lib.hid (zlit_any Z hzz (v := p.byte) hpm (HN2.out.fine (by have := HZN.out.2.1; omega)))
      have hr : res = packL M (litP M z2 tk p.byte) z2 := by rw [HRR.out, HZE.out]; rfl
      have HR := Lib.hid hr
      clear hzz hpm hr HRR HZE HKB HPF
      go_wp2_with fail
      refine KL.out.mono ?_
      rintro e w3 ⟨rfl, hz3⟩
      have HZ3 := Lib.hid hz3
      obtain ⟨Dv, c4, hDv⟩ := hz3.mbad X
      obtain ⟨_, _, _, _, _, _, _, _, _, _, c14, fz⟩ := hz3.cells
      have f14 := fz 14
      clear hz3 KL HZZ b0 b1 b2 b3 fz
      generalize litP M z2 tk p.byte = lp at *
      obtain ⟨x, hx⟩ : ∃ x : UInt8, x = UInt8.ofNat lp.1 := ⟨_, rfl⟩
      rw [← hx]
      obtain ⟨mb, hmb⟩ : ∃ mb, mb = M.bad lp.2.x := ⟨_, rfl⟩
      rw [← hmb] at hDv
      have HMB := Lib.hid hmb
      have HX := Lib.hid hx
      clear hmb hx
      go_upto_region 15 with fail
      go_cut [92] from 79 to 92 (fun v wx => v = .bool mb ∧ wx = w3)
      case first =>
        rcases hDv with ⟨rfl, rfl⟩ | ⟨db, rfl, cb⟩
        · go_wp2_with fail
          go_meet
          exact ⟨rfl, rfl⟩
        · go_wp2_with fail
          go_meet
          exact ⟨rfl, rfl⟩
      case rest =>
        obtain ⟨rfl, rfl⟩ := hcut
        clear hDv c4
        cases mb with
        | true =>
          have hend : PackPost R K w1 G g res (.returned (.int .i64 0)) (wc.setCell ⟨g, 14, none⟩ (.bool true)) := by
            rw [HR.out]
            unfold packL
            rw [if_pos HMB.out.symm]
            exact ⟨rfl, HZ3.out.put Z (z' := { z2 with st := litSt z2.st, bad := true }) (fun _ _ _ _ _ _ => rfl) rfl⟩
          have HE := Lib.hid hend
          clear hend
          go_wp2_with fail
          go_ret
          exact HE.out
        | false =>
          have hr : res = (1, Lzs.push { z2 with st := litSt z2.st } x, lp.2) := by
            rw [HR.out]
            unfold packL
            rw [if_neg (by rw [← HMB.out]; simp), HX.out]
          have HRX := Lib.hid hr
          obtain ⟨A3, cc3, c7, hown, hpush⟩ := HZ3.out.push Z X x
          have HOW := Lib.hid hown
          have HPU := Lib.hid hpush
          have HL := Lib.hid (show z2.out.length ≤ 1000000 by have := HN2.out.out; have := HZN.out.2.1; omega)
          have HA1 := Lib.hid (show Only (fun _ => False) wc (wc.alloc (.cells #[.int .u8 (x.toNat : Int)] 5)) from (Only.refl _ _).alloc _)
          have c7a : (wc.alloc (.cells #[.int .u8 (x.toNat : Int)] 5)).cell? ⟨g, 7, none⟩ = some (.slice A3 z2.out.length cc3) := by
            obtain ⟨G3, hz3, _⟩ := HZ3.out
            exact (HA1.out.cell (p := ⟨g, 7, none⟩) (hz3.old hz3.own) (fun h => h)).trans c7
          obtain ⟨i, hi, hz0, hz1, hz2⟩ := info_parts info_u8
          clear hown hpush HR HMB HX hr c14 f14
          generalize z2.out.length = ln at *
          go_wp2_with (at_builtin; refine wpList_app2 _ rfl (.tmp 100) (.tmp 102) 22 rfl 0 5 i _ 1 Tryz.underlying22 hi hz0 hz1 hz2 rfl _ ln (bv z2.out) rfl (HOW.out.alloc _) (some ⟨wc.heap.size, 0, none⟩) 1 1 [.int .u8 (x.toNat : Int)] rfl (sl_one wc _ _) (one_one _ _) (by have := HL.out; omega) (by omega) (Nat.zero_le _) ?_)
          intro A5 c5 w5 ho5 hg5 hq5
          obtain ⟨d7, f7, hz5⟩ := HPU.out _ w5 A5 c5 HA1.out ho5 hg5 (by rw [show (wc.alloc (.cells #[.int .u8 (x.toNat : Int)] 5)).heap.size = wc.heap.size + 1 by simp]; exact hq5)
          have HZ5 := Lib.hid hz5
          clear ho5 hg5 hq5 hz5 HPU HOW HA1 c7 c7a
          go_wp2_with fail
          go_ret
          rw [HRX.out]
          exact ⟨rfl, HZ5.out⟩
    · have q0 : ((kv : Int) == 0) = false := by simp; omega
      by_cases hk1 : kv = 1
      · subst hk1
        clear hk0 q0
        obtain ⟨lw, hlw⟩ : ∃ lw : Int, lw = IntKind.i64.wrap (p.len - 2) := ⟨_, rfl⟩
        obtain ⟨ls, hls⟩ : ∃ ls : Int, ls = if p.kind = 7 then 0 else p.len - 2 := ⟨_, rfl⟩
        obtain ⟨ds, hds⟩ : ∃ ds : Nat, ds = if p.kind = 7 then 4294967295 else d := ⟨_, rfl⟩
        have htel : M.enc = true → p.kind = 1 ∨ p.kind = 7 := fun he => by
          have h1 := HKB.out.2.2 he
          by_cases h7 : p.kind = 7
          · exact .inr h7
          · rw [if_neg h7] at h1
            exact .inl (by omega)
        have hlen : p.kind = 7 ∨ (-900000 ≤ p.len ∧ p.len ≤ 900000) := by
          rcases HPF.out.2.2.2 with h | ⟨he, h⟩
          · exact .inr h
          · rcases htel he with h1 | h1
            · omega
            · exact .inl h1
        have hmay : M.mayN ls := fun he => by
          rw [hls]
          split
          · omega
          · rename_i h7
            rcases htel he with h1 | h1
            · have := (HPF.out.2.1 he).2.2.2 (by omega)
              omega
            · exact absurd h1 h7
        have hlsb : -1000000 ≤ ls ∧ ls ≤ 1000000 := by
          rw [hls]
          split
          · omega
          · rename_i h7
            rcases hlen with h | h
            · exact absurd h h7
            · omega
        have hdsb : ds < 4294967296 := by
          rw [hds]
          split
          · decide
          · have := HPF.out.1.d
            rw [HPF.out.2.2.1] at this
            exact this
        have hs15 := HZN.out.2.2.1
        have hL0 := HZN.out.2.2.2
        have hLs := (HN2.out.fine (by have := HZN.out.2.1; omega)).small.1
        obtain ⟨z3, hz3⟩ : ∃ z3 : Lzs, z3 = { z2 with r0 := 0, r1 := z2.r0, r2 := z2.r1, r3 := z2.r2 } := ⟨_, rfl⟩
        have hput : ZAt R K w1 G ((((((w2.setCell ⟨g, 9, none⟩ (.int .u32 0)).setCell ⟨g, 10, none⟩ (.int .u32 (z2.r0 : Int))).setCell ⟨g, 11, none⟩ (.int .u32 (z2.r1 : Int))).setCell ⟨g, 12, none⟩ (.int .u32 (z2.r2 : Int)))).drew) g z3 tk := by
          rw [hz3]
          exact ((((HZZ.out.put Z (z' := { z2 with r0 := 0 }) (fun _ _ _ _ _ _ => rfl) rfl).put Z (z' := { z2 with r0 := 0, r1 := z2.r0 }) (fun _ _ _ _ _ _ => rfl) rfl).put Z (z' := { z2 with r0 := 0, r1 := z2.r0, r2 := z2.r1 }) (fun _ _ _ _ _ _ => rfl) rfl).put Z (z' := { z2 with r0 := 0, r1 := z2.r0, r2 := z2.r1, r3 := z2.r2 }) (fun _ _ _ _ _ _ => rfl) rfl).drewN Z 1
        have HPU := Lib.hid hput
        have KLe := Lib.hid (fun (w3 : World) (hw : ZAt R K w1 G w3 g z3 tk) => zlen_any Z hw (k := k + 12) (a := 819) (s := s) (v := ls) HKB.out.2.1 (by omega) hs15 hLs hmay hlsb.1 hlsb.2)
        have hlr := lenP_ok Z.okm (k := k + 12) (a := 819) (s := s) (v := ls) HKB.out.2.1 (show 819 + 514 ≤ L by omega) hs15 hmay
        have hres : res = packM M (lenP M tk 819 s ls) z2 ds := by
          rw [HRR.out, HZE.out, hls, hds]
          unfold packK
          rw [if_neg (show ¬ (1 : Nat) = 0 by decide), if_pos rfl, ← HPF.out.2.2.1]
        generalize lenP M tk 819 s ls = lr at *
        obtain ⟨_, _, _, _, _, c9, c10, c11, c12, _, _, fz⟩ := hzz.cells
        have f9 := fz 9
        have f10 := fz 10
        have f11 := fz 11
        have f12 := fz 12
        have HLR := Lib.hid hlr
        have HRES := Lib.hid hres
        have HLB := Lib.hid (And.intro hdsb (And.intro hL0 hLs))
        have HZ3 := Lib.hid hz3
        have HN3 := Lib.hid (show ZNear z3 L N by rw [hz3]; exact ⟨HN2.out.lc, HN2.out.lp, HN2.out.pb, HN2.out.dict, HN2.out.out, HN2.out.st, (show 0 < 4294967296 by decide), HN2.out.r0, HN2.out.r1, HN2.out.r2, HN2.out.len⟩)
        have HLW := Lib.hid (And.intro hlw (And.intro hls hds))
        clear hlw hls hds htel hlen hmay hlsb hdsb hs15 hL0 hLs hz3 hput hlr hres fz HRR HZE
        go_wp2_with fail
        go_region
        clear c9 c10 c11 c12 f9 f10 f11 f12 hzz HZZ HN2 b0 b1 b2 b3
        generalize (((((w2.setCell ⟨g, 9, none⟩ (.int .u32 0)).setCell ⟨g, 10, none⟩ (.int .u32 (z2.r0 : Int))).setCell ⟨g, 11, none⟩ (.int .u32 (z2.r1 : Int))).setCell ⟨g, 12, none⟩ (.int .u32 (z2.r2 : Int)))).drew = w3 at *
        obtain ⟨b0, b1, b2, b3⟩ := HST.out _ _ _ HPU.out
        go_upto_if 134 with fail
        go_cut [9, 10] from 132 (fun v9 v10 wx => v9 = .int .u32 (ds : Int) ∧ v10 = .int .i64 ls ∧ wx = w3)
        case first =>
          by_cases h7 : p.kind = 7
          · obtain ⟨_, h2, h3⟩ := HLW.out
            rw [if_pos h7] at h2 h3
            have q7 : (p.kind == 7) = true := by simp [h7]
            have HD := Lib.hid (And.intro h2 h3)
            clear h2 h3 h7
            go_wp2_with fail
            go_meet
            obtain ⟨h2, h3⟩ := HD.out
            subst h2 h3
            exact ⟨rfl, rfl, rfl⟩
          · obtain ⟨h1, h2, h3⟩ := HLW.out
            rw [if_neg h7] at h2 h3
            have q7 : (p.kind == 7) = false := by simp [h7]
            have e7 : IntKind.i64.wrap (p.len - 2) = ls := by rw [h2]; exact IntWalk.i64_in _ (by
              rcases HPF.out.2.2.2 with h | ⟨he, h⟩
              · omega
              · have h5 := HKB.out.2.2 he
                rw [if_neg h7] at h5
                omega)
            have HD := Lib.hid h3
            clear h1 h2 h3 h7
            go_wp2_with fail
            go_meet
            exact ⟨by rw [HD.out], by first | rfl | exact congrArg (Value.int .i64) ((IntWalk.i64_left _).symm.trans e7), rfl⟩
        case rest =>
          obtain ⟨rfl, rfl, rfl⟩ := hcut
          have KL3 := Lib.hid (KLe.out _ HPU.out)
          clear KLe HPU HLW HKB HPF b0 b1 b2 b3
          go_wp2_with fail
          refine KL3.out.mono ?_
          rintro e w4 ⟨rfl, hz4⟩
          have KA : Calls Tryz.prog 53 #[.pointer (some ⟨g, 0, none⟩), .int .i64 7, .int .i64 10] w4 fun x w' => x = .returned (.tuple #[]) ∧ ZAt R K w1 G w' g { z3 with st := if z3.st < 7 then 7 else 10 } lr.2 := zafter_any (a := 7) (b := 10) Z hz4
          obtain ⟨z4, hz4e⟩ : ∃ z4 : Lzs, z4 = { z3 with st := if z3.st < 7 then 7 else 10 } := ⟨_, rfl⟩
          rw [← hz4e] at KA
          have KA := Lib.hid KA
          have HZ4E := Lib.hid hz4e
          have KD := Lib.hid (fun (w5 : World) (hw : ZAt R K w1 G w5 g z4 lr.2) => zdist_any Z hw (k := k) (l := lr.1) (v := ds) HLR.out.2 HLB.out.2.1 HLB.out.2.2 (by have := HLR.out.1; omega) HLB.out.1)
          have hdr := distP_ok Z.okm (k := k) (l := lr.1) (v := ds) HLR.out.2 HLB.out.2.1 HLB.out.1
          have hres : res = packD M lr.1 (distP M lr.2 lr.1 ds) z4 := by rw [HRES.out, hz4e, HZ3.out]; rfl
          generalize distP M lr.2 lr.1 ds = dr at *
          have HDR := Lib.hid hdr
          have HRS := Lib.hid hres
          have hl1 := HLR.out.1
          have e5 : IntKind.i64.wrap ((lr.1 : Int) + 2) = (lr.1 : Int) + 2 := IntWalk.i64_in _ (by omega)
          clear hz4e hdr hres hz4 KL3 hl1
          go_wp2_with fail
          refine KA.out.mono ?_
          rintro e w5 ⟨rfl, hz5⟩
          have KD5 := Lib.hid (fun n => KD.out _ (hz5.drewN Z n))
          clear KA KD hz5
          go_wp2_with fail
          go_region_law ((go_simp; go_at_call 54; refine (KD5.out _).mono ?_; rintro e w6 ⟨rfl, hz6⟩; have HZ6 := Lib.hid hz6; have d9 := hz6.cells.2.2.2.2.2.1; have f9 := hz6.cells.2.2.2.2.2.2.2.2.2.2.2 9; clear hz6))
          have hz7 : ZAt R K w1 G (w6.setCell ⟨g, 9, none⟩ (.int .u32 (dr.1 : Int))) g { z4 with r0 := dr.1 } dr.2 := HZ6.out.put Z (z' := { z4 with r0 := dr.1 }) (fun _ _ _ _ _ _ => rfl) rfl
          clear d9 f9 HZ6 KD5
          generalize w6.setCell ⟨g, 9, none⟩ (.int .u32 (dr.1 : Int)) = w7 at *
          obtain ⟨Dv, c4, hDv⟩ := hz7.mbad X
          obtain ⟨_, _, _, _, _, c9, _, _, _, c13, _, fz⟩ := hz7.cells
          have f13 := fz 13
          have c9 : w7.cell? ⟨g, 9, none⟩ = some (.int .u32 (dr.1 : Int)) := c9
          obtain ⟨mb, hmb⟩ : ∃ mb, mb = M.bad dr.2.x := ⟨_, rfl⟩
          rw [← hmb] at hDv
          have hend : ∀ en : Bool, en = (decide (dr.1 = 4294967295) && !mb) → TailAt M R K w1 G g L N res (.int .i64 ((lr.1 : Int) + 2)) (w7.setCell ⟨g, 13, none⟩ (.bool en)) := by
            intro en hen
            refine ⟨lr.1 + 2, { z4 with r0 := dr.1, ended := en }, dr.2, by rw [Int.natCast_add]; rfl, by have := HLR.out.1; omega, hz7.put Z (z' := { z4 with r0 := dr.1, ended := en }) (fun _ _ _ _ _ _ => rfl) rfl, ?_, ?_⟩
            · rw [HRS.out, hen, hmb]
              rfl
            · have h2 := HN3.out
              rw [HZ4E.out]
              refine ⟨h2.lc, h2.lp, h2.pb, h2.dict, h2.out, ?_, HDR.out.1, h2.r1, h2.r2, h2.r3, h2.len⟩
              show (if z3.st < 7 then 7 else 10) ≤ 11
              split <;> decide
          have HE := Lib.hid hend
          have HD := Lib.hid hDv
          clear hend hz7 fz hmb hDv HRS HDR HZ4E HLR HLB HRES HZ3 HN3 HZN
          by_cases hE : dr.1 = 4294967295
          · have qE : ((dr.1 : Int) == 4294967295) = true := by simp [hE]
            have HE1 := Lib.hid (fun en h => HE.out en (by rw [h, decide_eq_true hE]; rfl) : ∀ en : Bool, en = !mb → _)
            clear hE HE
            rcases HD.out with ⟨rfl, h2⟩ | ⟨db, rfl, cb⟩
            · subst h2
              go_wp2_with fail
              go_meet
              exact HE1.out true rfl
            · cases mb
              · go_wp2_with fail
                go_meet
                exact HE1.out true rfl
              · go_wp2_with fail
                go_meet
                exact HE1.out false rfl
          · have qE : ((dr.1 : Int) == 4294967295) = false := by simp; omega
            have HE1 := Lib.hid (HE.out false (by rw [decide_eq_false hE]; rfl))
            clear hE HE HD
            go_wp2_with fail
            go_meet
            exact HE1.out
      · have q1 : ((kv : Int) == 1) = false := by simp; omega
        by_cases hk6 : kv = 6
        · subst hk6
          clear hk0 q0 hk1 q1
          have KA : Calls Tryz.prog 53 #[.pointer (some ⟨g, 0, none⟩), .int .i64 9, .int .i64 11] w2 fun x w' => x = .returned (.tuple #[]) ∧ ZAt R K w1 G w' g { z2 with st := if z2.st < 7 then 9 else 11 } tk := zafter_any (a := 9) (b := 11) Z hzz
          have hend : ∀ w3, ZAt R K w1 G w3 g { z2 with st := if z2.st < 7 then 9 else 11 } tk → TailAt M R K w1 G g L N res (.int .i64 1) w3 := by
            intro w3 h3
            refine ⟨1, _, _, rfl, by decide, h3, ?_, ?_⟩
            · rw [HRR.out, HZE.out]
              unfold packK
              rw [if_neg (show ¬ (6 : Nat) = 0 by decide), if_neg (show ¬ (6 : Nat) = 1 by decide), if_pos rfl]
              rfl
            · have h2 := HN2.out
              refine ⟨h2.lc, h2.lp, h2.pb, h2.dict, h2.out, ?_, h2.r0, h2.r1, h2.r2, h2.r3, h2.len⟩
              show (if z2.st < 7 then 9 else 11) ≤ 11
              split <;> decide
          have HE := Lib.hid hend
          have KA := Lib.hid KA
          clear hend hzz HZZ HRR HZE HN2 HKB HPF b0 b1 b2 b3
          go_wp2_with fail
          refine KA.out.mono ?_
          rintro e w3 ⟨rfl, hz3⟩
          have HE3 := Lib.hid (HE.out _ hz3)
          clear hz3 HE KA
          go_wp2_with fail
          go_meet
          exact HE3.out
        · have q6 : ((kv : Int) == 6) = false := by simp; omega
          have hk := HKB.out.1
          obtain ⟨j, hj⟩ : ∃ j, j = kv - 2 := ⟨_, rfl⟩
          have hj3 : j ≤ 3 := by omega
          have ej : IntKind.i64.wrap ((kv : Int) - 2) = (j : Int) := by rw [show (kv : Int) - 2 = (j : Int) by omega]; exact IntWalk.i64_in _ (by omega)
          obtain ⟨ls, hls⟩ : ∃ ls : Int, ls = p.len - 2 := ⟨_, rfl⟩
          have htel : M.enc = true → p.kind = (kv : Int) := fun he => by
            have h1 := HKB.out.2.2 he
            by_cases h7 : p.kind = 7
            · rw [if_pos h7] at h1
              omega
            · rw [if_neg h7] at h1
              exact h1.symm
          have hlen : -900000 ≤ p.len ∧ p.len ≤ 900000 := by
            rcases HPF.out.2.2.2 with h | ⟨he, h⟩
            · exact h
            · have := htel he
              omega
          have hmay : M.mayN ls := fun he => by
            have h1 := htel he
            have := (HPF.out.2.1 he).2.2.2 (by omega)
            omega
          have els : IntKind.i64.wrap (p.len - 2) = ls := by rw [hls]; exact IntWalk.i64_in _ (by omega)
          have hs15 := HZN.out.2.2.1
          have hL0 := HZN.out.2.2.2
          have hLs := (HN2.out.fine (by have := HZN.out.2.1; omega)).small.1
          have KLe := Lib.hid (fun (z3 : Lzs) (w3 : World) (hw : ZAt R K w1 G w3 g z3 tk) => zlen_any Z hw (k := k + 12) (a := 1333) (s := s) (v := ls) HKB.out.2.1 (by omega) hs15 hLs hmay (by omega) (by omega))
          have hlr := lenP_ok Z.okm (k := k + 12) (a := 1333) (s := s) (v := ls) HKB.out.2.1 (show 1333 + 514 ≤ L by omega) hs15 hmay
          have hres : res = packR M (lenP M tk 1333 s ls) z2 j := by
            rw [HRR.out, HZE.out, hls, hj]
            unfold packK
            rw [if_neg hk0, if_neg hk1, if_neg hk6]
          generalize lenP M tk 1333 s ls = lr at *
          have HLR := Lib.hid hlr
          have HRES := Lib.hid hres
          have HJ := Lib.hid hj3
          clear hlr hres hls htel hlen hmay hs15 hL0 hLs hk hk0 hk1 hk6 hj HRR HZE HKB HPF hj3
          go_upto_region 5 with fail
          go_cut [11] from 34 to 40 (fun v wx => v = .int .u32 (z2.rep j : Int) ∧ wx = w2)
          case first =>
            obtain ⟨_, _, _, _, _, c9, c10, c11, c12, _⟩ := hzz.cells
            have hj3 := HJ.out
            have hjj : j = 0 ∨ j = 1 ∨ j = 2 ∨ j = 3 := by omega
            rcases hjj with rfl | rfl | rfl | rfl
            all_goals
              clear hj3
              go_wp2_with fail
              go_meet
              exact ⟨rfl, rfl⟩
          case rest =>
            obtain ⟨rfl, rfl⟩ := hcut
            have hstart : ZAt R K w1 G wc g (z2.sh j j) tk := by rw [sh_self]; exact hzz
            have HSS := Lib.hid hstart
            clear hstart hzz HZZ b0 b1 b2 b3
            go_wp2_with fail
            go_loopw [12] (fun iv wr => ∃ i : Nat, i ≤ j ∧ iv = .int .i64 (i : Int) ∧ ZAt R K w1 G wr g (z2.sh j i) tk) (fun iv _ => (intOf iv).toNat)
            case atStart => exact ⟨j, Nat.le_refl _, rfl, HSS.out⟩
            case round =>
              clear HSS
              obtain ⟨i, hi, rfl, hzi⟩ := hrel
              obtain ⟨_, _, _, _, _, c9, c10, c11, c12, _, _, fz⟩ := hzi.cells
              by_cases h0 : 0 < i
              · have hii : i = 1 ∨ i = 2 ∨ i = 3 := by have := HJ.out; omega
                rcases hii with rfl | rfl | rfl
                · have eold : (z2.sh j 1).r0 = z2.r0 := rfl
                  have hput : ZAt R K w1 G ((wr.setCell ⟨g, 10, none⟩ (.int .u32 (z2.r0 : Int))).drew) g (z2.sh j 0) tk := by
                    have h5 := (hzi.put Z (i := 10) (u := .int .u32 (z2.r0 : Int)) (z' := { z2.sh j 1 with r1 := z2.r0 }) (fun _ _ _ _ _ _ => rfl) rfl).drewN Z 1
                    rw [sh_step1 z2 HJ.out hi] at h5
                    exact h5
                  have HPUT := Lib.hid hput
                  rw [eold] at c9
                  have ff := fz 10
                  have HI := Lib.hid hi
                  clear hput eold hi hzi fz h0
                  go_wp2_with fail
                  go_region
                  clear c10 c11 c12 c9 ff
                  generalize (wr.setCell ⟨g, 10, none⟩ (.int .u32 (z2.r0 : Int))).drew = w4 at *
                  go_wp2_with fail
                  go_roundw
                  case rel => exact ⟨0, by have := HI.out; omega, rfl, HPUT.out⟩
                  case measure => simp [intOf]
                · have eold : (if 2 < 1 ∧ 1 ≤ j then z2.r0 else z2.r1) = z2.r1 := if_neg (by omega)
                  have eold : (z2.sh j 2).r1 = z2.r1 := eold
                  have hput : ZAt R K w1 G ((wr.setCell ⟨g, 11, none⟩ (.int .u32 (z2.r1 : Int))).drew) g (z2.sh j 1) tk := by
                    have h5 := (hzi.put Z (i := 11) (u := .int .u32 (z2.r1 : Int)) (z' := { z2.sh j 2 with r2 := z2.r1 }) (fun _ _ _ _ _ _ => rfl) rfl).drewN Z 1
                    rw [sh_step2 z2 HJ.out hi] at h5
                    exact h5
                  have HPUT := Lib.hid hput
                  rw [eold] at c10
                  have ff := fz 11
                  have HI := Lib.hid hi
                  clear hput eold hi hzi fz h0
                  go_wp2_with fail
                  go_region
                  clear c10 c11 c12 c9 ff
                  generalize (wr.setCell ⟨g, 11, none⟩ (.int .u32 (z2.r1 : Int))).drew = w4 at *
                  go_wp2_with fail
                  go_roundw
                  case rel => exact ⟨1, by have := HI.out; omega, rfl, HPUT.out⟩
                  case measure => simp [intOf]
                · have eold : (if 3 < 2 ∧ 2 ≤ j then z2.r1 else z2.r2) = z2.r2 := if_neg (by omega)
                  have eold : (z2.sh j 3).r2 = z2.r2 := eold
                  have hput : ZAt R K w1 G ((wr.setCell ⟨g, 12, none⟩ (.int .u32 (z2.r2 : Int))).drew) g (z2.sh j 2) tk := by
                    have h5 := (hzi.put Z (i := 12) (u := .int .u32 (z2.r2 : Int)) (z' := { z2.sh j 3 with r3 := z2.r2 }) (fun _ _ _ _ _ _ => rfl) rfl).drewN Z 1
                    rw [sh_step3 z2 HJ.out hi] at h5
                    exact h5
                  have HPUT := Lib.hid hput
                  rw [eold] at c11
                  have ff := fz 12
                  have HI := Lib.hid hi
                  clear hput eold hi hzi fz h0
                  go_wp2_with fail
                  go_region
                  clear c10 c11 c12 c9 ff
                  generalize (wr.setCell ⟨g, 12, none⟩ (.int .u32 (z2.r2 : Int))).drew = w4 at *
                  go_wp2_with fail
                  go_roundw
                  case rel => exact ⟨2, by have := HI.out; omega, rfl, HPUT.out⟩
                  case measure => simp [intOf]
              · obtain rfl : i = 0 := by omega
                have hput : ZAt R K w1 G (wr.setCell ⟨g, 9, none⟩ (.int .u32 (z2.rep j : Int))) g (z2.again j) tk := by
                  have h5 := hzi.put Z (i := 9) (u := .int .u32 (z2.rep j : Int)) (z' := { z2.sh j 0 with r0 := z2.rep j }) (fun _ _ _ _ _ _ => rfl) rfl
                  rw [sh_again z2 HJ.out] at h5
                  exact h5
                have HPUT := Lib.hid hput
                have ff := fz 9
                clear hput hzi fz h0 hi c10 c11 c12
                go_upto_region 11 with fail
                clear c9 ff
                generalize wr.setCell ⟨g, 9, none⟩ (.int .u32 (z2.rep j : Int)) = w4 at *
                obtain ⟨b0, b1, b2, b3⟩ := HST.out _ _ _ HPUT.out
                have KL4 := Lib.hid (KLe.out _ _ HPUT.out)
                have hl1 := HLR.out.1
                have e5 : IntKind.i64.wrap ((lr.1 : Int) + 2) = (lr.1 : Int) + 2 := IntWalk.i64_in _ (by omega)
                have hend : ∀ w3, ZAt R K w1 G w3 g { z2.again j with st := if (z2.again j).st < 7 then 8 else 11 } lr.2 → TailAt M R K w1 G g L N res (.int .i64 ((lr.1 : Int) + 2)) w3 := by
                  intro w3 h3
                  refine ⟨lr.1 + 2, _, _, by rw [Int.natCast_add]; rfl, by omega, h3, ?_, ?_⟩
                  · rw [HRES.out]
                    rfl
                  · have hz := HN2.out
                    have hr := rep_lt hz
                    refine ⟨hz.lc, hz.lp, hz.pb, hz.dict, hz.out, ?_, hr j, ?_, ?_, ?_, hz.len⟩
                    · show (if z2.st < 7 then 8 else 11) ≤ 11
                      split <;> decide
                    · show (if j = 0 then z2.r1 else z2.r0) < _
                      split
                      · exact hz.r1
                      · exact hz.r0
                    · show (if j ≤ 1 then z2.r2 else z2.r1) < _
                      split
                      · exact hz.r2
                      · exact hz.r1
                    · show (if j ≤ 2 then z2.r3 else z2.r2) < _
                      split
                      · exact hz.r3
                      · exact hz.r2
                have HE := Lib.hid hend
                clear hend hl1 HRES HLR HPUT KLe
                go_wp2_with fail
                refine KL4.out.mono ?_
                rintro e w5 ⟨rfl, hz5⟩
                have KA : Calls Tryz.prog 53 #[.pointer (some ⟨g, 0, none⟩), .int .i64 8, .int .i64 11] w5 fun x w' => x = .returned (.tuple #[]) ∧ ZAt R K w1 G w' g { z2.again j with st := if (z2.again j).st < 7 then 8 else 11 } lr.2 := zafter_any (a := 8) (b := 11) Z hz5
                have KA := Lib.hid KA
                clear hz5 KL4 b0 b1 b2 b3
                go_wp2_with fail
                refine KA.out.mono ?_
                rintro e w6 ⟨rfl, hz6⟩
                have HE6 := Lib.hid (HE.out _ hz6)
                clear hz6 HE KA
                go_wp2_with fail
                go_meet
                exact HE6.out
  case rest =>
    obtain ⟨n, zz, tt, rfl, hn, hzz, hres, hnear⟩ := hcut
    have HRES := Lib.hid hres
    have hN := HZN.out.2.1
    have HNR := Lib.hid (And.intro hn (And.intro hnear hN))
    have HZ := Lib.hid hzz
    obtain ⟨Dv, c4, hDv⟩ := hzz.mbad X
    obtain ⟨_, _, _, _, _, _, _, _, _, c13, c14, fz⟩ := hzz.cells
    have f14 := fz 14
    obtain ⟨mb, hmb⟩ : ∃ mb, mb = M.bad tt.x := ⟨_, rfl⟩
    rw [← hmb] at hDv
    have HMB := Lib.hid hmb
    clear hn hzz hres hnear hN HZ2 HZN HPF HKB HST HRR hmb fz
    go_upto_region 34 with fail
    go_cut [194] from 181 to 194 (fun v wx => v = .bool mb ∧ wx = wc)
    case first =>
      rcases hDv with ⟨rfl, rfl⟩ | ⟨db, rfl, cb⟩
      · go_wp2_with fail
        go_meet
        exact ⟨rfl, rfl⟩
      · go_wp2_with fail
        go_meet
        exact ⟨rfl, rfl⟩
    case rest =>
      obtain ⟨rfl, rfl⟩ := hcut
      clear hDv c4
      cases mb with
      | true =>
        have hend : PackPost R K w1 G g res (.returned (.int .i64 0)) (wc.setCell ⟨g, 14, none⟩ (.bool true)) := by
          have e : tailP M n zz tt = (0, { zz with bad := true }, tt) := by
            unfold tailP
            rw [← HMB.out]
            simp
          rw [← HRES.out, e]
          exact ⟨rfl, HZ.out.put Z (z' := { zz with bad := true }) (fun _ _ _ _ _ _ => rfl) rfl⟩
        have HE := Lib.hid hend
        clear hend
        go_wp2_with fail
        go_ret
        exact HE.out
      | false =>
        have hstop : ∀ b : Bool, b = true → (zz.bad || zz.ended) = b → PackPost R K w1 G g res (.returned (.int .i64 0)) wc := by
          intro b hb hbb
          subst hb
          have e : tailP M n zz tt = (0, zz, tt) := by
            unfold tailP
            rw [← HMB.out]
            simp only [Bool.or_false]
            rw [if_pos hbb]
          rw [← HRES.out, e]
          exact ⟨rfl, HZ.out⟩
        have hgo : zz.bad = false → zz.ended = false → res = ((copyG n 0 zz).1, (copyG n 0 zz).2, tt) := by
          intro h1 h2
          rw [← HRES.out]
          unfold tailP
          rw [← HMB.out, h1, h2]
          simp
        have HS := Lib.hid hstop
        have HGO := Lib.hid hgo
        clear hstop hgo
        obtain ⟨bd, hbd⟩ : ∃ b, b = zz.bad := ⟨_, rfl⟩
        obtain ⟨en, hen⟩ : ∃ b, b = zz.ended := ⟨_, rfl⟩
        rw [← hbd] at c14
        rw [← hen] at c13
        have HBD := Lib.hid hbd
        have HEN := Lib.hid hen
        clear hbd hen
        cases bd with
        | true =>
          go_wp2_with fail
          go_ret
          exact HS.out true rfl (by rw [← HBD.out]; rfl)
        | false =>
          cases en with
          | true =>
            go_wp2_with fail
            go_ret
            exact HS.out true rfl (by rw [← HEN.out]; simp)
          | false =>
            have HG := Lib.hid (HGO.out HBD.out.symm HEN.out.symm)
            clear HS HGO HBD HEN HRES HMB
            obtain ⟨i, hi, hz0, hz1, hz2⟩ := info_parts info_u8
            go_wp2_with fail
            clear c13 c14 f14
            go_loopw [13] (fun iv wr => ∃ (j : Nat) (zj : Lzs), j ≤ n ∧ iv = .int .i64 (j : Int) ∧ ZAt R K w1 G wr g zj tt ∧ copyG (n - j) j zj = copyG n 0 zz ∧ ZNear zj L (N + j)) (fun iv _ => n - (intOf iv).toNat)
            case atStart => exact ⟨0, zz, Nat.zero_le _, rfl, HZ.out, rfl, HNR.out.2.1⟩
            case round =>
              clear HZ
              obtain ⟨j, zj, hj, rfl, hzj, hcp, hnj⟩ := hrel
              by_cases hlt : j < n
              · have glt : (j : Int) < (n : Int) := by omega
                have e1 : IntKind.i64.wrap ((j : Int) + 1) = (j : Int) + 1 := IntWalk.i64_in _ (by have := HNR.out.1; omega)
                have hoj := hnj.out
                have KB := Lib.hid (hzj.back (d := zj.r0) hnj.r0 (by have := HNR.out; omega) hnj.dict)
                obtain ⟨_, _, _, _, _, c9, _⟩ := hzj.cells
                have HZJ := Lib.hid hzj
                have HNJ := Lib.hid hnj
                by_cases hh : zj.has zj.r0 = true
                · have hcp2 : copyG (n - (j + 1)) (j + 1) (zj.push (zj.back zj.r0)) = copyG n 0 zz := by
                    rw [← hcp, show n - j = (n - (j + 1)) + 1 by omega, copyG_go hh]
                  have HCP := Lib.hid hcp2
                  rw [hh] at KB
                  have hnp : ZNear (zj.push (zj.back zj.r0)) L (N + (j + 1)) := ⟨hnj.lc, hnj.lp, hnj.pb, hnj.dict, by show (zj.out ++ [_]).length ≤ _; simp; omega, hnj.st, hnj.r0, hnj.r1, hnj.r2, hnj.r3, hnj.len⟩
                  have HNP := Lib.hid hnp
                  have HLT := Lib.hid hlt
                  clear hcp hcp2 hnp hh hzj hnj hoj hj hlt
                  obtain ⟨x, hx⟩ : ∃ x, x = zj.back zj.r0 := ⟨_, rfl⟩
                  rw [← hx] at KB HCP HNP
                  clear hx
                  go_wp2_with fail
                  refine KB.out.mono ?_
                  rintro e w3 ⟨rfl, k3, rfl⟩
                  have hz3 := HZJ.out.drewN Z k3
                  generalize wr.drewN k3 = w3 at *
                  obtain ⟨A3, cc3, c7, hown, hpush⟩ := hz3.push Z X x
                  have HOW := Lib.hid hown
                  have HPU := Lib.hid hpush
                  have HL := Lib.hid (show zj.out.length ≤ 1000000 by have := HNJ.out.out; have := HNR.out; have := HLT.out; omega)
                  have HA1 := Lib.hid (show Only (fun _ => False) w3 (w3.alloc (.cells #[.int .u8 (x.toNat : Int)] 5)) from (Only.refl _ _).alloc _)
                  have c7a : (w3.alloc (.cells #[.int .u8 (x.toNat : Int)] 5)).cell? ⟨g, 7, none⟩ = some (.slice A3 zj.out.length cc3) := by
                    obtain ⟨G3, hz3, _⟩ := hz3
                    exact (HA1.out.cell (p := ⟨g, 7, none⟩) (hz3.old hz3.own) (fun h => h)).trans c7
                  clear hz3 hown hpush c9 KB HZJ HNJ
                  generalize zj.out.length = ln at *
                  go_wp2_with (at_builtin; refine wpList_app2 _ rfl (.tmp 233) (.tmp 235) 22 rfl 0 5 i _ 1 Tryz.underlying22 hi hz0 hz1 hz2 rfl _ ln (bv zj.out) rfl (HOW.out.alloc _) (some ⟨w3.heap.size, 0, none⟩) 1 1 [.int .u8 (x.toNat : Int)] rfl (sl_one w3 _ _) (one_one _ _) (by have := HL.out; omega) (by omega) (Nat.zero_le _) ?_)
                  intro A5 c5 w5 ho5 hg5 hq5
                  obtain ⟨d7, f7, hz5⟩ := HPU.out _ w5 A5 c5 HA1.out ho5 hg5 (by rw [show (w3.alloc (.cells #[.int .u8 (x.toNat : Int)] 5)).heap.size = w3.heap.size + 1 by simp]; exact hq5)
                  have HZ5 := Lib.hid hz5
                  clear ho5 hg5 hq5 hz5 HPU HOW HA1 c7 c7a
                  go_wp2_with fail
                  go_roundw
                  case rel => exact ⟨j + 1, zj.push x, by have := HLT.out; omega, by go_num, HZ5.out, HCP.out, HNP.out⟩
                  case measure => have := HLT.out; simp [intOf]; omega
                · have hf : zj.has zj.r0 = false := by simpa using hh
                  have hend : ∀ k3, PackPost R K w1 G g res (.returned (.int .i64 (j : Int))) ((wr.drewN k3).setCell ⟨g, 14, none⟩ (.bool true)) := by
                    intro k3
                    have e : copyG n 0 zz = (j, { zj with bad := true }) := by rw [← hcp, show n - j = (n - (j + 1)) + 1 by omega, copyG_stop hh]
                    rw [HG.out, e]
                    exact ⟨rfl, (hzj.drewN Z k3).put Z (z' := { zj with bad := true }) (fun _ _ _ _ _ _ => rfl) rfl⟩
                  have HE := Lib.hid hend
                  rw [hf] at KB
                  obtain ⟨_, _, _, _, _, _, _, _, _, _, c14, fz⟩ := hzj.cells
                  have f14 := fz 14
                  clear hend hf hh hcp hzj hnj hoj hj hlt HZJ HNJ fz
                  generalize zj.back zj.r0 = x at *
                  go_wp2_with fail
                  refine KB.out.mono ?_
                  rintro e w3 ⟨rfl, k3, rfl⟩
                  have d14 : (wr.drewN k3).cell? ⟨g, 14, none⟩ = some (.bool zj.bad) := c14
                  have g14 : (wr.drewN k3).frozen? ⟨g, 14, none⟩ = false := f14
                  have HE3 := Lib.hid (HE.out k3)
                  clear KB HE c9 c14 f14
                  generalize wr.drewN k3 = w3 at *
                  go_wp2_with fail
                  go_ret
                  exact HE3.out
              · obtain rfl : j = n := by omega
                have hirr : ¬ (j : Int) < (j : Int) := by omega
                have hend : PackPost R K w1 G g res (.returned (.int .i64 (j : Int))) wr := by
                  rw [Nat.sub_self, copyG_zero] at hcp
                  rw [HG.out, ← hcp]
                  exact ⟨rfl, hzj⟩
                have HE := Lib.hid hend
                clear hend hcp hnj hzj hj hlt
                go_wp2_with fail
                go_ret
                exact HE.out
end
end Go.Proofs.YtiolfjhddbiglaaGreatDoor

/-
  The reference of LZMA begins.
-/
namespace Go.Proofs.YtiolfjhddbiglaaGreatDoor
open Go.RowKit

/-- Block g is a new one, of neither kind yet. -/
def Zn (w : World) (g p pc : Nat) (z : Lzs) (L : Nat) : Prop :=
  Blk w g 66 (zCells z (.pointer none) (.pointer none) p L pc none 0 0) ∧ Row w p (List.replicate L 1024) pc ∧ p ≠ g
theorem own_zero {w : World} {base : Nat} {e : TypeId} {v : Value} {n : Nat} {xs : List Value} (h : w.ownsRow base e 1 v n xs) : w.ownsRow 0 e 1 v n xs := by
  refine ⟨h.1, ?_⟩
  rcases h.2 with hv | ⟨g, cap, cur, hv, hb, r⟩
  · exact .inl hv
  · exact .inr ⟨g, cap, cur, hv, Nat.zero_le _, r⟩
theorem zn_fresh {w w2 w3 : World} {lc lp pb dict L c' : Nat} {A' : Option Addr} (hL : 1 ≤ L) (hb : Below w.heap.size w w2) (h3 : Below w2.heap.size w2 w3)
    (ho : w3.ownsRow w2.heap.size 35 1 (.slice A' L c') L (pv (List.replicate L 1024))) {W : World}
    (hW : W = w3.alloc (.cells #[.int .i64 (lc : Int), .int .i64 (lp : Int), .int .i64 (pb : Int), .int .i64 (dict : Int), .pointer none, .pointer none, .slice A' L c', .slice none 0 0, .int .i64 0, .int .u32 0, .int .u32 0, .int .u32 0, .int .u32 0, .bool false, .bool false] 66)) :
    ∃ g p pc, Value.pointer (some ⟨w3.heap.size, 0, none⟩) = .pointer (some ⟨g, 0, none⟩) ∧ Zn W g p pc (Lzs.start lc lp pb dict) L ∧ w.heap.size ≤ g ∧ w.heap.size ≤ p ∧ Below w.heap.size w W := by
  obtain ⟨q, cap, hv, hq, hlt⟩ := ho.form (by omega)
  injection hv with h1 h2 h4
  subst h1 h4 hW
  have s1 := hb.size
  have s2 := h3.size
  refine ⟨_, q, c', rfl, ⟨Blk.fresh w3 _ _, ?_, by omega⟩, by omega, by omega, ?_⟩
  · unfold Row
    rw [List.length_replicate]
    exact own_only (own_zero ho) ((Only.refl (fun _ => False) w3).alloc _) (fun h => h)
  · exact (hb.trans ⟨h3.os, h3.tape, h3.output, h3.size, fun i hi => h3.block i (by omega)⟩).alloc (by omega) _

set_option maxHeartbeats 4000000 in
theorem znew_any {lc lp pb dict : Nat} (h : SetOk lc lp pb dict) (w : World) :
    Calls Tryz.prog 24 #[.agg #[.int .i64 (lc : Int), .int .i64 (lp : Int), .int .i64 (pb : Int), .int .i64 (dict : Int)]] w fun x w' =>
      ∃ g p pc, x = .returned (.pointer (some ⟨g, 0, none⟩)) ∧ Zn w' g p pc (Lzs.start lc lp pb dict) (probsN lc lp) ∧ w.heap.size ≤ g ∧ w.heap.size ≤ p ∧ Below w.heap.size w w' := by
  obtain ⟨hp, hp1, hp2⟩ := probsN_is h
  obtain ⟨w1, hw1⟩ : ∃ w1, w1 = w.alloc (.cells #[.int .i64 (lc : Int), .int .i64 (lp : Int), .int .i64 (pb : Int), .int .i64 (dict : Int)] 40) := ⟨_, rfl⟩
  have hb1 : Below w.heap.size w w1 := by rw [hw1]; exact (Below.refl _ _).alloc (Nat.le_refl _) _
  have HBk : Blk w1 w.heap.size 40 #[.int .i64 (lc : Int), .int .i64 (lp : Int), .int .i64 (pb : Int), .int .i64 (dict : Int)] := by rw [hw1]; exact Blk.fresh w _ _
  have K := Lib.hid (fun n => probs_any lc lp pb dict (w1.drewN n))
  rw [hp] at K
  have d0 : w1.cell? ⟨w.heap.size, 0, none⟩ = some (.int .i64 (lc : Int)) := HBk.cell 0
  have d1 : w1.cell? ⟨w.heap.size, 1, none⟩ = some (.int .i64 (lp : Int)) := HBk.cell 1
  have d2 : w1.cell? ⟨w.heap.size, 2, none⟩ = some (.int .i64 (pb : Int)) := HBk.cell 2
  have d3 : w1.cell? ⟨w.heap.size, 3, none⟩ = some (.int .i64 (dict : Int)) := HBk.cell 3
  have HW1 := Lib.hid hw1
  have HB1 := Lib.hid hb1
  have HBK := Lib.hid HBk
  have HL := Lib.hid (And.intro hp1 hp2)
  obtain ⟨L, hL⟩ : ∃ L, L = probsN lc lp := ⟨_, rfl⟩
  rw [← hL] at K HL ⊢
  have KF := Lib.hid (fun W => reffresh_any (n := L) (by have := HL.out; omega) W)
  clear hw1 hb1 HBk hp hp1 hp2 h hL
  go_enter Tryz.func24, Tryz.ntmps24
  go_upto_region 1 with fail
  rw [← HW1.out]
  clear HW1
  go_region_law (first
    | (go_simp; go_at_call 47; refine (K.out _).mono ?_; rintro e w2 ⟨rfl, hb2⟩; have hk2 := Blk.below (w := w1.drewN _) HBK.out hb2; have o0 := hk2.cell 0; have o1 := hk2.cell 1; have o2 := hk2.cell 2; have o3 := hk2.cell 3; have HB2 := Lib.hid hb2; have HK2 := Lib.hid hk2; clear hb2 hk2)
    | (go_simp; go_at_call 46; refine (KF.out _).mono ?_; rintro e w3 ⟨A', c', rfl, ho3, hb3⟩; have hk3 := HK2.out.below hb3; have r0 := hk3.cell 0; have r1 := hk3.cell 1; have r2 := hk3.cell 2; have r3 := hk3.cell 3; clear hk3; have HB3 := Lib.hid hb3; have HO3 := Lib.hid ho3; clear hb3 ho3))
  all_goals
    have HE := Lib.hid (fun W => zn_fresh (W := W) (lc := lc) (lp := lp) (pb := pb) (dict := dict) (by have := HL.out; omega) (HB1.out.trans ⟨HB2.out.os, HB2.out.tape, HB2.out.output, HB2.out.size, fun i hi => HB2.out.block i (Nat.lt_of_lt_of_le hi HB1.out.size)⟩) HB3.out HO3.out)
    clear K KF HB1 HB2 HB3 HO3 HBK HK2
    go_wp2_with fail
    go_ret
    obtain ⟨g, p, pc, h1, h2, h3, h4, h5⟩ := HE.out _ rfl
    exact ⟨g, p, pc, congrArg Ending.returned h1, h2, h3, h4, h5⟩
end Go.Proofs.YtiolfjhddbiglaaGreatDoor

/-
  The reference of LZMA: whether all bytes are read, and the decoder is done.
-/
namespace Go.Proofs.YtiolfjhddbiglaaGreatDoor
open Go.RowKit

section
variable {w : World} {g : Nat} {G : Nat → Prop} {z : Lzs} {t : Pm Dc} {A : Option Addr} {bs : List UInt8}
set_option maxHeartbeats 2000000 in
theorem zleft_any (h : Zz (rowOf A bs.length) (Kd A bs) w g G z t) :
    Calls Tryz.prog 29 #[.pointer (some ⟨g, 0, none⟩)] w fun x w' => x = .returned (.bool (leftD t.x)) ∧ ∃ k, w.drewN k = w' := by
  obtain ⟨Gm, Dv, Ev, p, pc, A7, c7, h⟩ := h
  obtain ⟨db, c, rfl, rfl, hG, ⟨at_, r, k, bad, hB, hat, hr, hk, hT⟩, hS, hn, hl⟩ := h.mch
  have c4 : w.cell? ⟨g, 4, none⟩ = some (.pointer (some ⟨db, 0, none⟩)) := h.blk.cell 4
  have e0 : w.cell? ⟨db, 0, none⟩ = some (.slice A bs.length c) := hB.cell 0
  have e1 : w.cell? ⟨db, 1, none⟩ = some (.int .i64 (at_ : Int)) := hB.cell 1
  have e3 : w.cell? ⟨db, 3, none⟩ = some (.int .u64 (k : Int)) := hB.cell 3
  have e4 : w.cell? ⟨db, 4, none⟩ = some (.bool bad) := hB.cell 4
  obtain ⟨v, hv⟩ : ∃ v, v = leftD t.x := ⟨_, rfl⟩
  rw [← hv]
  obtain ⟨n, hnn⟩ : ∃ n, n = bs.length := ⟨_, rfl⟩
  have hv2 : v = (!bad && (decide (k = 0) && decide (at_ = n))) := by
    rw [hv, hnn]
    rcases hT with ⟨rfl, h2⟩ | ⟨rfl, h2⟩
    · rw [h2]; rfl
    · rw [h2]
      show (decide (k = 0) && decide (bs.drop at_ = [])) = _
      have : decide (bs.drop at_ = []) = decide (at_ = bs.length) := by
        rw [decide_eq_decide, List.drop_eq_nil_iff]
        omega
      rw [this]
      rfl
  rw [← hnn] at e0
  clear hv hT hB hS hn hl hG hr hk hat h hnn
  cases bad with
  | true =>
    obtain rfl : v = false := hv2
    go_enter Tryz.func29, Tryz.ntmps29
    go_wp2_with fail
    go_quiet (fail)
    go_wp2_with fail
    go_ret
    exact ⟨rfl, _, rfl⟩
  | false =>
    by_cases hk : k = 0
    · have q0 : ((k : Int) == 0) = true := by simp [hk]
      by_cases ha : at_ = n
      · obtain rfl : v = true := by rw [hv2, hk, ha]; simp
        have q1 : ((at_ : Int) == (n : Int)) = true := by simp [ha]
        clear hv2 hk ha
        go_enter Tryz.func29, Tryz.ntmps29
        go_wp2_with fail
        go_quiet (fail)
        go_wp2_with fail
        go_ret
        exact ⟨rfl, _, rfl⟩
      · obtain rfl : v = false := by rw [hv2, decide_eq_false ha]; simp
        have q1 : ((at_ : Int) == (n : Int)) = false := by simp; omega
        clear hv2 hk ha
        go_enter Tryz.func29, Tryz.ntmps29
        go_wp2_with fail
        go_quiet (fail)
        go_wp2_with fail
        go_ret
        exact ⟨rfl, _, rfl⟩
    · obtain rfl : v = false := by rw [hv2, decide_eq_false hk]; simp
      have q0 : ((k : Int) == 0) = false := by simp; omega
      clear hv2 hk
      go_enter Tryz.func29, Tryz.ntmps29
      go_wp2_with fail
      go_quiet (fail)
      go_wp2_with fail
      go_ret
      exact ⟨rfl, _, rfl⟩

/-- a packet is decoded, or coded, from wherever it stands -/
theorem ZAt.packet {σ : Type} {M : Mach σ} {ok : Nat → σ → Prop} {R : Nat → Prop} {K : World → Value → Value → (Nat → Prop) → σ → Prop} {w w0 : World} {G0 : Nat → Prop} {z : Lzs} {t : Pm σ}
    (Z : ZOps M ok R K) (X : MachMore M R K) {L k N : Nat} {p : Pk} (h : ZAt R K w0 G0 w g z t) (ht : PmOk ok L (k + 27) t) (hz : ZNear z L N) (hN : N ≤ 900000) (hp : PkFine p) (hm : PkMay M z p) (hl : PkLen M p) :
    Calls Tryz.prog 28 #[.pointer (some ⟨g, 0, none⟩), .agg #[.int .i64 p.kind, .int .u8 (p.byte.toNat : Int), .int .i64 p.len, .int .u32 (p.dist : Int)]] w
      (PackPost R K w0 G0 g (packP M z t p)) := by
  obtain ⟨G, hzz, hNn, hO⟩ := h
  refine (zpacket_go Z X rfl hzz ht hz hN hp hm hl).mono ?_
  rintro e w' ⟨rfl, h2⟩
  exact ⟨rfl, ZAt.over hNn hO ((Only.refl _ _).alloc _) h2⟩
end
end Go.Proofs.YtiolfjhddbiglaaGreatDoor

/-
  The reference of LZMA: what a walk over its packets wants.
-/
namespace Go.Proofs.YtiolfjhddbiglaaGreatDoor
open Go.RowKit

section
variable {w w0 : World} {g : Nat} {G0 : Nat → Prop} {z : Lzs} {t : Pm Dc} {A : Option Addr} {bs : List UInt8}
theorem ZAt.dbad (h : ZAt (rowOf A bs.length) (Kd A bs) w0 G0 w g z t) : ∃ db, w.cell? ⟨g, 4, none⟩ = some (.pointer (some ⟨db, 0, none⟩)) ∧ w.cell? ⟨db, 4, none⟩ = some (.bool (decM.bad t.x)) := by
  obtain ⟨G, ⟨Gm, Dv, Ev, p, pc, A7, c7, h⟩, _⟩ := h
  obtain ⟨db, c, rfl, rfl, hG, ⟨at_, r, k, bad, hB, hT⟩, _⟩ := h.mch
  refine ⟨db, h.blk.cell 4, ?_⟩
  have e : decM.bad t.x = bad := by
    obtain ⟨_, _, _, h | h⟩ := hT
    · rw [h.1, h.2]; rfl
    · rw [h.1, h.2]; rfl
  rw [e]
  exact hB.cell 4
theorem ZAt.left (h : ZAt (rowOf A bs.length) (Kd A bs) w0 G0 w g z t) :
    Calls Tryz.prog 29 #[.pointer (some ⟨g, 0, none⟩)] w fun x w' => x = .returned (.bool (leftD t.x)) ∧ ∃ k, w.drewN k = w' := by
  obtain ⟨G, h, _⟩ := h
  exact zleft_any h
end
theorem stop_len {size : Int} {r : Nat × Lzs × Pm Dc} (h : stopD size r = false) : (r.2.1.out.length : Int) ≤ size := by
  unfold stopD at h
  have h2 : decide (size < (r.2.1.out.length : Int)) = false := by
    revert h
    cases r.2.1.bad <;> cases r.2.1.ended <;> cases decM.bad r.2.2.x <;> simp
  have := of_decide_eq_false h2
  omega
/-- how many bytes were told, as the memory has it -/
def outLen (w : World) (g : Nat) : Nat := match w.cell? ⟨g, 7, none⟩ with | some (.slice _ n _) => n | _ => 0

end Go.Proofs.YtiolfjhddbiglaaGreatDoor

/-
  The document's Unpack of LZMA2: what holds between two chunks, in memory.
-/
namespace Go.Proofs.YtiolfjhddbiglaaGreatDoor
set_option linter.unusedVariables false
open Go.RowKit

/-- no machine: between two chunks the decoder's own is not looked at -/
def Ku (w : World) (Dv Ev : Value) (Gm : Nat → Prop) (x : Unit) : Prop := Ev = .pointer none ∧ ∀ i, ¬ Gm i
theorem ku_mem : MachMem (fun _ => False) Ku where
  old := fun h hi => (h.2 _ hi).elim
  only := fun h _ _ _ => h
/-- what holds on the way: the decoder g, what is told -/
structure R11 {σ : Type} (R : Nat → Prop) (K : World → Value → Value → (Nat → Prop) → σ → Prop) (w0 : World) (g : Nat) (z : Lzs) (t : Pm σ) (out : List UInt8) (Ro : Option Addr) (cl : Nat) (G : Nat → Prop) (wr : World) : Prop where
  zz : Zz R K wr g G z t
  gl : ∀ i, G i → w0.heap.size ≤ i
  row : wr.ownsRow w0.heap.size 5 1 (.slice Ro out.length cl) out.length (bv out)
  ap : ∀ k, (Value.slice Ro out.length cl).ownBlock = some k → ¬ G k
  bel : Below w0.heap.size w0 wr
section
variable {σ σ' : Type} {R R' : Nat → Prop} {K : World → Value → Value → (Nat → Prop) → σ → Prop} {K' : World → Value → Value → (Nat → Prop) → σ' → Prop} {w0 wr w' : World} {g : Nat} {z z' : Lzs} {t : Pm σ} {t' : Pm σ'} {out : List UInt8} {Ro : Option Addr} {cl : Nat} {G G' : Nat → Prop}
theorem R11.rlt (h : R11 R K w0 g z t out Ro cl G wr) (k : Nat) (e : (Value.slice Ro out.length cl).ownBlock = some k) : w0.heap.size ≤ k ∧ k < wr.heap.size := World.ownsRow.lt h.row k e
/-- the decoder alone has turned -/
theorem R11.turn (h : R11 R K w0 g z t out Ro cl G wr) (hz : Zz R' K' w' g G' z' t') (hG : ∀ i, G' i → G i ∨ wr.heap.size ≤ i) (hO : Only G wr w') : R11 R' K' w0 g z' t' out Ro cl G' w' := by
  refine ⟨hz, fun i hi => ?_, own_only' h.row hO h.ap, fun k e hk => ?_, h.bel.trans (hO.below h.bel.size (fun i hi => h.gl i hi))⟩
  · rcases hG i hi with h1 | h1
    · exact h.gl i h1
    · exact Nat.le_trans h.bel.size h1
  · rcases hG k hk with h1 | h1
    · exact h.ap k e h1
    · have := (h.rlt k e).2
      omega
theorem R11.below (h : R11 R K w0 g z t out Ro cl G wr) (M : MachMem R K) (hR : ∀ i, R i → i < wr.heap.size) (hb : Below wr.heap.size wr w') : R11 R K w0 g z t out Ro cl G w' :=
  h.turn (h.zz.only M (Only.of_below (S := fun _ => False) hb) (fun _ _ h => h) (fun _ _ h => h)) (fun i hi => .inl hi) ((Only.of_below (S := fun _ => False) hb).mono (fun _ h => h.elim))
/-- bytes more are told -/
theorem R11.app (h : R11 R K w0 g z t out Ro cl G wr) (M : MachMem R K) (hRl : ∀ i, R i → i < w0.heap.size) {news : List UInt8} {R' : Option Addr} {cl' : Nat} (ho : w'.ownsRow w0.heap.size 5 1 (.slice R' (out ++ news).length cl') (out ++ news).length (bv (out ++ news))) (hg : wr.grownBy w' (Value.slice Ro out.length cl).ownBlock)
    (hn : (Value.slice R' (out ++ news).length cl').ownBlock = (Value.slice Ro out.length cl).ownBlock ∨ (Value.slice R' (out ++ news).length cl').ownBlock = some wr.heap.size) :
    R11 R K w0 g z t (out ++ news) R' cl' G w' := by
  have hO : Only (fun i => (Value.slice Ro out.length cl).ownBlock = some i) wr w' := ⟨hg.os, hg.tape, hg.output, hg.size, fun i hi hn => hg.block i hi (fun e => hn e.symm)⟩
  refine ⟨h.zz.only M hO (fun i hi e => h.ap i e hi) (fun i hi e => by have := (h.rlt i e).1; have := hRl i hi; omega), h.gl, ho, fun k e hk => ?_, h.bel.grown hg h.bel.size (fun k e => by have := (h.rlt k e).1; omega)⟩
  rcases hn with h1 | h1
  · exact h.ap k (h1.symm.trans e) hk
  · have e2 : wr.heap.size = k := by rw [h1] at e; injection e
    obtain ⟨_, _, _, _, _, _, _, hz⟩ := h.zz
    have := hz.old k hk
    omega
theorem R11.apps (h : R11 R K w0 g z t out Ro cl G wr) (M : MachMem R K) (hRl : ∀ i, R i → i < w0.heap.size) {news : List UInt8} {n : Nat} {R' : Option Addr} {cl' : Nat} (hl : news.length = n) (ho : w'.ownsRow w0.heap.size 5 1 (.slice R' (out.length + n) cl') (out.length + n) (bv out ++ bv news)) (hg : wr.grownBy w' (Value.slice Ro out.length cl).ownBlock)
    (hn : (Value.slice R' (out.length + n) cl').ownBlock = (Value.slice Ro out.length cl).ownBlock ∨ (Value.slice R' (out.length + n) cl').ownBlock = some wr.heap.size) :
    R11 R K w0 g z t (out ++ news) R' cl' G w' := by
  have e : out.length + n = (out ++ news).length := by rw [List.length_append, hl]
  rw [e] at ho hn
  rw [← bv_append] at ho
  exact h.app M hRl ho hg hn
end

section
variable {w w1 w0 wr : World} {g : Nat} {z z' : Lzs} {ps : List Nat} {out : List UInt8} {Ro : Option Addr} {cl : Nat} {G : Nat → Prop}
/-- a number of its own is stored -/
theorem R11.put (h : R11 (fun _ => False) Ku w0 g z ⟨ps, ()⟩ out Ro cl G wr) {i : Nat} {u : Value} (hz : ∀ Dv Ev p pc A c, (zCells z Dv Ev p ps.length pc A z.out.length c).setIfInBounds i u = zCells z' Dv Ev p ps.length pc A z.out.length c) (ho : z'.out = z.out) : R11 (fun _ => False) Ku w0 g z' ⟨ps, ()⟩ out Ro cl G (wr.setCell ⟨g, i, none⟩ u) :=
  h.turn (h.zz.put ku_mem hz ho) (fun i hi => .inl hi) ((Only.refl G wr).setCell (p := ⟨g, i, none⟩) (.inl h.zz.own) u)
/-- its window is another row -/
theorem R11.window (h : R11 (fun _ => False) Ku w0 g z ⟨ps, ()⟩ out Ro cl G wr) {A' : Option Addr} {c' B : Nat} {xs : List UInt8} (hb : Below wr.heap.size wr w1) (hB : wr.heap.size ≤ B) (ho : w1.ownsRow B 5 1 (.slice A' xs.length c') xs.length (bv xs)) :
    ∃ G', R11 (fun _ => False) Ku w0 g { z with out := xs } ⟨ps, ()⟩ out Ro cl G' (w1.setCell ⟨g, 7, none⟩ (.slice A' xs.length c')) := by
  obtain ⟨Gm, Dv, Ev, p, pc, A, c, hz⟩ := h.zz
  have h6 : Only (fun _ => False) wr w1 := Only.of_below hb
  have hS : Only (fun i => i = g) w1 (w1.setCell ⟨g, 7, none⟩ (.slice A' xs.length c')) := (Only.refl (fun i => i = g) w1).setCell (p := ⟨g, 7, none⟩) (.inl rfl) _
  have hgl := hz.blk.lt
  have hold := hz.old
  have hs6 := hb.size
  have hown : ∀ i, (Value.slice A' xs.length c').ownBlock = some i → wr.heap.size ≤ i ∧ i < w1.heap.size := fun i e => by
    have := World.ownsRow.lt ho i e
    omega
  have ho0 : w1.ownsRow 0 5 1 (.slice A' xs.length c') xs.length (bv xs) := own_zero ho
  refine ⟨fun i => G i ∨ (Value.slice A' xs.length c').ownBlock = some i, h.turn (z' := { z with out := xs }) (t' := ⟨ps, ()⟩) ⟨Gm, Dv, Ev, p, pc, A', c', ?_⟩ (fun i hi => ?_) ((h6.mono (fun _ h => h.elim)).trans (hS.mono (fun i hi => hi ▸ hz.gg)))⟩
  · refine ⟨?_, ?_, ?_, ⟨hz.mch.1, hz.mch.2⟩, .inl hz.gg, .inl hz.gp, fun i hi => .inl (hz.gm i hi), fun i hi => ?_, hz.pg, hz.mg, hz.mp, ?_, fun i _ h => h⟩
    · exact (hz.blk.only h6 (fun h => h)).put 7 (.slice A' xs.length c')
    · exact (hz.row.only h6 (fun h => h)).only hS hz.pg
    · exact own_only' ho0 hS (fun i hi e => by have := hown i hi; subst e; omega)
    · have h1 := hown i hi
      have h2 := hold p hz.gp
      exact ⟨.inr hi, by omega, by omega, hz.mch.2 i⟩
    · rintro i (hi | hi)
      · have := hold i hi
        simp [World.setCell]
        omega
      · have := hown i hi
        simp [World.setCell]
        omega
  · rcases hi with hi | hi
    · exact .inl hi
    · exact .inr (hown i hi).1
end
/-- a decoder of ranges is put in -/
theorem R11.dec {w0 wr w4 : World} {g db c : Nat} {A : Option Addr} {bs : List UInt8} {z : Lzs} {ps : List Nat} {d : Dc} {out : List UInt8} {Ro : Option Addr} {cl : Nat} {G : Nat → Prop} (h : R11 (fun _ => False) Ku w0 g z ⟨ps, ()⟩ out Ro cl G wr) (hb : Below wr.heap.size wr w4) (hR : Rf w4 db A c bs d) (hdb : wr.heap.size ≤ db)
    (hS : Sl w4 A bs.length (bv bs)) (hA : ∀ i, rowOf A bs.length i → i < w0.heap.size) (hl : bs.length ≤ 1000000000) :
    R11 (rowOf A bs.length) (Kd A bs) w0 g z ⟨ps, d⟩ out Ro cl (fun i => G i ∨ i = db) (w4.setCell ⟨g, 4, none⟩ (.pointer (some ⟨db, 0, none⟩))) := by
  obtain ⟨Gm, Dv, Ev, p, pc, A7, c7, hz⟩ := h.zz
  obtain ⟨rfl, hgm⟩ := hz.mch
  have h6 : Only (fun _ => False) wr w4 := Only.of_below hb
  have hS4 : Only (fun i => i = g) w4 (w4.setCell ⟨g, 4, none⟩ (.pointer (some ⟨db, 0, none⟩))) := (Only.refl (fun i => i = g) w4).setCell (p := ⟨g, 4, none⟩) (.inl rfl) _
  have hgl := hz.blk.lt
  have hold := hz.old
  have hs6 := hb.size
  have hpl := hold p hz.gp
  have hdl := hR.lt
  have hbs := h.bel.size
  refine h.turn (z' := z) (t' := ⟨ps, d⟩) ⟨fun i => i = db, .pointer (some ⟨db, 0, none⟩), .pointer none, p, pc, A7, c7, ?_⟩ (fun i hi => ?_) ((h6.mono (fun _ h => h.elim)).trans (hS4.mono (fun i hi => hi ▸ hz.gg)))
  · refine ⟨?_, ?_, ?_, ⟨db, c, rfl, rfl, fun i => Iff.rfl, hR.only hS4 (by show ¬ db = g; omega), hS.only hS4 (fun h0 b o e => by have := hA b ⟨h0, o, e⟩; have := h.gl g hz.gg; show ¬ b = g; omega), fun h0 q o e => by have := hA q ⟨h0, o, e⟩; omega, hl⟩, .inl hz.gg, .inl hz.gp, fun i hi => .inr hi, fun i hi => ?_, hz.pg, by show ¬ g = db; omega, by show ¬ p = db; omega, ?_, ?_⟩
    · exact (hz.blk.only h6 (fun h => h)).put 4 (.pointer (some ⟨db, 0, none⟩))
    · exact (hz.row.only h6 (fun h => h)).only hS4 hz.pg
    · exact own_only' (own_only' hz.out h6 (fun _ _ h => h)) hS4 (fun i hi e => (hz.go i hi).2.1 e)
    · obtain ⟨u1, u2, u3, _⟩ := hz.go i hi
      have := hold i u1
      exact ⟨.inl u1, u2, u3, by show ¬ i = db; omega⟩
    · rintro i (hi | rfl)
      · have := hold i hi
        simp [World.setCell]
        omega
      · simpa [World.setCell] using hdl
    · rintro i (hi | rfl) hr
      · have := hA i hr
        have := h.gl i hi
        omega
      · have := hA i hr
        omega
  · rcases hi with hi | rfl
    · exact .inl hi
    · exact .inr hdb
/-- its machine is no longer looked at -/
theorem Zz.forget {w : World} {g : Nat} {G : Nat → Prop} {z : Lzs} {t : Pm Dc} {A : Option Addr} {bs : List UInt8} (h : Zz (rowOf A bs.length) (Kd A bs) w g G z t) : Zz (fun _ => False) Ku w g G z ⟨t.ps, ()⟩ := by
  obtain ⟨Gm, Dv, Ev, p, pc, A7, c7, hz⟩ := h
  obtain ⟨db, c, rfl, rfl, hG, hR, hS, hn, hl⟩ := hz.mch
  exact ⟨fun _ => False, .pointer (some ⟨db, 0, none⟩), .pointer none, p, pc, A7, c7, hz.blk, hz.row, hz.out, ⟨rfl, fun _ h => h⟩, hz.gg, hz.gp, fun _ h => h.elim, fun i hi => by obtain ⟨u1, u2, u3, _⟩ := hz.go i hi; exact ⟨u1, u2, u3, fun h => h⟩, hz.pg, fun h => h, fun h => h, hz.old, fun _ _ h => h⟩
/-- a new one between chunks -/
theorem R11.begin {w w3 w' : World} {g p pc L : Nat} {z : Lzs} (hb : Below w.heap.size w w3) (hz : Zn w' g p pc z L) (ho : z.out = []) (hg : w.heap.size ≤ g) (hp : w.heap.size ≤ p) (hb3 : Below w3.heap.size w3 w') :
    R11 (fun _ => False) Ku w g z ⟨List.replicate L 1024, ()⟩ [] none 0 (fun i => i = g ∨ i = p) w' := by
  obtain ⟨hB, hr, hpg⟩ := hz
  refine ⟨⟨fun _ => False, .pointer none, .pointer none, p, pc, none, 0, ?_, hr, ?_, ⟨rfl, fun _ h => h⟩, .inl rfl, .inr rfl, fun _ h => h.elim, fun i hi => ?_, hpg, fun h => h, fun h => h, ?_, fun _ _ h => h⟩, ?_, World.ownsRow_nil _ _ _ _, fun k e => (nomatch e), hb.trans (hb3.mono hb.size)⟩
  · show Blk w' g _ (zCells z _ _ p (List.replicate L 1024).length pc none z.out.length 0)
    rw [List.length_replicate, ho]
    exact hB
  · rw [ho]
    exact World.ownsRow_nil _ _ _ _
  · rw [ho] at hi
    cases hi
  · rintro i (rfl | rfl)
    · exact hB.lt
    · exact hr.lt
  · rintro i (rfl | rfl)
    · exact hg
    · exact hp
end Go.Proofs.YtiolfjhddbiglaaGreatDoor

/-
  The document's decoder of LZMA, between chunks: begun anew.
-/
namespace Go.Proofs.YtiolfjhddbiglaaGreatDoor
set_option linter.unusedVariables false
set_option linter.unusedSimpArgs false
open Go.RowKit

theorem zu_anew {w w6 W : World} {g : Nat} {G Gm : Nat → Prop} {z : Lzs} {t : Pm Unit} {Dv Ev : Value} {p pc c c' L B : Nat} {A A' : Option Addr}
    (hz : Zr (fun _ => False) Ku w g G z t Gm Dv Ev p pc A c) (hb : Below w.heap.size w w6) (hL : 1 ≤ L) (hB : w.heap.size ≤ B)
    (ho : w6.ownsRow B 35 1 (.slice A' L c') L (pv (List.replicate L 1024)))
    (hW : W = (((((w6.setCell ⟨g, 6, none⟩ (.slice A' L c')).setCell ⟨g, 8, none⟩ (.int .i64 0)).setCell ⟨g, 9, none⟩ (.int .u32 0)).setCell ⟨g, 10, none⟩ (.int .u32 0)).setCell ⟨g, 11, none⟩ (.int .u32 0)).setCell ⟨g, 12, none⟩ (.int .u32 0)) :
    ∃ G', Zz (fun _ => False) Ku W g G' { z with st := 0, r0 := 0, r1 := 0, r2 := 0, r3 := 0 } ⟨List.replicate L 1024, ()⟩ ∧ (∀ i, G' i → G i ∨ w.heap.size ≤ i) ∧ Only G w W := by
  obtain ⟨q, cap, hv, hq, hlt⟩ := ho.form (by omega)
  injection hv with h1 h2 h4
  subst h1 h4
  have h6 : Only (fun _ => False) w w6 := Only.of_below hb
  have hS : Only (fun i => i = g) w6 W := by
    rw [hW]
    exact ((((((Only.refl (fun i => i = g) w6).setCell (p := ⟨g, 6, none⟩) (.inl rfl) _).setCell (p := ⟨g, 8, none⟩) (.inl rfl) _).setCell (p := ⟨g, 9, none⟩) (.inl rfl) _).setCell (p := ⟨g, 10, none⟩) (.inl rfl) _).setCell (p := ⟨g, 11, none⟩) (.inl rfl) _).setCell (p := ⟨g, 12, none⟩) (.inl rfl) _
  have hgl := hz.blk.lt
  have hold := hz.old
  have hsz : W.heap.size = w6.heap.size := by rw [hW]; simp [World.setCell]
  have hs6 := hb.size
  refine ⟨fun i => G i ∨ i = q, ⟨Gm, Dv, Ev, q, c', A, c, ?_⟩, ?_, ?_⟩
  · refine ⟨?_, ?_, ?_, ?_, .inl hz.gg, .inr rfl, fun i hi => .inl (hz.gm i hi), fun i hi => ?_, by omega, hz.mg, fun hi => ?_, ?_, fun i _ h => h⟩
    · have := ((((((hz.blk.only h6 (fun h => h)).put 6 (.slice (some ⟨q, 0, none⟩) L c')).put 8 (.int .i64 0)).put 9 (.int .u32 0)).put 10 (.int .u32 0)).put 11 (.int .u32 0)).put 12 (.int .u32 0)
      rw [hW]
      show Blk _ g _ (zCells _ _ _ _ (List.replicate L 1024).length _ _ _ _)
      rw [List.length_replicate]
      exact this
    · show Row W q (List.replicate L 1024) c'
      unfold Row
      rw [List.length_replicate]
      exact own_only (own_zero ho) hS (by show ¬ q = g; omega)
    · exact own_only' (own_only' hz.out h6 (fun _ _ h => h)) hS (fun i hi e => (hz.go i hi).2.1 e)
    · exact ku_mem.only (ku_mem.only hz.mch h6 (fun _ _ h => h) (fun _ _ h => h)) hS (fun i hi e => hz.mg (e ▸ hi)) (fun i hi _ => hi)
    · obtain ⟨g1, g2, g3, g4⟩ := hz.go i hi
      have := hold i g1
      exact ⟨.inl g1, g2, by omega, g4⟩
    · have := hold q (hz.gm q hi)
      omega
    · rintro i (hi | rfl)
      · have := hold i hi
        omega
      · rw [hsz]; exact hlt
  · rintro i (hi | rfl)
    · exact .inl hi
    · exact .inr (by omega)
  · exact (h6.mono (fun _ h => h.elim)).trans (hS.mono (fun i hi => hi ▸ hz.gg))
set_option maxRecDepth 100000 in
set_option maxHeartbeats 4000000 in
theorem rresetU_any {w : World} {g : Nat} {G : Nat → Prop} {z : Lzs} {ps : List Nat} {lc lp pb dict : Nat} (h : Zz (fun _ => False) Ku w g G z ⟨ps, ()⟩) (hset : SetOk lc lp pb dict) (hs : z.lc = lc ∧ z.lp = lp ∧ z.pb = pb ∧ z.dict = dict) :
    Calls Tryz.prog 26 #[.pointer (some ⟨g, 0, none⟩), .agg #[.int .i64 (lc : Int), .int .i64 (lp : Int), .int .i64 (pb : Int), .int .i64 (dict : Int)]] w fun x w' => x = .returned (.tuple #[]) ∧
      ∃ G', Zz (fun _ => False) Ku w' g G' { z with st := 0, r0 := 0, r1 := 0, r2 := 0, r3 := 0 } ⟨List.replicate (probsN lc lp) 1024, ()⟩ ∧ (∀ i, G' i → G i ∨ w.heap.size ≤ i) ∧ Only G w w' := by
  obtain ⟨t, ht⟩ : ∃ t : Pm Unit, t = ⟨ps, ()⟩ := ⟨_, rfl⟩
  rw [← ht] at h
  clear ht
  obtain ⟨rfl, rfl, rfl, rfl⟩ := hs
  obtain ⟨hp, hp1, hp2⟩ := probsN_is hset
  obtain ⟨L, hL⟩ : ∃ L, L = probsN z.lc z.lp := ⟨_, rfl⟩
  rw [← hL] at hp hp1 hp2 ⊢
  obtain ⟨Gm, Dv, Ev, p, pc, A, c, hz⟩ := h
  obtain ⟨w1, hw1⟩ : ∃ w1, w1 = w.alloc (.cells #[.int .i64 (z.lc : Int), .int .i64 (z.lp : Int), .int .i64 (z.pb : Int), .int .i64 (z.dict : Int)] 40) := ⟨_, rfl⟩
  have hb1 : Below w.heap.size w w1 := by rw [hw1]; exact (Below.refl _ _).alloc (Nat.le_refl _) _
  have hbk : Blk w1 w.heap.size 40 #[.int .i64 (z.lc : Int), .int .i64 (z.lp : Int), .int .i64 (z.pb : Int), .int .i64 (z.dict : Int)] := by rw [hw1]; exact Blk.fresh w _ _
  have d0 : w1.cell? ⟨w.heap.size, 0, none⟩ = some (.int .i64 (z.lc : Int)) := hbk.cell 0
  have d1 : w1.cell? ⟨w.heap.size, 1, none⟩ = some (.int .i64 (z.lp : Int)) := hbk.cell 1
  have d2 : w1.cell? ⟨w.heap.size, 2, none⟩ = some (.int .i64 (z.pb : Int)) := hbk.cell 2
  have hz1 := hz.only ku_mem (Only.of_below (S := fun _ => False) hb1) (fun _ _ h => h) (fun _ _ h => h)
  have c0 : w1.cell? ⟨g, 0, none⟩ = some (.int .i64 (z.lc : Int)) := hz1.blk.cell 0
  have c1 : w1.cell? ⟨g, 1, none⟩ = some (.int .i64 (z.lp : Int)) := hz1.blk.cell 1
  have c2 : w1.cell? ⟨g, 2, none⟩ = some (.int .i64 (z.pb : Int)) := hz1.blk.cell 2
  have f0 := hz1.blk.free 0
  have f1 := hz1.blk.free 1
  have f2 := hz1.blk.free 2
  have hgl := hz.blk.lt
  have hgy : w.heap.size ≠ g := by omega
  have HZ1 := Lib.hid hz1
  have HW1 := Lib.hid hw1
  have HB1 := Lib.hid hb1
  have HG := Lib.hid hz.gg
  have HP := Lib.hid (show probsOf (z.lc : Int) (z.lp : Int) (z.pb : Int) (z.dict : Int) = ((L : Nat) : Int) ∧ 1 ≤ L ∧ L ≤ 100000000 from ⟨hp, by omega, by omega⟩)
  clear hw1 hb1 hbk hz1 hz hp hp1 hp2 hset hL
  go_enter Tryz.func26, Tryz.ntmps26
  go_upto_region 1 with fail
  rw [← HW1.out]
  clear HW1
  go_upto_region 4 with fail
  have hz4 := ((HZ1.out.put ku_mem (i := 0) (u := .int .i64 (z.lc : Int)) (z' := z) rfl rfl).put ku_mem (i := 1) (u := .int .i64 (z.lp : Int)) (z' := z) rfl rfl).put ku_mem (i := 2) (u := .int .i64 (z.pb : Int)) (z' := z) rfl rfl
  have hO4 : Only (fun i => i = g) w (((w1.setCell ⟨g, 0, none⟩ (.int .i64 (z.lc : Int))).setCell ⟨g, 1, none⟩ (.int .i64 (z.lp : Int))).setCell ⟨g, 2, none⟩ (.int .i64 (z.pb : Int))) :=
    ((((Only.of_below (S := fun i => i = g) HB1.out).setCell (p := ⟨g, 0, none⟩) (.inl rfl) _).setCell (p := ⟨g, 1, none⟩) (.inl rfl) _).setCell (p := ⟨g, 2, none⟩) (.inl rfl) _)
  clear d0 d1 d2 c0 c1 c2 f0 f1 f2
  generalize ((w1.setCell ⟨g, 0, none⟩ (.int .i64 (z.lc : Int))).setCell ⟨g, 1, none⟩ (.int .i64 (z.lp : Int))).setCell ⟨g, 2, none⟩ (.int .i64 (z.pb : Int)) = w4 at *
  have c0 : w4.cell? ⟨g, 0, none⟩ = some (.int .i64 (z.lc : Int)) := hz4.blk.cell 0
  have c1 : w4.cell? ⟨g, 1, none⟩ = some (.int .i64 (z.lp : Int)) := hz4.blk.cell 1
  have c2 : w4.cell? ⟨g, 2, none⟩ = some (.int .i64 (z.pb : Int)) := hz4.blk.cell 2
  have c3 : w4.cell? ⟨g, 3, none⟩ = some (.int .i64 (z.dict : Int)) := hz4.blk.cell 3
  have K := probs_any (z.lc : Int) (z.lp : Int) (z.pb : Int) (z.dict : Int) w4
  rw [HP.out.1] at K
  have K := Lib.hid K
  have HZ4 := Lib.hid hz4
  have HO4 := Lib.hid hO4
  clear hz4 hO4 HZ1 HB1
  go_wp2_with fail
  refine K.out.mono ?_
  rintro x w5 ⟨rfl, hb5⟩
  have HB5 := Lib.hid hb5
  have K2 := Lib.hid (reffresh_any (n := L) HP.out.2.2 w5)
  clear K hb5 c0 c1 c2 c3
  go_wp2_with fail
  refine K2.out.mono ?_
  rintro x w6 ⟨A', c', rfl, ho6, hb6⟩
  have hb46 : Below w4.heap.size w4 w6 := HB5.out.trans (hb6.mono HB5.out.size)
  have hz6 := HZ4.out.only ku_mem (Only.of_below (S := fun _ => False) hb46) (fun _ _ h => h) (fun _ _ h => h)
  have c6 := hz6.blk.cell 6
  have c8 := hz6.blk.cell 8
  have c9 := hz6.blk.cell 9
  have c10 := hz6.blk.cell 10
  have c11 := hz6.blk.cell 11
  have c12 := hz6.blk.cell 12
  have f6 := hz6.blk.free 6
  have f8 := hz6.blk.free 8
  have f9 := hz6.blk.free 9
  have f10 := hz6.blk.free 10
  have f11 := hz6.blk.free 11
  have f12 := hz6.blk.free 12
  have c6 : w6.cell? ⟨g, 6, none⟩ = some (.slice (some ⟨p, 0, none⟩) t.ps.length pc) := c6
  have c8 : w6.cell? ⟨g, 8, none⟩ = some (.int .i64 (z.st : Int)) := c8
  have c9 : w6.cell? ⟨g, 9, none⟩ = some (.int .u32 (z.r0 : Int)) := c9
  have c10 : w6.cell? ⟨g, 10, none⟩ = some (.int .u32 (z.r1 : Int)) := c10
  have c11 : w6.cell? ⟨g, 11, none⟩ = some (.int .u32 (z.r2 : Int)) := c11
  have c12 : w6.cell? ⟨g, 12, none⟩ = some (.int .u32 (z.r3 : Int)) := c12
  have HEND := Lib.hid (fun W hW => zu_anew (W := W) (B := w5.heap.size) HZ4.out hb46 HP.out.2.1 HB5.out.size ho6 hW)
  have HK6 := Lib.hid hz6.blk
  clear hb46 hz6 ho6 hb6 K2 HB5 HZ4 c9 c10 c11 c12 f9 f10 f11 f12
  go_upto_region 6 with fail
  have hk7 := (HK6.out.put 6 (.slice A' L c')).put 8 (.int .i64 0)
  obtain ⟨w7, hw7⟩ : ∃ w7, w7 = (w6.setCell ⟨g, 6, none⟩ (.slice A' L c')).setCell ⟨g, 8, none⟩ (.int .i64 0) := ⟨_, rfl⟩
  rw [← hw7] at hk7 HEND ⊢
  have c9 : w7.cell? ⟨g, 9, none⟩ = some (.int .u32 (z.r0 : Int)) := hk7.cell 9
  have c10 : w7.cell? ⟨g, 10, none⟩ = some (.int .u32 (z.r1 : Int)) := hk7.cell 10
  have c11 : w7.cell? ⟨g, 11, none⟩ = some (.int .u32 (z.r2 : Int)) := hk7.cell 11
  have c12 : w7.cell? ⟨g, 12, none⟩ = some (.int .u32 (z.r3 : Int)) := hk7.cell 12
  have f9 := hk7.free 9
  have f10 := hk7.free 10
  have f11 := hk7.free 11
  have f12 := hk7.free 12
  clear hk7 hw7 c6 c8 f6 f8 HK6
  go_wp2_with fail
  first | go_end0 | refine bodyPost_ret (results_none rfl _ _ _) rfl ?_
  obtain ⟨G', z1, z2, z3⟩ := HEND.out _ rfl
  refine ⟨rfl, G', z1, fun i hi => ?_, ?_⟩
  · rcases z2 i hi with h | h
    · exact .inl h
    · exact .inr (Nat.le_trans HO4.out.size h)
  · exact (HO4.out.mono (fun i hi => hi ▸ HG.out)).trans z3
end Go.Proofs.YtiolfjhddbiglaaGreatDoor

/-
  The document's Unpack of LZMA2: what holds between two chunks; what a chunk leaves.
-/
namespace Go.Proofs.YtiolfjhddbiglaaGreatDoor
set_option linter.unusedVariables false
open Go.RowKit

structure RInv (w0 : World) (g dict K : Nat) (bs : List UInt8) (res : Option (List UInt8)) (q : Rs) (a : Nat) (em st : Bool) (out : List UInt8) (Ro : Option Addr) (cl : Nat) (G : Nat → Prop) (wr : World) : Prop where
  mem : R11 (fun _ => False) Ku w0 g q.z ⟨q.ps, ()⟩ out Ro cl G wr
  ok : Rok dict q
  r : q.r = bs.drop a
  le : a ≤ bs.length
  res : res = (q.tells (K - out.length)).map (out ++ ·)
  ol : out.length ≤ K
  zl : q.z.out.length ≤ out.length
  em : em = decide (q.nd ≠ 7)
  st : st = decide (q.nd = 0)

section
variable {w0 wr w' : World} {g dict K : Nat} {bs : List UInt8} {res : Option (List UInt8)} {q q' : Rs} {a a' : Nat} {em st : Bool} {out xs : List UInt8} {Ro R' : Option Addr} {cl cl' : Nat} {G G' : Nat → Prop}
theorem RInv.nope (h : RInv w0 g dict K bs res q a em st out Ro cl G wr) (hk : q.tells (K - out.length) = none) : res = none := by
  rw [h.res, hk]
  rfl
/-- a chunk was told -/
theorem RInv.next (h : RInv w0 g dict K bs res q a em st out Ro cl G wr) (h0 : q.r ≠ [0]) (hc : chunkN q = some (xs, q')) (hx : out.length + xs.length ≤ K)
    (hm : R11 (fun _ => False) Ku w0 g q'.z ⟨q'.ps, ()⟩ (out ++ xs) R' cl' G' w') (hok : Rok dict q') (hr : q'.r = bs.drop a') (ha : a' ≤ bs.length) (hz : q'.z.out.length ≤ out.length + xs.length) {em' st' : Bool} (he : em' = decide (q'.nd ≠ 7)) (hs : st' = decide (q'.nd = 0)) :
    RInv w0 g dict K bs res q' a' em' st' (out ++ xs) R' cl' G' w' := by
  refine ⟨hm, hok, hr, ha, ?_, by rw [List.length_append]; exact hx, by rw [List.length_append]; exact hz, he, hs⟩
  rw [h.res, tells_some h0 hc (by omega), List.length_append, Nat.sub_sub]
  cases q'.tells (K - (out.length + xs.length)) with
  | none => rfl
  | some y => show some (out ++ (xs ++ y)) = some (out ++ xs ++ y); rw [List.append_assoc]
/-- the chunk is none -/
theorem RInv.bad (h : RInv w0 g dict K bs res q a em st out Ro cl G wr) (h0 : q.r ≠ [0]) (hc : chunkN q = none) : res = none := h.nope (tells_none h0 hc)
/-- the chunk tells too many -/
theorem RInv.over (h : RInv w0 g dict K bs res q a em st out Ro cl G wr) (h0 : q.r ≠ [0]) {m : Nat} (hc : ∀ xs q', chunkN q = some (xs, q') → xs.length = m) (hm : K < out.length + m) : res = none := h.nope (over_none h0 hc (by have := h.ol; omega))
/-- where no byte is left -/
theorem RInv.nil (h : RInv w0 g dict K bs res q a em st out Ro cl G wr) (ha : a = bs.length) : res = none := by
  have hr : q.r = [] := by rw [h.r, ha]; exact List.drop_length
  exact h.bad (by rw [hr]; intro e; cases e) (rchunk_nil hr)
theorem RInv.zero (h : RInv w0 g dict K bs res q a em st out Ro cl G wr) {c : UInt8} {r : List UInt8} (hr : q.r = c :: r) (hc : c.toNat = 0) :
    res = if r = [] ∧ out.length = K then some out else none := by
  have e : c = 0 := UInt8.toNat_inj.1 hc
  subst e
  by_cases h1 : r = []
  · subst h1
    rw [h.res, tells_end hr]
    by_cases h2 : out.length = K
    · rw [if_pos (by omega), if_pos ⟨rfl, h2⟩]
      show some (out ++ []) = some out
      rw [List.append_nil]
    · rw [if_neg (by have := h.ol; omega), if_neg (fun h => h2 h.2)]
      rfl
  · rw [if_neg (fun h => h1 h.1)]
    refine h.bad (fun e => ?_) (rchunk_zero hr rfl)
    rw [hr] at e
    injection e with _ e
    exact h1 e
end
section
variable {w0 wr w' : World} {g dict K : Nat} {bs : List UInt8} {res : Option (List UInt8)} {q q' : Rs} {a a' : Nat} {em st : Bool} {out xs : List UInt8} {Ro R' : Option Addr} {cl cl' : Nat} {G G' : Nat → Prop}
theorem R11.still {σ : Type} {R : Nat → Prop} {K : World → Value → Value → (Nat → Prop) → σ → Prop} {z : Lzs} {t : Pm σ} (h : R11 R K w0 g z t out Ro cl G wr) (M : MachMem R K) (hO : Only (fun _ => False) wr w') : R11 R K w0 g z t out Ro cl G w' :=
  h.turn (h.zz.only M hO (fun _ _ h => h) (fun _ _ h => h)) (fun i hi => .inl hi) (hO.mono (fun _ h => h.elim))
theorem RInv.still (h : RInv w0 g dict K bs res q a em st out Ro cl G wr) (hO : Only (fun _ => False) wr w') : RInv w0 g dict K bs res q a em st out Ro cl G w' :=
  ⟨h.mem.still ku_mem hO, h.ok, h.r, h.le, h.res, h.ol, h.zl, h.em, h.st⟩
/-- what was told, in the window, wherever blocks of old stay -/
theorem R11.win {σ : Type} {R : Nat → Prop} {K : World → Value → Value → (Nat → Prop) → σ → Prop} {z : Lzs} {t : Pm σ} (h : R11 R K w0 g z t out Ro cl G wr) : ∃ A7 c7, z.out.length ≤ c7 ∧ c7 ≤ maxLen ∧ ∀ W, Only (fun _ => False) wr W → W.cell? ⟨g, 7, none⟩ = some (.slice A7 z.out.length c7) ∧ W.frozen? ⟨g, 7, none⟩ = false ∧ Sl W A7 z.out.length (bv z.out) := by
  obtain ⟨Gm, Dv, Ev, p, pc, A, c, hz⟩ := h.zz
  obtain ⟨_, h1, h2, _⟩ := own_facts hz.out
  refine ⟨A, c, h1, h2, fun W hW => ?_⟩
  have hb := hz.blk.only hW (fun h => h)
  exact ⟨hb.cell 7, hb.free 7, (Sl.of_own hz.out).only hW (fun _ _ _ _ h => h)⟩
end
theorem ru_plain {q : Rs} {c h g : UInt8} {r : List UInt8} (hr : q.r = c :: h :: g :: r) (h1 : c.toNat ≤ 2) (h0 : c.toNat ≠ 0) :
    chunkN q = plainC (if c.toNat = 1 then 6 else q.nd) (if c.toNat = 1 then { q.z with out := [] } else q.z) q.ps r (cnt2 h g) := by
  by_cases hc : c.toNat = 1
  · rw [rchunk_one hr hc, if_pos hc, if_pos hc]
  · rw [rchunk_two hr (by omega), if_neg hc, if_neg hc]
theorem plain_no {nd m : Nat} {z : Lzs} {ps : List Nat} {r : List UInt8} (h : nd % 2 = 1 ∨ r.length < m) : plainC nd z ps r m = none := if_pos h
theorem plain_yes {nd m : Nat} {z : Lzs} {ps : List Nat} {r : List UInt8} (h : ¬ (nd % 2 = 1 ∨ r.length < m)) : plainC nd z ps r m = some (r.take m, ⟨nd, { z with out := z.out ++ r.take m }, ps, r.drop m⟩) := if_neg h
theorem sl_mid {w : World} {q o n a T : Nat} {b : List UInt8} (h : Sl w (some ⟨q, o, none⟩) n (bv b)) (h1 : a ≤ T) (h2 : T ≤ n) : Sl w (some ⟨q, o + a, none⟩) (T - a) (bv ((b.drop a).take (T - a))) := by
  have hl : b.length = n := by rw [← bv_length]; exact h.1
  refine ⟨by rw [bv_length, List.length_take, List.length_drop]; omega, fun h0 => ?_⟩
  obtain ⟨b', o', e, hlt, hc⟩ := h.2 (by omega)
  injection e with e
  injection e with e1 e2
  subst e1 e2
  refine ⟨q, o + a, rfl, hlt, fun i hi => ?_⟩
  have := hc (a + i) (by omega)
  rw [Nat.add_assoc, this, bv_take, bv_drop, List.getElem?_take_of_lt hi, List.getElem?_drop]
theorem ZNear.told {z : Lzs} {L n : Nat} (h : ZNear z L n) (xs : List UInt8) : ZNear { z with out := xs } L xs.length := ⟨h.lc, h.lp, h.pb, h.dict, Nat.le_refl _, h.st, h.r0, h.r1, h.r2, h.r3, h.len⟩
theorem Rok.plain {D nd : Nat} {q : Rs} (h : Rok D q) (hnd : nd = 0 ∨ nd = 6 ∨ nd = 7) (xs r : List UInt8) : Rok D ⟨nd, { q.z with out := xs }, q.ps, r⟩ :=
  ⟨hnd, h.near.told xs, h.ps, h.bad, h.ended, h.dict, h.four⟩
/-- what a packed chunk begins with -/
theorem brought_ok {D : Nat} {q : Rs} (h : Rok D q) {how : Nat} {s : Nat × Nat × Nat} {r r4 : List UInt8} (hs : chooseC q.z how r = some (s, r4)) :
    ZNear (q.z.brought how s) (psN q.ps how s).length (q.z.brought how s).out.length ∧ PsOk (psN q.ps how s) ∧ (q.z.brought how s).bad = false ∧ (q.z.brought how s).ended = false ∧ (q.z.brought how s).dict = D ∧ (q.z.brought how s).lc + (q.z.brought how s).lp ≤ 4 ∧ (q.z.brought how s).out = (if how = 3 then [] else q.z.out) ∧ (s.1 ≤ 8 ∧ s.2.1 ≤ 4 ∧ s.2.2 ≤ 4 ∧ s.1 + s.2.1 ≤ 4) := by
  have hs2 : s.1 ≤ 8 ∧ s.2.1 ≤ 4 ∧ s.2.2 ≤ 4 ∧ s.1 + s.2.1 ≤ 4 := by
    unfold chooseC at hs
    split at hs
    · cases r with
      | nil => cases hs
      | cons x r =>
        have hs : (setN x).map (fun s => (s, r)) = some (s, r4) := hs
        cases hx : setN x with
        | none => rw [hx] at hs; cases hs
        | some s' =>
          rw [hx] at hs
          injection hs with hs
          injection hs with h1 h3
          subst h1
          unfold setN at hx
          split at hx
          · rename_i hc
            injection hx with hx
            subst hx
            have := x.toNat_lt
            exact ⟨by show x.toNat % 9 ≤ 8; omega, by show x.toNat / 9 % 5 ≤ 4; omega, by show x.toNat / 45 ≤ 4; omega, hc.2⟩
          · cases hx
    · injection hs with hs
      injection hs with h1 h3
      subst h1
      exact ⟨h.near.lc, h.near.lp, h.near.pb, h.four⟩
  have hrep : PsOk (List.replicate (1847 + 768 * 2 ^ (s.1 + s.2.1)) 1024) := fun p hp => by rw [List.eq_of_mem_replicate hp]; exact ⟨by decide, by decide⟩
  have hnew : ∀ y : Lzs, y.dict = D → ZNear (y.anew s.1 s.2.1 s.2.2) (List.replicate (1847 + 768 * 2 ^ (s.1 + s.2.1)) 1024).length (y.anew s.1 s.2.1 s.2.2).out.length := fun y hy =>
    ⟨hs2.1, hs2.2.1, hs2.2.2.1, by show y.dict < _; rw [hy, ← h.dict]; exact h.near.dict, Nat.le_refl _, by show 0 ≤ 11; decide, by show 0 < 4294967296; decide, by show 0 < 4294967296; decide, by show 0 < 4294967296; decide, by show 0 < 4294967296; decide, by rw [List.length_replicate]; rfl⟩
  by_cases h3 : how = 3
  · subst h3
    exact ⟨hnew { q.z with out := [] } h.dict, hrep, h.bad, h.ended, h.dict, hs2.2.2.2, rfl, hs2⟩
  · by_cases h0 : how = 0
    · subst h0
      exact ⟨h.near, h.ps, h.bad, h.ended, h.dict, h.four, rfl, hs2⟩
    · have e1 : q.z.brought how s = q.z.anew s.1 s.2.1 s.2.2 := by unfold Lzs.brought; rw [if_neg h3, if_neg h0]
      have e2 : psN q.ps how s = List.replicate (1847 + 768 * 2 ^ (s.1 + s.2.1)) 1024 := by unfold psN; rw [if_neg h0]
      rw [e1, e2, if_neg h3]
      exact ⟨hnew q.z h.dict, hrep, h.bad, h.ended, h.dict, hs2.2.2.2, rfl, hs2⟩
/-- a packed chunk's packets have been told -/
theorem body_some {q : Rs} {how m k : Nat} {s : Nat × Nat × Nat} {r : List UInt8} {z2 : Lzs} {t2 : Pm Dc} {N : Nat} (hk : k ≤ r.length) (hN : N = (q.z.brought how s).out.length + m)
    (hu : upG (N : Int) m (q.z.brought how s) ⟨psN q.ps how s, started (r.take k)⟩ = some (z2, t2)) (hl : leftD t2.x = true) (ho : z2.out.length = N) :
    bodyC q how m k s r = some (z2.out.drop (N - m), ⟨0, z2, t2.ps, r.drop k⟩) := by
  subst hN
  unfold bodyC packC
  rw [if_neg (by omega), hu]
  show (if leftD t2.x = true ∧ z2.out.length = _ then _ else _) = _
  rw [if_pos ⟨hl, ho⟩]
theorem body_stop {q : Rs} {how m k : Nat} {s : Nat × Nat × Nat} {r : List UInt8} {N : Nat} (hN : N = (q.z.brought how s).out.length + m)
    (hu : upG (N : Int) m (q.z.brought how s) ⟨psN q.ps how s, started (r.take k)⟩ = none) : bodyC q how m k s r = none := by
  subst hN
  unfold bodyC packC
  split
  · rfl
  · rw [hu]
theorem body_left {q : Rs} {how m k : Nat} {s : Nat × Nat × Nat} {r : List UInt8} {z2 : Lzs} {t2 : Pm Dc} {N : Nat} (hN : N = (q.z.brought how s).out.length + m)
    (hu : upG (N : Int) m (q.z.brought how s) ⟨psN q.ps how s, started (r.take k)⟩ = some (z2, t2)) (hl : leftD t2.x = false) : bodyC q how m k s r = none := by
  subst hN
  unfold bodyC packC
  split
  · rfl
  · rw [hu]
    show (if leftD t2.x = true ∧ z2.out.length = _ then _ else _) = _
    rw [if_neg (by rw [hl]; simp)]
theorem rmax2_int {P : Program} (ts : Array TypeId) (t : TypeId) (x y k : Int) (hk : k = max x y) : ∀ w, (Builtin.max_ ts t #[.int .i64 x, .int .i64 y]).run P w = .ok (.int .i64 k) w := by
  intro w
  subst hk
  by_cases h : x ≤ y
  · rw [Int.max_eq_right h]
    simp [Builtin.max_, Builtin.max2]; omega
  · rw [Int.max_eq_left (by omega)]
    simp [Builtin.max_, Builtin.max2]; omega
/-- the step of an append in a region that draws its order -/
theorem step_appO {P : Program} (w : World) {ops : Array Oper} {o : Oper} {a : Act} {K : Act → World → Prop} {Q : Exit → Act → World → Prop} {E : Prop} (hgd : o.guard = none) (s x : Operand) (t : TypeId)
    (ho : o.op = .call { callee := .builtin .append, args := #[s, x], argTypes := #[t, t] })
    (base : Nat) (e : TypeId) (i : TypeInfo) (z : Value) (bytes : Nat) (ht : P.underlying t = some (.slice e)) (hi : P.info? e = some i) (hz : i.zero = some z)
    (hsize : i.size = 1) (hby : i.bytes = bytes) (hzs : z.cells.size = 1)
    (v : Value) (n : Nat) (xs : List Value) (hs : a.eval s = v) (hown : w.ownsRow base e 1 v n xs)
    (A : Option Addr) (m c : Nat) (news : List Value) (hx : a.eval x = .slice A m c) (hr : Sl w A m news) (h1 : ∀ u ∈ news, u.oneCell' = true)
    (hbytes : (n + m) * bytes ≤ 140737488355328) (hb0 : 0 < bytes) (hbase : base ≤ w.heap.size)
    (h : ∀ A' c' w', w'.ownsRow base e 1 (.slice A' (n + m) c') (n + m) (xs ++ news) → w.grownBy w' v.ownBlock → ((Value.slice A' (n + m) c').ownBlock = v.ownBlock ∨ (Value.slice A' (n + m) c').ownBlock = some w.heap.size) → K (a.put o.dst (.slice A' (n + m) c')) w') :
    if Region.wanted o (yielded ops a.tmps) = true then Oper.wp P o a w K Q else E := by
  have hw : Region.wanted o (yielded ops a.tmps) = true := by simp [Region.wanted, hgd]
  rw [if_pos hw]
  obtain ⟨v', w', hrun, h2, h3, h4⟩ := run_app (P := P) w base t o.type e i z bytes ht hi hz hsize hby hzs v n xs hown A m c news hr h1 hbytes hb0 hbase
  obtain ⟨A', c', rfl, h2⟩ := own_form h2
  unfold Oper.wp execOp
  simp only [ho, resolve, invoke, builtin, Sem.run_bind, Sem.run_pure, Result.andThen_ok, List.map_toArray, List.map_cons, List.map_nil, hs, hx, hrun]
  exact h A' c' w' h2 h3 h4
/-- the same, the frame written out -/
theorem step_appT {P : Program} (w : World) {ops : Array Oper} {o : Oper} {T : Array Value} {D : List Deferred} {K : Act → World → Prop} {Q : Exit → Act → World → Prop} {E : Prop} (hgd : o.guard = none) (s x : Operand) (t : TypeId)
    (ho : o.op = .call { callee := .builtin .append, args := #[s, x], argTypes := #[t, t] })
    (base : Nat) (e : TypeId) (i : TypeInfo) (z : Value) (bytes : Nat) (ht : P.underlying t = some (.slice e)) (hi : P.info? e = some i) (hz : i.zero = some z)
    (hsize : i.size = 1) (hby : i.bytes = bytes) (hzs : z.cells.size = 1)
    (v : Value) (n : Nat) (xs : List Value) (hs : (Act.mk T D).eval s = v) (hown : w.ownsRow base e 1 v n xs)
    (A : Option Addr) (m c : Nat) (news : List Value) (hx : (Act.mk T D).eval x = .slice A m c) (hr : Sl w A m news) (h1 : ∀ u ∈ news, u.oneCell' = true)
    (hbytes : (n + m) * bytes ≤ 140737488355328) (hb0 : 0 < bytes) (hbase : base ≤ w.heap.size)
    (h : ∀ A' c' w', w'.ownsRow base e 1 (.slice A' (n + m) c') (n + m) (xs ++ news) → w.grownBy w' v.ownBlock → ((Value.slice A' (n + m) c').ownBlock = v.ownBlock ∨ (Value.slice A' (n + m) c').ownBlock = some w.heap.size) → K ((Act.mk T D).put o.dst (.slice A' (n + m) c')) w') :
    if Region.wanted o (yielded ops T) = true then Oper.wp P o (Act.mk T D) w K Q else E :=
  step_appO w (a := ⟨T, D⟩) hgd s x t ho base e i z bytes ht hi hz hsize hby hzs v n xs hs hown A m c news hx hr h1 hbytes hb0 hbase h
end Go.Proofs.YtiolfjhddbiglaaGreatDoor
