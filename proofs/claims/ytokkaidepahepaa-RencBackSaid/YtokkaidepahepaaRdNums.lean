/-
  The decoder tells numbers: straight, by a tree.
-/
import Derived.Test.YtokkaidepahepaaRdTell
import Derived.LoopTactic
namespace Go.Proofs.Ytokkaidepahepaa
open Go.RowKit

/-- What a number told straight leaves. -/
def NumPost (w : World) (g f lo : Nat) (bs : List UInt8) (v : Nat) (d : Dc) (e : Ending) (w' : World) : Prop :=
  e = .returned (.int .u32 (v : Int)) ∧ Pd w' g f lo bs d ∧ Only (two f g) w w'

section
variable {g f lo b pc : Nat} {w : World} {bs : List UInt8} {ps : List Nat}

set_option maxHeartbeats 2000000 in
theorem straight_any {d : Dc} {n : Nat} (h : Pd w g f lo bs d) (hd : DcOk d) (hn : n ≤ 32) :
    Calls Try.prog 23 #[.pointer (some ⟨g, 0, none⟩), .int .i64 (n : Int)] w (NumPost w g f lo bs (straightD n d).1 (straightD n d).2) := by
  have HP := Lib.hid h
  have HD := Lib.hid hd
  clear h hd
  go_enter Try.func23, Try.ntmps23
  go_wp2_with fail
  go_loopw [5, 7] (fun v i wr => ∃ (j x : Nat), j ≤ n ∧ i = .int .i64 (j : Int) ∧ v = .int .u32 (x : Int) ∧ x < 2 ^ j ∧ ((straightGo d j).2 ≠ none → x = (straightGo d j).1) ∧ Pd wr g f lo bs (straightGo d j).2 ∧ Only (two f g) w wr) (fun _ i _ => n - (intOf i).toNat)
  case atStart => exact ⟨0, 0, Nat.zero_le _, rfl, rfl, by decide, fun _ => rfl, HP.out, Only.refl _ _⟩
  case round =>
    clear HP
    obtain ⟨j, x, hj, rfl, rfl, hx, hv, hp, ho⟩ := hrel
    have HV := Lib.hid hv
    have HO := Lib.hid ho
    clear hv ho
    by_cases hlt : j < n
    · have K := Lib.hid (one_any hp (straightGo_ok HD.out j).1)
      have hx31 : x < 2147483648 := Nat.lt_of_lt_of_le hx (Nat.pow_le_pow_right (n := 2) (by omega) (show j ≤ 31 by omega))
      have hx2 : 2 * x + 1 < 2 ^ (j + 1) := by rw [Nat.pow_succ]; omega
      have HX2 := Lib.hid hx2
      have e1 : IntKind.u32.wrap (2 * (x : Int)) = 2 * (x : Int) := u32_of _ (by omega) (by omega)
      have hlt' : (j : Int) < (n : Int) := by omega
      clear hx hx2 hp
      go_wp2_with fail
      refine K.out.mono ?_
      rintro e w1 ⟨v, rfl, hv1, hv2, hp1, ho1⟩
      have e2 : IntKind.u32.wrap (2 * (x : Int) + (v : Int)) = ((2 * x + v : Nat) : Int) := by rw [show 2 * (x : Int) + (v : Int) = ((2 * x + v : Nat) : Int) by omega]; exact u32_of _ (by omega) (by omega)
      have HV2 := Lib.hid hv2
      have HP1 := Lib.hid hp1
      have HO1 := Lib.hid (HO.out.trans ho1)
      clear hv2 hp1 ho1 HO K
      go_wp2_with fail
      go_roundw
      case rel =>
        refine ⟨j + 1, 2 * x + v, by omega, by go_num, rfl, by have := HX2.out; omega, fun h => ?_, HP1.out, HO1.out⟩
        show _ = 2 * (straightGo d j).1 + (oneD (straightGo d j).2).1
        rw [HV2.out h, HV.out (fun h0 => h (by show (oneD (straightGo d j).2).2 = none; rw [h0]; rfl))]
      case measure => simp [intOf]; omega
    · obtain rfl : j = n := by omega
      obtain ⟨at_, r, c, bad, hB, hF, hfg, ht⟩ := hp
      have j3 : wr.cell? ⟨g, 3, none⟩ = some (.bool bad) := hB.cell 3
      have HB := Lib.hid hB
      have HF := Lib.hid hF
      have HT := Lib.hid ht
      clear hB hF ht hx
      cases bad
      · go_wp2_with fail
        go_ret
        refine ⟨?_, ⟨at_, r, c, _, HB.out, HF.out, hfg, HT.out⟩, HO.out⟩
        have hne : (straightGo d j).2 ≠ none := by
          rcases HT.out.2.2.2 with ⟨h, _⟩ | ⟨_, h⟩
          · cases h
          · rw [h]; simp
        unfold straightD
        rw [if_neg hne, ← HV.out hne]
        rfl
      · go_wp2_with fail
        go_ret
        refine ⟨?_, ⟨at_, r, c, _, HB.out, HF.out, hfg, HT.out⟩, HO.out⟩
        have hne : (straightGo d j).2 = none := by
          rcases HT.out.2.2.2 with ⟨_, h⟩ | ⟨h, _⟩
          · exact h
          · cases h
        unfold straightD
        rw [if_pos hne]
        rfl

theorem three_trans {a c : World} (h : Only (three f g b) w a) (k : Only (three f g b) a c) : Only (three f g b) w c := h.trans k

set_option maxHeartbeats 4000000 in
theorem tree_any {d : Dc} {a n len cap v : Nat} (hv : v = if (Tr.go a (Tr.begin ps d) n).d = none then 0 else (Tr.go a (Tr.begin ps d) n).m - 2 ^ n) (h : Pd w g f lo bs d) (hd : DcOk d) (hR : Row w b ps pc) (hps : PsOk ps) (hb : b < lo ∨ g < b) (hl : a + len = ps.length) (hn : 2 ^ n ≤ len) (hn8 : n ≤ 8) :
    Calls Try.prog 21 #[.pointer (some ⟨g, 0, none⟩), .slice (some ⟨b, a, none⟩) len cap, .int .i64 (n : Int)] w
      (TellPost w g f lo b bs (Tr.go a (Tr.begin ps d) n).ps pc v (Tr.go a (Tr.begin ps d) n).d) := by
  have HP := Lib.hid h
  have HR := Lib.hid hR
  have HT := Lib.hid (tr_ok hd hps (show a + 2 ^ n ≤ ps.length by omega))
  have HBL := Lib.hid hb
  have HV := Lib.hid hv
  clear h hd hR hps hb hv
  go_enter Try.func21, Try.ntmps21
  go_wp2_with fail
  go_loopw [7, 8, 9, 11] (fun v m _ i wr => ∃ (j x : Nat) (T : Tr), j ≤ n ∧ T = Tr.go a (Tr.begin ps d) j ∧ i = .int .i64 (j : Int) ∧ v = .int .i64 (x : Int) ∧ m = .int .i64 (T.m : Int) ∧ x + 2 ^ j = T.m ∧ Pd wr g f lo bs T.d ∧ Row wr b T.ps pc ∧ Only (three f g b) w wr) (fun _ _ _ i _ => n - (intOf i).toNat)
  case atStart => exact ⟨0, 0, _, Nat.zero_le _, rfl, rfl, rfl, rfl, rfl, HP.out, HR.out, Only.refl _ _⟩
  case round =>
    clear HP HR
    obtain ⟨j, x, T, hj, hT, rfl, rfl, rfl, hx, hp, hr, ho⟩ := hrel
    obtain ⟨t1, t2, t3, t4, t5, t6, t7⟩ := HT.out j hj
    rw [← hT] at t1 t2 t3 t4 t5 t6 t7
    have HO := Lib.hid ho
    have HT0 := Lib.hid hT
    clear ho hT t6 t7
    by_cases hlt : j < n
    · have hpow : 2 ^ (j + 1) ≤ 2 ^ n := Nat.pow_le_pow_right (by omega) hlt
      have h256 := pow8 hn8
      have K := Lib.hid (tell_any (i := a + T.m) hp t1 hr (by omega) HBL.out (getD_ok t2 (by omega)))
      have hm1 : (T.m : Int) < (len : Int) := by omega
      have hm0 : (0 : Int) ≤ (T.m : Int) := by omega
      have HST := Lib.hid (show T.step a = Tr.go a (Tr.begin ps d) (j + 1) by rw [HT0.out]; rfl)
      have hsm : (T.step a).m = 2 * T.m + (bitD T.d (T.ps.getD (a + T.m) 0)).1 := rfl
      have hsd : (T.step a).d = (bitD T.d (T.ps.getD (a + T.m) 0)).2.2 := rfl
      have hsp : (T.step a).ps = T.ps.set (a + T.m) (bitD T.d (T.ps.getD (a + T.m) 0)).2.1 := rfl
      have hu := (bitD_ok t1 (getD_ok t2 (show a + T.m < T.ps.length by omega))).1
      rw [← hsd, ← hsp] at K
      generalize (bitD T.d (T.ps.getD (a + T.m) 0)).1 = u at *
      have hlt' : (j : Int) < (n : Int) := by omega
      have hm5 : T.m < 512 := by omega
      have hx5 : x < 512 := by omega
      have e1 : IntKind.i64.wrap (2 * (x : Int)) = 2 * (x : Int) := IntWalk.i64_in _ (by omega)
      have e2 : IntKind.i64.wrap (2 * (T.m : Int)) = 2 * (T.m : Int) := IntWalk.i64_in _ (by omega)
      have e3 : IntKind.i64.wrap (2 * (x : Int) + (u : Int)) = ((2 * x + u : Nat) : Int) := by rw [show 2 * (x : Int) + (u : Int) = ((2 * x + u : Nat) : Int) by omega]; exact IntWalk.i64_in _ (by omega)
      have e4 : IntKind.i64.wrap (2 * (T.m : Int) + (u : Int)) = ((2 * T.m + u : Nat) : Int) := by rw [show 2 * (T.m : Int) + (u : Int) = ((2 * T.m + u : Nat) : Int) by omega]; exact IntWalk.i64_in _ (by omega)
      have HX := Lib.hid hx
      have HSM := Lib.hid hsm
      clear hp hr t1 t2 t3 t4 t5 hx hpow h256 hu hsm hsd hsp HT
      generalize T.step a = T' at *
      generalize T.m = y at *
      go_wp2_with fail
      refine K.out.mono ?_
      rintro e w1 ⟨rfl, hp1, hr1, ho1⟩
      have HP1 := Lib.hid hp1
      have HR1 := Lib.hid hr1
      have HO1 := Lib.hid (HO.out.trans ho1)
      clear hp1 hr1 ho1 HO K
      go_wp2_with fail
      go_roundw
      case rel =>
        refine ⟨j + 1, 2 * x + u, T', by omega, HST.out, by go_num, rfl, by rw [HSM.out]; go_num, ?_, HP1.out, HR1.out, HO1.out⟩
        have := HX.out
        have := HSM.out
        rw [Nat.pow_succ]
        omega
      case measure => simp [intOf]; omega
    · obtain rfl : j = n := by omega
      obtain ⟨at_, r, c, bad, hB, hF, hfg, ht⟩ := hp
      have HB := Lib.hid hB
      have HF := Lib.hid hF
      have HR := Lib.hid hr
      have HTD := Lib.hid ht
      have KT := Lib.hid (told_any (x := (x : Int)) hB)
      have hv : v = if bad = true then 0 else x := by
        rw [HV.out, ← HT0.out]
        rcases ht.2.2.2 with ⟨rfl, h⟩ | ⟨rfl, h⟩
        · rw [if_pos h, if_pos rfl]
        · rw [if_neg (by rw [h]; simp), if_neg (by simp)]
          omega
      clear hB hF ht hr hx t1 t2 t3 t4 t5 HT HV
      generalize T.m = y at *
      cases bad
      all_goals
        simp only [if_true, Bool.false_eq_true, if_false] at hv KT
        subst hv
        go_wp2_with fail
        refine KT.out.mono ?_
        rintro e w2 ⟨rfl, rfl⟩
        go_wp2_with fail
        go_ret
        rw [← HT0.out]
        exact ⟨rfl, ⟨at_, r, c, _, HB.out, HF.out, hfg, HTD.out⟩, HR.out, HO.out⟩
end
end Go.Proofs.Ytokkaidepahepaa
