/-
  The decoder tells a number by a reverse tree.
-/
import Derived.Test.YtokkaidepahepaaRdNums
namespace Go.Proofs.Ytokkaidepahepaa
open Go.RowKit

section
variable {g f lo b pc : Nat} {w : World} {bs : List UInt8} {ps : List Nat}

theorem ofInt_u64' (a : Nat) (h : a < 18446744073709551616) : (BitVec.ofInt 64 (a : Int)).toNat = a := by simp; omega
theorem i64_or_nat (a b : Nat) (ha : a < 9223372036854775808) (hb : b < 9223372036854775808) : bits .or .i64 (a : Int) (b : Int) = ((a ||| b : Nat) : Int) := by
  have hx : a ||| b < 2 ^ 63 := Nat.or_lt_two_pow (by omega) (by omega)
  show IntKind.i64.wrap ((BitVec.ofInt 64 (a : Int) ||| BitVec.ofInt 64 (b : Int)).toNat : Int) = _
  rw [BitVec.toNat_or, ofInt_u64' a (by omega), ofInt_u64' b (by omega)]
  exact IntWalk.i64_in _ (by omega)
theorem i64_or_shift (o u j : Nat) (ho : o < 2 ^ j) (hu : u ≤ 1) (hj : j < 8) : bits .or .i64 (o : Int) (wrap64 ((u : Int) * 2 ^ j)) = ((o + u * 2 ^ j : Nat) : Int) := by
  have hp : 2 ^ j ≤ 2 ^ 7 := Nat.pow_le_pow_right (n := 2) (by omega) (show j ≤ 7 by omega)
  have hm : u * 2 ^ j ≤ 1 * 2 ^ j := Nat.mul_le_mul_right _ hu
  have hw : wrap64 (((u * 2 ^ j : Nat) : Int)) = ((u * 2 ^ j : Nat) : Int) := by
    unfold wrap64
    generalize u * 2 ^ j = y at *
    omega
  rw [cast_pow2, ← Int.natCast_mul, hw, i64_or_nat _ _ (by omega) (by omega)]
  congr 1
  rw [Nat.or_comm, nat_join j (u * 2 ^ j) o (Nat.mul_mod_left _ _) ho]
  omega

set_option maxHeartbeats 4000000 in
theorem rev_any {d : Dc} {a n len cap v : Nat} (hv : v = if (Tr.go a (Tr.begin ps d) n).d = none then 0 else (Tr.go a (Tr.begin ps d) n).o) (h : Pd w g f lo bs d) (hd : DcOk d) (hR : Row w b ps pc) (hps : PsOk ps) (hb : b < lo ∨ g < b) (hl : a + len = ps.length) (hn : 2 ^ n ≤ len) (hn8 : n ≤ 8) :
    Calls Try.prog 22 #[.pointer (some ⟨g, 0, none⟩), .slice (some ⟨b, a, none⟩) len cap, .int .i64 (n : Int)] w
      (TellPost w g f lo b bs (Tr.go a (Tr.begin ps d) n).ps pc v (Tr.go a (Tr.begin ps d) n).d) := by
  have HP := Lib.hid h
  have HR := Lib.hid hR
  have HT := Lib.hid (tr_ok hd hps (show a + 2 ^ n ≤ ps.length by omega))
  have HBL := Lib.hid hb
  have HV := Lib.hid hv
  clear h hd hR hps hb hv
  go_enter Try.func22, Try.ntmps22
  go_wp2_with fail
  go_loopw [7, 8, 9, 10, 12] (fun v m _ _ i wr => ∃ (j x : Nat) (T : Tr), j ≤ n ∧ T = Tr.go a (Tr.begin ps d) j ∧ i = .int .i64 (j : Int) ∧ v = .int .i64 (x : Int) ∧ m = .int .i64 (T.m : Int) ∧ x = T.o ∧ Pd wr g f lo bs T.d ∧ Row wr b T.ps pc ∧ Only (three f g b) w wr) (fun _ _ _ _ i _ => n - (intOf i).toNat)
  case atStart => exact ⟨0, 0, _, Nat.zero_le _, rfl, rfl, rfl, rfl, rfl, HP.out, HR.out, Only.refl _ _⟩
  case round =>
    clear HP HR
    obtain ⟨j, x, T, hj, hT, rfl, rfl, rfl, hx, hp, hr, ho⟩ := hrel
    obtain ⟨t1, t2, t3, t4, t5, t6, t7⟩ := HT.out j hj
    rw [← hT] at t1 t2 t3 t4 t5 t6 t7
    have HO := Lib.hid ho
    have HT0 := Lib.hid hT
    rw [← hx] at t7
    clear ho hT
    by_cases hlt : j < n
    · have hpow : 2 ^ (j + 1) ≤ 2 ^ n := Nat.pow_le_pow_right (by omega) hlt
      have h256 := pow8 hn8
      have K := Lib.hid (tell_any (i := a + T.m) hp t1 hr (by omega) HBL.out (getD_ok t2 (by omega)))
      have hm1 : (T.m : Int) < (len : Int) := by omega
      have hm0 : (0 : Int) ≤ (T.m : Int) := by omega
      have HST := Lib.hid (show T.step a = Tr.go a (Tr.begin ps d) (j + 1) by rw [HT0.out]; rfl)
      have hsm : (T.step a).m = 2 * T.m + (bitD T.d (T.ps.getD (a + T.m) 0)).1 := rfl
      have hso : (T.step a).o = T.o + (bitD T.d (T.ps.getD (a + T.m) 0)).1 * T.v := rfl
      have hsd : (T.step a).d = (bitD T.d (T.ps.getD (a + T.m) 0)).2.2 := rfl
      have hsp : (T.step a).ps = T.ps.set (a + T.m) (bitD T.d (T.ps.getD (a + T.m) 0)).2.1 := rfl
      have hu := (bitD_ok t1 (getD_ok t2 (show a + T.m < T.ps.length by omega))).1
      rw [← hsd, ← hsp] at K
      generalize (bitD T.d (T.ps.getD (a + T.m) 0)).1 = u at *
      have hlt' : (j : Int) < (n : Int) := by omega
      have hm5 : T.m < 512 := by omega
      have e1 := i64_or_shift x u j t7 hu (by omega)
      have e2 : IntKind.i64.wrap (2 * (T.m : Int)) = 2 * (T.m : Int) := IntWalk.i64_in _ (by omega)
      have e4 : IntKind.i64.wrap (2 * (T.m : Int) + (u : Int)) = ((2 * T.m + u : Nat) : Int) := by rw [show 2 * (T.m : Int) + (u : Int) = ((2 * T.m + u : Nat) : Int) by omega]; exact IntWalk.i64_in _ (by omega)
      rw [t6, ← hx] at hso
      have HSO := Lib.hid hso
      have HSM := Lib.hid hsm
      clear hp hr t1 t2 t3 t4 t5 t6 t7 hx hpow h256 hu hsm hsd hsp HT hso
      generalize x + u * 2 ^ j = x' at *
      generalize T.step a = T' at *
      generalize T.m = y at *
      go_wp2_with fail
      refine K.out.mono ?_
      rintro e w1 ⟨rfl, hp1, hr1, ho1⟩
      have HP1 := Lib.hid hp1
      have HR1 := Lib.hid hr1
      have HO1 := Lib.hid (HO.out.trans ho1)
      clear hp1 hr1 ho1 HO K
      go_wp2_with fail
      go_roundw
      case rel =>
        exact ⟨j + 1, x', T', by omega, HST.out, by go_num, rfl, by rw [HSM.out]; go_num, HSO.out.symm, HP1.out, HR1.out, HO1.out⟩
      case measure => simp [intOf]; omega
    · obtain rfl : j = n := by omega
      obtain ⟨at_, r, c, bad, hB, hF, hfg, ht⟩ := hp
      have HB := Lib.hid hB
      have HF := Lib.hid hF
      have HR := Lib.hid hr
      have HTD := Lib.hid ht
      have KT := Lib.hid (told_any (x := (x : Int)) hB)
      have hv : v = if bad = true then 0 else x := by
        rw [HV.out, ← HT0.out]
        rcases ht.2.2.2 with ⟨rfl, h⟩ | ⟨rfl, h⟩
        · rw [if_pos h, if_pos rfl]
        · rw [if_neg (by rw [h]; simp), if_neg (by simp), hx]
      clear hB hF ht hr hx t1 t2 t3 t4 t5 t6 t7 HT HV
      generalize T.m = y at *
      cases bad
      all_goals
        simp only [if_true, Bool.false_eq_true, if_false] at hv KT
        subst hv
        go_wp2_with fail
        refine KT.out.mono ?_
        rintro e w2 ⟨rfl, rfl⟩
        go_wp2_with fail
        go_ret
        rw [← HT0.out]
        exact ⟨rfl, ⟨at_, r, c, _, HB.out, HF.out, hfg, HTD.out⟩, HR.out, HO.out⟩
end
end Go.Proofs.Ytokkaidepahepaa
