/-
  The program's coder codes numbers by trees.
-/
import Derived.Test.YtokkaidepahepaaPcNums
namespace Go.Proofs.Ytokkaidepahepaa
open Go.RowKit

section
variable {w : World} {g b pc : Nat} {G : Option Nat} {e : En} {ps : List Nat}

set_option maxHeartbeats 4000000 in
theorem ptree_any {a n len cap V : Nat} (h : Pn w g G e) (he : EnOk e) (hR : Row w b ps pc) (hps : PsOk ps) (hbg : b ≠ g) (hbG : G ≠ some b) (hl : a + len = ps.length) (hn : 2 ^ n ≤ len) (hn8 : n ≤ 8) (hV : V < 4294967296) (hlen : e.l ≤ 999999900) :
    Calls Try.prog 28 #[.pointer (some ⟨g, 0, none⟩), .slice (some ⟨b, a, none⟩) len cap, .int .i64 (n : Int), .int .u32 (V : Int)] w
      (CodPost w g G b pc (treE (topBits V n) a ps e n).ps (treE (topBits V n) a ps e n).e) := by
  have HP := Lib.hid h
  have HR := Lib.hid hR
  have HE := Lib.hid he
  have HT := Lib.hid (treE_ok (bits := topBits V n) (fun i => bitOf_le V _) he hps (show a + 2 ^ n ≤ ps.length by omega))
  have HLEN := Lib.hid hlen
  have HV := Lib.hid hV
  have HBG := Lib.hid hbg
  have HBG2 := Lib.hid hbG
  have HBL := Lib.hid hR.lt
  have en1 : IntKind.i64.wrap ((n : Int) - 1) = (n : Int) - 1 := IntWalk.i64_in _ (by omega)
  clear h hR he hps hbg hbG hlen hV
  go_enter Try.func28, Try.ntmps28
  go_wp2_with fail
  go_loopw [8, 9, 10, 12] (fun m _ _ i wr => ∃ (j : Nat) (T : Et) (G' : Option Nat), j ≤ n ∧ T = treE (topBits V n) a ps e j ∧ i = .int .i64 (j : Int) ∧ m = .int .i64 (T.m : Int) ∧ Pn wr g G' T.e ∧ Nwr w G G' ∧ Row wr b T.ps pc ∧ Only (qset g G b) w wr) (fun _ _ _ i _ => n - (intOf i).toNat)
  case atStart => exact ⟨0, _, G, Nat.zero_le _, rfl, rfl, rfl, HP.out, Nwr.refl _ _, HR.out, Only.refl _ _⟩
  case round =>
    clear HP HR
    obtain ⟨j, T, G', hj, hT, rfl, rfl, hP, hN, hR, hO⟩ := hrel
    obtain ⟨t1, t2, t3, t4, t5⟩ := HT.out j hj
    have t6 := treE_len (topBits V n) a ps e j
    rw [← hT] at t1 t2 t3 t4 t5 t6
    have HO := Lib.hid hO
    have HN := Lib.hid hN
    have HT0 := Lib.hid hT
    by_cases hlt : j < n
    · have hpow : 2 ^ (j + 1) ≤ 2 ^ n := Nat.pow_le_pow_right (by omega) hlt
      have h256 := pow8 hn8
      obtain ⟨k, hk⟩ : ∃ k, k = n - 1 - j := ⟨_, rfl⟩
      have hbit := bitOf_le V k
      have hil : a + T.m < T.ps.length := by omega
      have K := Lib.hid (pbit_any (i := a + T.m) (bit := bitOf V k) hP t1 hR hil (getD_ok t2 hil) HBG.out (nwr_ne hN HBL.out HBG2.out) hbit (by have := HLEN.out; omega))
      have hm1 : (T.m : Int) < (len : Int) := by omega
      have hm0 : (0 : Int) ≤ (T.m : Int) := by omega
      have HST := Lib.hid (show T.step a (bitOf V k) = treE (topBits V n) a ps e (j + 1) by rw [HT0.out, hk]; rfl)
      have hsm : (T.step a (bitOf V k)).m = 2 * T.m + bitOf V k := rfl
      have eb := bit_and V k HV.out
      have hmin : min k 32 = k := by omega
      have hk0 : (0 : Int) ≤ (k : Int) := by omega
      have hsz := hO.size
      have HSZ := Lib.hid hsz
      have hsd : (T.step a (bitOf V k)).e = T.e.bit (T.ps.getD (a + T.m) 0) (bitOf V k) := rfl
      have hsp : (T.step a (bitOf V k)).ps = T.ps.set (a + T.m) (upOf (T.ps.getD (a + T.m) 0) (bitOf V k)) := rfl
      rw [← hsd, ← hsp] at K
      have e3 : IntKind.i64.wrap ((n : Int) - 1 - (j : Int)) = (k : Int) := by rw [show (n : Int) - 1 - (j : Int) = (k : Int) by omega]; exact IntWalk.i64_in _ (by omega)
      have hlt' : (j : Int) < (n : Int) := by omega
      have hm5 : T.m < 512 := by omega
      have ej : IntKind.i64.wrap ((j : Int) + 1) = (j : Int) + 1 := IntWalk.i64_in _ (by omega)
      have HSM := Lib.hid hsm
      generalize bitOf V k = u at *
      have e2 : IntKind.i64.wrap (2 * (T.m : Int)) = 2 * (T.m : Int) := IntWalk.i64_in _ (by omega)
      have e4 : IntKind.i64.wrap (2 * (T.m : Int) + (u : Int)) = ((2 * T.m + u : Nat) : Int) := by rw [show 2 * (T.m : Int) + (u : Int) = ((2 * T.m + u : Nat) : Int) by omega]; exact IntWalk.i64_in _ (by omega)
      have e5 : IntKind.i64.wrap (u : Int) = (u : Int) := IntWalk.i64_in _ (by omega)
      clear hP hR hN hO hT t1 t2 t3 t4 t5 t6 hpow h256 hbit hil hsm hsd hsp hsz HT hk hm5
      generalize T.step a u = T' at *
      generalize T.m = y at *
      go_wp2_with fail
      refine K.out.mono ?_
      rintro x w1 ⟨rfl, G2, hP1, hN1, hR1, hO1⟩
      have HP1 := Lib.hid hP1
      have HR1 := Lib.hid hR1
      have HN1 := Lib.hid (HN.out.trans hN1 HSZ.out)
      have HO1 := Lib.hid (qset_trans HO.out HN.out hO1)
      clear hP1 hR1 hN1 hO1 HO HN K
      go_wp2_with fail
      go_roundw
      case rel =>
        exact ⟨j + 1, T', G2, by omega, HST.out, by go_num, by rw [HSM.out]; go_num, HP1.out, HN1.out, HR1.out, HO1.out⟩
      case measure => simp [intOf]; omega
    · obtain rfl : j = n := by omega
      have HP := Lib.hid hP
      have HR := Lib.hid hR
      clear hP hR hN hO t1 t2 t3 t4 t5 t6 HT hT
      generalize T.m = y at *
      go_wp2_with fail
      first | go_end0 | refine bodyPost_ret (results_none rfl _ _ _) rfl ?_
      rw [← HT0.out]
      exact ⟨rfl, G', HP.out, HN.out, HR.out, HO.out⟩

set_option maxHeartbeats 4000000 in
theorem prev_any {a n len cap V : Nat} (h : Pn w g G e) (he : EnOk e) (hR : Row w b ps pc) (hps : PsOk ps) (hbg : b ≠ g) (hbG : G ≠ some b) (hl : a + len = ps.length) (hn : 2 ^ n ≤ len) (hn8 : n ≤ 8) (hV : V < 4294967296) (hlen : e.l ≤ 999999900) :
    Calls Try.prog 29 #[.pointer (some ⟨g, 0, none⟩), .slice (some ⟨b, a, none⟩) len cap, .int .i64 (n : Int), .int .u32 (V : Int)] w
      (CodPost w g G b pc (treE (bitOf V) a ps e n).ps (treE (bitOf V) a ps e n).e) := by
  have HP := Lib.hid h
  have HR := Lib.hid hR
  have HE := Lib.hid he
  have HT := Lib.hid (treE_ok (bits := bitOf V) (fun i => bitOf_le V _) he hps (show a + 2 ^ n ≤ ps.length by omega))
  have HLEN := Lib.hid hlen
  have HV := Lib.hid hV
  have HBG := Lib.hid hbg
  have HBG2 := Lib.hid hbG
  have HBL := Lib.hid hR.lt
  have en1 : IntKind.i64.wrap ((n : Int) - 1) = (n : Int) - 1 := IntWalk.i64_in _ (by omega)
  clear h hR he hps hbg hbG hlen hV
  go_enter Try.func29, Try.ntmps29
  go_wp2_with fail
  go_loopw [8, 9, 10, 12] (fun m _ _ i wr => ∃ (j : Nat) (T : Et) (G' : Option Nat), j ≤ n ∧ T = treE (bitOf V) a ps e j ∧ i = .int .i64 (j : Int) ∧ m = .int .i64 (T.m : Int) ∧ Pn wr g G' T.e ∧ Nwr w G G' ∧ Row wr b T.ps pc ∧ Only (qset g G b) w wr) (fun _ _ _ i _ => n - (intOf i).toNat)
  case atStart => exact ⟨0, _, G, Nat.zero_le _, rfl, rfl, rfl, HP.out, Nwr.refl _ _, HR.out, Only.refl _ _⟩
  case round =>
    clear HP HR
    obtain ⟨j, T, G', hj, hT, rfl, rfl, hP, hN, hR, hO⟩ := hrel
    obtain ⟨t1, t2, t3, t4, t5⟩ := HT.out j hj
    have t6 := treE_len (bitOf V) a ps e j
    rw [← hT] at t1 t2 t3 t4 t5 t6
    have HO := Lib.hid hO
    have HN := Lib.hid hN
    have HT0 := Lib.hid hT
    by_cases hlt : j < n
    · have hpow : 2 ^ (j + 1) ≤ 2 ^ n := Nat.pow_le_pow_right (by omega) hlt
      have h256 := pow8 hn8
      have hbit := bitOf_le V j
      have hil : a + T.m < T.ps.length := by omega
      have K := Lib.hid (pbit_any (i := a + T.m) (bit := bitOf V j) hP t1 hR hil (getD_ok t2 hil) HBG.out (nwr_ne hN HBL.out HBG2.out) hbit (by have := HLEN.out; omega))
      have hm1 : (T.m : Int) < (len : Int) := by omega
      have hm0 : (0 : Int) ≤ (T.m : Int) := by omega
      have HST := Lib.hid (show T.step a (bitOf V j) = treE (bitOf V) a ps e (j + 1) by rw [HT0.out]; rfl)
      have hsm : (T.step a (bitOf V j)).m = 2 * T.m + bitOf V j := rfl
      have eb := bit_and V j HV.out
      have hmin : min j 32 = j := by omega
      have hk0 : (0 : Int) ≤ (j : Int) := by omega
      have hsz := hO.size
      have HSZ := Lib.hid hsz
      have hsd : (T.step a (bitOf V j)).e = T.e.bit (T.ps.getD (a + T.m) 0) (bitOf V j) := rfl
      have hsp : (T.step a (bitOf V j)).ps = T.ps.set (a + T.m) (upOf (T.ps.getD (a + T.m) 0) (bitOf V j)) := rfl
      rw [← hsd, ← hsp] at K

      have hlt' : (j : Int) < (n : Int) := by omega
      have hm5 : T.m < 512 := by omega
      have ej : IntKind.i64.wrap ((j : Int) + 1) = (j : Int) + 1 := IntWalk.i64_in _ (by omega)
      have HSM := Lib.hid hsm
      generalize bitOf V j = u at *
      have e2 : IntKind.i64.wrap (2 * (T.m : Int)) = 2 * (T.m : Int) := IntWalk.i64_in _ (by omega)
      have e4 : IntKind.i64.wrap (2 * (T.m : Int) + (u : Int)) = ((2 * T.m + u : Nat) : Int) := by rw [show 2 * (T.m : Int) + (u : Int) = ((2 * T.m + u : Nat) : Int) by omega]; exact IntWalk.i64_in _ (by omega)
      have e5 : IntKind.i64.wrap (u : Int) = (u : Int) := IntWalk.i64_in _ (by omega)
      clear hP hR hN hO hT t1 t2 t3 t4 t5 t6 hpow h256 hbit hil hsm hsd hsp hsz HT hm5
      generalize T.step a u = T' at *
      generalize T.m = y at *
      go_wp2_with fail
      refine K.out.mono ?_
      rintro x w1 ⟨rfl, G2, hP1, hN1, hR1, hO1⟩
      have HP1 := Lib.hid hP1
      have HR1 := Lib.hid hR1
      have HN1 := Lib.hid (HN.out.trans hN1 HSZ.out)
      have HO1 := Lib.hid (qset_trans HO.out HN.out hO1)
      clear hP1 hR1 hN1 hO1 HO HN K
      go_wp2_with fail
      go_roundw
      case rel =>
        exact ⟨j + 1, T', G2, by omega, HST.out, by go_num, by rw [HSM.out]; go_num, HP1.out, HN1.out, HR1.out, HO1.out⟩
      case measure => simp [intOf]; omega
    · obtain rfl : j = n := by omega
      have HP := Lib.hid hP
      have HR := Lib.hid hR
      clear hP hR hN hO t1 t2 t3 t4 t5 t6 HT hT
      generalize T.m = y at *
      go_wp2_with fail
      first | go_end0 | refine bodyPost_ret (results_none rfl _ _ _) rfl ?_
      rw [← HT0.out]
      exact ⟨rfl, G', HP.out, HN.out, HR.out, HO.out⟩
end
end Go.Proofs.Ytokkaidepahepaa
