/-
  The law PrcFirst, over what the program's coder owes.
-/
import Derived.Test.YtkjhdpfomofggaaPrCon
import Derived.LoopTactic
namespace Go.Proofs.Ytkjhdpfomofggaa
open Go.RowKit

set_option maxRecDepth 100000 in
set_option maxHeartbeats 4000000 in
theorem prcFirst_walk {Pn : World → Nat → (Nat → Prop) → En → Prop} (C : CoderCon Pn) (Aw : AwakeCon) {B : Option Addr} {m mc : Nat} {qs : Nat → Shr} {w : World} (hB : Shrs w B m qs) (hqs : ∀ i, i < m → ShrLit (qs i)) (hm : m ≤ maxLen) :
    Calls Try.prog 7 #[.slice B m mc] w fun e w' => e = .returned (.bool true) ∧ Below w.heap.size w w' := by
  unfold maxLen at hm
  have HSC := Lib.hid hB
  have HQS := Lib.hid hqs
  clear hB hqs
  go_enter Try.func7, Try.ntmps7
  go_wp2_with fail
  refine (Aw w).mono ?_
  rintro e w1 ⟨rfl, hb⟩
  have HB1 := Lib.hid hb
  have hsz1 := hb.size
  clear hb
  go_wp2_with fail
  refine (C.new w1).mono ?_
  rintro e w2 ⟨g, G0, rfl, hP, hG, hb2⟩
  have HP3 := Lib.hid hP
  have HG3 := Lib.hid (show ∀ i, G0 i → w.heap.size ≤ i from fun i hi => Nat.le_trans hsz1 (hG i hi))
  have HB3 := Lib.hid (HB1.out.trans (hb2.mono hsz1))
  clear hP hG hb2 HB1
  go_wp2_with fail
  go_loopw [4] (fun i wr => ∃ (j : Nat) (G : Nat → Prop), j ≤ m ∧ j ≤ 2000 ∧ i = .int .i64 (j : Int) ∧ Pn wr g G (codS qs j) ∧ (∀ x, G x → w.heap.size ≤ x) ∧ Below w.heap.size w wr) (fun i _ => m - (intOf i).toNat)
  case atStart => exact ⟨0, G0, by omega, by omega, rfl, HP3.out, HG3.out, HB3.out⟩
  case round =>
    clear HP3 HG3 HB3
    obtain ⟨j, G, hj, hj5, rfl, hP, hG, hB⟩ := hrel
    have HP := Lib.hid hP
    have HG := Lib.hid hG
    have HB := Lib.hid hB
    obtain ⟨hok, hlj⟩ := codS_ok (hs := qs) j
    clear hP hG hB
    by_cases hgo : j < m ∧ j < 2000
    · obtain ⟨hjm, hj2⟩ := hgo
      obtain ⟨bq, oq, rfl, hbl, c0, c1, c2, c3⟩ := HSC.out.cells HB.out hjm
      have hlit := HQS.out j hjm
      have hst := reach_len (codS_step (hs := qs) j)
      have hlj2 : (codS qs (j + 1)).l ≤ 5 + 3 * (j + 1) := (codS_ok (hs := qs) (j + 1)).2
      have hyes : RightS (qs j) → _ := fun h => codS_yes (hs := qs) (j := j) h
      have hno : ¬ RightS (qs j) → _ := fun h => codS_no (hs := qs) (j := j) h
      have HYES := Lib.hid hyes
      have HNO := Lib.hid hno
      have HOK := Lib.hid hok
      obtain ⟨N, hNN⟩ : ∃ N, N = codS qs (j + 1) := ⟨_, rfl⟩
      obtain ⟨D, hCC⟩ : ∃ D, D = codS qs j := ⟨_, rfl⟩
      rw [← hCC] at HOK HP hst hlj HYES HNO
      rw [← hNN] at hst hlj2 HYES HNO
      have HNN := Lib.hid hNN
      clear hNN hCC hok hyes hno
      generalize hq : qs j = q at *
      obtain ⟨k, s, z, t⟩ := q
      dsimp only at c0 c1 c2 c3
      have HLIT := Lib.hid hlit
      have HRT := Lib.hid (show Calls Try.prog 12 #[.agg #[.int .i64 k, .int .u32 s, .int .u32 z, .int .u32 t]] wr _ from share_any ⟨k, s, z, t⟩ hlit wr)
      clear hq hlit
      have i0 : (0 : Int) ≤ (j : Int) := by omega
      have i1 : (j : Int) < (m : Int) := by omega
      have i2 : (j : Int) < 2000 := by omega
      go_wp2_with fail
      refine HRT.out.mono ?_
      rintro e w6 ⟨bb, rfl, hbb, hb6⟩
      have HB6 := Lib.hid (below_trans HB.out hb6)
      have hbw := Nat.lt_of_lt_of_le hbl HB.out.size
      have a0 := shr_on (w := wr) hb6 hbw c0
      have a1 := shr_on (w := wr) hb6 hbw c1
      have a2 := shr_on (w := wr) hb6 hbw c2
      have a3 := shr_on (w := wr) hb6 hbw c3
      have HP6 := Lib.hid (C.only HP.out (Only.of_below (S := fun _ => False) hb6) (fun _ _ h => h))
      have HBB := Lib.hid hbb
      clear hb6 hbb HP HB c0 c1 c2 c3 HRT
      cases bb
      · have hne : N = D := HNO.out (fun h => by have := HBB.out.2 h; cases this)
        have HEQ := Lib.hid (show codS qs (j + 1) = D by rw [← HNN.out, hne])
        clear hne hst hlj2
        go_wp2_with fail
        go_roundw
        case rel => exact ⟨j + 1, G, by omega, by omega, by go_num, by rw [HEQ.out]; exact HP6.out, HG.out, HB6.out⟩
        case measure => simp [intOf]; omega
      · have hq := HBB.out.1 rfl
        have hN := HYES.out hq
        have KC1 := Lib.hid (C.count HP6.out (by omega))
        have KP := Lib.hid (fun (w7 : World) (hO : Only (fun _ => False) w6 w7) => show Calls Try.prog 24 #[.pointer (some ⟨g, 0, none⟩), .agg #[.int .i64 k, .int .u32 s, .int .u32 z, .int .u32 t]] w7 _ from C.put (Q := ⟨k, s, z, t⟩) (C.only HP6.out hO (fun _ _ h => h)) HOK.out HLIT.out hq (by omega))
        dsimp only at KP hN
        rw [← hN] at KP
        have hlt : ¬ (N.l : Int) < (D.l : Int) := by omega
        have hl9 : N.l ≤ 1000000000 := by omega
        clear HOK HBB hq hN HYES HNO hst hlj hlj2 HLIT
        go_wp2_with fail
        refine KC1.out.mono ?_
        rintro e w7 ⟨rfl, d, hw7⟩
        have hO7 : Only (fun _ => False) w6 w7 := by rw [← hw7]; exact (Only.refl _ w6).drewN d
        have b0 := (hO7.cell (p := ⟨bq, oq + j * 4, none⟩) (Nat.lt_of_lt_of_le hbl HB6.out.size) (fun h => h)).trans a0
        have b1 := (hO7.cell (p := ⟨bq, oq + j * 4 + 1, none⟩) (Nat.lt_of_lt_of_le hbl HB6.out.size) (fun h => h)).trans a1
        have b2 := (hO7.cell (p := ⟨bq, oq + j * 4 + 2, none⟩) (Nat.lt_of_lt_of_le hbl HB6.out.size) (fun h => h)).trans a2
        have b3 := (hO7.cell (p := ⟨bq, oq + j * 4 + 3, none⟩) (Nat.lt_of_lt_of_le hbl HB6.out.size) (fun h => h)).trans a3
        have KP7 := Lib.hid (KP.out w7 hO7)
        have HB7 := Lib.hid (show Below w.heap.size w w7 by rw [← hw7]; exact below_drewN HB6.out d)
        clear hO7 hw7 KP KC1 HP6 HB6 a0 a1 a2 a3
        go_wp2_with fail
        refine KP7.out.mono ?_
        rintro e w8 ⟨rfl, G', hP8, hG8, hO8⟩
        have KC2 := Lib.hid (C.count hP8 hl9)
        have HP8 := Lib.hid hP8
        have HG8 := Lib.hid (con_new (Nat.le_refl _) HB7.out HG.out hG8)
        have HB8 := Lib.hid (con_below (Nat.le_refl _) HB7.out HG.out hO8)
        clear hP8 hG8 hO8 HB7 HG KP7 b0 b1 b2 b3
        go_wp2_with fail
        refine KC2.out.mono ?_
        rintro e w9 ⟨rfl, d9, hw9⟩
        have HP9 := Lib.hid (C.only HP8.out (show Only (fun _ => False) w8 w9 by rw [← hw9]; exact (Only.refl _ w8).drewN d9) (fun _ _ h => h))
        have HB9 := Lib.hid (show Below w.heap.size w w9 by rw [← hw9]; exact below_drewN HB8.out d9)
        clear hw9 HP8 HB8
        go_wp2_with fail
        go_roundw
        case rel => exact ⟨j + 1, G', by omega, by omega, by go_num, by rw [← HNN.out]; exact HP9.out, HG8.out, HB9.out⟩
        case measure => simp [intOf]; omega
    · have HOK := Lib.hid hok
      have HLL := Lib.hid (show (codS qs j).l ≤ 6005 by omega)
      have KC := Lib.hid (C.count HP.out (by omega))
      clear hok hlj
      by_cases hjm : j < m
      · obtain rfl : j = 2000 := by omega
        have i1 : ((2000 : Nat) : Int) < (m : Int) := by omega
        generalize codS qs 2000 = E at *
        go_wp2_with fail
        refine KC.out.mono ?_
        rintro e w4 ⟨rfl, d, hw4⟩
        have hO4 : Only (fun _ => False) wr w4 := by rw [← hw4]; exact (Only.refl _ wr).drewN d
        have KF := Lib.hid (C.finish (C.only HP.out hO4 (fun _ _ h => h)) (by have := HLL.out; omega))
        have HB4 := Lib.hid (show Below w.heap.size w w4 by rw [← hw4]; exact below_drewN HB.out d)
        clear hw4 hO4
        go_wp2_with fail
        refine KF.out.mono ?_
        rintro e w5 ⟨A, mm, bs, G5, rfl, hsl, hbe, hbl, hPn, hGn, hO⟩
        have HB5 := Lib.hid (con_below (Nat.le_refl _) HB4.out HG.out hO)
        obtain ⟨b0, o0, hA, hl0, hc0⟩ := hsl.at_ (show 0 < bs.length by have := HOK.out.2.2.1; omega)
        have hcell := hc0 0 (show 0 < bs.length by have := HOK.out.2.2.1; omega)
        have h5 : 5 ≤ bs.length := by have := HOK.out.2.2.1; omega
        have hz : (bv bs)[0]? = some (.int .u8 0) := by
          match bs, h5, hbe, hbl with
          | z :: t, _, hbe, hbl =>
            obtain rfl := ends_first (ends_of HOK.out hbe hbl) HOK.out.2.2
            rfl
        rw [hz, Nat.add_zero] at hcell
        rw [hbl] at h5 ⊢
        subst hA
        have hi0 : (5 : Int) ≤ (E.l : Int) := by omega
        have hi1 : (0 : Int) < (E.l : Int) := by omega
        have hi2 : (E.l : Int) ≥ 5 := by omega
        clear hsl hbe hbl hPn hGn hO hc0 h5 hz hl0 KC KF HB4 HB HG HOK HLL HP
        generalize E.l = l at *
        go_wp2_with fail
        go_ret
        exact ⟨rfl, HB5.out⟩
      · obtain rfl : j = m := by omega
        clear hjm hgo
        generalize codS qs j = E at *
        go_wp2_with fail
        refine KC.out.mono ?_
        rintro e w4 ⟨rfl, d, hw4⟩
        have hO4 : Only (fun _ => False) wr w4 := by rw [← hw4]; exact (Only.refl _ wr).drewN d
        have KF := Lib.hid (C.finish (C.only HP.out hO4 (fun _ _ h => h)) (by have := HLL.out; omega))
        have HB4 := Lib.hid (show Below w.heap.size w w4 by rw [← hw4]; exact below_drewN HB.out d)
        clear hw4 hO4
        go_wp2_with fail
        refine KF.out.mono ?_
        rintro e w5 ⟨A, mm, bs, G5, rfl, hsl, hbe, hbl, hPn, hGn, hO⟩
        have HB5 := Lib.hid (con_below (Nat.le_refl _) HB4.out HG.out hO)
        obtain ⟨b0, o0, hA, hl0, hc0⟩ := hsl.at_ (show 0 < bs.length by have := HOK.out.2.2.1; omega)
        have hcell := hc0 0 (show 0 < bs.length by have := HOK.out.2.2.1; omega)
        have h5 : 5 ≤ bs.length := by have := HOK.out.2.2.1; omega
        have hz : (bv bs)[0]? = some (.int .u8 0) := by
          match bs, h5, hbe, hbl with
          | z :: t, _, hbe, hbl =>
            obtain rfl := ends_first (ends_of HOK.out hbe hbl) HOK.out.2.2
            rfl
        rw [hz, Nat.add_zero] at hcell
        rw [hbl] at h5 ⊢
        subst hA
        have hi0 : (5 : Int) ≤ (E.l : Int) := by omega
        have hi1 : (0 : Int) < (E.l : Int) := by omega
        have hi2 : (E.l : Int) ≥ 5 := by omega
        clear hsl hbe hbl hPn hGn hO hc0 h5 hz hl0 KC KF HB4 HB HG HOK HLL HP
        generalize E.l = l at *
        go_wp2_with fail
        go_ret
        exact ⟨rfl, HB5.out⟩
end Go.Proofs.Ytkjhdpfomofggaa
