/-
  The law WindowPlays, walked over what the program's window owes.
-/
import Derived.Test.YtnokbibkjhhcoaaWnPl
import Derived.Test.YtnokbibkjhhcoaaScript
import Derived.BigQuiet
namespace Go.Proofs.Ytnokbibkjhhcoaa
open Go.RowKit

theorem u8_low (n : Int) : IntKind.u8.wrap n = (((UInt8.ofNat (n % 256).toNat).toNat : Nat) : Int) ∧ n % 256 = (((UInt8.ofNat (n % 256).toNat).toNat : Nat) : Int) := by
  have h : (UInt8.ofNat (n % 256).toNat).toNat = (n % 256).toNat := by simp; omega
  rw [h]
  refine ⟨?_, by omega⟩
  simp [IntKind.wrap, IntKind.bits, IntKind.signed]; omega

/-- between the rounds -/
def PlR (Pw : World → Nat → (Nat → Prop) → Nat → Ws → Prop) (w0 W : World) (g r m : Nat) (q : Quo) (c : Nat) (s : Ws) : Prop := ∃ G Gr t, PlS Pw w0 W g r m G Gr t q c s s
theorem Pl.less {Pw : World → Nat → (Nat → Prop) → Nat → Ws → Prop} {w0 W : World} {g r m B c : Nat} {q : Quo} {s : Ws} {k n : Int} (h : Pl Pw w0 W g r m B k n q c s s) : PlR Pw w0 W g r m q c s := by
  obtain ⟨G, Gr, t, h, _⟩ := h
  exact ⟨G, Gr, t, h⟩

set_option maxRecDepth 100000 in
set_option maxHeartbeats 16000000 in
theorem windowPlays_walk {Pw : World → Nat → (Nat → Prop) → Nat → Ws → Prop} (C : WinCon Pw) (Aw : AwakeCon7) {n0 : Nat} {B : Option Addr} {ml mc : Nat} {qs : Nat → Int × Int} {w : World} (hn0 : n0 < 65536) (hB : Script w B ml qs) (hqs : ∀ i, i < ml → (-9223372036854775808 ≤ (qs i).1 ∧ (qs i).1 ≤ 9223372036854775807) ∧ (-9223372036854775808 ≤ (qs i).2 ∧ (qs i).2 ≤ 9223372036854775807)) (hm : ml ≤ maxLen) :
    Calls Try.prog 3 #[.int .u16 (n0 : Int), .slice B ml mc] w fun e w' => e = .returned (.bool true) ∧ Below w.heap.size w w' := by
  unfold maxLen at hm
  have HSC := Lib.hid hB
  have HQS := Lib.hid hqs
  have HML := Lib.hid hm
  clear hB hqs
  obtain ⟨N, hN⟩ : ∃ N, N = n0 % 2000 := ⟨_, rfl⟩
  have r0 : IntKind.i64.wrap (n0 : Int) = (n0 : Int) := IntWalk.i64_in _ (by omega)
  have r1 : (n0 : Int).tmod 2000 = (N : Int) := by rw [Int.tmod_eq_emod_of_nonneg (by omega)]; omega
  have r2 : IntKind.i64.wrap (N : Int) = (N : Int) := IntWalk.i64_in _ (by omega)
  have HN := Lib.hid (show N < 2000 by omega)
  clear hm hn0 hN
  go_enter Try.func3, Try.ntmps3
  go_wp2_with fail
  refine (Aw w).mono ?_
  rintro e w1 ⟨rfl, hb1⟩
  have HB1 := Lib.hid hb1
  clear hb1
  go_wp2_with fail
  refine (mnew_any ⟨5000, 0, 0, 0, 0⟩ w1).mono ?_
  rintro e w2 ⟨m, rfl, hM, hmm, hb2⟩
  have hmx : max (N : Int) 1 ≤ 5000 ∧ 1 ≤ max (N : Int) 1 := by have := HN.out; omega
  obtain ⟨f1, f2⟩ := mem_ok hmx.2 hmx.1
  have hlit : Fine (Quo.up ⟨5000, 0, 0, 0, 0⟩) Tel.zero := Fine.new (quo_lit (by decide))
  have K := C.new (n := (N : Int)) hM hlit (by omega) (by have := HN.out; omega) f1
  rw [f2] at K
  have HK := Lib.hid K
  have HF := Lib.hid (show Fine (Quo.up ⟨5000, 0, 0, 0, 0⟩) ⟨max (N : Int) 1, max (N : Int) 1, 0, 0, 0, 0, 0⟩ by rw [← f2]; exact hlit.mem _)
  have HB2 := Lib.hid (HB1.out.trans (hb2.mono HB1.out.size))
  have HMM := Lib.hid (show w.heap.size ≤ m ∧ m < w2.heap.size by have := HB1.out.size; have := hM.lt; omega)
  clear hM hmm hb2 f1 f2 hmx K hlit r0 r1
  go_wp2_with fail
  refine HK.out.mono ?_
  rintro e w3 ⟨g, G, rfl, hP, hM3, hG, hO⟩
  have KR := Lib.hid (rwnew_any (n := (N : Int)) (by omega) (by have := HN.out; omega) w3)
  have hB3 : Below w.heap.size w w3 := HB2.out.trans (hO.below HB2.out.size (fun i hi => by have := HMM.out; omega))
  have HP := Lib.hid hP
  have HM3 := Lib.hid hM3
  have HG := Lib.hid (show (∀ i, G i → w.heap.size ≤ i) ∧ ¬ G m from ⟨fun i hi => by have := hG i hi; have := HB2.out.size; omega, fun h => by have := hG m h; have := HMM.out; omega⟩)
  have HB3 := Lib.hid hB3
  clear hP hM3 hG hO hB3 HK HB2
  go_wp2_with fail
  refine KR.out.mono ?_
  rintro e w4 ⟨rfl, hE, hb4⟩
  obtain ⟨r, hr⟩ : ∃ r, r = w3.heap.size := ⟨_, rfl⟩
  rw [← hr] at hE ⊢
  have hPl : PlR Pw w w4 g r m (Quo.up ⟨5000, 0, 0, 0, 0⟩) 0 (Ws.new (N : Int)) := by
    have hO4 : Only (fun _ => False) w3 w4 := Only.of_below hb4
    have hsz : (Ws.new (N : Int)).sz ≤ 1048576 := by have := HN.out; show (max (N : Int) 1).toNat ≤ _; omega
    refine ⟨G, _, _, ⟨C.only HP.out hO4 (fun _ _ h => h), hE, HM3.out.below hb4, HF.out, fun i hi e => ?_, HG.out.2, fun e => ?_, HG.out.1, fun i hi => ?_, HMM.out.1, HB3.out.trans (hb4.mono HB3.out.size), hsz, hsz, Nat.le_refl 0, Nat.le_refl 0, by decide⟩⟩
    · have := C.old HP.out hi; omega
    · have := HM3.out.lt; omega
    · have := HB3.out.size; omega
  have HPL := Lib.hid hPl
  clear hE hb4 hPl KR HP HM3 HG HB3 HF HMM hr
  generalize Quo.up ⟨5000, 0, 0, 0, 0⟩ = q at *
  go_wp2_with fail
  go_loopw [9] (fun i wr => ∃ (j : Nat) (s : Ws), j ≤ ml ∧ j ≤ 400 ∧ i = .int .i64 (j : Int) ∧ PlR Pw w wr g r m q (2 * j) s) (fun i _ => 400 - (intOf i).toNat)
  case atStart => exact ⟨0, _, Nat.zero_le _, Nat.zero_le _, rfl, HPL.out⟩
  case round =>
    clear HPL
    obtain ⟨j, s, hj, hj4, rfl, hPL⟩ := hrel
    have hbel : Below w.heap.size w wr := by obtain ⟨_, _, _, h⟩ := hPL; exact h.bel
    by_cases hgo : j < ml ∧ j < 400
    · obtain ⟨bq, oq, rfl, hbl, hcq⟩ := HSC.out (by omega)
      obtain ⟨a0, a1⟩ := hcq j hgo.1
      obtain ⟨⟨k0, k1⟩, n0', n1'⟩ := HQS.out j hgo.1
      obtain ⟨k, hk⟩ : ∃ k, k = (qs j).1 := ⟨_, rfl⟩
      obtain ⟨n, hn⟩ : ∃ n, n = (qs j).2 := ⟨_, rfl⟩
      rw [← hk] at a0 k0 k1
      rw [← hn] at a1 n0' n1'
      have b0 : wr.cell? ⟨bq, oq + j * 2, none⟩ = some (.int .i64 k) := (hbel.cell (p := ⟨bq, oq + j * 2, none⟩) hbl).trans a0
      have b1 : wr.cell? ⟨bq, oq + j * 2 + 1, none⟩ = some (.int .i64 n) := (hbel.cell (p := ⟨bq, oq + j * 2 + 1, none⟩) hbl).trans a1
      obtain ⟨G', Gr', t', hS⟩ := hPL
      have hbx := hS.box (k := k) (n := n) C
      have i0 : (0 : Int) ≤ (j : Int) := by omega
      have i1 : (j : Int) < (ml : Int) := by omega
      have i2 : (j : Int) < 400 := by omega
      have ej : IntKind.i64.wrap ((j : Int) + 1) = (j : Int) + 1 := IntWalk.i64_in _ (by omega)
      have en : IntKind.i64.wrap ((N : Int) - 1) = (N : Int) - 1 := IntWalk.i64_in _ (by have := HN.out; omega)
      have HNB := Lib.hid (show (-9223372036854775808 ≤ n ∧ n ≤ 9223372036854775807) ∧ -9223372036854775808 ≤ (N : Int) - 1 ∧ (N : Int) - 1 ≤ 9223372036854775807 by have := HN.out; omega)
      have HJ := Lib.hid (show j < ml ∧ j < 400 from hgo)
      have HBX := Lib.hid hbx
      clear hS hbx hgo hj hj4 hk hn hcq a0 a1 k0 k1 n0' n1' hbel hbl
      by_cases hk0 : k = 0
      · subst hk0
        have p0 := (HBX.out.cells).1
        have p1 := (HBX.out.cells).2
        obtain ⟨u1, u2⟩ := u8_low n
        obtain ⟨b, hb⟩ : ∃ b, b = UInt8.ofNat (n % 256).toNat := ⟨_, rfl⟩
        rw [← hb] at u1 u2
        have HK0 := Lib.hid (pl_put C (b := b) HBX.out (by have := HJ.out; omega))
        clear hb
        go_wp2_with fail
        refine HK0.out.mono ?_
        rintro e w5 ⟨rfl, hX⟩
        have HX := Lib.hid hX
        obtain ⟨y0, y1⟩ := HX.out.cells
        have HK0 := Lib.hid (pl_rput C (b := b) HX.out (by have := HJ.out; omega))
        clear hX
        go_wp2_with fail
        refine HK0.out.mono ?_
        rintro e w6 ⟨rfl, hX⟩
        have HX := Lib.hid hX
        clear hX HK0 p0 p1 y0 y1 b0 b1
        obtain ⟨x0, x1⟩ := HX.out.cells
        have K1 := pl_has C (d := n) HX.out HNB.out.1.1 HNB.out.1.2
        have K2 := pl_at C (d := n) HX.out HNB.out.1.1 HNB.out.1.2
        have K3 := pl_at C (d := 0) HX.out (by decide) (by decide)
        have K4 := pl_count C HX.out
        have K5 := pl_at C (d := (N : Int) - 1) HX.out HNB.out.2.1 HNB.out.2.2
        have R1 := pl_rhas (d := n) HX.out
        have R2 := pl_rat (d := n) HX.out
        have R3 := pl_rat (d := 0) HX.out
        have R4 := pl_rcount HX.out
        have R5 := pl_rat (d := (N : Int) - 1) HX.out
        obtain ⟨v1, hv1⟩ : ∃ v, v = Ws.has (s.put b) n := ⟨_, rfl⟩
        obtain ⟨v2, hv2⟩ : ∃ v : Int, v = (((Ws.at_ (s.put b) n).toNat : Nat) : Int) := ⟨_, rfl⟩
        obtain ⟨v3, hv3⟩ : ∃ v : Int, v = (((Ws.at_ (s.put b) 0).toNat : Nat) : Int) := ⟨_, rfl⟩
        obtain ⟨v4, hv4⟩ : ∃ v : Int, v = ((Ws.count (s.put b) : Nat) : Int) := ⟨_, rfl⟩
        obtain ⟨v5, hv5⟩ : ∃ v : Int, v = (((Ws.at_ (s.put b) ((N : Int) - 1)).toNat : Nat) : Int) := ⟨_, rfl⟩
        rw [← hv1] at K1 R1
        rw [← hv2] at K2 R2
        rw [← hv3] at K3 R3
        rw [← hv4] at K4 R4
        rw [← hv5] at K5 R5
        have HK1 := Lib.hid K1
        have HK2 := Lib.hid K2
        have HK3 := Lib.hid K3
        have HK4 := Lib.hid K4
        have HK5 := Lib.hid K5
        have HR1 := Lib.hid R1
        have HR2 := Lib.hid R2
        have HR3 := Lib.hid R3
        have HR4 := Lib.hid R4
        have HR5 := Lib.hid R5
        have g1 : (v1 != v1) = false := by simp
        have g2 : (v2 != v2) = false := by simp
        have g3 : (v3 != v3) = false := by simp
        have g4 : (v4 != v4) = false := by simp
        have g5 : (v5 != v5) = false := by simp
        have HE := Lib.hid HX.out.less
        clear K1 K2 K3 K4 K5 R1 R2 R3 R4 R5 hv1 hv2 hv3 hv4 hv5 HX
        go_wp2_with fail
        go_quiet ((first
          | (go_at_call 18; exact quiet_drew_at (HK1.out _))
          | (go_at_call 15; exact quiet_drew_at (HR1.out _))
          | (go_at_call 20; exact quiet_drew_at (HK4.out _))
          | (go_at_call 21; exact quiet_drew_at (HR4.out _))
          | (go_at_call 19; with_reducible exact quiet_drew_at (HK2.out _))
          | (go_at_call 19; with_reducible exact quiet_drew_at (HK3.out _))
          | (go_at_call 19; with_reducible exact quiet_drew_at (HK5.out _))
          | (go_at_call 13; with_reducible exact quiet_drew_at (HR2.out _))
          | (go_at_call 13; with_reducible exact quiet_drew_at (HR3.out _))
          | (go_at_call 13; with_reducible exact quiet_drew_at (HR5.out _))))
        go_wp2_with fail
        go_roundw
        case rel =>
          obtain ⟨Ga, Gb, ta, hh⟩ := HE.out
          exact ⟨j + 1, (s.put b), by have := HJ.out; omega, by have := HJ.out; omega, by go_num, Ga, Gb, ta, (hh.only C ((Only.refl _ _).drewN nq)).mono (by omega) (by have := HJ.out; omega)⟩
        case measure => simp [intOf]; omega
      by_cases hk1 : k = 1
      · subst hk1
        have p0 := (HBX.out.cells).1
        have p1 := (HBX.out.cells).2
        obtain ⟨b, hb⟩ : ∃ b, b = s.at_ n := ⟨_, rfl⟩
        have KR := pl_rat (d := n) HBX.out 0
        have KC := fun d => pl_copy C (d := n) (HBX.out.drewN C d) (by have := HJ.out; omega) HNB.out.1.1 HNB.out.1.2
        rw [← hb] at KR KC
        have HKR := Lib.hid KR
        have HKC := Lib.hid KC
        have HB := Lib.hid hb
        have gb : ((b.toNat : Int) != (b.toNat : Int)) = false := by simp
        clear KR KC hb
        go_wp2_with fail
        refine HKR.out.mono ?_
        rintro e w5 ⟨rfl, d5, rfl⟩
        clear HKR
        go_wp2_with fail
        refine (HKC.out _).mono ?_
        rintro e w6 ⟨rfl, hX⟩
        have HX := Lib.hid hX
        obtain ⟨y0, y1⟩ := HX.out.cells
        have KH := pl_rhas (d := n) HX.out 0
        clear hX HKC p0 p1 b0 b1
        cases hh : s.has n with
        | true =>
          rw [hh] at KH
          have HKH := Lib.hid KH
          have HKP := Lib.hid (fun d => pl_rput C (b := b) (HX.out.drewN C d) (by have := HJ.out; omega))
          have HE1 := Lib.hid (show s.put b = s.copy n by unfold Ws.copy; rw [if_pos hh, HB.out])
          clear KH hh
          go_wp2_with fail
          refine HKH.out.mono ?_
          rintro e w7 ⟨rfl, d7, rfl⟩
          clear HKH
          go_wp2_with fail
          refine (HKP.out _).mono ?_
          rintro e w8 ⟨rfl, hX⟩
          rw [HE1.out] at hX
          clear HX
          have HX := Lib.hid hX
          clear hX HKP HE1 y0 y1 HB
          obtain ⟨x0, x1⟩ := HX.out.cells
          have K1 := pl_has C (d := n) HX.out HNB.out.1.1 HNB.out.1.2
          have K2 := pl_at C (d := n) HX.out HNB.out.1.1 HNB.out.1.2
          have K3 := pl_at C (d := 0) HX.out (by decide) (by decide)
          have K4 := pl_count C HX.out
          have K5 := pl_at C (d := (N : Int) - 1) HX.out HNB.out.2.1 HNB.out.2.2
          have R1 := pl_rhas (d := n) HX.out
          have R2 := pl_rat (d := n) HX.out
          have R3 := pl_rat (d := 0) HX.out
          have R4 := pl_rcount HX.out
          have R5 := pl_rat (d := (N : Int) - 1) HX.out
          obtain ⟨v1, hv1⟩ : ∃ v, v = Ws.has (s.copy n) n := ⟨_, rfl⟩
          obtain ⟨v2, hv2⟩ : ∃ v : Int, v = (((Ws.at_ (s.copy n) n).toNat : Nat) : Int) := ⟨_, rfl⟩
          obtain ⟨v3, hv3⟩ : ∃ v : Int, v = (((Ws.at_ (s.copy n) 0).toNat : Nat) : Int) := ⟨_, rfl⟩
          obtain ⟨v4, hv4⟩ : ∃ v : Int, v = ((Ws.count (s.copy n) : Nat) : Int) := ⟨_, rfl⟩
          obtain ⟨v5, hv5⟩ : ∃ v : Int, v = (((Ws.at_ (s.copy n) ((N : Int) - 1)).toNat : Nat) : Int) := ⟨_, rfl⟩
          rw [← hv1] at K1 R1
          rw [← hv2] at K2 R2
          rw [← hv3] at K3 R3
          rw [← hv4] at K4 R4
          rw [← hv5] at K5 R5
          have HK1 := Lib.hid K1
          have HK2 := Lib.hid K2
          have HK3 := Lib.hid K3
          have HK4 := Lib.hid K4
          have HK5 := Lib.hid K5
          have HR1 := Lib.hid R1
          have HR2 := Lib.hid R2
          have HR3 := Lib.hid R3
          have HR4 := Lib.hid R4
          have HR5 := Lib.hid R5
          have g1 : (v1 != v1) = false := by simp
          have g2 : (v2 != v2) = false := by simp
          have g3 : (v3 != v3) = false := by simp
          have g4 : (v4 != v4) = false := by simp
          have g5 : (v5 != v5) = false := by simp
          have HE := Lib.hid HX.out.less
          clear K1 K2 K3 K4 K5 R1 R2 R3 R4 R5 hv1 hv2 hv3 hv4 hv5 HX
          go_wp2_with fail
          go_quiet ((first
            | (go_at_call 18; exact quiet_drew_at (HK1.out _))
            | (go_at_call 15; exact quiet_drew_at (HR1.out _))
            | (go_at_call 20; exact quiet_drew_at (HK4.out _))
            | (go_at_call 21; exact quiet_drew_at (HR4.out _))
            | (go_at_call 19; with_reducible exact quiet_drew_at (HK2.out _))
            | (go_at_call 19; with_reducible exact quiet_drew_at (HK3.out _))
            | (go_at_call 19; with_reducible exact quiet_drew_at (HK5.out _))
            | (go_at_call 13; with_reducible exact quiet_drew_at (HR2.out _))
            | (go_at_call 13; with_reducible exact quiet_drew_at (HR3.out _))
            | (go_at_call 13; with_reducible exact quiet_drew_at (HR5.out _))))
          go_wp2_with fail
          go_roundw
          case rel =>
            obtain ⟨Ga, Gb, ta, hh⟩ := HE.out
            exact ⟨j + 1, (s.copy n), by have := HJ.out; omega, by have := HJ.out; omega, by go_num, Ga, Gb, ta, (hh.only C ((Only.refl _ _).drewN nq)).mono (by omega) (by have := HJ.out; omega)⟩
          case measure => simp [intOf]; omega
        | false =>
          rw [hh] at KH
          have HKH := Lib.hid KH
          have HE1 := Lib.hid (show s.copy n = s by unfold Ws.copy; rw [if_neg (by rw [hh]; simp)])
          clear KH hh
          go_wp2_with fail
          refine HKH.out.mono ?_
          rintro e w7 ⟨rfl, d7, hw7⟩
          have hX := HX.out.drewN C d7
          rw [HE1.out] at hX
          have hw7 : w6.drewN d7 = w7 := hw7
          rw [hw7] at hX
          clear HX
          have HX := Lib.hid hX
          clear hX HKH HE1 y0 y1 HB hw7
          obtain ⟨x0, x1⟩ := HX.out.cells
          have K1 := pl_has C (d := n) HX.out HNB.out.1.1 HNB.out.1.2
          have K2 := pl_at C (d := n) HX.out HNB.out.1.1 HNB.out.1.2
          have K3 := pl_at C (d := 0) HX.out (by decide) (by decide)
          have K4 := pl_count C HX.out
          have K5 := pl_at C (d := (N : Int) - 1) HX.out HNB.out.2.1 HNB.out.2.2
          have R1 := pl_rhas (d := n) HX.out
          have R2 := pl_rat (d := n) HX.out
          have R3 := pl_rat (d := 0) HX.out
          have R4 := pl_rcount HX.out
          have R5 := pl_rat (d := (N : Int) - 1) HX.out
          obtain ⟨v1, hv1⟩ : ∃ v, v = Ws.has s n := ⟨_, rfl⟩
          obtain ⟨v2, hv2⟩ : ∃ v : Int, v = (((Ws.at_ s n).toNat : Nat) : Int) := ⟨_, rfl⟩
          obtain ⟨v3, hv3⟩ : ∃ v : Int, v = (((Ws.at_ s 0).toNat : Nat) : Int) := ⟨_, rfl⟩
          obtain ⟨v4, hv4⟩ : ∃ v : Int, v = ((Ws.count s : Nat) : Int) := ⟨_, rfl⟩
          obtain ⟨v5, hv5⟩ : ∃ v : Int, v = (((Ws.at_ s ((N : Int) - 1)).toNat : Nat) : Int) := ⟨_, rfl⟩
          rw [← hv1] at K1 R1
          rw [← hv2] at K2 R2
          rw [← hv3] at K3 R3
          rw [← hv4] at K4 R4
          rw [← hv5] at K5 R5
          have HK1 := Lib.hid K1
          have HK2 := Lib.hid K2
          have HK3 := Lib.hid K3
          have HK4 := Lib.hid K4
          have HK5 := Lib.hid K5
          have HR1 := Lib.hid R1
          have HR2 := Lib.hid R2
          have HR3 := Lib.hid R3
          have HR4 := Lib.hid R4
          have HR5 := Lib.hid R5
          have g1 : (v1 != v1) = false := by simp
          have g2 : (v2 != v2) = false := by simp
          have g3 : (v3 != v3) = false := by simp
          have g4 : (v4 != v4) = false := by simp
          have g5 : (v5 != v5) = false := by simp
          have HE := Lib.hid HX.out.less
          clear K1 K2 K3 K4 K5 R1 R2 R3 R4 R5 hv1 hv2 hv3 hv4 hv5 HX
          go_wp2_with fail
          go_quiet ((first
            | (go_at_call 18; exact quiet_drew_at (HK1.out _))
            | (go_at_call 15; exact quiet_drew_at (HR1.out _))
            | (go_at_call 20; exact quiet_drew_at (HK4.out _))
            | (go_at_call 21; exact quiet_drew_at (HR4.out _))
            | (go_at_call 19; with_reducible exact quiet_drew_at (HK2.out _))
            | (go_at_call 19; with_reducible exact quiet_drew_at (HK3.out _))
            | (go_at_call 19; with_reducible exact quiet_drew_at (HK5.out _))
            | (go_at_call 13; with_reducible exact quiet_drew_at (HR2.out _))
            | (go_at_call 13; with_reducible exact quiet_drew_at (HR3.out _))
            | (go_at_call 13; with_reducible exact quiet_drew_at (HR5.out _))))
          go_wp2_with fail
          go_roundw
          case rel =>
            obtain ⟨Ga, Gb, ta, hh⟩ := HE.out
            exact ⟨j + 1, s, by have := HJ.out; omega, by have := HJ.out; omega, by go_num, Ga, Gb, ta, (hh.only C ((Only.refl _ _).drewN nq)).mono (by omega) (by have := HJ.out; omega)⟩
          case measure => simp [intOf]; omega
      by_cases hk2 : k = 2
      · subst hk2
        have p0 := (HBX.out.cells).1
        have p1 := (HBX.out.cells).2
        have HKC := Lib.hid (pl_empty C HBX.out (by have := HJ.out; omega))
        go_wp2_with fail
        refine HKC.out.mono ?_
        rintro e w5 ⟨rfl, hX⟩
        obtain ⟨⟨A5, c5, t1⟩, t2, z1, z2⟩ := hX.rcells
        have HX := Lib.hid (pl_rempty C hX)
        clear hX HKC p0 p1 b0 b1
        go_wp2_with fail
        generalize w5.setCell ⟨r, 1, none⟩ (.slice none 0 0) = w6 at *
        clear t1 t2 z1 z2
        obtain ⟨x0, x1⟩ := HX.out.cells
        have K1 := pl_has C (d := n) HX.out HNB.out.1.1 HNB.out.1.2
        have K2 := pl_at C (d := n) HX.out HNB.out.1.1 HNB.out.1.2
        have K3 := pl_at C (d := 0) HX.out (by decide) (by decide)
        have K4 := pl_count C HX.out
        have K5 := pl_at C (d := (N : Int) - 1) HX.out HNB.out.2.1 HNB.out.2.2
        have R1 := pl_rhas (d := n) HX.out
        have R2 := pl_rat (d := n) HX.out
        have R3 := pl_rat (d := 0) HX.out
        have R4 := pl_rcount HX.out
        have R5 := pl_rat (d := (N : Int) - 1) HX.out
        obtain ⟨v1, hv1⟩ : ∃ v, v = Ws.has s.empty n := ⟨_, rfl⟩
        obtain ⟨v2, hv2⟩ : ∃ v : Int, v = (((Ws.at_ s.empty n).toNat : Nat) : Int) := ⟨_, rfl⟩
        obtain ⟨v3, hv3⟩ : ∃ v : Int, v = (((Ws.at_ s.empty 0).toNat : Nat) : Int) := ⟨_, rfl⟩
        obtain ⟨v4, hv4⟩ : ∃ v : Int, v = ((Ws.count s.empty : Nat) : Int) := ⟨_, rfl⟩
        obtain ⟨v5, hv5⟩ : ∃ v : Int, v = (((Ws.at_ s.empty ((N : Int) - 1)).toNat : Nat) : Int) := ⟨_, rfl⟩
        rw [← hv1] at K1 R1
        rw [← hv2] at K2 R2
        rw [← hv3] at K3 R3
        rw [← hv4] at K4 R4
        rw [← hv5] at K5 R5
        have HK1 := Lib.hid K1
        have HK2 := Lib.hid K2
        have HK3 := Lib.hid K3
        have HK4 := Lib.hid K4
        have HK5 := Lib.hid K5
        have HR1 := Lib.hid R1
        have HR2 := Lib.hid R2
        have HR3 := Lib.hid R3
        have HR4 := Lib.hid R4
        have HR5 := Lib.hid R5
        have g1 : (v1 != v1) = false := by simp
        have g2 : (v2 != v2) = false := by simp
        have g3 : (v3 != v3) = false := by simp
        have g4 : (v4 != v4) = false := by simp
        have g5 : (v5 != v5) = false := by simp
        have HE := Lib.hid HX.out.less
        clear K1 K2 K3 K4 K5 R1 R2 R3 R4 R5 hv1 hv2 hv3 hv4 hv5 HX
        go_quiet ((first
          | (go_at_call 18; exact quiet_drew_at (HK1.out _))
          | (go_at_call 15; exact quiet_drew_at (HR1.out _))
          | (go_at_call 20; exact quiet_drew_at (HK4.out _))
          | (go_at_call 21; exact quiet_drew_at (HR4.out _))
          | (go_at_call 19; with_reducible exact quiet_drew_at (HK2.out _))
          | (go_at_call 19; with_reducible exact quiet_drew_at (HK3.out _))
          | (go_at_call 19; with_reducible exact quiet_drew_at (HK5.out _))
          | (go_at_call 13; with_reducible exact quiet_drew_at (HR2.out _))
          | (go_at_call 13; with_reducible exact quiet_drew_at (HR3.out _))
          | (go_at_call 13; with_reducible exact quiet_drew_at (HR5.out _))))
        go_wp2_with fail
        go_roundw
        case rel =>
          obtain ⟨Ga, Gb, ta, hh⟩ := HE.out
          exact ⟨j + 1, s.empty, by have := HJ.out; omega, by have := HJ.out; omega, by go_num, Ga, Gb, ta, (hh.only C ((Only.refl _ _).drewN nq)).mono (by omega) (by have := HJ.out; omega)⟩
        case measure => simp [intOf]; omega
      by_cases hk3 : k = 3
      · subst hk3
        have p0 := (HBX.out.cells).1
        have p1 := (HBX.out.cells).2
        have HKC := Lib.hid (pl_close C HBX.out)
        go_wp2_with fail
        refine HKC.out.mono ?_
        rintro e w5 ⟨rfl, hX⟩
        obtain ⟨⟨A5, c5, t1⟩, t2, z1, z2⟩ := hX.rcells
        have HX := Lib.hid (pl_rclose C hX)
        clear hX HKC p0 p1 b0 b1
        go_wp2_with fail
        generalize w5.setCell ⟨r, 2, none⟩ (.bool true) = w6 at *
        clear t1 t2 z1 z2
        obtain ⟨x0, x1⟩ := HX.out.cells
        have K1 := pl_has C (d := n) HX.out HNB.out.1.1 HNB.out.1.2
        have K2 := pl_at C (d := n) HX.out HNB.out.1.1 HNB.out.1.2
        have K3 := pl_at C (d := 0) HX.out (by decide) (by decide)
        have K4 := pl_count C HX.out
        have K5 := pl_at C (d := (N : Int) - 1) HX.out HNB.out.2.1 HNB.out.2.2
        have R1 := pl_rhas (d := n) HX.out
        have R2 := pl_rat (d := n) HX.out
        have R3 := pl_rat (d := 0) HX.out
        have R4 := pl_rcount HX.out
        have R5 := pl_rat (d := (N : Int) - 1) HX.out
        obtain ⟨v1, hv1⟩ : ∃ v, v = Ws.has s.close n := ⟨_, rfl⟩
        obtain ⟨v2, hv2⟩ : ∃ v : Int, v = (((Ws.at_ s.close n).toNat : Nat) : Int) := ⟨_, rfl⟩
        obtain ⟨v3, hv3⟩ : ∃ v : Int, v = (((Ws.at_ s.close 0).toNat : Nat) : Int) := ⟨_, rfl⟩
        obtain ⟨v4, hv4⟩ : ∃ v : Int, v = ((Ws.count s.close : Nat) : Int) := ⟨_, rfl⟩
        obtain ⟨v5, hv5⟩ : ∃ v : Int, v = (((Ws.at_ s.close ((N : Int) - 1)).toNat : Nat) : Int) := ⟨_, rfl⟩
        rw [← hv1] at K1 R1
        rw [← hv2] at K2 R2
        rw [← hv3] at K3 R3
        rw [← hv4] at K4 R4
        rw [← hv5] at K5 R5
        have HK1 := Lib.hid K1
        have HK2 := Lib.hid K2
        have HK3 := Lib.hid K3
        have HK4 := Lib.hid K4
        have HK5 := Lib.hid K5
        have HR1 := Lib.hid R1
        have HR2 := Lib.hid R2
        have HR3 := Lib.hid R3
        have HR4 := Lib.hid R4
        have HR5 := Lib.hid R5
        have g1 : (v1 != v1) = false := by simp
        have g2 : (v2 != v2) = false := by simp
        have g3 : (v3 != v3) = false := by simp
        have g4 : (v4 != v4) = false := by simp
        have g5 : (v5 != v5) = false := by simp
        have HE := Lib.hid HX.out.less
        clear K1 K2 K3 K4 K5 R1 R2 R3 R4 R5 hv1 hv2 hv3 hv4 hv5 HX
        go_quiet ((first
          | (go_at_call 18; exact quiet_drew_at (HK1.out _))
          | (go_at_call 15; exact quiet_drew_at (HR1.out _))
          | (go_at_call 20; exact quiet_drew_at (HK4.out _))
          | (go_at_call 21; exact quiet_drew_at (HR4.out _))
          | (go_at_call 19; with_reducible exact quiet_drew_at (HK2.out _))
          | (go_at_call 19; with_reducible exact quiet_drew_at (HK3.out _))
          | (go_at_call 19; with_reducible exact quiet_drew_at (HK5.out _))
          | (go_at_call 13; with_reducible exact quiet_drew_at (HR2.out _))
          | (go_at_call 13; with_reducible exact quiet_drew_at (HR3.out _))
          | (go_at_call 13; with_reducible exact quiet_drew_at (HR5.out _))))
        go_wp2_with fail
        go_roundw
        case rel =>
          obtain ⟨Ga, Gb, ta, hh⟩ := HE.out
          exact ⟨j + 1, s.close, by have := HJ.out; omega, by have := HJ.out; omega, by go_num, Ga, Gb, ta, (hh.only C ((Only.refl _ _).drewN nq)).mono (by omega) (by have := HJ.out; omega)⟩
        case measure => simp [intOf]; omega
      have p0 := (HBX.out.cells).1
      have p1 := (HBX.out.cells).2
      go_wp2_with fail
      clear p0 p1 b0 b1
      have HX := Lib.hid HBX.out
      clear HBX
      generalize wr.heap.size = BB at *
      generalize wr.alloc (.cells #[.int .i64 k, .int .i64 n] 36) = w6 at *
      obtain ⟨x0, x1⟩ := HX.out.cells
      have K1 := pl_has C (d := n) HX.out HNB.out.1.1 HNB.out.1.2
      have K2 := pl_at C (d := n) HX.out HNB.out.1.1 HNB.out.1.2
      have K3 := pl_at C (d := 0) HX.out (by decide) (by decide)
      have K4 := pl_count C HX.out
      have K5 := pl_at C (d := (N : Int) - 1) HX.out HNB.out.2.1 HNB.out.2.2
      have R1 := pl_rhas (d := n) HX.out
      have R2 := pl_rat (d := n) HX.out
      have R3 := pl_rat (d := 0) HX.out
      have R4 := pl_rcount HX.out
      have R5 := pl_rat (d := (N : Int) - 1) HX.out
      obtain ⟨v1, hv1⟩ : ∃ v, v = Ws.has s n := ⟨_, rfl⟩
      obtain ⟨v2, hv2⟩ : ∃ v : Int, v = (((Ws.at_ s n).toNat : Nat) : Int) := ⟨_, rfl⟩
      obtain ⟨v3, hv3⟩ : ∃ v : Int, v = (((Ws.at_ s 0).toNat : Nat) : Int) := ⟨_, rfl⟩
      obtain ⟨v4, hv4⟩ : ∃ v : Int, v = ((Ws.count s : Nat) : Int) := ⟨_, rfl⟩
      obtain ⟨v5, hv5⟩ : ∃ v : Int, v = (((Ws.at_ s ((N : Int) - 1)).toNat : Nat) : Int) := ⟨_, rfl⟩
      rw [← hv1] at K1 R1
      rw [← hv2] at K2 R2
      rw [← hv3] at K3 R3
      rw [← hv4] at K4 R4
      rw [← hv5] at K5 R5
      have HK1 := Lib.hid K1
      have HK2 := Lib.hid K2
      have HK3 := Lib.hid K3
      have HK4 := Lib.hid K4
      have HK5 := Lib.hid K5
      have HR1 := Lib.hid R1
      have HR2 := Lib.hid R2
      have HR3 := Lib.hid R3
      have HR4 := Lib.hid R4
      have HR5 := Lib.hid R5
      have g1 : (v1 != v1) = false := by simp
      have g2 : (v2 != v2) = false := by simp
      have g3 : (v3 != v3) = false := by simp
      have g4 : (v4 != v4) = false := by simp
      have g5 : (v5 != v5) = false := by simp
      have HE := Lib.hid HX.out.less
      clear K1 K2 K3 K4 K5 R1 R2 R3 R4 R5 hv1 hv2 hv3 hv4 hv5 HX
      go_quiet ((first
        | (go_at_call 18; exact quiet_drew_at (HK1.out _))
        | (go_at_call 15; exact quiet_drew_at (HR1.out _))
        | (go_at_call 20; exact quiet_drew_at (HK4.out _))
        | (go_at_call 21; exact quiet_drew_at (HR4.out _))
        | (go_at_call 19; with_reducible exact quiet_drew_at (HK2.out _))
        | (go_at_call 19; with_reducible exact quiet_drew_at (HK3.out _))
        | (go_at_call 19; with_reducible exact quiet_drew_at (HK5.out _))
        | (go_at_call 13; with_reducible exact quiet_drew_at (HR2.out _))
        | (go_at_call 13; with_reducible exact quiet_drew_at (HR3.out _))
        | (go_at_call 13; with_reducible exact quiet_drew_at (HR5.out _))))
      go_wp2_with fail
      go_roundw
      case rel =>
        obtain ⟨Ga, Gb, ta, hh⟩ := HE.out
        exact ⟨j + 1, s, by have := HJ.out; omega, by have := HJ.out; omega, by go_num, Ga, Gb, ta, (hh.only C ((Only.refl _ _).drewN nq)).mono (by omega) (by have := HJ.out; omega)⟩
      case measure => simp [intOf]; omega
    · have HBL := Lib.hid hbel
      clear hPL hbel
      by_cases hjm : j < ml
      · obtain rfl : j = 400 := by omega
        have i1 : ((400 : Nat) : Int) < (ml : Int) := by omega
        clear hgo hj hj4
        go_wp2_with fail
        go_ret
        exact ⟨rfl, HBL.out⟩
      · obtain rfl : j = ml := by omega
        have i1 : ¬ (j : Int) < (j : Int) := by omega
        clear hgo hj hj4 hjm
        go_wp2_with fail
        go_ret
        exact ⟨rfl, HBL.out⟩
end Go.Proofs.Ytnokbibkjhhcoaa
