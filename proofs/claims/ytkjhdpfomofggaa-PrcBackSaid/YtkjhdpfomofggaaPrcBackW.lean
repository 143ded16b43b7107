/-
  The law PrcBack, over what the program's coder and decoder owe.
-/
import Derived.Test.YtkjhdpfomofggaaPrCon
import Derived.Test.YtkjhdpfomofggaaHeld
import Derived.LoopTactic
namespace Go.Proofs.Ytkjhdpfomofggaa
open Go.RowKit

theorem decAt_in {bs more : List UInt8} {f e : En} (hf : Ends bs f) (he : EnOk e) (h : Reach e f) : DcOk (decAt bs more e) := by
  intro r c s hd
  unfold decAt at hd
  injection hd with hd
  injection hd with h1 hd
  injection hd with h2 h3
  obtain ⟨b1, b2, _⟩ := between hf h
  obtain ⟨e1, e2, _⟩ := he
  subst h1 h2
  exact ⟨e1, e2, by omega⟩

set_option maxRecDepth 100000 in
set_option maxHeartbeats 16000000 in
theorem prcBack_walk {Pn : World → Nat → (Nat → Prop) → En → Prop} (C : CoderCon Pn) {Pd : World → Nat → Nat → (Nat → Prop) → List UInt8 → Dc → Prop} (D : DecCon Pd) (Aw : AwakeCon) {B : Option Addr} {m mc : Nat} {qs : Nat → Shr} {A : Option Addr} {n c : Nat} {more : List UInt8} {w : World} (hB : Shrs w B m qs) (hqs : ∀ i, i < m → ShrLit (qs i)) (hm : m ≤ maxLen) (hS : Sl w A n (bv more)) (hn : n ≤ maxLen) :
    Calls Try.prog 5 #[.slice B m mc, .slice A n c] w fun e w' => e = .returned (.bool true) ∧ Below w.heap.size w w' := by
  unfold maxLen at hm hn
  obtain ⟨i, hi, hz0, hz1, hz2⟩ := info_parts info_u8
  have HSC := Lib.hid hB
  have HQS := Lib.hid hqs
  have HS := Lib.hid hS
  have HNL := Lib.hid (show more.length = n by rw [← bv_length]; exact hS.1)
  clear hB hqs hS
  by_cases hbig : n ≤ 4096
  · have hbig' : ¬ (n : Int) > 4096 := by omega
    have HBIG := Lib.hid hbig
    clear hbig
    go_enter Try.func5, Try.ntmps5
    go_wp2_with fail
    refine (Aw w).mono ?_
    rintro e w1 ⟨rfl, hb⟩
    have HB1 := Lib.hid hb
    have hsz1 := hb.size
    clear hb
    go_wp2_with fail
    refine (C.new w1).mono ?_
    rintro e w2 ⟨gc, G0, rfl, hP, hG, hb2⟩
    have HP3 := Lib.hid hP
    have HG3 := Lib.hid (show ∀ i, G0 i → w.heap.size ≤ i from fun i hi => Nat.le_trans hsz1 (hG i hi))
    have HB3 := Lib.hid (HB1.out.trans (hb2.mono hsz1))
    clear hP hG hb2 HB1
    go_wp2_with fail
    go_loopw [6] (fun i wr => ∃ (j : Nat) (G : Nat → Prop), j ≤ m ∧ j ≤ 2000 ∧ i = .int .i64 (j : Int) ∧ Pn wr gc G (codS qs j) ∧ (∀ x, G x → w.heap.size ≤ x) ∧ Below w.heap.size w wr) (fun i _ => m - (intOf i).toNat)
    case atStart => exact ⟨0, G0, by omega, by omega, rfl, HP3.out, HG3.out, HB3.out⟩
    case round =>
      clear HP3 HG3 HB3
      obtain ⟨j, G, hj, hj5, rfl, hP, hG, hB⟩ := hrel
      have HP := Lib.hid hP
      have HG := Lib.hid hG
      have HB := Lib.hid hB
      obtain ⟨hok, hlj⟩ := codS_ok (hs := qs) j
      clear hP hG hB
      by_cases hgo : j < m ∧ j < 2000
      · obtain ⟨hjm, hj2⟩ := hgo
        obtain ⟨bq, oq, rfl, hbl, c0, c1, c2, c3⟩ := HSC.out.cells HB.out hjm
        have hlit := HQS.out j hjm
        have HYES := Lib.hid (fun h : RightS (qs j) => codS_yes (hs := qs) (j := j) h)
        have HNO := Lib.hid (fun h : ¬ RightS (qs j) => codS_no (hs := qs) (j := j) h)
        have HOK := Lib.hid hok
        obtain ⟨N, hNN⟩ : ∃ N, N = codS qs (j + 1) := ⟨_, rfl⟩
        obtain ⟨E, hCC⟩ : ∃ E, E = codS qs j := ⟨_, rfl⟩
        rw [← hCC] at HOK HP hlj HYES HNO
        rw [← hNN] at HYES HNO
        have HNN := Lib.hid hNN
        clear hNN hCC hok
        generalize hq : qs j = q at *
        obtain ⟨k, s, z, t⟩ := q
        dsimp only at c0 c1 c2 c3
        have HLIT := Lib.hid hlit
        have HRT := Lib.hid (show Calls Try.prog 12 #[.agg #[.int .i64 k, .int .u32 s, .int .u32 z, .int .u32 t]] wr _ from share_any ⟨k, s, z, t⟩ hlit wr)
        clear hq hlit
        have i0 : (0 : Int) ≤ (j : Int) := by omega
        have i1 : (j : Int) < (m : Int) := by omega
        have i2 : (j : Int) < 2000 := by omega
        go_wp2_with fail
        refine HRT.out.mono ?_
        rintro e w6 ⟨bb, rfl, hbb, hb6⟩
        have HB6 := Lib.hid (below_trans HB.out hb6)
        have hbw := Nat.lt_of_lt_of_le hbl HB.out.size
        have a0 := shr_on (w := wr) hb6 hbw c0
        have a1 := shr_on (w := wr) hb6 hbw c1
        have a2 := shr_on (w := wr) hb6 hbw c2
        have a3 := shr_on (w := wr) hb6 hbw c3
        have HP6 := Lib.hid (C.only HP.out (Only.of_below (S := fun _ => False) hb6) (fun _ _ h => h))
        have HBB := Lib.hid hbb
        clear hb6 hbb HP HB c0 c1 c2 c3 HRT
        cases bb
        · have HEQ := Lib.hid (show codS qs (j + 1) = E by rw [← HNN.out]; exact HNO.out (fun h => by have := HBB.out.2 h; cases this))
          go_wp2_with fail
          go_roundw
          case rel => exact ⟨j + 1, G, by omega, by omega, by go_num, by rw [HEQ.out]; exact HP6.out, HG.out, HB6.out⟩
          case measure => simp [intOf]; omega
        · have hq := HBB.out.1 rfl
          have hN := HYES.out hq
          have KP := Lib.hid (show Calls Try.prog 24 #[.pointer (some ⟨gc, 0, none⟩), .agg #[.int .i64 k, .int .u32 s, .int .u32 z, .int .u32 t]] w6 _ from C.put (Q := ⟨k, s, z, t⟩) HP6.out HOK.out HLIT.out hq (by omega))
          dsimp only at KP hN
          rw [← hN] at KP
          clear HOK HBB hq hN HYES HNO hlj HLIT
          go_wp2_with fail
          refine KP.out.mono ?_
          rintro e w8 ⟨rfl, G', hP8, hG8, hO8⟩
          have HP8 := Lib.hid hP8
          have HG8 := Lib.hid (con_new (Nat.le_refl _) HB6.out HG.out hG8)
          have HB8 := Lib.hid (con_below (Nat.le_refl _) HB6.out HG.out hO8)
          clear hP8 hG8 hO8 HB6 HG KP a0 a1 a2 a3
          go_wp2_with fail
          go_roundw
          case rel => exact ⟨j + 1, G', by omega, by omega, by go_num, by rw [← HNN.out]; exact HP8.out, HG8.out, HB8.out⟩
          case measure => simp [intOf]; omega
      · have HOK := Lib.hid hok
        have KF := Lib.hid (C.finish HP.out (by omega))
        have HFR := Lib.hid (codS_first (hs := qs) j)
        have HM0 := Lib.hid (show (codS qs j).l ≤ 6005 by omega)
        clear hok hlj
        by_cases hjm : j < m
        · obtain rfl : j = 2000 := by omega
          have i1 : ((2000 : Nat) : Int) < (m : Int) := by omega
          obtain ⟨M, hMM⟩ : ∃ M, M = 2000 := ⟨_, rfl⟩
          rw [← hMM] at HOK KF HFR
          have HM := Lib.hid (show M ≤ m ∧ M ≤ 2000 ∧ (2000 < m ∧ M = 2000) ∧ (codS qs M).l ≤ 6005 from ⟨by omega, by omega, by omega, by rw [hMM]; exact HM0.out⟩)
          clear hMM
          go_wp2_with fail
          refine KF.out.mono ?_
          rintro e w4 ⟨A4, m4, bs, G4, rfl, hsl, hbe, hbl, hPn, hGn, hO⟩
          have HEND := Lib.hid (ends_of HOK.out hbe hbl)
          have HSB := Lib.hid hsl
          have HB4 := Lib.hid (con_below (Nat.le_refl _) HB.out HG.out hO)
          have HBL := Lib.hid (show bs.length ≤ 64005 by have := HM.out.2.2.2; omega)
          clear hsl hbe hbl hPn hGn hO HB KF HG HOK HP
          have HE4 := Lib.hid (own_empty w4 (Nat.le_refl _) 5)
          go_wp2_with (at_builtin; refine wpList_app _ rfl (.tmp 42) (.tmp 43) 22 rfl w4.heap.size 5 i _ 1 Try.underlying22 hi hz0 hz1 hz2 rfl _ 0 [] rfl HE4.out A4 bs.length m4 (bv bs) rfl (HSB.out.alloc _) (bv_one bs) (by have := HBL.out; omega) (by omega) (by simp) ?_)
          intro A5 c5 w5 ho hg
          have hb45 : Below w4.heap.size w4 w5 := ((Below.refl w4.heap.size w4).alloc (Nat.le_refl _) _).grown hg (by simp) (fun k e => (HE4.out.lt k e).1)
          have HS5 := Lib.hid (HS.out.below (below_trans HB4.out hb45))
          try simp only [Nat.zero_add, List.nil_append] at ho
          have HO5 := Lib.hid ho
          have HB45 := Lib.hid hb45
          have hs5 := hb45.size
          clear ho hg hb45 HSB HE4
          go_wp2_with (at_builtin; refine wpList_app _ rfl (.tmp 44) (.tmp 45) 22 rfl w4.heap.size 5 i _ 1 Try.underlying22 hi hz0 hz1 hz2 rfl _ bs.length (bv bs) (by simp [Act.eval, Act.put]) HO5.out A n c (bv more) rfl HS5.out (bv_one more) (by have := HBL.out; have := HBIG.out; omega) (by omega) hs5 ?_)
          intro A6 c6 w6 ho hg
          have hb46 : Below w4.heap.size w4 w6 := HB45.out.grown hg hs5 (fun k e => (HO5.out.lt k e).1)
          rw [← bv_append] at ho
          have HS6 := Lib.hid (own_facts ho).1
          have HB6 := Lib.hid (below_trans HB4.out hb46)
          have HXL := Lib.hid (show (bs ++ more).length ≤ 1000000000 by rw [List.length_append]; have := HBL.out; have := HBIG.out; have := HNL.out; omega)
          clear ho hg hb46 HB4 HO5 HB45 HS5 hs5
          go_wp2_with fail
          refine (newFeed_any HS6.out (by have := HBL.out; have := HBIG.out; omega)).mono ?_
          rintro e w7 ⟨f, rfl, hf, hF, hb7⟩
          have HF7 := Lib.hid hF
          have HB7 := Lib.hid (below_trans HB6.out hb7)
          have hlo : w.heap.size ≤ w6.heap.size := HB6.out.size
          clear hF hb7 HS6 HB6
          generalize w6.heap.size = lo at *
          go_wp2_with fail
          refine (D.new HF7.out HXL.out).mono ?_
          rintro e w8 ⟨g, G0, rfl, hP, hG0, hb8⟩
          rw [started_dec HEND.out HFR.out] at hP
          have HP8 := Lib.hid (show Pd w8 g f G0 (bs ++ more) (decAt bs more (codS qs 0)) from hP)
          have HG8 := Lib.hid (show ∀ i, G0 i → w.heap.size ≤ i from fun i hi => Nat.le_trans hlo (hG0 i hi))
          have HB8 := Lib.hid (HB7.out.trans (hb8.mono hlo))
          clear hP hG0 hb8 HF7 HB7 HFR hf hlo
          go_wp2_with fail
          go_loopw [10] (fun i wr => ∃ (j : Nat) (G : Nat → Prop), j ≤ M ∧ i = .int .i64 (j : Int) ∧ Pd wr g f G (bs ++ more) (decAt bs more (codS qs j)) ∧ (∀ i, G i → w.heap.size ≤ i) ∧ Below w.heap.size w wr) (fun i _ => M - (intOf i).toNat)
          case atStart => exact ⟨0, G0, by omega, rfl, HP8.out, HG8.out, HB8.out⟩
          case round =>
            clear HP8 HG8 HB8
            obtain ⟨u, G, hu, rfl, hP, hG, hB⟩ := hrel
            have HP := Lib.hid hP
            have HG := Lib.hid hG
            have HB := Lib.hid hB
            clear hP hG hB
            by_cases huM : u < M
            · have hum : u < m := by have := HM.out.1; omega
              have i0 : (0 : Int) ≤ (u : Int) := by omega
              have i1 : (u : Int) < (m : Int) := by omega
              have i2 : (u : Int) < 2000 := by have := HM.out.2.1; omega
              obtain ⟨bz, oz, rfl, hbl, c0, c1, c2, c3⟩ := HSC.out.cells HB.out hum
              have hlit := HQS.out u hum
              obtain ⟨hok, _⟩ := codS_ok (hs := qs) u
              have hreach := codS_reach' (hs := qs) (show u + 1 ≤ M by omega)
              have hdc := decAt_in (more := more) HEND.out hok (codS_reach' (Nat.le_of_lt huM))
              have HYES := Lib.hid (fun h : RightS (qs u) => codS_yes (hs := qs) (j := u) h)
              have HNO := Lib.hid (fun h : ¬ RightS (qs u) => codS_no (hs := qs) (j := u) h)
              obtain ⟨N, hNN⟩ : ∃ N, N = codS qs (u + 1) := ⟨_, rfl⟩
              obtain ⟨E, hEE⟩ : ∃ E, E = codS qs u := ⟨_, rfl⟩
              rw [← hNN] at hreach HYES HNO
              rw [← hEE] at hok hdc HYES HNO HP
              have HNN := Lib.hid hNN
              have HOK := Lib.hid hok
              have HRE := Lib.hid hreach
              have HDC := Lib.hid hdc
              clear hNN hEE hok hreach hdc
              generalize hq : qs u = q at *
              obtain ⟨k, s, z, t⟩ := q
              dsimp only at c0 c1 c2 c3
              have HLIT := Lib.hid hlit
              clear hq hlit
              have hXA := Blk.fresh wr 33 #[.int .i64 k, .int .u32 s, .int .u32 z, .int .u32 t]
              have hOA := (Only.refl (fun _ => False) wr).alloc (.cells #[.int .i64 k, .int .u32 s, .int .u32 z, .int .u32 t] 33)
              have HPA := Lib.hid (D.only HP.out hOA (fun _ _ h => h))
              have HNA := Lib.hid (show ¬ G wr.heap.size from fun h => by have := D.old HP.out h; omega)
              have HBA := Lib.hid (HB.out.alloc (o := .cells #[.int .i64 k, .int .u32 s, .int .u32 z, .int .u32 t] 33) HB.out.size)
              have HXA := Lib.hid hXA
              clear hXA hOA HP HB
              go_wp2_with fail
              generalize wr.alloc (.cells #[.int .i64 k, .int .u32 s, .int .u32 z, .int .u32 t] 33) = wA at *
              generalize wr.heap.size = na at *
              refine (show Calls Try.prog 12 #[.agg #[.int .i64 k, .int .u32 s, .int .u32 z, .int .u32 t]] wA _ from share_any ⟨k, s, z, t⟩ HLIT.out wA).mono ?_
              rintro e w6' ⟨bb, rfl, hbb, hb6⟩
              have HB6 := Lib.hid (below_trans HBA.out hb6)
              have HP6 := Lib.hid (D.only HPA.out (Only.of_below (S := fun _ => False) hb6) (fun _ _ h => h))
              have hXA := HXA.out.below hb6
              have HX6 := Lib.hid hXA
              obtain ⟨x0, x1, x2, x3⟩ : w6'.cell? ⟨na, 0, none⟩ = some (.int .i64 k) ∧ w6'.cell? ⟨na, 1, none⟩ = some (.int .u32 s) ∧ w6'.cell? ⟨na, 2, none⟩ = some (.int .u32 z) ∧ w6'.cell? ⟨na, 3, none⟩ = some (.int .u32 t) := ⟨hXA.cell 0, hXA.cell 1, hXA.cell 2, hXA.cell 3⟩
              have HBB := Lib.hid hbb
              clear hb6 hbb hXA HBA HXA HPA c0 c1 c2 c3
              cases bb
              · have HEQ := Lib.hid (show codS qs (u + 1) = E by rw [← HNN.out]; exact HNO.out (fun h => by have := HBB.out.2 h; cases this))
                go_wp2_with fail
                go_roundw
                case rel => exact ⟨u + 1, G, by omega, by go_num, by rw [HEQ.out]; exact HP6.out, HG.out, HB6.out⟩
                case measure => simp [intOf]; omega
              · have hq := HBB.out.1 rfl
                have hN := rightN_of hq
                have hNx := HYES.out hq
                obtain ⟨_, ⟨s0, s1⟩, ⟨z0, z1⟩, ⟨t0, t1⟩⟩ := HLIT.out
                dsimp only at s0 s1 z0 z1 t0 t1 hN hNx
                clear HBB HLIT HYES HNO
                obtain ⟨s, rfl⟩ := Int.eq_ofNat_of_zero_le s0
                obtain ⟨z, rfl⟩ := Int.eq_ofNat_of_zero_le z0
                obtain ⟨t, rfl⟩ := Int.eq_ofNat_of_zero_le t0
                rcases hq with ⟨rfl, _⟩ | ⟨rfl, _⟩
                · rcases hN with ⟨_, h1, h2, h3⟩ | ⟨h0, _⟩
                  · have h2' : s + z ≤ t := h2
                    have h1' : 1 ≤ z := h1
                    have h3' : t ≤ 1048576 := h3
                    have hNx' : N = putE E 0 s z t := hNx
                    have KP := Lib.hid (D.place (t := t) HP6.out HDC.out (by omega) (by omega) HXL.out)
                    obtain ⟨m1, m2, m3⟩ := placeD_mid (t := t) HDC.out (by omega) (by omega)
                    obtain ⟨q1, q2, q3⟩ := share_dec (more := more) HEND.out HOK.out h1' h2' h3' (by rw [← hNx']; exact HRE.out)
                    rw [← hNx'] at q3
                    obtain ⟨p, hp⟩ : ∃ p, p = (placeD (decAt bs more E) t).1 := ⟨_, rfl⟩
                    obtain ⟨d1, hd1⟩ : ∃ d1, d1 = (placeD (decAt bs more E) t).2 := ⟨_, rfl⟩
                    rw [← hp, ← hd1] at KP m2
                    rw [← hp] at q1 q2
                    rw [← hd1] at q3
                    have e1 : IntKind.u32.wrap ((s : Int) + (z : Int)) = ((s + z : Nat) : Int) := by rw [← Int.natCast_add]; exact u32_is _ (by omega) (by omega)
                    have g1 : ¬ (p : Int) < (s : Int) := by omega
                    have g2 : ¬ (p : Int) ≥ ((s + z : Nat) : Int) := by omega
                    have HMM := Lib.hid (show s < 4294967296 ∧ z < 4294967296 by omega)
                    have HTK := Lib.hid (show ∀ r k s', d1 = some (r, k, s') → s * r ≤ k ∧ k - s * r < r * z ∧ r * z < 4294967296 ∧ 1 ≤ r * z from fun r k' s' he => by
                      obtain ⟨a1, a2, a3, a4⟩ := m2 r k' s' he
                      exact takeD_in a1 a2 a3 a4 q1 q2 h2')
                    have HQ3 := Lib.hid q3
                    clear hp hd1 m1 m2 m3 q1 q2 q3 h1 h2 h3 h1' h2' h3' s0 s1 z0 z1 t0 t1 hNx hNx'
                    generalize s + z = sz at *
                    go_wp2_with fail
                    refine KP.out.mono ?_
                    rintro e w7 ⟨rfl, G7, hP7, hN7, hO7⟩
                    have hX7 := HX6.out.only hO7 HNA.out
                    obtain ⟨y1, y2⟩ : w7.cell? ⟨na, 1, none⟩ = some (.int .u32 (s : Int)) ∧ w7.cell? ⟨na, 2, none⟩ = some (.int .u32 (z : Int)) := ⟨hX7.cell 1, hX7.cell 2⟩
                    have HG7 := Lib.hid (con_new (Nat.le_refl _) HB6.out HG.out hN7)
                    have HB7 := Lib.hid (con_below (Nat.le_refl _) HB6.out HG.out hO7)
                    have KT := Lib.hid (D.take (a := s) (z := z) hP7 HXL.out HMM.out.1 HMM.out.2 HTK.out)
                    rw [HQ3.out] at KT
                    clear hP7 hN7 hO7 hX7 HB6 HP6 HX6 KP x0 x1 x2 x3
                    go_wp2_with fail
                    refine KT.out.mono ?_
                    rintro e w8 ⟨rfl, G8, hP8, hN8, hO8⟩
                    have HG8 := Lib.hid (con_new (Nat.le_refl _) HB7.out HG7.out hN8)
                    have HB8 := Lib.hid (con_below (Nat.le_refl _) HB7.out HG7.out hO8)
                    have HP8 := Lib.hid hP8
                    have KD := Lib.hid (show Calls Try.prog 19 #[.pointer (some ⟨g, 0, none⟩)] w8 (fun x w' => x = .returned (.bool false) ∧ ∃ n, w8.drewN n = w') from D.bad hP8)
                    clear hP8 hN8 hO8 HB7 KT y1 y2
                    go_wp2_with fail
                    refine KD.out.mono ?_
                    rintro e w9 ⟨rfl, d9, hw9⟩
                    have HP9 := Lib.hid (D.only HP8.out (show Only (fun _ => False) w8 w9 by rw [← hw9]; exact (Only.refl _ w8).drewN d9) (fun _ _ h => h))
                    have HB9 := Lib.hid (show Below w.heap.size w w9 by rw [← hw9]; exact below_drewN HB8.out d9)
                    clear hw9 HP8 HB8 KD
                    go_wp2_with fail
                    go_roundw
                    case rel => exact ⟨u + 1, G8, by omega, by go_num, by rw [← HNN.out]; exact HP9.out, HG8.out, HB9.out⟩
                    case measure => simp [intOf]; omega
                  · cases h0
                · rcases hN with ⟨h0, _⟩ | ⟨_, h1, h2, h3, h4, h5⟩
                  · cases h0
                  · have h3' : t ≤ 16 := h3
                    have h1' : s ≤ 1 := h1
                    have h4' : 1 ≤ z := h4
                    have h5' : z < 2 ^ t := h5
                    have hNx' : N = putE E 1 s z t := hNx
                    have hbd := bitS_dec (more := more) HEND.out HOK.out h1' h3' h4' h5' (by rw [← hNx']; exact HRE.out)
                    rw [← hNx'] at hbd
                    have KB := Lib.hid (D.bit (z := z) (t := t) (D.only HP6.out ((Only.refl (fun _ => False) w6').drewN 1) (fun _ _ h => h)) HDC.out HXL.out h3' h4' h5')
                    rw [hbd] at KB
                    dsimp only at KB
                    have e5 : IntKind.i64.wrap (t : Int) = (t : Int) := IntWalk.i64_in _ (by omega)
                    have e6 : IntKind.i64.wrap (s : Int) = (s : Int) := IntWalk.i64_in _ (by omega)
                    clear hbd h1 h2 h3 h4 h5 h1' h3' h4' h5' s0 s1 z0 z1 t0 t1 hNx hNx'
                    go_wp2_with fail
                    refine wp_region_held_drew (S := fun w' => w'.cell? ⟨na, 1, none⟩ = some (.int .u32 (s : Int)) ∧ w'.cell? ⟨na, 2, none⟩ = some (.int .u32 (z : Int)) ∧ w'.cell? ⟨na, 3, none⟩ = some (.int .u32 (t : Int))) (by kernel_rfl) ⟨x1, x2, x3⟩ (fun hHeld => ?_)
                    refine wpAnyH_take (i := 0) (v := ?_) rfl (by kernel_rfl) (by kernel_rfl) (by kernel_rfl) (fun _ _ _ h => h) (Or.inl ⟨by rfl, ?_⟩) (by assumption) ?_
                    rotate_left
                    · (intro w hSw; (try dsimp only at hSw); go_simp; try with_reducible rfl)
                    try simp only [Act.put, List.setIfInBounds_toArray, List.set_cons_zero, List.set_cons_succ, List.getElem_toArray, List.getElem_cons_zero, List.getElem_cons_succ]
                    refine wpAnyH_take (i := 1) (v := ?_) rfl (by kernel_rfl) (by kernel_rfl) (by kernel_rfl) (fun _ _ _ h => h) (Or.inl ⟨by rfl, ?_⟩) (by assumption) ?_
                    rotate_left
                    · (intro w hSw; (try dsimp only at hSw); go_simp; try with_reducible rfl)
                    try simp only [Act.put, List.setIfInBounds_toArray, List.set_cons_zero, List.set_cons_succ, List.getElem_toArray, List.getElem_cons_zero, List.getElem_cons_succ]
                    refine wpAnyH_take (i := 2) (v := ?_) rfl (by kernel_rfl) (by kernel_rfl) (by kernel_rfl) (fun _ _ _ h => h) (Or.inl ⟨by rfl, ?_⟩) (by assumption) ?_
                    rotate_left
                    · (intro w hSw; (try dsimp only at hSw); go_simp; try with_reducible rfl)
                    try simp only [Act.put, List.setIfInBounds_toArray, List.set_cons_zero, List.set_cons_succ, List.getElem_toArray, List.getElem_cons_zero, List.getElem_cons_succ]
                    refine wpAnyH_take (i := 3) (v := ?_) rfl (by kernel_rfl) (by kernel_rfl) (by kernel_rfl) (fun _ _ _ h => h) (Or.inl ⟨by rfl, ?_⟩) (by assumption) ?_
                    rotate_left
                    · (intro w hSw; (try dsimp only at hSw); go_simp; try with_reducible rfl)
                    try simp only [Act.put, List.setIfInBounds_toArray, List.set_cons_zero, List.set_cons_succ, List.getElem_toArray, List.getElem_cons_zero, List.getElem_cons_succ]
                    refine wpAnyH_take (i := 4) (v := ?_) rfl (by kernel_rfl) (by kernel_rfl) (by kernel_rfl) (fun _ _ _ h => h) (Or.inl ⟨by rfl, ?_⟩) (by assumption) ?_
                    rotate_left
                    · (intro w hSw; (try dsimp only at hSw); go_simp; try with_reducible rfl)
                    try simp only [Act.put, List.setIfInBounds_toArray, List.set_cons_zero, List.set_cons_succ, List.getElem_toArray, List.getElem_cons_zero, List.getElem_cons_succ]
                    refine wpAnyH_take (i := 5) (v := ?_) rfl (by kernel_rfl) (by kernel_rfl) (by kernel_rfl) (fun _ _ _ h => h) (Or.inl ⟨by rfl, ?_⟩) (by assumption) ?_
                    rotate_left
                    · (intro w hSw; (try dsimp only at hSw); go_simp; try with_reducible rfl)
                    try simp only [Act.put, List.setIfInBounds_toArray, List.set_cons_zero, List.set_cons_succ, List.getElem_toArray, List.getElem_cons_zero, List.getElem_cons_succ]
                    refine wpAnyH_take (i := 7) (v := ?_) rfl (by kernel_rfl) (by kernel_rfl) (by kernel_rfl) (fun _ _ _ h => h) (Or.inl ⟨by rfl, ?_⟩) (by assumption) ?_
                    rotate_left
                    · (intro w hSw; (try dsimp only at hSw); go_simp; try with_reducible rfl)
                    try simp only [Act.put, List.setIfInBounds_toArray, List.set_cons_zero, List.set_cons_succ, List.getElem_toArray, List.getElem_cons_zero, List.getElem_cons_succ]
                    refine wpAnyH_take (i := 8) (v := ?_) rfl (by kernel_rfl) (by kernel_rfl) (by kernel_rfl) (fun _ _ _ h => h) (Or.inl ⟨by rfl, ?_⟩) (by assumption) ?_
                    rotate_left
                    · (intro w hSw; (try dsimp only at hSw); go_simp; try with_reducible rfl)
                    try simp only [Act.put, List.setIfInBounds_toArray, List.set_cons_zero, List.set_cons_succ, List.getElem_toArray, List.getElem_cons_zero, List.getElem_cons_succ]
                    refine wpAnyH_take (i := 9) (v := ?_) rfl (by kernel_rfl) (by kernel_rfl) (by kernel_rfl) (fun _ _ _ h => h) (Or.inl ⟨by rfl, ?_⟩) (by assumption) ?_
                    rotate_left
                    · (intro w hSw; (try dsimp only at hSw); go_simp; try with_reducible rfl)
                    try simp only [Act.put, List.setIfInBounds_toArray, List.set_cons_zero, List.set_cons_succ, List.getElem_toArray, List.getElem_cons_zero, List.getElem_cons_succ]
                    refine wpAnyH_ready (rs := [6]) (by kernel_rfl) (by simp) (AllReadyH.cons (i := 6) rfl (fun K hK => ?_) AllReadyH.nil)
                    try simp only [List.getElem_toArray, List.getElem_cons_zero, List.getElem_cons_succ]
                    go_simp
                    refine KB.out.mono ?_
                    rintro e w7 ⟨rfl, G7, hP7, hN7, hO7⟩
                    have hX7 := (HX6.out.drewN 1).only hO7 HNA.out
                    have hc7 : w7.cell? ⟨na, 1, none⟩ = some (.int .u32 (s : Int)) ∧ w7.cell? ⟨na, 2, none⟩ = some (.int .u32 (z : Int)) ∧ w7.cell? ⟨na, 3, none⟩ = some (.int .u32 (t : Int)) := ⟨hX7.cell 1, hX7.cell 2, hX7.cell 3⟩
                    have HP7 := Lib.hid hP7
                    have HG7 := Lib.hid (con_new (Nat.le_refl _) (below_drewN HB6.out 1) HG.out hN7)
                    have HB7 := Lib.hid (con_below (Nat.le_refl _) (below_drewN HB6.out 1) HG.out hO7)
                    clear hP7 hN7 hO7 hX7
                    refine hK.out _ _ hc7 (fun hHeld => ?_)
                    clear hK K
                    try simp only [Act.put, List.setIfInBounds_toArray, List.set_cons_zero, List.set_cons_succ]
                    refine wpAnyH_take (i := 10) (v := ?_) rfl (by kernel_rfl) (by kernel_rfl) (by kernel_rfl) (fun _ _ _ h => h) (Or.inl ⟨by rfl, ?_⟩) (by assumption) ?_
                    rotate_left
                    · (intro w hSw; (try dsimp only at hSw); go_simp; try with_reducible rfl)
                    try simp only [Act.put, List.setIfInBounds_toArray, List.set_cons_zero, List.set_cons_succ, List.getElem_toArray, List.getElem_cons_zero, List.getElem_cons_succ]
                    refine wpAnyH_done (by kernel_rfl) ?_ _
                    clear HB6 HP6 HX6 x0 x1 x2 x3
                    go_wp2_with fail
                    go_roundw
                    case rel => exact ⟨u + 1, G7, by omega, by go_num, by rw [← HNN.out]; exact HP7.out, HG7.out, HB7.out⟩
                    case measure => simp [intOf]; omega
            · obtain rfl : u = M := by omega
              have hM := HM.out
              have hend := ends_dec (more := more) HEND.out
              have KD := Lib.hid (D.done HP.out)
              have hpd := HP.out
              rw [hend] at KD hpd
              obtain ⟨lo2, at_, hF, hdr⟩ := D.feed hpd
              have hdrop : ((bs ++ more).length : Int) - (at_ : Int) = (n : Int) := by
                have hle := hF.le
                have := congrArg List.length hdr
                rw [List.length_drop] at this
                have := HNL.out
                omega
              have KL := Lib.hid (fun d => feedLeft_any (hF.drewN d))
              rw [hdrop] at KL
              dsimp only at KD
              clear hend hpd hF hdr hdrop huM
              have i1 : (u : Int) < (m : Int) := by omega
              have i2 : ¬ (u : Int) < 2000 := by omega
              clear hM
              go_wp2_with fail
              refine KD.out.mono ?_
              rintro e w8 ⟨rfl, d8, rfl⟩
              go_wp2_with fail
              refine (KL.out d8).mono ?_
              rintro e w9 ⟨rfl, d9, rfl⟩
              go_wp2_with fail
              go_ret
              exact ⟨rfl, below_drewN HB.out _⟩
        · obtain rfl : m = j := by omega
          clear hjm hgo
          obtain ⟨M, hMM⟩ : ∃ M, M = m := ⟨_, rfl⟩
          rw [← hMM] at HOK KF HFR
          have HM := Lib.hid (show M ≤ m ∧ M ≤ 2000 ∧ M = m ∧ (codS qs M).l ≤ 6005 from ⟨by omega, by omega, by omega, by rw [hMM]; exact HM0.out⟩)
          clear hMM
          go_wp2_with fail
          refine KF.out.mono ?_
          rintro e w4 ⟨A4, m4, bs, G4, rfl, hsl, hbe, hbl, hPn, hGn, hO⟩
          have HEND := Lib.hid (ends_of HOK.out hbe hbl)
          have HSB := Lib.hid hsl
          have HB4 := Lib.hid (con_below (Nat.le_refl _) HB.out HG.out hO)
          have HBL := Lib.hid (show bs.length ≤ 64005 by have := HM.out.2.2.2; omega)
          clear hsl hbe hbl hPn hGn hO HB KF HG HOK HP
          have HE4 := Lib.hid (own_empty w4 (Nat.le_refl _) 5)
          go_wp2_with (at_builtin; refine wpList_app _ rfl (.tmp 42) (.tmp 43) 22 rfl w4.heap.size 5 i _ 1 Try.underlying22 hi hz0 hz1 hz2 rfl _ 0 [] rfl HE4.out A4 bs.length m4 (bv bs) rfl (HSB.out.alloc _) (bv_one bs) (by have := HBL.out; omega) (by omega) (by simp) ?_)
          intro A5 c5 w5 ho hg
          have hb45 : Below w4.heap.size w4 w5 := ((Below.refl w4.heap.size w4).alloc (Nat.le_refl _) _).grown hg (by simp) (fun k e => (HE4.out.lt k e).1)
          have HS5 := Lib.hid (HS.out.below (below_trans HB4.out hb45))
          try simp only [Nat.zero_add, List.nil_append] at ho
          have HO5 := Lib.hid ho
          have HB45 := Lib.hid hb45
          have hs5 := hb45.size
          clear ho hg hb45 HSB HE4
          go_wp2_with (at_builtin; refine wpList_app _ rfl (.tmp 44) (.tmp 45) 22 rfl w4.heap.size 5 i _ 1 Try.underlying22 hi hz0 hz1 hz2 rfl _ bs.length (bv bs) (by simp [Act.eval, Act.put]) HO5.out A n c (bv more) rfl HS5.out (bv_one more) (by have := HBL.out; have := HBIG.out; omega) (by omega) hs5 ?_)
          intro A6 c6 w6 ho hg
          have hb46 : Below w4.heap.size w4 w6 := HB45.out.grown hg hs5 (fun k e => (HO5.out.lt k e).1)
          rw [← bv_append] at ho
          have HS6 := Lib.hid (own_facts ho).1
          have HB6 := Lib.hid (below_trans HB4.out hb46)
          have HXL := Lib.hid (show (bs ++ more).length ≤ 1000000000 by rw [List.length_append]; have := HBL.out; have := HBIG.out; have := HNL.out; omega)
          clear ho hg hb46 HB4 HO5 HB45 HS5 hs5
          go_wp2_with fail
          refine (newFeed_any HS6.out (by have := HBL.out; have := HBIG.out; omega)).mono ?_
          rintro e w7 ⟨f, rfl, hf, hF, hb7⟩
          have HF7 := Lib.hid hF
          have HB7 := Lib.hid (below_trans HB6.out hb7)
          have hlo : w.heap.size ≤ w6.heap.size := HB6.out.size
          clear hF hb7 HS6 HB6
          generalize w6.heap.size = lo at *
          go_wp2_with fail
          refine (D.new HF7.out HXL.out).mono ?_
          rintro e w8 ⟨g, G0, rfl, hP, hG0, hb8⟩
          rw [started_dec HEND.out HFR.out] at hP
          have HP8 := Lib.hid (show Pd w8 g f G0 (bs ++ more) (decAt bs more (codS qs 0)) from hP)
          have HG8 := Lib.hid (show ∀ i, G0 i → w.heap.size ≤ i from fun i hi => Nat.le_trans hlo (hG0 i hi))
          have HB8 := Lib.hid (HB7.out.trans (hb8.mono hlo))
          clear hP hG0 hb8 HF7 HB7 HFR hf hlo
          go_wp2_with fail
          go_loopw [10] (fun i wr => ∃ (j : Nat) (G : Nat → Prop), j ≤ M ∧ i = .int .i64 (j : Int) ∧ Pd wr g f G (bs ++ more) (decAt bs more (codS qs j)) ∧ (∀ i, G i → w.heap.size ≤ i) ∧ Below w.heap.size w wr) (fun i _ => M - (intOf i).toNat)
          case atStart => exact ⟨0, G0, by omega, rfl, HP8.out, HG8.out, HB8.out⟩
          case round =>
            clear HP8 HG8 HB8
            obtain ⟨u, G, hu, rfl, hP, hG, hB⟩ := hrel
            have HP := Lib.hid hP
            have HG := Lib.hid hG
            have HB := Lib.hid hB
            clear hP hG hB
            by_cases huM : u < M
            · have hum : u < m := by have := HM.out.1; omega
              have i0 : (0 : Int) ≤ (u : Int) := by omega
              have i1 : (u : Int) < (m : Int) := by omega
              have i2 : (u : Int) < 2000 := by have := HM.out.2.1; omega
              obtain ⟨bz, oz, rfl, hbl, c0, c1, c2, c3⟩ := HSC.out.cells HB.out hum
              have hlit := HQS.out u hum
              obtain ⟨hok, _⟩ := codS_ok (hs := qs) u
              have hreach := codS_reach' (hs := qs) (show u + 1 ≤ M by omega)
              have hdc := decAt_in (more := more) HEND.out hok (codS_reach' (Nat.le_of_lt huM))
              have HYES := Lib.hid (fun h : RightS (qs u) => codS_yes (hs := qs) (j := u) h)
              have HNO := Lib.hid (fun h : ¬ RightS (qs u) => codS_no (hs := qs) (j := u) h)
              obtain ⟨N, hNN⟩ : ∃ N, N = codS qs (u + 1) := ⟨_, rfl⟩
              obtain ⟨E, hEE⟩ : ∃ E, E = codS qs u := ⟨_, rfl⟩
              rw [← hNN] at hreach HYES HNO
              rw [← hEE] at hok hdc HYES HNO HP
              have HNN := Lib.hid hNN
              have HOK := Lib.hid hok
              have HRE := Lib.hid hreach
              have HDC := Lib.hid hdc
              clear hNN hEE hok hreach hdc
              generalize hq : qs u = q at *
              obtain ⟨k, s, z, t⟩ := q
              dsimp only at c0 c1 c2 c3
              have HLIT := Lib.hid hlit
              clear hq hlit
              have hXA := Blk.fresh wr 33 #[.int .i64 k, .int .u32 s, .int .u32 z, .int .u32 t]
              have hOA := (Only.refl (fun _ => False) wr).alloc (.cells #[.int .i64 k, .int .u32 s, .int .u32 z, .int .u32 t] 33)
              have HPA := Lib.hid (D.only HP.out hOA (fun _ _ h => h))
              have HNA := Lib.hid (show ¬ G wr.heap.size from fun h => by have := D.old HP.out h; omega)
              have HBA := Lib.hid (HB.out.alloc (o := .cells #[.int .i64 k, .int .u32 s, .int .u32 z, .int .u32 t] 33) HB.out.size)
              have HXA := Lib.hid hXA
              clear hXA hOA HP HB
              go_wp2_with fail
              generalize wr.alloc (.cells #[.int .i64 k, .int .u32 s, .int .u32 z, .int .u32 t] 33) = wA at *
              generalize wr.heap.size = na at *
              refine (show Calls Try.prog 12 #[.agg #[.int .i64 k, .int .u32 s, .int .u32 z, .int .u32 t]] wA _ from share_any ⟨k, s, z, t⟩ HLIT.out wA).mono ?_
              rintro e w6' ⟨bb, rfl, hbb, hb6⟩
              have HB6 := Lib.hid (below_trans HBA.out hb6)
              have HP6 := Lib.hid (D.only HPA.out (Only.of_below (S := fun _ => False) hb6) (fun _ _ h => h))
              have hXA := HXA.out.below hb6
              have HX6 := Lib.hid hXA
              obtain ⟨x0, x1, x2, x3⟩ : w6'.cell? ⟨na, 0, none⟩ = some (.int .i64 k) ∧ w6'.cell? ⟨na, 1, none⟩ = some (.int .u32 s) ∧ w6'.cell? ⟨na, 2, none⟩ = some (.int .u32 z) ∧ w6'.cell? ⟨na, 3, none⟩ = some (.int .u32 t) := ⟨hXA.cell 0, hXA.cell 1, hXA.cell 2, hXA.cell 3⟩
              have HBB := Lib.hid hbb
              clear hb6 hbb hXA HBA HXA HPA c0 c1 c2 c3
              cases bb
              · have HEQ := Lib.hid (show codS qs (u + 1) = E by rw [← HNN.out]; exact HNO.out (fun h => by have := HBB.out.2 h; cases this))
                go_wp2_with fail
                go_roundw
                case rel => exact ⟨u + 1, G, by omega, by go_num, by rw [HEQ.out]; exact HP6.out, HG.out, HB6.out⟩
                case measure => simp [intOf]; omega
              · have hq := HBB.out.1 rfl
                have hN := rightN_of hq
                have hNx := HYES.out hq
                obtain ⟨_, ⟨s0, s1⟩, ⟨z0, z1⟩, ⟨t0, t1⟩⟩ := HLIT.out
                dsimp only at s0 s1 z0 z1 t0 t1 hN hNx
                clear HBB HLIT HYES HNO
                obtain ⟨s, rfl⟩ := Int.eq_ofNat_of_zero_le s0
                obtain ⟨z, rfl⟩ := Int.eq_ofNat_of_zero_le z0
                obtain ⟨t, rfl⟩ := Int.eq_ofNat_of_zero_le t0
                rcases hq with ⟨rfl, _⟩ | ⟨rfl, _⟩
                · rcases hN with ⟨_, h1, h2, h3⟩ | ⟨h0, _⟩
                  · have h2' : s + z ≤ t := h2
                    have h1' : 1 ≤ z := h1
                    have h3' : t ≤ 1048576 := h3
                    have hNx' : N = putE E 0 s z t := hNx
                    have KP := Lib.hid (D.place (t := t) HP6.out HDC.out (by omega) (by omega) HXL.out)
                    obtain ⟨m1, m2, m3⟩ := placeD_mid (t := t) HDC.out (by omega) (by omega)
                    obtain ⟨q1, q2, q3⟩ := share_dec (more := more) HEND.out HOK.out h1' h2' h3' (by rw [← hNx']; exact HRE.out)
                    rw [← hNx'] at q3
                    obtain ⟨p, hp⟩ : ∃ p, p = (placeD (decAt bs more E) t).1 := ⟨_, rfl⟩
                    obtain ⟨d1, hd1⟩ : ∃ d1, d1 = (placeD (decAt bs more E) t).2 := ⟨_, rfl⟩
                    rw [← hp, ← hd1] at KP m2
                    rw [← hp] at q1 q2
                    rw [← hd1] at q3
                    have e1 : IntKind.u32.wrap ((s : Int) + (z : Int)) = ((s + z : Nat) : Int) := by rw [← Int.natCast_add]; exact u32_is _ (by omega) (by omega)
                    have g1 : ¬ (p : Int) < (s : Int) := by omega
                    have g2 : ¬ (p : Int) ≥ ((s + z : Nat) : Int) := by omega
                    have HMM := Lib.hid (show s < 4294967296 ∧ z < 4294967296 by omega)
                    have HTK := Lib.hid (show ∀ r k s', d1 = some (r, k, s') → s * r ≤ k ∧ k - s * r < r * z ∧ r * z < 4294967296 ∧ 1 ≤ r * z from fun r k' s' he => by
                      obtain ⟨a1, a2, a3, a4⟩ := m2 r k' s' he
                      exact takeD_in a1 a2 a3 a4 q1 q2 h2')
                    have HQ3 := Lib.hid q3
                    clear hp hd1 m1 m2 m3 q1 q2 q3 h1 h2 h3 h1' h2' h3' s0 s1 z0 z1 t0 t1 hNx hNx'
                    generalize s + z = sz at *
                    go_wp2_with fail
                    refine KP.out.mono ?_
                    rintro e w7 ⟨rfl, G7, hP7, hN7, hO7⟩
                    have hX7 := HX6.out.only hO7 HNA.out
                    obtain ⟨y1, y2⟩ : w7.cell? ⟨na, 1, none⟩ = some (.int .u32 (s : Int)) ∧ w7.cell? ⟨na, 2, none⟩ = some (.int .u32 (z : Int)) := ⟨hX7.cell 1, hX7.cell 2⟩
                    have HG7 := Lib.hid (con_new (Nat.le_refl _) HB6.out HG.out hN7)
                    have HB7 := Lib.hid (con_below (Nat.le_refl _) HB6.out HG.out hO7)
                    have KT := Lib.hid (D.take (a := s) (z := z) hP7 HXL.out HMM.out.1 HMM.out.2 HTK.out)
                    rw [HQ3.out] at KT
                    clear hP7 hN7 hO7 hX7 HB6 HP6 HX6 KP x0 x1 x2 x3
                    go_wp2_with fail
                    refine KT.out.mono ?_
                    rintro e w8 ⟨rfl, G8, hP8, hN8, hO8⟩
                    have HG8 := Lib.hid (con_new (Nat.le_refl _) HB7.out HG7.out hN8)
                    have HB8 := Lib.hid (con_below (Nat.le_refl _) HB7.out HG7.out hO8)
                    have HP8 := Lib.hid hP8
                    have KD := Lib.hid (show Calls Try.prog 19 #[.pointer (some ⟨g, 0, none⟩)] w8 (fun x w' => x = .returned (.bool false) ∧ ∃ n, w8.drewN n = w') from D.bad hP8)
                    clear hP8 hN8 hO8 HB7 KT y1 y2
                    go_wp2_with fail
                    refine KD.out.mono ?_
                    rintro e w9 ⟨rfl, d9, hw9⟩
                    have HP9 := Lib.hid (D.only HP8.out (show Only (fun _ => False) w8 w9 by rw [← hw9]; exact (Only.refl _ w8).drewN d9) (fun _ _ h => h))
                    have HB9 := Lib.hid (show Below w.heap.size w w9 by rw [← hw9]; exact below_drewN HB8.out d9)
                    clear hw9 HP8 HB8 KD
                    go_wp2_with fail
                    go_roundw
                    case rel => exact ⟨u + 1, G8, by omega, by go_num, by rw [← HNN.out]; exact HP9.out, HG8.out, HB9.out⟩
                    case measure => simp [intOf]; omega
                  · cases h0
                · rcases hN with ⟨h0, _⟩ | ⟨_, h1, h2, h3, h4, h5⟩
                  · cases h0
                  · have h3' : t ≤ 16 := h3
                    have h1' : s ≤ 1 := h1
                    have h4' : 1 ≤ z := h4
                    have h5' : z < 2 ^ t := h5
                    have hNx' : N = putE E 1 s z t := hNx
                    have hbd := bitS_dec (more := more) HEND.out HOK.out h1' h3' h4' h5' (by rw [← hNx']; exact HRE.out)
                    rw [← hNx'] at hbd
                    have KB := Lib.hid (D.bit (z := z) (t := t) (D.only HP6.out ((Only.refl (fun _ => False) w6').drewN 1) (fun _ _ h => h)) HDC.out HXL.out h3' h4' h5')
                    rw [hbd] at KB
                    dsimp only at KB
                    have e5 : IntKind.i64.wrap (t : Int) = (t : Int) := IntWalk.i64_in _ (by omega)
                    have e6 : IntKind.i64.wrap (s : Int) = (s : Int) := IntWalk.i64_in _ (by omega)
                    clear hbd h1 h2 h3 h4 h5 h1' h3' h4' h5' s0 s1 z0 z1 t0 t1 hNx hNx'
                    go_wp2_with fail
                    refine wp_region_held_drew (S := fun w' => w'.cell? ⟨na, 1, none⟩ = some (.int .u32 (s : Int)) ∧ w'.cell? ⟨na, 2, none⟩ = some (.int .u32 (z : Int)) ∧ w'.cell? ⟨na, 3, none⟩ = some (.int .u32 (t : Int))) (by kernel_rfl) ⟨x1, x2, x3⟩ (fun hHeld => ?_)
                    refine wpAnyH_take (i := 0) (v := ?_) rfl (by kernel_rfl) (by kernel_rfl) (by kernel_rfl) (fun _ _ _ h => h) (Or.inl ⟨by rfl, ?_⟩) (by assumption) ?_
                    rotate_left
                    · (intro w hSw; (try dsimp only at hSw); go_simp; try with_reducible rfl)
                    try simp only [Act.put, List.setIfInBounds_toArray, List.set_cons_zero, List.set_cons_succ, List.getElem_toArray, List.getElem_cons_zero, List.getElem_cons_succ]
                    refine wpAnyH_take (i := 1) (v := ?_) rfl (by kernel_rfl) (by kernel_rfl) (by kernel_rfl) (fun _ _ _ h => h) (Or.inl ⟨by rfl, ?_⟩) (by assumption) ?_
                    rotate_left
                    · (intro w hSw; (try dsimp only at hSw); go_simp; try with_reducible rfl)
                    try simp only [Act.put, List.setIfInBounds_toArray, List.set_cons_zero, List.set_cons_succ, List.getElem_toArray, List.getElem_cons_zero, List.getElem_cons_succ]
                    refine wpAnyH_take (i := 2) (v := ?_) rfl (by kernel_rfl) (by kernel_rfl) (by kernel_rfl) (fun _ _ _ h => h) (Or.inl ⟨by rfl, ?_⟩) (by assumption) ?_
                    rotate_left
                    · (intro w hSw; (try dsimp only at hSw); go_simp; try with_reducible rfl)
                    try simp only [Act.put, List.setIfInBounds_toArray, List.set_cons_zero, List.set_cons_succ, List.getElem_toArray, List.getElem_cons_zero, List.getElem_cons_succ]
                    refine wpAnyH_take (i := 3) (v := ?_) rfl (by kernel_rfl) (by kernel_rfl) (by kernel_rfl) (fun _ _ _ h => h) (Or.inl ⟨by rfl, ?_⟩) (by assumption) ?_
                    rotate_left
                    · (intro w hSw; (try dsimp only at hSw); go_simp; try with_reducible rfl)
                    try simp only [Act.put, List.setIfInBounds_toArray, List.set_cons_zero, List.set_cons_succ, List.getElem_toArray, List.getElem_cons_zero, List.getElem_cons_succ]
                    refine wpAnyH_take (i := 4) (v := ?_) rfl (by kernel_rfl) (by kernel_rfl) (by kernel_rfl) (fun _ _ _ h => h) (Or.inl ⟨by rfl, ?_⟩) (by assumption) ?_
                    rotate_left
                    · (intro w hSw; (try dsimp only at hSw); go_simp; try with_reducible rfl)
                    try simp only [Act.put, List.setIfInBounds_toArray, List.set_cons_zero, List.set_cons_succ, List.getElem_toArray, List.getElem_cons_zero, List.getElem_cons_succ]
                    refine wpAnyH_take (i := 5) (v := ?_) rfl (by kernel_rfl) (by kernel_rfl) (by kernel_rfl) (fun _ _ _ h => h) (Or.inl ⟨by rfl, ?_⟩) (by assumption) ?_
                    rotate_left
                    · (intro w hSw; (try dsimp only at hSw); go_simp; try with_reducible rfl)
                    try simp only [Act.put, List.setIfInBounds_toArray, List.set_cons_zero, List.set_cons_succ, List.getElem_toArray, List.getElem_cons_zero, List.getElem_cons_succ]
                    refine wpAnyH_take (i := 7) (v := ?_) rfl (by kernel_rfl) (by kernel_rfl) (by kernel_rfl) (fun _ _ _ h => h) (Or.inl ⟨by rfl, ?_⟩) (by assumption) ?_
                    rotate_left
                    · (intro w hSw; (try dsimp only at hSw); go_simp; try with_reducible rfl)
                    try simp only [Act.put, List.setIfInBounds_toArray, List.set_cons_zero, List.set_cons_succ, List.getElem_toArray, List.getElem_cons_zero, List.getElem_cons_succ]
                    refine wpAnyH_take (i := 8) (v := ?_) rfl (by kernel_rfl) (by kernel_rfl) (by kernel_rfl) (fun _ _ _ h => h) (Or.inl ⟨by rfl, ?_⟩) (by assumption) ?_
                    rotate_left
                    · (intro w hSw; (try dsimp only at hSw); go_simp; try with_reducible rfl)
                    try simp only [Act.put, List.setIfInBounds_toArray, List.set_cons_zero, List.set_cons_succ, List.getElem_toArray, List.getElem_cons_zero, List.getElem_cons_succ]
                    refine wpAnyH_take (i := 9) (v := ?_) rfl (by kernel_rfl) (by kernel_rfl) (by kernel_rfl) (fun _ _ _ h => h) (Or.inl ⟨by rfl, ?_⟩) (by assumption) ?_
                    rotate_left
                    · (intro w hSw; (try dsimp only at hSw); go_simp; try with_reducible rfl)
                    try simp only [Act.put, List.setIfInBounds_toArray, List.set_cons_zero, List.set_cons_succ, List.getElem_toArray, List.getElem_cons_zero, List.getElem_cons_succ]
                    refine wpAnyH_ready (rs := [6]) (by kernel_rfl) (by simp) (AllReadyH.cons (i := 6) rfl (fun K hK => ?_) AllReadyH.nil)
                    try simp only [List.getElem_toArray, List.getElem_cons_zero, List.getElem_cons_succ]
                    go_simp
                    refine KB.out.mono ?_
                    rintro e w7 ⟨rfl, G7, hP7, hN7, hO7⟩
                    have hX7 := (HX6.out.drewN 1).only hO7 HNA.out
                    have hc7 : w7.cell? ⟨na, 1, none⟩ = some (.int .u32 (s : Int)) ∧ w7.cell? ⟨na, 2, none⟩ = some (.int .u32 (z : Int)) ∧ w7.cell? ⟨na, 3, none⟩ = some (.int .u32 (t : Int)) := ⟨hX7.cell 1, hX7.cell 2, hX7.cell 3⟩
                    have HP7 := Lib.hid hP7
                    have HG7 := Lib.hid (con_new (Nat.le_refl _) (below_drewN HB6.out 1) HG.out hN7)
                    have HB7 := Lib.hid (con_below (Nat.le_refl _) (below_drewN HB6.out 1) HG.out hO7)
                    clear hP7 hN7 hO7 hX7
                    refine hK.out _ _ hc7 (fun hHeld => ?_)
                    clear hK K
                    try simp only [Act.put, List.setIfInBounds_toArray, List.set_cons_zero, List.set_cons_succ]
                    refine wpAnyH_take (i := 10) (v := ?_) rfl (by kernel_rfl) (by kernel_rfl) (by kernel_rfl) (fun _ _ _ h => h) (Or.inl ⟨by rfl, ?_⟩) (by assumption) ?_
                    rotate_left
                    · (intro w hSw; (try dsimp only at hSw); go_simp; try with_reducible rfl)
                    try simp only [Act.put, List.setIfInBounds_toArray, List.set_cons_zero, List.set_cons_succ, List.getElem_toArray, List.getElem_cons_zero, List.getElem_cons_succ]
                    refine wpAnyH_done (by kernel_rfl) ?_ _
                    clear HB6 HP6 HX6 x0 x1 x2 x3
                    go_wp2_with fail
                    go_roundw
                    case rel => exact ⟨u + 1, G7, by omega, by go_num, by rw [← HNN.out]; exact HP7.out, HG7.out, HB7.out⟩
                    case measure => simp [intOf]; omega
            · obtain rfl : u = M := by omega
              have hM := HM.out
              have hend := ends_dec (more := more) HEND.out
              have KD := Lib.hid (D.done HP.out)
              have hpd := HP.out
              rw [hend] at KD hpd
              obtain ⟨lo2, at_, hF, hdr⟩ := D.feed hpd
              have hdrop : ((bs ++ more).length : Int) - (at_ : Int) = (n : Int) := by
                have hle := hF.le
                have := congrArg List.length hdr
                rw [List.length_drop] at this
                have := HNL.out
                omega
              have KL := Lib.hid (fun d => feedLeft_any (hF.drewN d))
              rw [hdrop] at KL
              dsimp only at KD
              clear hend hpd hF hdr hdrop huM
              have i1 : ¬ (u : Int) < (m : Int) := by omega
              clear hM
              go_wp2_with fail
              refine KD.out.mono ?_
              rintro e w8 ⟨rfl, d8, rfl⟩
              go_wp2_with fail
              refine (KL.out d8).mono ?_
              rintro e w9 ⟨rfl, d9, rfl⟩
              go_wp2_with fail
              go_ret
              exact ⟨rfl, below_drewN HB.out _⟩
  · have hbig' : (n : Int) > 4096 := by omega
    go_enter Try.func5, Try.ntmps5
    go_wp2_with fail
    refine (Aw w).mono ?_
    rintro e w1 ⟨rfl, hb⟩
    go_wp2_with fail
    go_ret
    exact ⟨rfl, hb⟩
end Go.Proofs.Ytkjhdpfomofggaa
