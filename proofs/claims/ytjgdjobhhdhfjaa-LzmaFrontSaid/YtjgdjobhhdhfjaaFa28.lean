/-
  LwFrontW: put together.
-/
import Derived.Test.YtjgdjobhhdhfjaaFa27
set_option linter.unusedVariables false
set_option linter.unusedSimpArgs false
/-
  The law LzmaFront: its walk.
-/
namespace Go.Proofs.Ytjgdjobhhdhfjaa
open Go.RowKit

def frontMore : List UInt8 := [1, 2, 3]
/-- New under the great quota -/
theorem front_new {w : World} {m lc lp pb dict : Nat} {size : Int} (hs : SetOk lc lp pb dict) (h6 : lc + lp ≤ 6) (h0 : 0 ≤ size) (h1 : size ≤ 5000) (hM : MeterAt w 105 m muchQ Tel.zero) :
    Calls Try.prog 10 #[.agg #[.int .i64 (lc : Int), .int .i64 (lp : Int), .int .i64 (pb : Int), .int .i64 (dict : Int)], .int .i64 size, .pointer (some ⟨m, 0, none⟩)] w fun e w' =>
      ∃ (K : Kon) (Gw : Nat → Prop), e = .returned (.tuple #[.pointer (some ⟨K.g, 0, none⟩), .int .i64 0]) ∧ K.sz = (max (min (dict : Int) size) 1).toNat ∧ K.nl = 768 * 2 ^ (lc + lp) ∧ Un K w' Gw lc lp pb dict ∧ (w.heap.size ≤ K.g ∧ w.heap.size ≤ K.lb ∧ ∀ i, Gw i → w.heap.size ≤ i) ∧ K.m = m ∧ m < w'.heap.size ∧ Only (fun i => i = m) w w' := by
  have hnl6 : 768 * 2 ^ (lc + lp) ≤ 768 * 2 ^ 6 := Nat.mul_le_mul_left 768 (Nat.pow_le_pow_right (by decide) h6)
  have hpr : (probsN lc lp : Int) ≤ 60000 := by unfold probsN; omega
  have hd0 := hs.2.2.2
  have hmm := much_mem (a := max (min (dict : Int) size) 1) (b := 2 * (probsN lc lp : Int)) (by omega) (by omega) (by omega) (by omega)
  refine (lnew_any (size := size) hs h6 hM much_fine (by omega) (by omega) hmm.1 hmm.2.1).mono ?_
  rintro e w' ⟨K, Gw, k1, k2, k3, k4, rfl, k5, k6, k7, k8⟩
  exact ⟨K, Gw, rfl, k3, k4, k5, k7, k1, k6.lt, k8⟩

set_option maxRecDepth 100000 in
set_option maxHeartbeats 16000000 in
theorem lzmaFront_walk (C : UpCon) {A : Option Addr} {n c : Nat} {bs : List UInt8} {a b cc d : Int} {sz : Nat} {w : World} (hS : Sl w A n (bv bs)) (hL : n ≤ maxLen) (hsz : sz < 65536) :
    Calls Try.prog 3 #[.slice A n c, .agg #[.int .i64 a, .int .i64 b, .int .i64 cc, .int .i64 d], .int .u16 (sz : Int)] w fun e w' => e = .returned (.bool true) ∧ Below w.heap.size w w' := by
  have hbl : bs.length = n := by rw [← bv_length]; exact hS.1
  obtain ⟨w1, hw1⟩ : ∃ w1, w1 = w.alloc (.cells #[.int .i64 a, .int .i64 b, .int .i64 cc, .int .i64 d] 24) := ⟨_, rfl⟩
  have hb1 : Below w.heap.size w w1 := by rw [hw1]; exact (Below.refl _ _).alloc (Nat.le_refl _) _
  have HBk : Blk w1 w.heap.size 24 #[.int .i64 a, .int .i64 b, .int .i64 cc, .int .i64 d] := by rw [hw1]; exact Blk.fresh w _ _
  have HW1 := Lib.hid hw1
  have HB1 := Lib.hid hb1
  have HBK := Lib.hid HBk
  have HS1 := Lib.hid (hS.below hb1)
  have KA := Lib.hid (awake8_any C w1)
  have HL := Lib.hid (And.intro hbl (And.intro hL hsz))
  clear hw1 hb1 HBk hS hL hsz hbl
  go_enter Try.func3, Try.ntmps3
  go_upto_region 1 with fail
  rw [← HW1.out]
  clear HW1
  go_wp2_with fail
  refine KA.out.mono ?_
  rintro e w2 ⟨rfl, hb2⟩
  have HB2 := Lib.hid hb2
  have HE2 := Lib.hid (below_go HB1.out hb2 (Nat.le_refl _))
  have HSC := Lib.hid (fun (W : World) (hb : Below w1.heap.size w1 W) => show W.cell? ⟨w.heap.size, 0, none⟩ = some (.int .i64 a) ∧ W.cell? ⟨w.heap.size, 1, none⟩ = some (.int .i64 b) ∧ W.cell? ⟨w.heap.size, 2, none⟩ = some (.int .i64 cc) ∧ W.cell? ⟨w.heap.size, 3, none⟩ = some (.int .i64 d) from ⟨(HBK.out.below hb).cell 0, (HBK.out.below hb).cell 1, (HBK.out.below hb).cell 2, (HBK.out.below hb).cell 3⟩)
  obtain ⟨o0, o1, o2, o3⟩ := HSC.out w2 hb2
  clear hb2 KA HBK
  by_cases hbig : (n : Int) > 16384
  · go_wp2_with fail
    go_ret
    exact ⟨rfl, HE2.out⟩
  have HN := Lib.hid (show n ≤ 16384 by omega)
  have KM := Lib.hid (may_any a b cc d w2)
  obtain ⟨mm, hmm⟩ : ∃ mm, mm = maySet a b cc d := ⟨_, rfl⟩
  rw [← hmm] at KM
  have HMM := Lib.hid hmm
  clear hmm
  cases mm with
  | false =>
    go_wp2_with fail
    refine KM.out.mono ?_
    rintro e w3 ⟨rfl, hb3⟩
    have HE3 := Lib.hid (below_go HE2.out hb3 (Nat.le_refl _))
    clear hb3 KM o0 o1 o2 o3
    go_wp2_with fail
    go_ret
    exact ⟨rfl, HE3.out⟩
  | true =>
    go_wp2_with fail
    refine KM.out.mono ?_
    rintro e w3 ⟨rfl, hb3⟩
    have HB3 := Lib.hid (below_go HB2.out hb3 (Nat.le_refl _))
    have HE3 := Lib.hid (below_go HE2.out hb3 (Nat.le_refl _))
    clear hb3 KM o0 o1 o2 o3 HE2 HB2
    obtain ⟨p0, p1, p2, p3⟩ := HSC.out w3 HB3.out
    have KL := Lib.hid (light_any a b cc d w3)
    obtain ⟨lt, hlt⟩ : ∃ lt, lt = lightP a b cc d := ⟨_, rfl⟩
    rw [← hlt] at KL
    have HLT := Lib.hid hlt
    clear hlt
    cases lt with
    | false =>
      go_wp2_with fail
      refine KL.out.mono ?_
      rintro e w4 ⟨rfl, hb4⟩
      have HE4 := Lib.hid (below_go HE3.out hb4 (Nat.le_refl _))
      clear hb4 KL p0 p1 p2 p3
      go_wp2_with fail
      go_ret
      exact ⟨rfl, HE4.out⟩
    | true =>
      obtain ⟨m1, m2, m3, m4, m5, m6, m7, m8⟩ := may_iff.1 HMM.out.symm
      have h5 : a + b ≤ 6 := by
        have := HLT.out
        unfold lightP at this
        rw [← HMM.out] at this
        exact of_decide_eq_true this.symm
      obtain ⟨lc, rfl⟩ := Int.eq_ofNat_of_zero_le m1
      obtain ⟨lp, rfl⟩ := Int.eq_ofNat_of_zero_le m3
      obtain ⟨pb, rfl⟩ := Int.eq_ofNat_of_zero_le m5
      obtain ⟨dict, rfl⟩ := Int.eq_ofNat_of_zero_le (show 0 ≤ d by omega)
      have HSET := Lib.hid (show SetOk lc lp pb dict ∧ lc + lp ≤ 6 from ⟨⟨by omega, by omega, by omega, by omega, by omega⟩, by omega⟩)
      obtain ⟨N, hNN⟩ : ∃ N, N = sz % 5000 := ⟨_, rfl⟩
      have e1 : IntKind.i64.wrap (sz : Int) = (sz : Int) := IntWalk.i64_in _ (by have := HL.out.2.2; omega)
      have e2 : (sz : Int).tmod 5000 = (N : Int) := by rw [hNN]; exact (Int.ofNat_tmod sz 5000).symm
      have e3 : IntKind.i64.wrap (N : Int) = (N : Int) := IntWalk.i64_in _ (by omega)
      have HNB := Lib.hid (show N ≤ 5000 by omega)
      clear m1 m2 m3 m4 m5 m6 m7 m8 h5 hNN
      go_wp2_with fail
      refine KL.out.mono ?_
      rintro e w4 ⟨rfl, hb4⟩
      have HB4 := Lib.hid (below_go HB3.out hb4 (Nat.le_refl _))
      clear hb4 KL p0 p1 p2 p3 HB3 HE3
      obtain ⟨q0, q1, q2, q3⟩ := HSC.out w4 HB4.out
      have KN := Lib.hid (fun (W : World) (g : Nat) (hM : MeterAt W 105 g muchQ Tel.zero) => front_new (w := W) (m := g) (size := (N : Int)) HSET.out.1 HSET.out.2 (by omega) (by have := HNB.out; omega) hM)
      go_wp2_with fail
      go_region_held3 (fun W => W.cell? ⟨w.heap.size, 0, none⟩ = some (.int .i64 (lc : Int)) ∧ W.cell? ⟨w.heap.size, 1, none⟩ = some (.int .i64 (lp : Int)) ∧ W.cell? ⟨w.heap.size, 2, none⟩ = some (.int .i64 (pb : Int)) ∧ W.cell? ⟨w.heap.size, 3, none⟩ = some (.int .i64 (dict : Int))) (first | assumption | go_keep | exact ⟨q0, q1, q2, q3⟩) (first | (go_at_call 11; refine (much_any _).mono ?_; rintro e w5 ⟨gm, rfl, hM, hgm, hb⟩; have HB5 := Lib.hid (show Below w1.heap.size w1 w5 from below_go HB4.out ⟨hb.os, hb.tape, hb.output, hb.size, hb.block⟩ (Nat.le_refl _)); have HM5 := Lib.hid hM; have HGM := Lib.hid (show w4.heap.size ≤ gm from hgm); have r5 := HSC.out w5 HB5.out; clear hM hgm hb) | (go_at_call 10; refine (KN.out _ gm (by first | exact HM5.out | exact HM5.out.drewN _)).mono ?_; rintro e w6 ⟨K1, G1, rfl, hz, hnl, hun, hnew, hkm, hml, ho⟩; have HO6 := Lib.hid (show Only (fun i => i = gm) w5 w6 from ⟨ho.os, ho.tape, ho.output, ho.size, ho.block⟩); have HU1 := Lib.hid hun; have HK1 := Lib.hid (And.intro hz (And.intro hnl (And.intro (show w5.heap.size ≤ K1.g ∧ w5.heap.size ≤ K1.lb ∧ ∀ i, G1 i → w5.heap.size ≤ i from hnew) (And.intro hkm hml)))); have HB6 := Lib.hid (HB5.out.trans (HO6.out.below HB5.out.size (by rintro i rfl; have := HGM.out; have := HB4.out.size; omega))); have r6 := HSC.out w6 HB6.out; clear hz hnl hun hnew hkm hml ho))
      clear q0 q1 q2 q3 HM5 HO6 r5 r6
      obtain ⟨q0, q1, q2, q3⟩ := HSC.out w6 HB6.out
      go_wp2_with fail
      go_region_held3 (fun W => W.cell? ⟨w.heap.size, 0, none⟩ = some (.int .i64 (lc : Int)) ∧ W.cell? ⟨w.heap.size, 1, none⟩ = some (.int .i64 (lp : Int)) ∧ W.cell? ⟨w.heap.size, 2, none⟩ = some (.int .i64 (pb : Int)) ∧ W.cell? ⟨w.heap.size, 3, none⟩ = some (.int .i64 (dict : Int))) (first | assumption | go_keep | exact ⟨q0, q1, q2, q3⟩) (first | (go_at_call 11; refine (much_any _).mono ?_; rintro e w7 ⟨gn, rfl, hM, hgm, hb⟩; have HBy := Lib.hid (show Below w6.heap.size w6 w7 from ⟨hb.os, hb.tape, hb.output, hb.size, hb.block⟩); have HB7 := Lib.hid (below_go HB6.out HBy.out (Nat.le_refl _)); have HM7 := Lib.hid hM; have HGN := Lib.hid (show w6.heap.size ≤ gn from hgm); have r7 := HSC.out w7 HB7.out; clear hM hgm hb) | (go_at_call 10; refine (KN.out _ gn (by first | exact HM7.out | exact HM7.out.drewN _)).mono ?_; rintro e w8 ⟨K2, G2, rfl, hz, hnl, hun, hnew, hkm, hml, ho⟩; have HO8 := Lib.hid (show Only (fun i => i = gn) w7 w8 from ⟨ho.os, ho.tape, ho.output, ho.size, ho.block⟩); have HU2 := Lib.hid hun; have HK2 := Lib.hid (And.intro hz (And.intro hnl (And.intro (show w7.heap.size ≤ K2.g ∧ w7.heap.size ≤ K2.lb ∧ ∀ i, G2 i → w7.heap.size ≤ i from hnew) (And.intro hkm hml)))); have HB8 := Lib.hid (HB7.out.trans (HO8.out.below HB7.out.size (by rintro i rfl; have := HGN.out; have := HB6.out.size; omega))); have r8 := HSC.out w8 HB8.out; clear hz hnl hun hnew hkm hml ho))
      clear q0 q1 q2 q3 HM7 r7 r8 KN
      have h68 : w6.heap.size ≤ w7.heap.size ∧ w7.heap.size ≤ w8.heap.size := ⟨HBy.out.size, HO8.out.size⟩
      have hold1 : K1.g < w6.heap.size ∧ K1.lb < w6.heap.size ∧ ∀ i, G1 i → i < w6.heap.size := ⟨HU1.out.row.1.lt, HU1.out.row.2.1.lt, fun i hi => (HU1.out.wd i hi).2.2.2⟩
      have HU18 := Lib.hid ((HU1.out.only (Only.of_below (S := fun _ => False) HBy.out) (fun h => h) (fun h => h) (fun _ _ h => h)).only HO8.out (by have := HGN.out; omega) (by have := HGN.out; omega) (fun i hi => by have := HGN.out; have := hold1.2.2 i hi; omega))
      have HSZ := Lib.hid (And.intro h68 hold1)
      have hold2 : K2.g < w8.heap.size ∧ K2.lb < w8.heap.size ∧ ∀ i, G2 i → i < w8.heap.size := ⟨HU2.out.row.1.lt, HU2.out.row.2.1.lt, fun i hi => (HU2.out.wd i hi).2.2.2⟩
      have HSY := Lib.hid hold2
      have KF := Lib.hid (newFeed_any (bs := bs) (c := c) (HS1.out.below HB8.out) (by have := HN.out; omega))
      clear h68 hold1 hold2 HBy HO8
      go_wp2_with fail
      refine KF.out.mono ?_
      rintro e w9 ⟨f1, rfl, hf1, hF1, hb9⟩
      have HB9 := Lib.hid (below_go HB8.out hb9 (Nat.le_refl _))
      have HU19 := Lib.hid (HU18.out.only (Only.of_below (S := fun _ => False) hb9) (fun h => h) (fun h => h) (fun _ _ h => h))
      have HU29 := Lib.hid (HU2.out.only (Only.of_below (S := fun _ => False) hb9) (fun h => h) (fun h => h) (fun _ _ h => h))
      have hm1 : K1.m < w8.heap.size := by have := HK1.out.2.2.2; have := HSZ.out.1; omega
      have KB := Lib.hid (lbegin_any HU19.out HSET.out.1 HK1.out.2.1 hF1 (by have := HSZ.out; omega) (by have := HSZ.out; omega) hm1 (fun i hi => by have := HSZ.out.2.2.2 i hi; have := HSZ.out.1; omega))
      have HF1 := Lib.hid (And.intro hf1 hb9.size)
      clear hf1 hF1 hb9 KF HU18 HU2 hm1
      go_wp2_with fail
      refine KB.out.mono ?_
      rintro e wa ⟨rfl, dg1, hdg1, hx1, hoa⟩
      have HBa := Lib.hid (HB9.out.trans (hoa.below HB9.out.size (by rintro i (rfl | rfl); have := HK1.out.2.2.1; have := HB5.out.size; omega; have := HF1.out; have := HB8.out.size; omega)))
      have HU2a := Lib.hid (HU29.out.only hoa (by rintro (h | h); have := HSZ.out; have := HK2.out.2.2.1; omega; have := HSY.out; have := HF1.out; omega) (by rintro (h | h); have := HSZ.out; have := HK2.out.2.2.1; omega; have := HSY.out; have := HF1.out; omega) (fun i hi h => by rcases h with h | h; have := HSZ.out; have := HK2.out.2.2.1.2.2 i hi; omega; have := HSY.out.2.2 i hi; have := HF1.out; omega))
      have HX1 := Lib.hid hx1
      have HD1 := Lib.hid (And.intro hdg1 hoa.size)
      clear hdg1 hx1 hoa KB HU19 HU29
      obtain ⟨ii, hi, hz0, hz1, hz2⟩ := info_parts info_u8
      have HSa := Lib.hid (HS1.out.below HBa.out)
      go_wp2_with (at_builtin; refine wpList_app _ rfl (.tmp 69) (.tmp 70) 22 rfl wa.heap.size 5 ii _ 1 Try.underlying22 hi hz0 hz1 hz2 rfl _ 0 [] rfl (own_empty wa (Nat.le_refl _) _) A n c (bv bs) rfl (HSa.out.alloc _) (bv_one bs) (by have := HN.out; omega) (by omega) (by simp) ?_)
      intro A1 c1 wb ho hg
      have HBb := Lib.hid (((Below.refl wa.heap.size wa).alloc (Nat.le_refl _) _).grown hg (by simp) (fun k e => by simp [Value.ownBlock] at e; omega))
      have HOb := Lib.hid ho
      clear ho hg
      go_wp2_with (at_builtin; refine wpList_app _ rfl (.tmp 71) (.tmp 72) 22 rfl wa.heap.size 5 ii _ 1 Try.underlying22 hi hz0 hz1 hz2 rfl _ n _ rfl (HOb.out.alloc _) _ 3 3 _ rfl (sl_lit _ _ _ (by simp)) (by intro u hu; simp at hu; rcases hu with rfl | rfl | rfl <;> rfl) (by have := HN.out; omega) (by omega) (by have := HBb.out.size; simp; omega) ?_)
      intro A2 c2 wc ho hg
      have HBc := Lib.hid ((HBb.out.alloc HBb.out.size _).grown hg (by have := HBb.out.size; simp; omega) (fun k e => by have := (HOb.out.lt k e).1; omega))
      have ho2 : Sl wc A2 (n + 3) (bv (bs ++ frontMore)) := by rw [bv_append]; exact (own_facts ho).1
      have KF := Lib.hid (newFeed_any (bs := bs ++ frontMore) (c := c2) ho2 (by have := HN.out; omega))
      clear ho hg ho2 HSa HOb
      go_wp2_with fail
      refine KF.out.mono ?_
      rintro e wd ⟨f2, rfl, hf2, hF2, hbd⟩
      have hOad : Only (fun _ => False) wa wd := Only.of_below (HBc.out.trans (hbd.mono HBc.out.size))
      have HOad := Lib.hid hOad
      have HUd := Lib.hid (HU2a.out.only hOad (fun h => h) (fun h => h) (fun _ _ h => h))
      have hac := HBc.out.size
      have hw9a := HD1.out
      have hw89 := HF1.out
      have hsz := HSZ.out
      have hsy := HSY.out
      have hm2 := HK2.out.2.2.2
      have KB := Lib.hid (lbegin_any HUd.out HSET.out.1 HK2.out.2.1 hF2 (by omega) (by omega) (by omega) (fun i hi => by have := hsy.2.2 i hi; omega))
      have HF2 := Lib.hid (And.intro hf2 (And.intro hbd.size hac))
      clear hf2 hF2 hbd hOad KF HU2a hac hw9a hw89 hsz hsy hm2
      go_wp2_with fail
      refine KB.out.mono ?_
      rintro e we ⟨rfl, dg2, hdg2, hx2, hoe⟩
      have hpair : Pair (K1.on dg1 f1 w8.heap.size bs) (K2.on dg2 f2 wc.heap.size (bs ++ frontMore)) frontMore dict we 0 (Lzs.start lc lp pb dict) ⟨List.replicate (1847 + K1.nl) 1024, started bs⟩ ⟨List.replicate (1847 + K2.nl) 1024, started (bs ++ frontMore)⟩ G1 G2 := by
        have hsz := HSZ.out
        have hsy := HSY.out
        have h1 := HF1.out
        have h2 := HF2.out
        have h3 := HD1.out
        have hk1 := HK1.out.2.2.1
        have hk2 := HK2.out.2.2.1
        have hfd := HX1.out.lw.mch.pd.lo
        have hfd1 : w8.heap.size ≤ f1 ∧ f1 < dg1 := hfd
        have hdl : dg1 < wa.heap.size := HX1.out.lw.mch.pd.lt
        have hx1 : Nx (K1.on dg1 f1 w8.heap.size bs) wd G1 (Lzs.start lc lp pb dict) ⟨List.replicate (1847 + K1.nl) 1024, started bs⟩ 0 := HX1.out.off HOad.out (fun _ h => h.elim)
        refine ⟨hx1.off hoe ?_, hx2, ⟨?_, ?_⟩, ?_, rfl⟩
        · rintro i (rfl | rfl)
          · exact ⟨.inl (by show K2.g < w8.heap.size; omega), by show K2.g ≠ K1.g; omega, by show K2.g ≠ K1.lb; omega, fun e => by have := hsz.2.2.2 _ e; omega⟩
          · exact ⟨.inr (by show dg1 < i; omega), by show i ≠ K1.g; omega, by show i ≠ K1.lb; omega, fun e => by have := hsz.2.2.2 _ e; omega⟩
        · have key : ∀ i, w7.heap.size ≤ i → (i < w8.heap.size ∨ dg1 < i) → (i < (K1.on dg1 f1 w8.heap.size bs).lo ∨ (K1.on dg1 f1 w8.heap.size bs).dg < i) ∧ i ≠ (K1.on dg1 f1 w8.heap.size bs).g ∧ i ≠ (K1.on dg1 f1 w8.heap.size bs).lb ∧ ¬ G1 i := fun i a1 a2 =>
            ⟨a2, by show i ≠ K1.g; omega, by show i ≠ K1.lb; omega, fun e => by have := hsz.2.2.2 _ e; omega⟩
          rintro i ((e | e | e | e) | e)
          · have e : i = f2 := e
            exact key i (by omega) (by omega)
          · have e : i = dg2 := e
            exact key i (by omega) (by omega)
          · have e : i = K2.g := e
            exact key i (by omega) (by omega)
          · have e : i = K2.lb := e
            exact key i (by omega) (by omega)
          · have := hsy.2.2 i e
            have := hk2.2.2 i e
            exact key i (by omega) (by omega)
        · have key : ∀ i, i < wc.heap.size → i ≠ K2.g → i ≠ K2.lb → ¬ G2 i → (i < (K2.on dg2 f2 wc.heap.size (bs ++ frontMore)).lo ∨ (K2.on dg2 f2 wc.heap.size (bs ++ frontMore)).dg < i) ∧ i ≠ (K2.on dg2 f2 wc.heap.size (bs ++ frontMore)).g ∧ i ≠ (K2.on dg2 f2 wc.heap.size (bs ++ frontMore)).lb ∧ ¬ G2 i := fun i a1 a2 a3 a4 => ⟨.inl a1, a2, a3, a4⟩
          rintro i ((e | e | e | e) | e)
          · have e : i = f1 := e
            exact key i (by omega) (by omega) (by omega) (fun g => by have := hsy.2.2 _ g; omega)
          · have e : i = dg1 := e
            exact key i (by omega) (by omega) (by omega) (fun g => by have := hsy.2.2 _ g; omega)
          · have e : i = K1.g := e
            exact key i (by omega) (by omega) (by omega) (fun g => by have := hk2.2.2 _ g; omega)
          · have e : i = K1.lb := e
            exact key i (by omega) (by omega) (by omega) (fun g => by have := hk2.2.2 _ g; omega)
          · have := hsz.2.2.2 _ e
            exact key i (by omega) (by omega) (by omega) (fun g => by have := hk2.2.2 _ g; omega)
        · by_cases hst : started bs = none
          · exact .inl hst
          · exact .inr ⟨by show List.replicate (1847 + K1.nl) 1024 = List.replicate (1847 + K2.nl) 1024; rw [HK1.out.2.1, HK2.out.2.1], front_start hst⟩
      have HBe := Lib.hid (show Below w1.heap.size w1 we from HBa.out.trans ((HOad.out.below HBa.out.size (fun _ h => h.elim)).trans (hoe.below (by have := HBa.out.size; have := HOad.out.size; omega) (by rintro i (rfl | rfl); have := HK2.out.2.2.1; have := HB7.out.size; omega; have := HF2.out; have := HBa.out.size; omega))))
      obtain ⟨Ka, hKa⟩ : ∃ Ka, Ka = K1.on dg1 f1 w8.heap.size bs := ⟨_, rfl⟩
      obtain ⟨Kb, hKb⟩ : ∃ Kb, Kb = K2.on dg2 f2 wc.heap.size (bs ++ frontMore) := ⟨_, rfl⟩
      have ka : Ka.g = K1.g := by rw [hKa]; rfl
      have kb : Kb.g = K2.g := by rw [hKb]; rfl
      have za : Ka.sz = (max (min (dict : Int) (N : Int)) 1).toNat := by rw [hKa]; exact HK1.out.1
      have zb : Kb.sz = (max (min (dict : Int) (N : Int)) 1).toNat := by rw [hKb]; exact HK2.out.1
      have ba : ∀ i, Ka.all G1 i → w1.heap.size ≤ i := by
        have h5 := HB5.out.size
        have h8 := HB8.out.size
        have h1 := HF1.out
        have h3 := HD1.out
        have hk := HK1.out.2.2.1
        rw [hKa]
        rintro i ((e | e | e | e) | e)
        · have e : i = f1 := e; omega
        · have e : i = dg1 := e; omega
        · have e : i = K1.g := e; omega
        · have e : i = K1.lb := e; omega
        · have := hk.2.2 i e; omega
      have bb : ∀ i, Kb.all G2 i → w1.heap.size ≤ i := by
        have h7 := HB7.out.size
        have ha := HBa.out.size
        have h2 := HF2.out
        have hk := HK2.out.2.2.1
        rw [hKb]
        rintro i ((e | e | e | e) | e)
        · have e : i = f2 := e; omega
        · have e : i = dg2 := e; omega
        · have e : i = K2.g := e; omega
        · have e : i = K2.lb := e; omega
        · have := hk.2.2 i e; omega
      rw [← hKa, ← hKb] at hpair
      have HPR := Lib.hid hpair
      have HKK := Lib.hid (And.intro (And.intro ka kb) (And.intro za zb))
      have HBA := Lib.hid ba
      have HBB := Lib.hid bb
      clear hpair hx2 hoe hdg2 KB HUd HX1 HD1 HF1 HF2 HOad HBc HBb hKa hKb ka kb za zb ba bb HSZ HSY HB5 HB6 HB7 HB8 HB9 HBa HU1 HK1 HK2 hi hz0 hz1 hz2 HS1
      go_wp2_with fail
      go_loopw [12] (fun v wr => ∃ (j : Nat) (zf : Lzs) (t1 t2 : Pm Dc) (Ga Gb : Nat → Prop), j ≤ N ∧ v = .int .i64 (j : Int) ∧ Pair Ka Kb frontMore dict wr j zf t1 t2 Ga Gb ∧ (∀ i, Ka.all Ga i → w1.heap.size ≤ i) ∧ (∀ i, Kb.all Gb i → w1.heap.size ≤ i) ∧ Below w1.heap.size w1 wr) (fun v _ => N - (intOf v).toNat)
      case atStart => exact ⟨0, _, _, _, G1, G2, Nat.zero_le _, rfl, HPR.out, HBA.out, HBB.out, HBe.out⟩
      case round =>
        clear HPR HBA HBB HBe
        obtain ⟨j, zf, t1, t2, Ga, Gb, hj, rfl, hP, hba, hbb, hbw⟩ := hrel
        by_cases hlt : j < N
        · have glt : (j : Int) < (N : Int) := by omega
          have ej : IntKind.i64.wrap ((j : Int) + 1) = (j : Int) + 1 := IntWalk.i64_in _ (by have := HNB.out; omega)
          have hd0 := HSET.out.1.2.2.2.1
          have fa : Fit Ka (zf.cut j) := up_fit (size := (N : Int)) rfl HKK.out.2.1 (by have := HNB.out; omega) hP.dict hd0 (by omega)
          have fb : Fit Kb (zf.cut j) := up_fit (size := (N : Int)) rfl HKK.out.2.2 (by have := HNB.out; omega) hP.dict hd0 (by omega)
          have KX := lnext_any hP.x1 (by have := HNB.out; omega) fa
          rw [HKK.out.1.1] at KX
          have KX := Lib.hid KX
          have HP := Lib.hid hP
          have HW := Lib.hid (And.intro hba (And.intro hbb hbw))
          have HFB := Lib.hid fb
          clear hP hba hbb hbw fa fb hd0 hlt hj
          go_wp2_with fail
          refine KX.out.mono ?_
          intro e wx hp
          obtain ⟨hO, hcase⟩ := one_nexts HP.out hp
          have HBx := Lib.hid (HW.out.2.2.trans (hO.below HW.out.2.2.size (fun i hi => HW.out.1 i hi)))
          have hszx := hO.size
          have HSX := Lib.hid hszx
          clear hp hO KX hszx
          rcases hcase with rfl | ⟨y, zf', t1', G1', rfl, hy, hx, hx2, htw, hd, ht, hG, hsm, hc⟩
          · go_wp2_with fail
            go_ret
            exact ⟨rfl, HB1.out.trans (HBx.out.mono HB1.out.size)⟩
          · have KY := lnext_any hx2 (by have := HNB.out; omega) HFB.out
            rw [HKK.out.1.2] at KY
            have KY := Lib.hid KY
            have HC := Lib.hid (fun (e : Ending) (wy : World) (hp : NextPost Kb wx Gb zf t2 j e wy) => two_nexts hy hx hx2 htw hd hsm hc hp)
            have HG1 := Lib.hid (show ∀ i, Ka.all G1' i → w1.heap.size ≤ i from fun i hi => by
              rcases hi with hi | hi
              · exact HW.out.1 i (.inl hi)
              · rcases hG i hi with h | h
                · exact HW.out.1 i (.inr h)
                · have := HW.out.2.2.size; omega)
            clear hy hx hx2 htw hd ht hG hsm hc HP HFB
            go_wp2_with fail
            refine KY.out.mono ?_
            intro e wy hp
            obtain ⟨rfl, hO2, t2', G2', hP2, hG2⟩ := HC.out e wy hp
            have HBy := Lib.hid (HBx.out.trans (hO2.below HBx.out.size (fun i hi => HW.out.2.1 i hi)))
            have HP2 := Lib.hid hP2
            have HG2 := Lib.hid (show ∀ i, Kb.all G2' i → w1.heap.size ≤ i from fun i hi => by
              rcases hi with hi | hi
              · exact HW.out.2.1 i (.inl hi)
              · rcases hG2 i hi with h | h
                · exact HW.out.2.1 i (.inr h)
                · have := HBx.out.size; omega)
            clear hp hO2 hP2 hG2 HC KY HW HBx
            go_wp2_with fail
            go_roundw
            case rel => exact ⟨j + 1, zf', t1', t2', G1', G2', by omega, by go_num, HP2.out, HG1.out, HG2.out, HBy.out⟩
            case measure => simp [intOf]; omega
        · obtain rfl : j = N := by omega
          have HE := Lib.hid (HB1.out.trans (hbw.mono HB1.out.size))
          clear hP hba hbb hbw hj hlt
          go_wp2_with fail
          go_ret
          exact ⟨rfl, HE.out⟩
end Go.Proofs.Ytjgdjobhhdhfjaa
