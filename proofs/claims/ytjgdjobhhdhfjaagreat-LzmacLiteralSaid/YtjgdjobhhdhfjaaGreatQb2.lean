/-
  The law LzmacLiteral: its walk.
-/
import Derived.Test.YtjgdjobhhdhfjaaGreatQb1
set_option linter.unusedSimpArgs false
set_option linter.unusedVariables false
namespace Go.Proofs.YtjgdjobhhdhfjaaGreat
open Go.RowKit

def litSet (a b cc d : Int) : Array Value := #[.int .i64 a, .int .i64 b, .int .i64 cc, .int .i64 d]
theorem litSet_of {w : World} {g : Nat} {a b cc d : Int} {T : TypeId} (h : Blk w g T (litSet a b cc d)) : w.cell? ⟨g, 0, none⟩ = some (.int .i64 a) ∧ w.cell? ⟨g, 1, none⟩ = some (.int .i64 b) ∧ w.cell? ⟨g, 2, none⟩ = some (.int .i64 cc) ∧ w.cell? ⟨g, 3, none⟩ = some (.int .i64 d) := ⟨h.cell 0, h.cell 1, h.cell 2, h.cell 3⟩

set_option maxRecDepth 100000 in
set_option maxHeartbeats 16000000 in
theorem lzmacLiteral_walk (C : UpCon) {a b cc d : Int} {A : Option Addr} {n c : Nat} {bs : List UInt8} {w : World} (hS : Sl w A n (bv bs)) (hn : n ≤ maxLen) :
    Calls Tryz.prog 6 #[.agg #[.int .i64 a, .int .i64 b, .int .i64 cc, .int .i64 d], .slice A n c] w fun e w' => e = .returned (.bool true) ∧ Below w.heap.size w w' := by
  have hl : bs.length = n := by rw [← bv_length]; exact hS.1
  subst hl
  obtain ⟨w1, hw1⟩ : ∃ w1, w1 = w.alloc (.cells #[.int .i64 a, .int .i64 b, .int .i64 cc, .int .i64 d] 24) := ⟨_, rfl⟩
  have hb1 : Below w.heap.size w w1 := by rw [hw1]; exact (Below.refl _ _).alloc (Nat.le_refl _) _
  have HBk : Blk w1 w.heap.size 24 (litSet a b cc d) := by rw [hw1]; exact Blk.fresh w _ _
  have HW1 := Lib.hid hw1
  have HB1 := Lib.hid hb1
  have HBK := Lib.hid HBk
  have HS1 := Lib.hid (hS.below hb1)
  have KA := Lib.hid (awake9_any w1)
  have HC := Lib.hid C
  clear hw1 hb1 HBk hn hS
  go_enter Tryz.func6, Tryz.ntmps6
  go_upto_region 1 with fail
  rw [← HW1.out]
  clear HW1
  go_wp2_with fail
  refine KA.out.mono ?_
  rintro e w2 ⟨rfl, hb2⟩
  have HB2 := Lib.hid hb2
  obtain ⟨o0, o1, o2, o3⟩ := litSet_of (HBK.out.below hb2)
  have HE2 := Lib.hid (below_go HB1.out hb2 (Nat.le_refl _))
  clear hb2 KA
  have KL := Lib.hid (light9_any a b cc d w2)
  obtain ⟨lt, hlt⟩ : ∃ lt, lt = light9P a b cc d := ⟨_, rfl⟩
  rw [← hlt] at KL
  have HLT := Lib.hid hlt
  clear hlt
  cases lt with
  | false =>
    go_wp2_with fail
    refine KL.out.mono ?_
    rintro e w3 ⟨rfl, hb3⟩
    have HE3 := Lib.hid (below_go HE2.out hb3 (Nat.le_refl _))
    clear hb3 KL o0 o1 o2 o3
    go_wp2_with fail
    go_ret
    exact ⟨rfl, HE3.out⟩
  | true =>
    go_wp2_with fail
    refine KL.out.mono ?_
    rintro e w3 ⟨rfl, hb3⟩
    have HB3 := Lib.hid (below_go HB2.out hb3 (Nat.le_refl _))
    have HE3 := Lib.hid (below_go HE2.out hb3 (Nat.le_refl _))
    clear hb3 KL o0 o1 o2 o3 HE2 HB2
    obtain ⟨p0, p1, p2, p3⟩ := litSet_of (HBK.out.below HB3.out)
    have KM := Lib.hid (may_any a b cc d w3)
    obtain ⟨mm, hmm⟩ : ∃ mm, mm = maySet a b cc d := ⟨_, rfl⟩
    rw [← hmm] at KM
    have HMM := Lib.hid hmm
    clear hmm
    cases mm with
    | false =>
      go_wp2_with fail
      refine KM.out.mono ?_
      rintro e w4 ⟨rfl, hb4⟩
      have HE4 := Lib.hid (below_go HE3.out hb4 (Nat.le_refl _))
      clear hb4 KM p0 p1 p2 p3
      go_wp2_with fail
      go_ret
      exact ⟨rfl, HE4.out⟩
    | true =>
      obtain ⟨m1, m2, m3, m4, m5, m6, m7, m8⟩ := may_iff.1 HMM.out.symm
      have h5 : a + b ≤ 5 := by
        have := HLT.out
        unfold light9P at this
        rw [← HMM.out] at this
        exact of_decide_eq_true this.symm
      obtain ⟨lc, rfl⟩ := Int.eq_ofNat_of_zero_le m1
      obtain ⟨lp, rfl⟩ := Int.eq_ofNat_of_zero_le m3
      obtain ⟨pb, rfl⟩ := Int.eq_ofNat_of_zero_le m5
      obtain ⟨dict, rfl⟩ := Int.eq_ofNat_of_zero_le (show 0 ≤ d by omega)
      have HSET := Lib.hid (show SetOk lc lp pb dict ∧ lc + lp ≤ 5 from ⟨⟨by omega, by omega, by omega, by omega, by omega⟩, by omega⟩)
      clear m1 m2 m3 m4 m5 m6 m7 m8 h5
      go_wp2_with fail
      refine KM.out.mono ?_
      rintro e w4 ⟨rfl, hb4⟩
      have HB4 := Lib.hid (below_go HB3.out hb4 (Nat.le_refl _))
      have HE4 := Lib.hid (below_go HE3.out hb4 (Nat.le_refl _))
      obtain ⟨o0, o1, o2, o3⟩ := litSet_of (HBK.out.below HB4.out)
      clear hb4 KM p0 p1 p2 p3 HB3 HE3
      by_cases h3 : (bs.length : Int) > 3000
      · go_wp2_with fail
        go_ret
        exact ⟨rfl, HE4.out⟩
      have HN := Lib.hid (show bs.length ≤ 3000 by omega)
      have KN := Lib.hid (cnew7_any (k := 27 * bs.length) HSET.out.1 (by have := HSET.out.2; omega) (by have := HN.out; omega) w4)
      go_wp2_with fail
      clear h3
      refine KN.out.mono ?_
      rintro e w5 ⟨K, rfl, hnl, hcw, hnew, ho5⟩
      have HB5 := Lib.hid (HB4.out.trans (ho5.below HB4.out.size (fun _ h => h.elim)))
      obtain ⟨s0, hs0⟩ : ∃ s0, s0 = freshS lc lp pb dict := ⟨_, rfl⟩
      have hst : Cw K w5 none none 0 (runG (litQ bs) s0 0).1 (27 * (bs.length - 0)) (runG (litQ bs) s0 0).2 := by
        have e : runG (litQ bs) s0 0 = s0 := rfl
        rw [e, hs0]
        unfold freshS
        rw [show probsN lc lp = 1847 + 768 * 2 ^ (lc + lp) from rfl, ← hnl]
        exact hcw
      have HST := Lib.hid hst
      have HY := Lib.hid (show Young w1.heap.size K none (tb none (runG (litQ bs) s0 0).1.out.length 0) from ⟨by have := HB4.out.size; omega, by have := HB4.out.size; omega, by have := HB4.out.size; omega, fun _ h => by (cases h), fun _ h => by (cases h)⟩)
      have HNL := Lib.hid (show 1847 + K.nl = probsN lc lp by rw [hnl]; rfl)
      have HRUN := Lib.hid (fun j (hj : j ≤ bs.length) => And.intro (run_ok HSET.out.1 (fun i _ => litQ_lit bs i) (by have := HN.out; omega) j hj) (And.intro (run_bad HSET.out.1 (fun i _ => litQ_lit bs i) HN.out j hj) (lit_run HSET.out.1 HN.out j hj)))
      have HBACK := Lib.hid (fun (xs : List UInt8) => packed_back (bs := xs) HSET.out.1 (fun i (_ : i < bs.length) => litQ_lit bs i) HN.out)
      rw [← hs0] at HRUN HBACK
      clear hnl hcw hnew ho5 hst hs0 KN o0 o1 o2 o3
      go_wp2_with fail
      go_loopw [7] (fun i wr => ∃ (j : Nat) (Ge : Option Nat) (A1 : Option Addr) (c1 : Nat), j ≤ bs.length ∧ i = .int .i64 (j : Int) ∧ Cw K wr Ge A1 c1 (runG (litQ bs) s0 j).1 (27 * (bs.length - j)) (runG (litQ bs) s0 j).2 ∧ Young w1.heap.size K Ge (tb A1 (runG (litQ bs) s0 j).1.out.length c1) ∧ Below w1.heap.size w1 wr) (fun i _ => bs.length - (intOf i).toNat)
      case atStart => exact ⟨0, none, none, 0, Nat.zero_le _, rfl, HST.out, HY.out, HB5.out⟩
      case round =>
        clear HST HY HB5
        obtain ⟨j, Ge, A1, c1, hj, rfl, hz, hy, hb⟩ := hrel
        by_cases hlt : j < bs.length
        · have glt : (j : Int) < (bs.length : Int) := by omega
          have j0 : (0 : Int) ≤ (j : Int) := by omega
          have ej : IntKind.i64.wrap ((j : Int) + 1) = (j : Int) + 1 := IntWalk.i64_in _ (by have := HN.out; omega)
          obtain ⟨⟨hnr, hpm⟩, hbad, _, hen⟩ := HRUN.out j (by omega)
          have hsuc := lit_succ bs s0 j hen
          obtain ⟨ba, oa, rfl, hba, hca⟩ := (HS1.out.below hb).2 (by omega)
          have hcell := (hca j hlt).trans (bv_get bs j hlt)
          generalize bs.getD j 0 = x at *
          have KC := ccode_any (k := 27 * (bs.length - (j + 1))) (kd := 0) (len := 0) (d := 0) (b := x) (by rw [show 27 * (bs.length - (j + 1)) + 27 = 27 * (bs.length - j) by omega]; exact hz) (by rw [HNL.out]; exact hnr) (by have := HN.out; omega) hbad (by decide)
          have hpair : ((runG (litQ bs) s0 j).1, (runG (litQ bs) s0 j).2) = runG (litQ bs) s0 j := rfl
          rw [hpair, ← hsuc, lit_fits hen] at KC
          have KC := Lib.hid KC
          have HY := Lib.hid hy
          have HB := Lib.hid hb
          have HSZ := Lib.hid hb.size
          clear hnr hpm hbad hen hsuc hpair hz hy hb hca hj hlt
          go_wp2_with fail
          refine KC.out.mono ?_
          rintro e w6 ⟨rfl, G3, A3, c3, hz3, hn3, hnt3, ho3⟩
          have HZ3 := Lib.hid hz3
          have HY3 := Lib.hid (HY.out.step hn3 hnt3 HSZ.out)
          have HB3 := Lib.hid (HB.out.trans (ho3.below HSZ.out (fun i hi => HY.out.all hi)))
          clear hz3 hn3 hnt3 ho3 HY HB KC
          go_wp2_with fail
          go_roundw
          case rel => exact ⟨j + 1, G3, A3, c3, by omega, by go_num, HZ3.out, HY3.out, HB3.out⟩
          case measure => simp [intOf]; omega
        · obtain rfl : j = bs.length := by omega
          obtain ⟨_, _, hout, hen⟩ := HRUN.out bs.length (Nat.le_refl _)
          rw [List.take_length] at hout
          have hlen : (runG (litQ bs) s0 bs.length).1.out.length = bs.length := by rw [hout]
          have KT := Lib.hid (ctold_new hz (by rw [hlen]; have := HN.out; omega))
          rw [hout] at KT
          have HZ := Lib.hid hz
          have HY := Lib.hid hy
          have HB := Lib.hid hb
          have HOUT := Lib.hid hout
          clear hz hy hb hj hlt hout hen hlen
          go_wp2_with fail
          refine KT.out.mono ?_
          rintro e w6 ⟨B, m, rfl, hsB, hBn, ho6⟩
          have HSB := Lib.hid (And.intro hsB hBn)
          have HZ6 := Lib.hid (HZ.out.quiet ho6)
          have HOLD := Lib.hid HZ.out.old
          have HB6 := Lib.hid (HB.out.trans (ho6.below HB.out.size (fun _ h => h.elim)))
          clear hsB hBn ho6 KT
          have KF := Lib.hid (fun W (hW : Only (fun _ => False) w6 W) => cfinish_any (HZ6.out.quiet hW))
          obtain ⟨q0, q1, q2, q3⟩ := litSet_of (HBK.out.below HB6.out)
          have HS := Lib.hid (fun (W : World) (hb : Below w1.heap.size w1 W) => litSet_of (HBK.out.below hb))
          have KU := Lib.hid (fun (xs : List UInt8) (X : Option Addr) (cx : Nat) (w7 W : World) (gm : Nat) (hx : Sl w7 X xs.length (bv xs)) (hbe : be xs = (runG (litQ bs) s0 bs.length).2.x.n ∧ xs.length = (runG (litQ bs) s0 bs.length).2.x.l) (hM : MeterAt W 86 gm muchQ Tel.zero) (hgm : w7.heap.size ≤ gm) (hb : Below w7.heap.size w7 W) => runs_up (n := bs.length) (sz := ((bs.length : Nat) : Int)) (out := bs) (bs := xs) (A := X) (c := cx) HC.out HSET.out.1 (by have := HSET.out.2; omega) (by have := HN.out; omega) hx (by have := (HBACK.out xs hbe.1 hbe.2).1; rw [HOUT.out] at this; exact this) (by have := (HBACK.out xs hbe.1 hbe.2).2.1; rw [HOUT.out] at this; exact this) (HBACK.out xs hbe.1 hbe.2).2.2.1 rfl rfl hM hgm hb)
          go_wp2_with fail
          go_region_held3 (fun W => W.cell? ⟨w.heap.size, 0, none⟩ = some (.int .i64 (lc : Int)) ∧ W.cell? ⟨w.heap.size, 1, none⟩ = some (.int .i64 (lp : Int)) ∧ W.cell? ⟨w.heap.size, 2, none⟩ = some (.int .i64 (pb : Int)) ∧ W.cell? ⟨w.heap.size, 3, none⟩ = some (.int .i64 (dict : Int))) (first | assumption | go_keep | exact ⟨q0, q1, q2, q3⟩) (first | (go_at_call 24; refine (KF.out _ (by first | exact Only.refl _ w6 | exact (Only.refl _ w6).drewN _)).mono ?_; rintro e w7 ⟨X, cx, xs, rfl, hx1, hx2, hx3, _, _, ho⟩; have HO7 := Lib.hid (show Only (K.own Ge) w6 w7 from ⟨ho.os, ho.tape, ho.output, ho.size, ho.block⟩); have HB7 := Lib.hid (HB6.out.trans (HO7.out.below HB6.out.size (fun i hi => HY.out.all (.inl hi)))); have HX := Lib.hid (And.intro hx1 (And.intro hx2 hx3)); have r7 := HS.out w7 HB7.out; clear hx1 hx2 hx3 ho) | (go_at_call 10; refine (much_any _).mono ?_; rintro e w8 ⟨gm, rfl, hM, hgm, hb⟩; have HB8 := Lib.hid (show Below w7.heap.size w7 w8 from ⟨hb.os, hb.tape, hb.output, hb.size, hb.block⟩); have HM8 := Lib.hid hM; have HGM := Lib.hid (show w7.heap.size ≤ gm from hgm); have r8 := HS.out w8 (below_go HB7.out HB8.out (Nat.le_refl _)); clear hM hgm hb) | (go_at_call 11; refine (KU.out xs X cx w7 _ gm HX.out.1 HX.out.2 (by first | exact HM8.out | exact HM8.out.drewN _) HGM.out (by first | exact HB8.out | exact below_drewN HB8.out _)).mono ?_; rintro e w9 ⟨hO9, Y, cY, rfl, hSY⟩; have HO9 := Lib.hid (show Only (fun i => i = gm) w8 w9 from ⟨hO9.os, hO9.tape, hO9.output, hO9.size, hO9.block⟩); have HSY := Lib.hid hSY; have HB9 := Lib.hid ((below_go HB7.out HB8.out (Nat.le_refl _)).trans (HO9.out.below (by have := HB8.out.size; have := HB7.out.size; omega) (by rintro i rfl; have := HGM.out; have := HB7.out.size; omega))); have r9 := HS.out w9 HB9.out; clear hO9 hSY))
          have KB1 := Lib.hid (fun nn => bytesSame_any (ca := cY) (cb := c) (HSY.out.drewN nn) ((HS1.out.below HB9.out).drewN nn) (by have := HN.out; omega))
          have hB9 : Sl w9 B bs.length (bv bs) := by
            refine ((HSB.out.1.only HO7.out (fun h0 q o e hi => ?_)).below HB8.out).only HO9.out (fun h0 q o e => ?_)
            · have h1 := HSB.out.2 q o e
              obtain ⟨o1, o2, o3, o4, _⟩ := HOLD.out
              rcases hi with e' | e' | e' | e'
              · omega
              · have := o4 _ e'; omega
              · omega
              · omega
            · obtain ⟨b', o', e', hlt, _⟩ := HSB.out.1.2 h0
              rw [e] at e'
              injection e' with e'
              injection e' with e'
              have := HGM.out
              have := HO7.out.size
              omega
          have KB2 := Lib.hid (fun nn => bytesSame_any (ca := m) (cb := c) (hB9.drewN nn) ((HS1.out.below HB9.out).drewN nn) (by have := HN.out; omega))
          have HE9 := Lib.hid (below_go HB1.out (HB9.out.mono (Nat.le_refl _)) (Nat.le_refl _))
          clear hB9 KU HS HO7 HO9 HB7 HB8 HM8 HX HSY HB9 KF HB6 HZ6 HOLD HSB HY HB HZ r7 r8 r9 q0 q1 q2 q3
          have KB1' := Lib.hid (KB1.out 0)
          go_wp2_with fail
          refine (KB1.out 0).mono ?_
          rintro e wa ⟨rfl, da, hwa⟩
          obtain rfl := hwa
          go_wp2_with fail
          refine (KB2.out _).mono ?_
          rintro e wb ⟨rfl, db, hwb⟩
          have HEz := Lib.hid (show Below w.heap.size w wb from hwb ▸ below_drewN (below_drewN HE9.out _) db)
          clear hwb KB2 KB1
          go_wp2_with fail
          go_ret
          exact ⟨rfl, HEz.out⟩
end Go.Proofs.YtjgdjobhhdhfjaaGreat
