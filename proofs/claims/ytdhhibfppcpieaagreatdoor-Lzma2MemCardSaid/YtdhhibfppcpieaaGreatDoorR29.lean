/-
  LzNew, LqMemW: put together.
-/
import Derived.Test.YtdhhibfppcpieaaGreatDoorR28
import Derived.Test.YtdhhibfppcpieaaGreatDoorR26
set_option linter.unusedVariables false
set_option linter.unusedSimpArgs false
/-
  The reference of LZMA: how many probabilities; a new one.
-/
namespace Go.Proofs.YtdhhibfppcpieaaGreatDoor
open Go.RowKit

set_option maxHeartbeats 2000000 in
theorem probs_any (a b c d : Int) (w : World) :
    Calls Tryz.prog 22 #[.agg #[.int .i64 a, .int .i64 b, .int .i64 c, .int .i64 d]] w fun x w' => x = .returned (.int .i64 (probsOf a b c d)) ∧ Below w.heap.size w w' := by
  obtain ⟨w1, hw1⟩ : ∃ w1, w1 = w.alloc (.cells #[.int .i64 a, .int .i64 b, .int .i64 c, .int .i64 d] 51) := ⟨_, rfl⟩
  have hb1 : Below w.heap.size w w1 := by rw [hw1]; exact (Below.refl _ _).alloc (Nat.le_refl _) _
  have HBk : Blk w1 w.heap.size 51 #[.int .i64 a, .int .i64 b, .int .i64 c, .int .i64 d] := by rw [hw1]; exact Blk.fresh w _ _
  have K := Lib.hid (may_any a b c d w1)
  have d0 : w1.cell? ⟨w.heap.size, 0, none⟩ = some (.int .i64 a) := HBk.cell 0
  have d1 : w1.cell? ⟨w.heap.size, 1, none⟩ = some (.int .i64 b) := HBk.cell 1
  have d2 : w1.cell? ⟨w.heap.size, 2, none⟩ = some (.int .i64 c) := HBk.cell 2
  have d3 : w1.cell? ⟨w.heap.size, 3, none⟩ = some (.int .i64 d) := HBk.cell 3
  have HW1 := Lib.hid hw1
  have HB1 := Lib.hid hb1
  have HBK := Lib.hid HBk
  clear hw1 hb1 HBk
  obtain ⟨r, hr⟩ : ∃ r, r = probsOf a b c d := ⟨_, rfl⟩
  rw [← hr]
  unfold probsOf at hr
  by_cases hm : maySet a b c d = true
  · obtain ⟨m1, m2, m3, m4, _⟩ := may_iff.1 hm
    rw [if_pos hm] at hr
    rw [hm] at K
    obtain ⟨n, hn⟩ : ∃ n : Nat, (n : Int) = a + b := ⟨(a + b).toNat, by omega⟩
    rw [← hn, Int.toNat_natCast] at hr
    have hn12 : n ≤ 12 := by omega
    have eab : IntKind.i64.wrap (a + b) = (n : Int) := by rw [← hn]; exact IntWalk.i64_in _ (by omega)
    have HR := Lib.hid hr
    have HN := Lib.hid hn12
    clear hm m1 m2 m3 m4 hr hn hn12
    go_enter Tryz.func22, Tryz.ntmps22
    go_upto_region 1 with fail
    rw [← HW1.out]
    clear HW1
    go_wp2_with fail
    refine K.out.mono ?_
    rintro e w2 ⟨rfl, hb2⟩
    have HB2 := Lib.hid (HB1.out.trans ⟨hb2.os, hb2.tape, hb2.output, hb2.size, fun i hi => hb2.block i (by have := HBK.out.lt; omega)⟩)
    have hk2 : Blk w2 w.heap.size 51 #[.int .i64 a, .int .i64 b, .int .i64 c, .int .i64 d] := HBK.out.below hb2
    have o0 : w2.cell? ⟨w.heap.size, 0, none⟩ = some (.int .i64 a) := hk2.cell 0
    have o1 : w2.cell? ⟨w.heap.size, 1, none⟩ = some (.int .i64 b) := hk2.cell 1
    clear hb2 hk2 K d0 d1 d2 d3 HB1 HBK
    go_wp2_with fail
    go_loopw [3, 4] (fun m iv wr => ∃ j : Nat, j ≤ n ∧ iv = .int .i64 (j : Int) ∧ m = .int .i64 (((768 * 2 ^ j : Nat)) : Int) ∧ w2 = wr) (fun _ iv _ => n - (intOf iv).toNat)
    case atStart => exact ⟨0, Nat.zero_le _, rfl, rfl, rfl⟩
    case round =>
      obtain ⟨j, hj, rfl, rfl, hw⟩ := hrel
      subst hw
      have hp : 2 ^ j ≤ 2 ^ 12 := pow_le_of (by have := HN.out; omega)
      by_cases hlt : j < n
      · have glt : (j : Int) < (n : Int) := by omega
        have ej : IntKind.i64.wrap ((j : Int) + 1) = (j : Int) + 1 := IntWalk.i64_in _ (by have := HN.out; omega)
        obtain ⟨y, hy⟩ : ∃ y, y = 768 * 2 ^ j := ⟨_, rfl⟩
        obtain ⟨y2, hy2⟩ : ∃ y, y = 768 * 2 ^ (j + 1) := ⟨_, rfl⟩
        have hyy : y2 = y * 2 := by rw [hy2, hy, Nat.pow_succ]; omega
        rw [← hy]
        have ep : IntKind.i64.wrap ((y : Int) * 2) = (y2 : Int) := by rw [show (y : Int) * 2 = (y2 : Int) by omega]; exact IntWalk.i64_in _ (by omega)
        have HY := Lib.hid hy2
        have HLT := Lib.hid hlt
        clear hy hy2 hyy hp hlt hj
        go_wp2_with fail
        go_roundw
        case rel => exact ⟨j + 1, by have := HLT.out; omega, by go_num, by rw [HY.out], by first | trivial | rfl⟩
        case measure => have := HLT.out; simp [intOf]; omega
      · obtain rfl : j = n := by omega
        have hirr : ¬ (j : Int) < (j : Int) := by omega
        obtain ⟨y, hy⟩ : ∃ y, y = 768 * 2 ^ j := ⟨_, rfl⟩
        rw [← hy]
        have er : IntKind.i64.wrap (1847 + (y : Int)) = r := by
          rw [HR.out, hy, Int.natCast_mul]
          exact IntWalk.i64_in _ (by omega)
        clear hy hp hlt hj
        go_wp2_with fail
        go_ret
        exact ⟨rfl, HB2.out⟩
  · rw [if_neg hm] at hr
    have hf : maySet a b c d = false := by simpa using hm
    rw [hf] at K
    subst hr
    clear hm hf
    go_enter Tryz.func22, Tryz.ntmps22
    go_upto_region 1 with fail
    rw [← HW1.out]
    clear HW1
    go_wp2_with fail
    refine K.out.mono ?_
    rintro e w2 ⟨rfl, hb2⟩
    have HB2 := Lib.hid (HB1.out.trans ⟨hb2.os, hb2.tape, hb2.output, hb2.size, fun i hi => hb2.block i (by have := HBK.out.lt; omega)⟩)
    clear hb2 K d0 d1 d2 d3 HB1 HBK
    go_wp2_with fail
    go_ret
    exact ⟨rfl, HB2.out⟩
end Go.Proofs.YtdhhibfppcpieaaGreatDoor

/-
  The law Lzma2Mem, walked.
-/
namespace Go.Proofs.YtdhhibfppcpieaaGreatDoor
open Go.RowKit

theorem imax_int {P : Program} (ts : Array TypeId) (t : TypeId) (x y k : Int) (hk : k = max x y) : ∀ w, (Builtin.max_ ts t #[.int .i64 x, .int .i64 y]).run P w = .ok (.int .i64 k) w := by
  intro w
  subst hk
  by_cases h : x ≤ y
  · rw [Int.max_eq_right h]
    simp [Builtin.max_, Builtin.max2]; omega
  · rw [Int.max_eq_left (by omega)]
    simp [Builtin.max_, Builtin.max2]; omega
theorem probs_four {p : Nat} (hp : p ≤ 40) : probsOf 4 0 0 (dictN p : Int) = (probsN 4 0 : Int) := by
  have hm : maySet 4 0 0 (dictN p : Int) = true := setOk_may (dict_set hp)
  unfold probsOf
  rw [if_pos hm]
  rfl
theorem ends_zero {s : Ds} {o : List UInt8} : ((⟨s, [], o⟩ : Lq).begun [0]).ends = true := rfl
theorem next_idle : (⟨ds0, [], []⟩ : Lq).next = (none, ⟨ds0, [], []⟩) := rfl

theorem L2.calm {K : Kon} {d f lo : Nat} {bs : List UInt8} {fs : List Value} {ps : List Nat} {w w' : World} {Gw : Nat → Prop} {q : Lq} (h : L2 K d f lo bs fs ps w Gw q) (hO : Only (fun _ => False) w w') : L2 K d f lo bs fs ps w' Gw q :=
  ⟨h.rd.only hO (fun h => h) (fun _ h => h.elim), h.rz.only hO (fun h => h) (fun h => h) (fun _ _ h => h), h.gl, h.ll, h.ml, h.dg, h.wd, h.fo.imp (fun hh => Nat.lt_of_lt_of_le hh hO.size) id⟩
set_option maxRecDepth 100000 in
set_option maxHeartbeats 16000000 in
theorem lzma2Mem_walk {p : Nat} {size mem : Int} {w : World} (hp : p < 256) (hsz : -9223372036854775808 ≤ size ∧ size ≤ 9223372036854775807) (hmem : -9223372036854775808 ≤ mem ∧ mem ≤ 9223372036854775807) :
    Calls Tryz.prog 7 #[.int .u8 (p : Int), .int .i64 size, .int .i64 mem] w fun e w' => e = .returned (.bool true) ∧ Below w.heap.size w w' := by
  have KA := Lib.hid (awake11_any w)
  have KR := Lib.hid (fun w => rdict_any hp w)
  have HR := Lib.hid (And.intro hsz hmem)
  obtain ⟨S, hS⟩ : ∃ S, S = min size 65536 := ⟨_, rfl⟩
  have hmin := imin_int (P := Tryz.prog) #[3, 3] 3 size 65536 S hS
  have HSB := Lib.hid (show -9223372036854775808 ≤ S ∧ S ≤ 65536 by omega)
  have hfd0 : ∀ (x0 x1 x2 x3 x4 x5 : Int) (w : World), (Instr.field 32 (.agg #[.int .i64 x0, .int .i64 x1, .int .i64 x2, .int .i64 x3, .int .i64 x4, .int .i64 x5]) 0).run Tryz.prog w = .ok (.int .i64 x0) w := fun _ _ _ _ _ _ _ => by kernel_rfl
  have hfd1 : ∀ (x0 x1 x2 x3 x4 x5 : Int) (w : World), (Instr.field 32 (.agg #[.int .i64 x0, .int .i64 x1, .int .i64 x2, .int .i64 x3, .int .i64 x4, .int .i64 x5]) 1).run Tryz.prog w = .ok (.int .i64 x1) w := fun _ _ _ _ _ _ _ => by kernel_rfl
  have hpn : probsN 4 0 = 14135 := by decide
  clear hsz hmem hS
  go_enter Tryz.func7, Tryz.ntmps7
  go_wp2_with fail
  refine KA.out.mono ?_
  rintro e w1 ⟨rfl, hb1⟩
  have HB1 := Lib.hid hb1
  have KQ := Lib.hid (show Calls Tryz.prog 20 #[.agg #[.int .i64 mem, .int .i64 0, .int .i64 0, .int .i64 0, .int .i64 0]] w1 fun e w' => ∃ g, e = .returned (.pointer (some ⟨g, 0, none⟩)) ∧ MeterAt w' 88 g (memQ mem).up Tel.zero ∧ w1.heap.size ≤ g ∧ Below w1.heap.size w1 w' from mnew_any (memQ mem) w1)
  clear hb1 KA
  go_wp2_with fail
  refine KQ.out.mono ?_
  rintro e w4 ⟨m, rfl, hM, hmg, hb4⟩
  have HB4 := Lib.hid (HB1.out.trans (hb4.mono HB1.out.size))
  have HM4 := Lib.hid hM
  have HMG := Lib.hid (show w.heap.size ≤ m by have := HB1.out.size; omega)
  clear hM hmg hb4 KQ HB1
  by_cases hpp : p ≤ 40
  · have hdc : dictC p = 0 := by unfold dictC; rw [if_neg (by omega)]
    rw [hdc] at KR
    have hd := dict_le hpp
    obtain ⟨W, hW⟩ : ∃ W, W = max (min (dictN p : Int) S) 1 := ⟨_, rfl⟩
    obtain ⟨Y, hY⟩ : ∃ Y, Y = min (dictN p : Int) S := ⟨_, rfl⟩
    have hmin2 := imin_int (P := Tryz.prog) #[3, 3] 3 (dictN p : Int) S Y hY
    have hmax2 := imax_int (P := Tryz.prog) #[3, 3] 3 1 Y W (by omega)
    have KP := fun w => probs_any 4 0 0 (dictN p : Int) w
    rw [probs_four hpp, hpn] at KP
    have KP := Lib.hid KP
    have e1 : wrap64 (28270 + W) = 28270 + W := IntWalk.wrap64_in _ (by have := HSB.out; omega)
    have HW := Lib.hid (And.intro hW (show 1 ≤ W ∧ W ≤ 65536 by have := HSB.out; omega))
    have HPN := Lib.hid (And.intro hpp hpn)
    by_cases hneed : 28270 + W > mem
    · have KN := Lib.hid (qnew_short (size := S) hpp HR.out.2 HM4.out HSB.out.1 (by have := HSB.out; omega) (by rw [hpn, ← hW]; omega))
      clear hdc hd hW hY hpp hpn
      generalize dictN p = dict at *
      go_wp2_with fail
      refine KN.out.mono ?_
      rintro e w5 ⟨rfl, ⟨⟨x1, x2, x3, x4, x5, x6, x7⟩, hM5, ht5⟩, ho5⟩
      obtain rfl : x1 = 0 := ht5
      have HB5 := Lib.hid (HB4.out.trans (ho5.below HB4.out.size (by rintro i rfl; exact HMG.out)))
      have HM5 := Lib.hid hM5
      clear ho5 hM5 KN
      go_wp2_with fail
      refine (KR.out w5).mono ?_
      rintro e w6 ⟨rfl, hb6⟩
      have HB6 := Lib.hid (HB5.out.trans (hb6.mono HB5.out.size))
      have HM6 := Lib.hid (HM5.out.below hb6)
      clear hb6 HB5 HM5 KR
      go_wp2_with fail
      refine (KP.out w6).mono ?_
      rintro e w7 ⟨rfl, hb7⟩
      have HB7 := Lib.hid (HB6.out.trans (hb7.mono HB6.out.size))
      have HM7 := Lib.hid (HM6.out.below hb7)
      clear hb7 HB6 HM6 KP
      go_wp2_with fail
      refine (used_is HM7.out).mono ?_
      rintro e w8 ⟨rfl, ho8⟩
      have HE8 := Lib.hid (HB7.out.trans (ho8.below HB7.out.size (fun _ h => h.elim)))
      clear ho8 HM7 HB7
      go_wp2_with fail
      go_ret
      exact ⟨rfl, HE8.out⟩
    · have KN := Lib.hid (qnew_full (size := S) (W := W) (P := 28270) hpp HR.out.2 HM4.out HSB.out.1 (by have := HSB.out; omega) hW (by rw [hpn]; rfl) (by omega))
      have HNB := Lib.hid (show 28270 + W ≤ mem by omega)
      have hN2 : W + 28270 = 28270 + W := by omega
      rw [hN2] at KN
      clear hdc hd hW hY hpp hpn hN2
      generalize dictN p = dict at *
      obtain ⟨N, hN⟩ : ∃ N, N = 28270 + W := ⟨_, rfl⟩
      rw [← hN] at hneed KN
      have e2 : IntKind.i64.wrap (28270 + W) = N := (IntWalk.i64_in _ (by have := HSB.out; have := HW.out; omega)).trans hN.symm
      have e3 : wrap64 (28270 + W) = N := e1.trans hN.symm
      clear e1
      have HN := Lib.hid hN
      clear hN
      go_wp2_with fail
      refine KN.out.mono ?_
      rintro e w5 ⟨K, Gw, d, hkm, hkr, hkz, rfl, hL, hM5, ⟨hkg, hkd, hgw⟩, ho5⟩
      subst hkm
      have HB5 := Lib.hid (HB4.out.trans (ho5.below HB4.out.size (by rintro i rfl; exact HMG.out)))
      have HM5 := Lib.hid hM5
      have HB5s := Lib.hid HB5.out.size
      have HL5 := Lib.hid hL
      have HK := Lib.hid (show K.room = 28270 ∧ (K.sz : Int) = W ∧ w.heap.size ≤ K.g ∧ w.heap.size ≤ d ∧ ∀ i, Gw i → w.heap.size ≤ i from ⟨hkr, hkz, Nat.le_trans HB4.out.size hkg, Nat.le_trans HB4.out.size hkd, fun i hi => Nat.le_trans HB4.out.size (hgw i hi)⟩)
      generalize unFs K 4 0 0 dict = fs at *
      generalize List.replicate (1847 + K.nl) 1024 = ps at *
      clear ho5 hM5 hL hkr hkz hkg hkd hgw KN
      go_wp2_with fail
      refine (KR.out w5).mono ?_
      rintro e w6 ⟨rfl, hb6⟩
      have hO6 : Only (fun _ => False) w5 w6 := Only.of_below hb6
      have HB6 := Lib.hid (HB5.out.trans (hb6.mono HB5.out.size))
      have HM6 := Lib.hid (HM5.out.below hb6)
      have HL6 := Lib.hid (HL5.out.calm hO6)
      clear hb6 hO6 HB5 HM5 HL5 KR
      go_wp2_with fail
      refine (KP.out w6).mono ?_
      rintro e w7 ⟨rfl, hb7⟩
      have hO7 : Only (fun _ => False) w6 w7 := Only.of_below hb7
      have HB7 := Lib.hid (HB6.out.trans (hb7.mono HB6.out.size))
      have HM7 := Lib.hid (HM6.out.below hb7)
      have HL7 := Lib.hid (HL6.out.calm hO7)
      clear hb7 hO7 HB6 HM6 HL6 KP
      go_wp2_with fail
      refine (used_is HM7.out).mono ?_
      rintro e w8 ⟨rfl, ho8⟩
      have HL8 := Lib.hid (HL7.out.calm ho8)
      have HM8 := Lib.hid (HM7.out.only ho8 (fun h => h))
      have HB8 := Lib.hid (HB7.out.trans (ho8.below HB7.out.size (fun _ h => h.elim)))
      have KX := Lib.hid (qnext_any HL8.out (fun _ _ => by decide) ⟨Nat.zero_le _, fun h => absurd rfl h⟩ (Nat.zero_le _))
      rw [next_idle] at KX
      clear ho8 HL7 HM7 HB7
      have HF5 := Lib.hid HB5s.out
      generalize w5.heap.size = F at *
      go_wp2_with fail
      refine KX.out.mono ?_
      rintro e w9 ⟨rfl, G9, hL9, hG9, hO9⟩
      have hq9 : ∀ i, qOwn K d F Gw i → w.heap.size ≤ i := by
        rintro i (rfl | rfl | rfl | hi)
        · exact HK.out.2.2.2.1
        · exact HF5.out
        · exact HK.out.2.2.1
        · exact HK.out.2.2.2.2 i hi
      have HM9 := Lib.hid (HM8.out.only hO9 HL8.out.meter)
      have HB9 := Lib.hid (HB8.out.trans (hO9.below HB8.out.size hq9))
      have HG9 := Lib.hid (show ∀ i, G9 i → w.heap.size ≤ i from fun i hi => (hG9 i hi).elim (fun h => HK.out.2.2.2.2 i h) (fun h => Nat.le_trans HB8.out.size h))
      have HL9 := Lib.hid hL9
      have KF := Lib.hid (newFeed_any (c := 1) (sl_z1 w9) (by omega))
      clear hL9 hG9 hO9 hq9 KX HL8 HM8 HB8
      dsimp only [toldV]
      go_wp2_with fail
      refine KF.out.mono ?_
      rintro e w10 ⟨g, rfl, hg, hF10, hb10⟩
      have hsA : (w9.alloc (.cells #[.int .u8 0] 5)).heap.size = w9.heap.size + 1 := by simp
      have hO10 : Only (fun _ => False) w9 w10 := ((Only.refl (fun _ => False) w9).alloc _).then hb10
      have hB10 := HL9.out.rd.blk.only hO10 (fun h => h)
      have hd9 := HL9.out.rd.blk.lt
      have KB := Lib.hid (qbegin_any (o := []) (s := ds0) (f := g) hB10 hF10 rfl (by omega))
      have HX := Lib.hid (And.intro hO10 (And.intro hd9 (show w9.heap.size < g by omega)))
      clear hg hF10 hb10 hsA hO10 hB10 hd9 KF
      go_wp2_with fail
      refine KB.out.mono ?_
      rintro e w11 ⟨rfl, hR11, hO11⟩
      have KE := qfinish_any hR11
      have HO11 := Lib.hid (HX.out.1.mono (S' := fun i => i = d ∨ i = g) (fun _ h => h.elim) |>.trans (hO11.mono fun i hi => .inl hi))
      unfold FinPost at KE
      rw [ends_zero] at KE
      have KE := Lib.hid KE
      clear hR11 hO11 KB
      go_wp2_with fail
      refine KE.out.mono ?_
      rintro e w12 ⟨rfl, q12, hR12, hD12, hO12⟩
      have hO := HO11.out.trans hO12
      have hgt := HL9.out.rz.row.1.lt
      have hbt := HL9.out.rz.row.2.1.lt
      have hmt := HL9.out.rz.mo
      obtain ⟨dg1, dg2, dg3⟩ := HL9.out.dg
      have hz12 := HL9.out.rz.only hO (by have := HX.out.2.2; rintro (e | e) <;> omega) (by have := HX.out.2.2; rintro (e | e) <;> omega) (fun i hi => by have := HX.out.2.2; have := HL9.out.rz.win.old hi; have := (HL9.out.wd i hi).1; rintro (e | e) <;> omega)
      have hM12 := HM9.out.only hO (by have := HX.out.2.2; rintro (e | e) <;> omega)
      have HB12 := Lib.hid (HB9.out.trans (hO.below HB9.out.size (by rintro i (rfl | rfl); exact HK.out.2.2.2.1; have := HX.out.2.2; have := HB9.out.size; omega)))
      have HF1 := fine_pk (pk := N) (m := N) HR.out.2 (by have := HN.out; have := HW.out; omega) (Int.le_refl _) (by have := HN.out; have := HNB.out; omega)
      have HF0 := Lib.hid (fine_pk (pk := N) (m := 0) HR.out.2 (Int.le_refl _) (by have := HN.out; have := HW.out; omega) (by have := HN.out; have := HNB.out; omega))
      have hWN : W + 28270 = N := by have := HN.out; omega
      have KC := close2_one (B := w.heap.size) (W := W) (P := 28270) hR12 hD12.src hz12 HL9.out.dg (fun i hi => (HL9.out.wd i hi).1) HK.out.1 HK.out.2.1 HW.out.2.1 (by omega) (by omega) (by rw [hWN]; exact hM12) (by rw [hWN]; exact HF1) ⟨HK.out.2.2.1, HMG.out, HK.out.2.2.2.1, by have := HX.out.2.2; have := HB9.out.size; omega, HG9.out⟩
      rw [hWN] at KC
      have KC := Lib.hid KC
      clear hO hgt hbt hmt dg1 dg2 dg3 hz12 hM12 HF1 hWN hR12 hD12 hO12 KE
      go_wp2_with fail
      refine KC.out.mono ?_
      rintro e wa ⟨rfl, ⟨fs1, ps1, G1, sd1, hsa⟩, hba⟩
      have HBa := Lib.hid (HB12.out.trans hba)
      have KD := Lib.hid (close2_two hsa (by have := HK.out.2.1; have := HW.out; omega) HF0.out)
      clear hsa hba KC HB12
      go_wp2_with fail
      refine KD.out.mono ?_
      rintro e wb ⟨rfl, ⟨fs2, ps2, G2, sd2, hsb⟩, hbb⟩
      have HBb := Lib.hid (HBa.out.trans hbb)
      have HSb := Lib.hid hsb
      clear hsb hbb KD HBa
      go_wp2_with fail
      refine (used_is HSb.out.mt).mono ?_
      rintro e wd ⟨rfl, hod⟩
      have HBd := Lib.hid (HBb.out.trans (hod.below HBb.out.size (fun _ h => h.elim)))
      have KY := Lib.hid (fin2 (HSb.out.quiet hod))
      clear hod HSb HBb
      go_wp2_with fail
      refine KY.out.mono ?_
      rintro e we ⟨rfl, hbe⟩
      have HE := Lib.hid (HBd.out.trans hbe)
      clear hbe KY HBd
      go_wp2_with fail
      go_ret
      exact ⟨rfl, HE.out⟩
  · have hdc : dictC p = 11 := by unfold dictC; rw [if_pos (by omega)]
    rw [hdc] at KR
    have KN := Lib.hid (qnew_props (size := S) (v := .pointer (some ⟨m, 0, none⟩)) (show 40 < p by omega) hp w4)
    have KU := Lib.hid (fun (W' : World) (h : Below w4.heap.size w4 W') => used_is (HM4.out.below h))
    clear hdc hpp hp hpn
    generalize dictN p = dict at *
    go_wp2_with fail
    refine KN.out.mono ?_
    rintro e w5 ⟨rfl, rfl⟩
    clear KN
    go_wp2_with fail
    refine (KR.out w4).mono ?_
    rintro e w6 ⟨rfl, hb6⟩
    have HB6 := Lib.hid (HB4.out.trans (hb6.mono HB4.out.size))
    have KU := Lib.hid (KU.out w6 hb6)
    clear hb6 KR
    go_wp2_with fail
    refine KU.out.mono ?_
    rintro e w7 ⟨rfl, ho7⟩
    have HE7 := Lib.hid (HB6.out.trans (ho7.below HB6.out.size (fun _ h => h.elim)))
    clear ho7 KU HB6
    go_wp2_with fail
    go_ret
    exact ⟨rfl, HE7.out⟩
end Go.Proofs.YtdhhibfppcpieaaGreatDoor
