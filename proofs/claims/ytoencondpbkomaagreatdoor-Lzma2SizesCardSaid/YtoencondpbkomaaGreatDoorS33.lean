/-
  LwNew, LwClose: put together.
-/
import Derived.Test.YtoencondpbkomaaGreatDoorS32
import Derived.Laws.MakeOwn
import Derived.Defers
import Derived.BigQuiet
set_option linter.unusedVariables false
set_option linter.unusedSimpArgs false
/-
  The program's decoder of LZMA: a new one.
-/
namespace Go.Proofs.YtoencondpbkomaaGreatDoor
open Go.RowKit

/-- A decoder that has begun nothing. -/
structure Un (K : Kon) (w : World) (Gw : Nat → Prop) (lc lp pb dict : Nat) : Prop where
  row : Rk K (unFs K lc lp pb dict) w (List.replicate (1847 + K.nl) 1024)
  win : Pwin w K.wg Gw K.m ⟨K.sz, [], false⟩
  gn : K.g ≠ K.lb
  mg : K.m ≠ K.g
  mb : K.m ≠ K.lb
  wd : ∀ i, Gw i → i ≠ K.g ∧ i ≠ K.lb ∧ i ≠ K.m ∧ i < w.heap.size
  nc : K.nc = K.nl
  sd : K.sd = (dict : Int)
def NewPost (w : World) (m : Nat) (q : Quo) (t : Tel) (lc lp pb dict : Nat) (size : Int) (e : Ending) (w' : World) : Prop :=
  ∃ (K : Kon) (Gw : Nat → Prop), K.m = m ∧ K.room = 2 * (probsN lc lp : Int) ∧ K.sz = (max (min (dict : Int) size) 1).toNat ∧ K.nl = 768 * 2 ^ (lc + lp) ∧ e = .returned (.tuple #[.pointer (some ⟨K.g, 0, none⟩), .int .i64 0]) ∧
    Un K w' Gw lc lp pb dict ∧ MeterAt w' 83 m q ((t.doMem q (max (min (dict : Int) size) 1)).doMem q (2 * (probsN lc lp : Int))) ∧ (w.heap.size ≤ K.g ∧ w.heap.size ≤ K.lb ∧ ∀ i, Gw i → w.heap.size ≤ i) ∧ Only (fun i => i = m) w w'

set_option maxRecDepth 100000 in
set_option maxHeartbeats 2000000 in
theorem pprobs_any {lc lp pb dict : Nat} (h : SetOk lc lp pb dict) (w : World) : Calls Tryz.prog 65 #[.agg #[.int .i64 (lc : Int), .int .i64 (lp : Int), .int .i64 (pb : Int), .int .i64 (dict : Int)]] w fun e w' => e = .returned (.int .i64 (probsN lc lp : Int)) ∧ Below w.heap.size w w' := by
  obtain ⟨w1, hw1⟩ : ∃ w1, w1 = w.alloc (.cells #[.int .i64 (lc : Int), .int .i64 (lp : Int), .int .i64 (pb : Int), .int .i64 (dict : Int)] 40) := ⟨_, rfl⟩
  have hb1 : Below w.heap.size w w1 := by rw [hw1]; exact (Below.refl _ _).alloc (Nat.le_refl _) _
  have HBk : Blk w1 w.heap.size 40 #[.int .i64 (lc : Int), .int .i64 (lp : Int), .int .i64 (pb : Int), .int .i64 (dict : Int)] := by rw [hw1]; exact Blk.fresh w _ _
  have KM := pmay_any (lc : Int) (lp : Int) (pb : Int) (dict : Int) w1
  rw [setOk_may h] at KM
  have KM := Lib.hid KM
  have KL := fun w => plits_any (lc := lc) (lp := lp) (pb : Int) (dict : Int) (by have := h.1; have := h.2.1; omega) w
  have hp := (probsN_is h).2.1
  obtain ⟨y, hy⟩ : ∃ y, y = 768 * 2 ^ (lc + lp) := ⟨_, rfl⟩
  have hpn : probsN lc lp = 1847 + y := by unfold probsN; rw [hy]
  rw [← hy] at KL
  rw [hpn] at hp ⊢
  have KL := Lib.hid KL
  have e1 : IntKind.i64.wrap (1847 + (y : Int)) = ((1847 + y : Nat) : Int) := by rw [show 1847 + (y : Int) = ((1847 + y : Nat) : Int) by omega]; exact IntWalk.i64_in _ (by omega)
  obtain ⟨r, hr⟩ : ∃ r, r = 1847 + y := ⟨_, rfl⟩
  rw [← hr] at e1 ⊢
  have c0 : w1.cell? ⟨w.heap.size, 0, none⟩ = some (.int .i64 (lc : Int)) := HBk.cell 0
  have c1 : w1.cell? ⟨w.heap.size, 1, none⟩ = some (.int .i64 (lp : Int)) := HBk.cell 1
  have c2 : w1.cell? ⟨w.heap.size, 2, none⟩ = some (.int .i64 (pb : Int)) := HBk.cell 2
  have c3 : w1.cell? ⟨w.heap.size, 3, none⟩ = some (.int .i64 (dict : Int)) := HBk.cell 3
  have HW1 := Lib.hid hw1
  have HB1 := Lib.hid hb1
  have HBK := Lib.hid HBk
  clear hw1 hb1 HBk h hp hy hpn hr
  go_enter Tryz.func65, Tryz.ntmps65
  go_upto_region 1 with fail
  rw [← HW1.out]
  clear HW1
  go_wp2_with fail
  refine KM.out.mono ?_
  rintro e w2 ⟨rfl, hb2⟩
  have hk2 : Blk w2 w.heap.size 40 #[.int .i64 (lc : Int), .int .i64 (lp : Int), .int .i64 (pb : Int), .int .i64 (dict : Int)] := HBK.out.below hb2
  have d0 : w2.cell? ⟨w.heap.size, 0, none⟩ = some (.int .i64 (lc : Int)) := hk2.cell 0
  have d1 : w2.cell? ⟨w.heap.size, 1, none⟩ = some (.int .i64 (lp : Int)) := hk2.cell 1
  have d2 : w2.cell? ⟨w.heap.size, 2, none⟩ = some (.int .i64 (pb : Int)) := hk2.cell 2
  have d3 : w2.cell? ⟨w.heap.size, 3, none⟩ = some (.int .i64 (dict : Int)) := hk2.cell 3
  have HB2 := Lib.hid (HB1.out.trans ⟨hb2.os, hb2.tape, hb2.output, hb2.size, fun i hi => hb2.block i (Nat.lt_of_lt_of_le hi HB1.out.size)⟩)
  clear hb2 hk2 KM c0 c1 c2 c3 HB1
  go_wp2_with fail
  refine (KL.out _).mono ?_
  rintro e w3 ⟨rfl, hb3⟩
  have HB3 := Lib.hid (HB2.out.trans ⟨hb3.os, hb3.tape, hb3.output, hb3.size, fun i hi => hb3.block i (Nat.lt_of_lt_of_le hi HB2.out.size)⟩)
  clear hb3 KL d0 d1 d2 d3
  go_wp2_with fail
  go_ret
  exact ⟨rfl, HB3.out⟩

set_option maxRecDepth 1000000 in
theorem zeroCells_chk : chk 0 Tryz.zeroCells150.toList = true := by kernel_rfl
theorem zero_link : Tryz.zeroCells150 = zOf Tryz.prog 150 := by
  have hs : Tryz.zeroCells150.size = 1866 := by
    have := (chk_sound _ _ zeroCells_chk).1
    rw [Array.length_toList] at this
    omega
  have hg : ∀ i, i < 1866 → Tryz.zeroCells150[i]? = some (vk (zk i)) := by
    intro i h
    have := (chk_sound _ _ zeroCells_chk).2 i (by rw [Array.length_toList, hs]; exact h)
    rw [Nat.zero_add, Array.getElem?_toList] at this
    exact this
  apply Array.ext_getElem?
  intro i
  by_cases h : i < 1866
  · rw [hg i h, zero_get i h]
  · rw [Array.getElem?_eq_none (by omega), Array.getElem?_eq_none (by rw [zero_size]; omega)]

theorem made_row (w : World) (n : Nat) (h : n ≤ 1000000) : Row (w.alloc (.cells (madeCells #[Value.int .u16 0] n) 35)) w.heap.size (List.replicate n 0) n := by
  have hm := madeNums n
  have hl : (madeCells #[Value.int .u16 0] n).size = n := by
    have := congrArg List.length hm
    rw [Array.length_toList, pv_length, List.length_replicate] at this
    exact this
  unfold Row
  rw [List.length_replicate]
  refine ⟨by simp [pv_length], .inr ⟨w.heap.size, n, madeCells #[Value.int .u16 0] n, rfl, Nat.zero_le _, heap_alloc_new w _, Nat.le_refl _, by unfold maxLen; omega, by omega, ?_⟩⟩
  rw [Nat.mul_one, ← hm]
  exact List.take_of_length_le (by rw [Array.length_toList, hl]; exact Nat.le_refl _)

set_option maxRecDepth 100000 in
set_option maxHeartbeats 8000000 in
theorem lnew_any {w : World} {m lc lp pb dict : Nat} {q : Quo} {t : Tel} {size : Int} (h : SetOk lc lp pb dict) (h6 : lc + lp ≤ 6) (hM : MeterAt w 83 m q t) (hF : Fine q t) (h0 : -9223372036854775808 ≤ size) (h1 : size ≤ 1048576)
    (hf1 : fits t.code t.mem q.mem (max (min (dict : Int) size) 1)) (hf2 : fits (t.doMem q (max (min (dict : Int) size) 1)).code (t.doMem q (max (min (dict : Int) size) 1)).mem q.mem (2 * (probsN lc lp : Int))) :
    Calls Tryz.prog 38 #[.agg #[.int .i64 (lc : Int), .int .i64 (lp : Int), .int .i64 (pb : Int), .int .i64 (dict : Int)], .int .i64 size, .pointer (some ⟨m, 0, none⟩)] w (NewPost w m q t lc lp pb dict size) := by
  obtain ⟨i, hi, hz0, hz1, hz2⟩ := info_parts info_u16
  have hnlN := lits_small (k := lc + lp) (by omega)
  have hnl6 : 768 * 2 ^ (lc + lp) ≤ 1000000 := Nat.le_trans (Nat.mul_le_mul_left 768 (Nat.pow_le_pow_right (by decide) h6)) (by decide)
  have hpn := (probsN_is h).2.1
  have hprob : probsN lc lp = 1847 + 768 * 2 ^ (lc + lp) := rfl
  obtain ⟨nl, hnl⟩ : ∃ nl, nl = 768 * 2 ^ (lc + lp) := ⟨_, rfl⟩
  obtain ⟨w1, hw1⟩ : ∃ w1, w1 = w.alloc (.cells #[.int .i64 (lc : Int), .int .i64 (lp : Int), .int .i64 (pb : Int), .int .i64 (dict : Int)] 40) := ⟨_, rfl⟩
  have hO1 : Only (fun i => i = m) w w1 := by rw [hw1]; exact (Only.refl _ w).alloc _
  have HBk : Blk w1 w.heap.size 40 #[.int .i64 (lc : Int), .int .i64 (lp : Int), .int .i64 (pb : Int), .int .i64 (dict : Int)] := by rw [hw1]; exact Blk.fresh w _ _
  have hM1 : MeterAt w1 83 m q t := by rw [hw1]; exact hM.alloc _
  have hmB : m < w.heap.size := hM.lt
  have KM := pmay_any (lc : Int) (lp : Int) (pb : Int) (dict : Int) w1
  rw [setOk_may h] at KM
  have KM := Lib.hid KM
  have KL := fun w => plits_any (lc := lc) (lp := lp) (pb : Int) (dict : Int) (by omega) w
  rw [← hnl] at KL hnl6 hprob
  have KL := Lib.hid KL
  have KP := Lib.hid (fun w => pprobs_any h w)
  obtain ⟨n, hn⟩ : ∃ n, n = min (dict : Int) size := ⟨_, rfl⟩
  rw [← hn] at hf1 hf2
  have hd32 := h.2.2.2
  have hn1 : n ≤ 1048576 := by omega
  have hn0 : -9223372036854775808 ≤ n := by omega
  have HW1 := Lib.hid hw1
  have HO1 := Lib.hid hO1
  have HBK := Lib.hid HBk
  have HM1 := Lib.hid hM1
  have HH := Lib.hid (And.intro h (And.intro hF (And.intro hf1 (And.intro hf2 (And.intro hn (And.intro hnl hnl6))))))
  have HNB := Lib.hid (And.intro hn0 (And.intro hn1 hmB))
  obtain ⟨P, hP⟩ : ∃ P, P = probsN lc lp := ⟨_, rfl⟩
  rw [← hP] at KP
  have e1 : IntKind.i64.wrap (2 * (P : Int)) = 2 * (P : Int) := IntWalk.i64_in _ (by omega)
  have HP := Lib.hid hP
  have c0 : w1.cell? ⟨w.heap.size, 0, none⟩ = some (.int .i64 (lc : Int)) := HBk.cell 0
  have c1 : w1.cell? ⟨w.heap.size, 1, none⟩ = some (.int .i64 (lp : Int)) := HBk.cell 1
  have c2 : w1.cell? ⟨w.heap.size, 2, none⟩ = some (.int .i64 (pb : Int)) := HBk.cell 2
  have c3 : w1.cell? ⟨w.heap.size, 3, none⟩ = some (.int .i64 (dict : Int)) := HBk.cell 3
  have hmk : ∀ W : World, (Instr.makeSlice 62 (.int .i64 (nl : Int)) (.int .i64 (nl : Int))).run Tryz.prog W = .ok (.slice (some ⟨W.heap.size, 0, none⟩) nl nl) (W.alloc (.cells (madeCells #[Value.int .u16 0] nl) 35)) := by
    intro W
    have := run_make (P := Tryz.prog) W 62 35 i (.int .u16 0) Tryz.underlying62 hi hz0 .i64 .i64 (nl : Int) (nl : Int) (by omega) (Int.le_refl _) (by rw [hz2]; omega) (by omega)
    rw [hz1, Int.toNat_natCast, Nat.mul_one] at this
    exact this
  clear hw1 hO1 HBk hM1 h hF hf1 hf2 hn hnl hnl6 hn0 hn1 hmB hM h0 h1 hd32 hnlN hpn hprob hP hi hz0 hz1 hz2 h6
  go_enter Tryz.func38, Tryz.ntmps38
  go_upto_region 1 with fail
  rw [← HW1.out]
  clear HW1
  generalize hB : w.heap.size = B at *
  go_wp2_with fail
  refine KM.out.mono ?_
  rintro e w2 ⟨rfl, hb2⟩
  have hk2 := HBK.out.below hb2
  have d3 : w2.cell? ⟨B, 3, none⟩ = some (.int .i64 (dict : Int)) := hk2.cell 3
  have HK2 := Lib.hid hk2
  have HO2 := Lib.hid (HO1.out.then hb2)
  have HM2 := Lib.hid (HM1.out.below hb2)
  have KW := wnew7_any (n := n) HM2.out HH.out.2.1 HNB.out.1 HNB.out.2.1 HH.out.2.2.1
  have hnn : min (dict : Int) size = n := HH.out.2.2.2.2.1.symm
  have KW := Lib.hid KW
  clear hb2 hk2 KM c0 c1 c2 c3 HBK HM1 HO1
  go_wp2_with fail
  refine KW.out.mono ?_
  rintro e w3 ⟨g, G, rfl, hP3, hM3, hGn, hO3⟩
  have hBm : B ≠ m := by have := HNB.out.2.2; omega
  have hk3 := HK2.out.only hO3 hBm
  have d0 : w3.cell? ⟨B, 0, none⟩ = some (.int .i64 (lc : Int)) := hk3.cell 0
  have d1 : w3.cell? ⟨B, 1, none⟩ = some (.int .i64 (lp : Int)) := hk3.cell 1
  have d2 : w3.cell? ⟨B, 2, none⟩ = some (.int .i64 (pb : Int)) := hk3.cell 2
  have d3' : w3.cell? ⟨B, 3, none⟩ = some (.int .i64 (dict : Int)) := hk3.cell 3
  have HK3 := Lib.hid hk3
  have HO3 := Lib.hid (HO2.out.trans hO3)
  have HM3 := Lib.hid hM3
  have HW3 := Lib.hid hP3
  have HGN := Lib.hid (And.intro hGn hO3)
  clear hP3 hM3 hGn hO3 hk3 KW HK2 HM2 hnn d3
  go_wp2_with fail
  refine (KP.out w3).mono ?_
  rintro e w4 ⟨rfl, hb4⟩
  have hO4 : Only (fun _ => False) w3 w4 := Only.of_below hb4
  have HO4 := Lib.hid (HO3.out.then hb4)
  have HM4 := Lib.hid (HM3.out.below hb4)
  have HW4 := Lib.hid (HW3.out.only hO4 (fun _ _ h => h))
  have HK4 := Lib.hid (HK3.out.below hb4)
  have HG4 := Lib.hid (show ∀ i, G i → i < w4.heap.size from fun i hi => Nat.lt_of_lt_of_le (HW3.out.old hi) hb4.size)
  have KQ := mem_any HM4.out (HH.out.2.1.mem _) (2 * (P : Int))
  have hfit : decide (fits (t.doMem q (max n 1)).code (t.doMem q (max n 1)).mem q.mem (2 * (P : Int))) = true := by rw [HP.out]; exact decide_eq_true HH.out.2.2.2.1
  rw [hfit] at KQ
  have KQ := Lib.hid KQ
  clear hb4 hO4 HO3 HM3 HK3 KP d0 d1 d2 d3' hfit
  go_wp2_with fail
  refine KQ.out.mono ?_
  rintro e w5 ⟨rfl, hM5, hg5⟩
  have hO5 : Only (fun i => i = m) w4 w5 := Only.of_grown hg5 rfl
  have hk5 := HK4.out.only hO5 hBm
  have d0 : w5.cell? ⟨B, 0, none⟩ = some (.int .i64 (lc : Int)) := hk5.cell 0
  have d1 : w5.cell? ⟨B, 1, none⟩ = some (.int .i64 (lp : Int)) := hk5.cell 1
  have d2 : w5.cell? ⟨B, 2, none⟩ = some (.int .i64 (pb : Int)) := hk5.cell 2
  have d3 : w5.cell? ⟨B, 3, none⟩ = some (.int .i64 (dict : Int)) := hk5.cell 3
  have HK5 := Lib.hid hk5
  have HM5 := Lib.hid hM5
  have hGm : ∀ i, G i → i ≠ m := fun i hi => by
    have := HGN.out.1 i hi
    have := HO2.out.size
    have := HNB.out.2.2
    omega
  have HW5 := Lib.hid (HW4.out.only hO5 (fun i hi => hGm i hi))
  have HO5 := Lib.hid (HO4.out.trans hO5)
  have HG5 := Lib.hid (show ∀ i, G i → i < w5.heap.size from fun i hi => Nat.lt_of_lt_of_le (HG4.out i hi) hO5.size)
  have HGM := Lib.hid hGm
  clear hM5 hg5 hO5 hk5 hGm KQ HK4 HM4 HW4 HO4 HG4 HW3
  go_wp2_with fail
  refine (KL.out w5).mono ?_
  rintro e w6 ⟨rfl, hb6⟩
  have hO6 : Only (fun _ => False) w5 w6 := Only.of_below hb6
  have hk6 := HK5.out.below hb6
  have d0 : w6.cell? ⟨B, 0, none⟩ = some (.int .i64 (lc : Int)) := hk6.cell 0
  have d1 : w6.cell? ⟨B, 1, none⟩ = some (.int .i64 (lp : Int)) := hk6.cell 1
  have d2 : w6.cell? ⟨B, 2, none⟩ = some (.int .i64 (pb : Int)) := hk6.cell 2
  have d3 : w6.cell? ⟨B, 3, none⟩ = some (.int .i64 (dict : Int)) := hk6.cell 3
  have HM6 := Lib.hid (HM5.out.below hb6)
  have HW6 := Lib.hid (HW5.out.only hO6 (fun _ _ h => h))
  have HO6 := Lib.hid (HO5.out.then hb6)
  have HG6 := Lib.hid (show ∀ i, G i → i < w6.heap.size from fun i hi => Nat.lt_of_lt_of_le (HG5.out i hi) hb6.size)
  have HK6 := Lib.hid hk6
  clear hb6 hO6 hk6 HK5 HM5 HW5 HO5 HG5
  go_upto_region 11 with fail
  obtain ⟨lb, hlb⟩ : ∃ lb, lb = w6.heap.size := ⟨_, rfl⟩
  obtain ⟨cs, hcs⟩ : ∃ cs, cs = (((Tryz.zeroCells150.setIfInBounds 6 (Value.pointer (some ⟨g, 0, none⟩))).setIfInBounds 7 (Value.pointer (some ⟨m, 0, none⟩))).setIfInBounds 8 (Value.int .i64 (2 * (P : Int)))).setIfInBounds 1862 (Value.slice (some ⟨w6.heap.size, 0, none⟩) nl nl) := ⟨_, rfl⟩
  obtain ⟨w7, hw7⟩ : ∃ w7, w7 = w6.alloc (.cells (madeCells #[Value.int .u16 0] nl) 35) := ⟨_, rfl⟩
  have hs7 : w7.heap.size = lb + 1 := by rw [hw7, hlb]; simp
  obtain ⟨w8, hw8⟩ : ∃ w8, w8 = w7.alloc (.cells cs 150) := ⟨_, rfl⟩
  have hrow8 : Row w8 lb (List.replicate nl 0) nl := by
    have h1 := made_row w6 nl HH.out.2.2.2.2.2.2
    rw [← hw7, ← hlb] at h1
    rw [hw8]
    exact h1.only ((Only.refl (fun _ => False) w7).alloc _) (fun h => h)
  have hblk8 : Blk w8 (lb + 1) 150 cs := by
    rw [hw8, ← hs7]
    exact Blk.fresh w7 _ _
  have hO8 : Only (fun _ => False) w6 w8 := by rw [hw8, hw7]; exact ((Only.refl _ w6).alloc _).alloc _
  obtain ⟨K, hK⟩ : ∃ K : Kon, K = ⟨lb + 1, lb, nl, g, m, 0, ⟨0, fun _ _ _ => True, fun _ => False, fun _ => False⟩, [], 2 * (P : Int), (max n 1).toNat, nl, (dict : Int)⟩ := ⟨_, rfl⟩
  have kg : K.g = lb + 1 := by rw [hK]
  have kb : K.lb = lb := by rw [hK]
  have kn : K.nl = nl := by rw [hK]
  have km : K.m = m := by rw [hK]
  have kw : K.wg = g := by rw [hK]
  have kr : K.room = 2 * (P : Int) := by rw [hK]
  have kz : K.sz = (max n 1).toNat := by rw [hK]
  have kc : K.nc = nl := by rw [hK]
  have kd : K.sd = (dict : Int) := by rw [hK]
  have hmB6 : m < lb := by
    have h1 := HM6.out.lt
    omega
  have hGlb : ∀ i, G i → i < lb := fun i hi => by rw [hlb]; exact HG6.out i hi
  have hrk : Rk K (unFs K 0 0 0 0) w8 (List.replicate (1847 + K.nl) 0) := by
    refine ⟨?_, ?_, by simp⟩
    · refine made_at ?_
      rw [kg, kw, km, kr, kb, kn]
      rw [hcs, ← hlb, zero_link] at hblk8
      exact hblk8
    · have : (List.replicate (1847 + K.nl) 0).drop 1847 = List.replicate nl 0 := by rw [List.drop_replicate, kn]; congr 1; omega
      rw [this, kb, kc]
      exact ⟨[], by rw [List.append_nil]; exact hrow8, by rw [List.append_nil, List.length_replicate]⟩
  have KR := preset_any (K := K) (lc := lc) (lp := lp) (pb := pb) (d := (dict : Int)) (by rw [kg, kb]; omega) HH.out.1.1 HH.out.1.2.1 HH.out.1.2.2.1 (by rw [kn]; exact HH.out.2.2.2.2.2.1) (by rw [kn]; exact HH.out.2.2.2.2.2.2) hrk
  rw [kg] at KR
  have KR := Lib.hid KR
  have hk8 := HK6.out.only hO8 (fun h => h)
  have d0 : w8.cell? ⟨B, 0, none⟩ = some (.int .i64 (lc : Int)) := hk8.cell 0
  have d1 : w8.cell? ⟨B, 1, none⟩ = some (.int .i64 (lp : Int)) := hk8.cell 1
  have d2 : w8.cell? ⟨B, 2, none⟩ = some (.int .i64 (pb : Int)) := hk8.cell 2
  have d3 : w8.cell? ⟨B, 3, none⟩ = some (.int .i64 (dict : Int)) := hk8.cell 3
  have HX8 := Lib.hid (And.intro (HM6.out.only hO8 (fun h => h)) (And.intro (HW6.out.only hO8 (fun _ _ h => h)) (And.intro (HO6.out.trans (hO8.mono fun _ h => h.elim)) (And.intro hmB6 hGlb))))
  have HKC := Lib.hid (And.intro (kc.trans kn.symm) kd)
  have HKK := Lib.hid (And.intro kg (And.intro kb (And.intro kn (And.intro km (And.intro kw (And.intro kr kz))))))
  have HG8x := Lib.hid (show ∀ i, G i → i < w8.heap.size from fun i hi => Nat.lt_of_lt_of_le (HG6.out i hi) hO8.size)
  have HS8 := Lib.hid (show lb = w6.heap.size ∧ w.heap.size ≤ w6.heap.size from ⟨hlb, HO6.out.size⟩)
  rw [← hcs, ← hw7, ← hw8, ← hlb]
  clear hrk hrow8 hblk8 hO8 hk8 hw8 hw7 hs7 hcs kg kb kn km kw kr kz kc kd hK hmB6 hGlb HM6 HW6 HO6 HG6 HK6 hlb hmk
  go_wp2_with fail
  refine KR.out.mono ?_
  rintro e w9 ⟨rfl, hR9, hO9⟩
  have HR9 := Lib.hid (And.intro hR9 hO9)
  clear hR9 hO9 KR d0 d1 d2 d3
  go_wp2_with fail
  go_ret2
  obtain ⟨hM8, hW8, hOn8, hmB8, hG8⟩ := HX8.out
  obtain ⟨kg, kb, kn, km, kw, kr, kz⟩ := HKK.out
  obtain ⟨hR9, hO9⟩ := HR9.out
  obtain ⟨hh, hF, hf1, hf2, hn, hnl, hnl6⟩ := HH.out
  obtain ⟨hs8, hs0⟩ := HS8.out
  have hlt : ∀ i, G i → ¬ K.Bk i := by
    intro i hi hb
    have := hG8 i hi
    rcases hb with hb | hb
    · rw [kg] at hb; omega
    · rw [kb] at hb; omega
  have hmK : ¬ K.Bk m := by
    intro hb
    rcases hb with hb | hb
    · rw [kg] at hb; omega
    · rw [kb] at hb; omega
  have hP : P = probsN lc lp := HP.out
  subst hP
  have hW9 := hW8.only hO9 hlt
  have hO := hOn8.trans' hO9 (fun i hi => .inr (by
    rcases hi with hi | hi
    · rw [kg] at hi; omega
    · rw [kb] at hi; omega))
  have hgw := hO9.size
  have hg9 : ∀ i, G i → i < w9.heap.size := fun i hi => by
    have h1 := HG8x.out i hi
    omega
  refine ⟨K, G, km, kr, ?_, ?_, ?_, ⟨hR9, ?_, ?_, ?_, ?_, ?_, HKC.out.1, HKC.out.2⟩, ?_, ⟨?_, ?_, ?_⟩, hO⟩
  · rw [kz, hn]
  · rw [kn, hnl]
  · rw [kg]; rfl
  · rw [kw, km, kz]; exact hW9
  · rw [kg, kb]; omega
  · rw [km, kg]; omega
  · rw [km, kb]; omega
  · intro i hi
    have h1 := hG8 i hi
    have h2 := HGM.out i hi
    exact ⟨by rw [kg]; omega, by rw [kb]; omega, by rw [km]; exact h2, hg9 i hi⟩
  · rw [← hn]; exact hM8.only hO9 hmK
  · rw [kg]; omega
  · rw [kb]; omega
  · intro i hi
    have h1 := HGN.out.1 i hi
    have h2 := HO2.out.size
    omega
end Go.Proofs.YtoencondpbkomaaGreatDoor

/-
  The program's decoder of LZMA is closed: called, or deferred.
-/
namespace Go.Proofs.YtoencondpbkomaaGreatDoor
open Go.RowKit

theorem both_of_wp {P : Program} {f : FuncId} {fn : Func} {c : Code} {args : Array Value} {w : World} {R : Ending → World → Prop}
    (hf : P.funcs[f]? = some fn) (hb : fn.body = some c)
    (h : c.wp P (bodyPost P fn R) { tmps := args ++ Array.replicate (fn.ntmps - args.size) undef, defers := [] } w) :
    Calls P f args w R ∧ ∀ u, CallsD P f args u w fun e u' w' => u' = u ∧ R e w' := ⟨calls_of_wp hf hb h, fun _ => callsD_of_wp hf hb h⟩

theorem LzAt.len {w : World} {g : Nat} {fs : List Value} {ps : List Nat} (h : LzAt w g fs ps) : fs.length = 19 := by
  obtain ⟨_, _, _, h, _⟩ := h
  exact h
/-- the fields of a closed one -/
def shutFs (fs : List Value) : List Value := (((fs.set 8 (.int .i64 0)).set 15 (.slice none 0 0)).set 4 .nilIface).set 5 (.pointer none)
def ClosePost (g wg m : Nat) (fs : List Value) (ps : List Nat) (Gw : Nat → Prop) (s : Ws) (q : Quo) (t : Tel) (room : Int) (w : World) (e : Ending) (w' : World) : Prop :=
  e = .returned (.tuple #[]) ∧ ∃ G', LzAt w' g (shutFs fs) ps ∧ Pwin w' wg G' m s.close ∧ MeterAt w' 83 m q ((if s.shut = true then t else t.doFree (s.sz : Int)).doFree room) ∧ (∀ i, G' i → Gw i ∨ w.heap.size ≤ i) ∧ Only (fun i => Gw i ∨ i = m ∨ i = g) w w'

set_option maxRecDepth 100000 in
set_option maxHeartbeats 4000000 in
theorem lclose_any {w : World} {g wg m : Nat} {fs : List Value} {ps : List Nat} {Gw : Nat → Prop} {s : Ws} {q : Quo} {t : Tel} {room : Int} (hD : LzAt w g fs ps) (h6 : fs[6]? = some (.pointer (some ⟨wg, 0, none⟩))) (h7 : fs[7]? = some (.pointer (some ⟨m, 0, none⟩))) (h8 : fs[8]? = some (.int .i64 room))
    (hr : room ≤ 9223372036854775807) (hW : Pwin w wg Gw m s) (hz : s.sz ≤ 1048576) (hM : MeterAt w 83 m q t) (hF : Fine q t) (hm : ¬ Gw m) (hg : ¬ Gw g) (hmg : m ≠ g) :
    Calls Tryz.prog 39 #[.pointer (some ⟨g, 0, none⟩)] w (ClosePost g wg m fs ps Gw s q t room w) ∧
    ∀ u, CallsD Tryz.prog 39 #[.pointer (some ⟨g, 0, none⟩)] u w fun e u' w' => u' = u ∧ ClosePost g wg m fs ps Gw s q t room w e w' := by
  have c6 : w.cell? ⟨g, 6, none⟩ = some (.pointer (some ⟨wg, 0, none⟩)) := by
    rw [show (6 : Nat) = fat 6 from rfl, hD.cell 6 (by decide)]
    simp [h6]
  have KW := Lib.hid (wclose_any hW hz hM hF hm)
  have HM0 := Lib.hid hM.lt
  have HH := Lib.hid (And.intro hD (And.intro h7 (And.intro h8 (And.intro hr (And.intro hF (And.intro hm (And.intro hg hmg)))))))
  clear hD h6 h7 h8 hr hW hz hM hF hm hg hmg
  refine both_of_wp Tryz.func39 rfl ?_
  simp only [Tryz.ntmps39, List.size_toArray, List.length_cons, List.length_nil, Nat.reduceAdd, Nat.reduceSub, Array.replicate_succ, Array.replicate_zero, List.push_toArray, List.append_toArray, List.nil_append, List.cons_append]
  go_wp2_with fail
  refine KW.out.mono ?_
  rintro e w1 ⟨rfl, G1, hW1, hM1, hG1, hO1⟩
  obtain ⟨hD, h7, h8, hr, hF, hm, hg, hmg⟩ := HH.out
  have hng : ¬ (Gw g ∨ g = m) := by
    rintro (h | h)
    · exact hg h
    · exact hmg h.symm
  have hD1 := hD.only hO1 hng
  have c7 : w1.cell? ⟨g, 7, none⟩ = some (.pointer (some ⟨m, 0, none⟩)) := by
    rw [show (7 : Nat) = fat 7 from rfl, hD1.cell 7 (by decide)]
    simp [h7]
  have c8 : w1.cell? ⟨g, 8, none⟩ = some (.int .i64 room) := by
    rw [show (8 : Nat) = fat 8 from rfl, hD1.cell 8 (by decide)]
    simp [h8]
  have hgs : g < w.heap.size := hD.lt
  have hmG1 : ¬ G1 m := fun h => by
    rcases hG1 m h with h | h
    · exact hm h
    · have := hM1.lt
      have h2 := HM0.out
      omega
  have hF1 : Fine q (if s.shut = true then t else t.doFree (s.sz : Int)) := by
    split
    · exact hF
    · exact hF.free _
  have KF := Lib.hid (free_any (w := w1.drew) (hM1.drewN 1) hF1 room hr)
  have HX := Lib.hid (And.intro hD1 (And.intro hW1 (And.intro hG1 (And.intro hO1 hmG1))))
  have hmg2 : g ≠ m := fun e => hmg e.symm
  have HS := Lib.hid (fun (W : World) (hW : Only (fun i => i = m) w1 W) => (show W.cell? ⟨g, 7, none⟩ = some (.pointer (some ⟨m, 0, none⟩)) ∧ W.cell? ⟨g, 8, none⟩ = some (.int .i64 room) from
    have hk := hD1.only hW hmg2
    ⟨by rw [show (7 : Nat) = fat 7 from rfl, hk.cell 7 (by decide)]; simp [h7], by rw [show (8 : Nat) = fat 8 from rfl, hk.cell 8 (by decide)]; simp [h8]⟩))
  clear hW1 hM1 hG1 hO1 hD h7 h8 hr hF hm hg hng hD1 hgs hmG1 hF1 KW c6 hmg hmg2
  go_wp2_with fail
  go_region_held3 (fun w' => w'.cell? ⟨g, 7, none⟩ = some (.pointer (some ⟨m, 0, none⟩)) ∧ w'.cell? ⟨g, 8, none⟩ = some (.int .i64 room))
    (first | assumption | go_keep | exact ⟨c7, c8⟩ | exact HS.out _ HO2.out)
    (first
      | (go_at_call 71; refine KF.out.mono ?_; rintro e w2 ⟨rfl, hM2, hg2⟩; have HO2 := Lib.hid (show Only (fun i => i = m) w1 w2 from ((Only.refl (fun i => i = m) w1).drew).trans (Only.of_grown hg2 rfl)); have HM2 := Lib.hid hM2; clear hM2 hg2))
  have hD2 : LzAt w2 g fs ps := HX.out.1.only HO2.out (fun e => HH.out.2.2.2.2.2.2.2 e.symm)
  have a1 := hD2.cell 8 (by decide)
  have a2 := hD2.cell 15 (by decide)
  have a3 := hD2.cell 4 (by decide)
  have a4 := hD2.cell 5 (by decide)
  obtain ⟨u8, b8⟩ : ∃ u, w2.cell? ⟨g, 8, none⟩ = some u := ⟨_, a1.trans (List.getElem?_eq_getElem (by have := hD2.len; omega))⟩
  obtain ⟨u15, b15⟩ : ∃ u, w2.cell? ⟨g, 1862, none⟩ = some u := ⟨_, a2.trans (List.getElem?_eq_getElem (by have := hD2.len; omega))⟩
  obtain ⟨u4, b4⟩ : ∃ u, w2.cell? ⟨g, 4, none⟩ = some u := ⟨_, a3.trans (List.getElem?_eq_getElem (by have := hD2.len; omega))⟩
  obtain ⟨u5, b5⟩ : ∃ u, w2.cell? ⟨g, 5, none⟩ = some u := ⟨_, a4.trans (List.getElem?_eq_getElem (by have := hD2.len; omega))⟩
  have z8 := hD2.free 8
  have z15 := hD2.free 1862
  have z4 := hD2.free 4
  have z5 := hD2.free 5
  have HD2 := Lib.hid hD2
  clear hD2 a1 a2 a3 a4 HS KF c7 c8
  go_wp2_with fail
  go_end0
  obtain ⟨hD1, hW1, hG1, hO1, hmG1⟩ := HX.out
  obtain ⟨hD, h7, h8, hr, hF, hm, hg, hmg⟩ := HH.out
  have p1 := HD2.out.put 8 (by decide) (.int .i64 0)
  have p2 := p1.put 15 (by decide) (.slice none 0 0)
  have p3 := p2.put 4 (by decide) .nilIface
  have p4 := p3.put 5 (by decide) (.pointer none)
  have hOg := (((((Only.refl (fun i => i = g) w2).setCell (p := ⟨g, 8, none⟩) (.inl rfl) (.int .i64 0)).setCell (p := ⟨g, 1862, none⟩) (.inl rfl) (.slice none 0 0)).setCell (p := ⟨g, 4, none⟩) (.inl rfl) .nilIface).setCell (p := ⟨g, 5, none⟩) (.inl rfl) (.pointer none))
  have hg1 : ∀ i, G1 i → i ≠ g := fun i hi e => by
    subst e
    rcases hG1 i hi with h | h
    · exact hg h
    · have := hD.lt; omega
  refine ⟨rfl, G1, p4, ?_, HM2.out.only hOg hmg, hG1, ?_⟩
  · exact (hW1.only HO2.out (fun i hi e => hmG1 (e ▸ hi))).only hOg hg1
  · exact ((hO1.mono fun i hi => by rcases hi with hi | hi; exact .inl hi; exact .inr (.inl hi)).trans (HO2.out.mono fun i hi => .inr (.inl hi))).trans (hOg.mono fun i hi => .inr (.inr hi))
end Go.Proofs.YtoencondpbkomaaGreatDoor
