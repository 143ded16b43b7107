/-
  LwNew, LwLen: put together.
-/
import Derived.Test.YtjgdjobhhdhfjaaFa14
import Derived.Laws.MakeOwn
import Derived.Test.YtjgdjobhhdhfjaaFa13
set_option linter.unusedVariables false
set_option linter.unusedSimpArgs false
/-
  The program's decoder of LZMA: a new one.
-/
namespace Go.Proofs.Ytjgdjobhhdhfjaa
open Go.RowKit

/-- A decoder that has begun nothing. -/
structure Un (K : Kon) (w : World) (Gw : Nat → Prop) (lc lp pb dict : Nat) : Prop where
  row : Rk K (unFs K lc lp pb dict) w (List.replicate (1847 + K.nl) 1024)
  win : Pwin w K.wg Gw K.m ⟨K.sz, [], false⟩
  gn : K.g ≠ K.lb
  mg : K.m ≠ K.g
  mb : K.m ≠ K.lb
  wd : ∀ i, Gw i → i ≠ K.g ∧ i ≠ K.lb ∧ i ≠ K.m ∧ i < w.heap.size
def NewPost (w : World) (m : Nat) (q : Quo) (t : Tel) (lc lp pb dict : Nat) (size : Int) (e : Ending) (w' : World) : Prop :=
  ∃ (K : Kon) (Gw : Nat → Prop), K.m = m ∧ K.room = 2 * (probsN lc lp : Int) ∧ K.sz = (max (min (dict : Int) size) 1).toNat ∧ K.nl = 768 * 2 ^ (lc + lp) ∧ e = .returned (.tuple #[.pointer (some ⟨K.g, 0, none⟩), .int .i64 0]) ∧
    Un K w' Gw lc lp pb dict ∧ MeterAt w' 105 m q ((t.doMem q (max (min (dict : Int) size) 1)).doMem q (2 * (probsN lc lp : Int))) ∧ (w.heap.size ≤ K.g ∧ w.heap.size ≤ K.lb ∧ ∀ i, Gw i → w.heap.size ≤ i) ∧ Only (fun i => i = m) w w'

set_option maxRecDepth 100000 in
set_option maxHeartbeats 2000000 in
theorem pprobs_any {lc lp pb dict : Nat} (h : SetOk lc lp pb dict) (w : World) : Calls Try.prog 18 #[.agg #[.int .i64 (lc : Int), .int .i64 (lp : Int), .int .i64 (pb : Int), .int .i64 (dict : Int)]] w fun e w' => e = .returned (.int .i64 (probsN lc lp : Int)) ∧ Below w.heap.size w w' := by
  obtain ⟨w1, hw1⟩ : ∃ w1, w1 = w.alloc (.cells #[.int .i64 (lc : Int), .int .i64 (lp : Int), .int .i64 (pb : Int), .int .i64 (dict : Int)] 24) := ⟨_, rfl⟩
  have hb1 : Below w.heap.size w w1 := by rw [hw1]; exact (Below.refl _ _).alloc (Nat.le_refl _) _
  have HBk : Blk w1 w.heap.size 24 #[.int .i64 (lc : Int), .int .i64 (lp : Int), .int .i64 (pb : Int), .int .i64 (dict : Int)] := by rw [hw1]; exact Blk.fresh w _ _
  have KM := pmay_any (lc : Int) (lp : Int) (pb : Int) (dict : Int) w1
  rw [setOk_may h] at KM
  have KM := Lib.hid KM
  have KL := fun w => plits_any (lc := lc) (lp := lp) (pb : Int) (dict : Int) (by have := h.1; have := h.2.1; omega) w
  have hp := (probsN_is h).2.1
  obtain ⟨y, hy⟩ : ∃ y, y = 768 * 2 ^ (lc + lp) := ⟨_, rfl⟩
  have hpn : probsN lc lp = 1847 + y := by unfold probsN; rw [hy]
  rw [← hy] at KL
  rw [hpn] at hp ⊢
  have KL := Lib.hid KL
  have e1 : IntKind.i64.wrap (1847 + (y : Int)) = ((1847 + y : Nat) : Int) := by rw [show 1847 + (y : Int) = ((1847 + y : Nat) : Int) by omega]; exact IntWalk.i64_in _ (by omega)
  obtain ⟨r, hr⟩ : ∃ r, r = 1847 + y := ⟨_, rfl⟩
  rw [← hr] at e1 ⊢
  have c0 : w1.cell? ⟨w.heap.size, 0, none⟩ = some (.int .i64 (lc : Int)) := HBk.cell 0
  have c1 : w1.cell? ⟨w.heap.size, 1, none⟩ = some (.int .i64 (lp : Int)) := HBk.cell 1
  have c2 : w1.cell? ⟨w.heap.size, 2, none⟩ = some (.int .i64 (pb : Int)) := HBk.cell 2
  have c3 : w1.cell? ⟨w.heap.size, 3, none⟩ = some (.int .i64 (dict : Int)) := HBk.cell 3
  have HW1 := Lib.hid hw1
  have HB1 := Lib.hid hb1
  have HBK := Lib.hid HBk
  clear hw1 hb1 HBk h hp hy hpn hr
  go_enter Try.func18, Try.ntmps18
  go_upto_region 1 with fail
  rw [← HW1.out]
  clear HW1
  go_wp2_with fail
  refine KM.out.mono ?_
  rintro e w2 ⟨rfl, hb2⟩
  have hk2 : Blk w2 w.heap.size 24 #[.int .i64 (lc : Int), .int .i64 (lp : Int), .int .i64 (pb : Int), .int .i64 (dict : Int)] := HBK.out.below hb2
  have d0 : w2.cell? ⟨w.heap.size, 0, none⟩ = some (.int .i64 (lc : Int)) := hk2.cell 0
  have d1 : w2.cell? ⟨w.heap.size, 1, none⟩ = some (.int .i64 (lp : Int)) := hk2.cell 1
  have d2 : w2.cell? ⟨w.heap.size, 2, none⟩ = some (.int .i64 (pb : Int)) := hk2.cell 2
  have d3 : w2.cell? ⟨w.heap.size, 3, none⟩ = some (.int .i64 (dict : Int)) := hk2.cell 3
  have HB2 := Lib.hid (HB1.out.trans ⟨hb2.os, hb2.tape, hb2.output, hb2.size, fun i hi => hb2.block i (Nat.lt_of_lt_of_le hi HB1.out.size)⟩)
  clear hb2 hk2 KM c0 c1 c2 c3 HB1
  go_wp2_with fail
  refine (KL.out _).mono ?_
  rintro e w3 ⟨rfl, hb3⟩
  have HB3 := Lib.hid (HB2.out.trans ⟨hb3.os, hb3.tape, hb3.output, hb3.size, fun i hi => hb3.block i (Nat.lt_of_lt_of_le hi HB2.out.size)⟩)
  clear hb3 KL d0 d1 d2 d3
  go_wp2_with fail
  go_ret
  exact ⟨rfl, HB3.out⟩

set_option maxRecDepth 1000000 in
theorem zeroCells_chk : chk 0 Try.zeroCells88.toList = true := by kernel_rfl
theorem zero_link : Try.zeroCells88 = zOf Try.prog 88 := by
  have hs : Try.zeroCells88.size = 1866 := by
    have := (chk_sound _ _ zeroCells_chk).1
    rw [Array.length_toList] at this
    omega
  have hg : ∀ i, i < 1866 → Try.zeroCells88[i]? = some (vk (zk i)) := by
    intro i h
    have := (chk_sound _ _ zeroCells_chk).2 i (by rw [Array.length_toList, hs]; exact h)
    rw [Nat.zero_add, Array.getElem?_toList] at this
    exact this
  apply Array.ext_getElem?
  intro i
  by_cases h : i < 1866
  · rw [hg i h, zero_get i h]
  · rw [Array.getElem?_eq_none (by omega), Array.getElem?_eq_none (by rw [zero_size]; omega)]

theorem made_row (w : World) (n : Nat) (h : n ≤ 1000000) : Row (w.alloc (.cells (madeCells #[Value.int .u16 0] n) 25)) w.heap.size (List.replicate n 0) n := by
  have hm := madeNums n
  have hl : (madeCells #[Value.int .u16 0] n).size = n := by
    have := congrArg List.length hm
    rw [Array.length_toList, pv_length, List.length_replicate] at this
    exact this
  unfold Row
  rw [List.length_replicate]
  refine ⟨by simp [pv_length], .inr ⟨w.heap.size, n, madeCells #[Value.int .u16 0] n, rfl, Nat.zero_le _, heap_alloc_new w _, Nat.le_refl _, by unfold maxLen; omega, by omega, ?_⟩⟩
  rw [Nat.mul_one, ← hm]
  exact List.take_of_length_le (by rw [Array.length_toList, hl]; exact Nat.le_refl _)

set_option maxRecDepth 100000 in
set_option maxHeartbeats 8000000 in
theorem lnew_any {w : World} {m lc lp pb dict : Nat} {q : Quo} {t : Tel} {size : Int} (h : SetOk lc lp pb dict) (h6 : lc + lp ≤ 6) (hM : MeterAt w 105 m q t) (hF : Fine q t) (h0 : -9223372036854775808 ≤ size) (h1 : size ≤ 1048576)
    (hf1 : fits t.code t.mem q.mem (max (min (dict : Int) size) 1)) (hf2 : fits (t.doMem q (max (min (dict : Int) size) 1)).code (t.doMem q (max (min (dict : Int) size) 1)).mem q.mem (2 * (probsN lc lp : Int))) :
    Calls Try.prog 10 #[.agg #[.int .i64 (lc : Int), .int .i64 (lp : Int), .int .i64 (pb : Int), .int .i64 (dict : Int)], .int .i64 size, .pointer (some ⟨m, 0, none⟩)] w (NewPost w m q t lc lp pb dict size) := by
  obtain ⟨i, hi, hz0, hz1, hz2⟩ := info_parts info_u16
  have hnlN := lits_small (k := lc + lp) (by omega)
  have hnl6 : 768 * 2 ^ (lc + lp) ≤ 1000000 := Nat.le_trans (Nat.mul_le_mul_left 768 (Nat.pow_le_pow_right (by decide) h6)) (by decide)
  have hpn := (probsN_is h).2.1
  have hprob : probsN lc lp = 1847 + 768 * 2 ^ (lc + lp) := rfl
  obtain ⟨nl, hnl⟩ : ∃ nl, nl = 768 * 2 ^ (lc + lp) := ⟨_, rfl⟩
  obtain ⟨w1, hw1⟩ : ∃ w1, w1 = w.alloc (.cells #[.int .i64 (lc : Int), .int .i64 (lp : Int), .int .i64 (pb : Int), .int .i64 (dict : Int)] 24) := ⟨_, rfl⟩
  have hO1 : Only (fun i => i = m) w w1 := by rw [hw1]; exact (Only.refl _ w).alloc _
  have HBk : Blk w1 w.heap.size 24 #[.int .i64 (lc : Int), .int .i64 (lp : Int), .int .i64 (pb : Int), .int .i64 (dict : Int)] := by rw [hw1]; exact Blk.fresh w _ _
  have hM1 : MeterAt w1 105 m q t := by rw [hw1]; exact hM.alloc _
  have hmB : m < w.heap.size := hM.lt
  have KM := pmay_any (lc : Int) (lp : Int) (pb : Int) (dict : Int) w1
  rw [setOk_may h] at KM
  have KM := Lib.hid KM
  have KL := fun w => plits_any (lc := lc) (lp := lp) (pb : Int) (dict : Int) (by omega) w
  rw [← hnl] at KL hnl6 hprob
  have KL := Lib.hid KL
  have KP := Lib.hid (fun w => pprobs_any h w)
  obtain ⟨n, hn⟩ : ∃ n, n = min (dict : Int) size := ⟨_, rfl⟩
  rw [← hn] at hf1 hf2
  have hd32 := h.2.2.2
  have hn1 : n ≤ 1048576 := by omega
  have hn0 : -9223372036854775808 ≤ n := by omega
  have HW1 := Lib.hid hw1
  have HO1 := Lib.hid hO1
  have HBK := Lib.hid HBk
  have HM1 := Lib.hid hM1
  have HH := Lib.hid (And.intro h (And.intro hF (And.intro hf1 (And.intro hf2 (And.intro hn (And.intro hnl hnl6))))))
  have HNB := Lib.hid (And.intro hn0 (And.intro hn1 hmB))
  obtain ⟨P, hP⟩ : ∃ P, P = probsN lc lp := ⟨_, rfl⟩
  rw [← hP] at KP
  have e1 : IntKind.i64.wrap (2 * (P : Int)) = 2 * (P : Int) := IntWalk.i64_in _ (by omega)
  have HP := Lib.hid hP
  have c0 : w1.cell? ⟨w.heap.size, 0, none⟩ = some (.int .i64 (lc : Int)) := HBk.cell 0
  have c1 : w1.cell? ⟨w.heap.size, 1, none⟩ = some (.int .i64 (lp : Int)) := HBk.cell 1
  have c2 : w1.cell? ⟨w.heap.size, 2, none⟩ = some (.int .i64 (pb : Int)) := HBk.cell 2
  have c3 : w1.cell? ⟨w.heap.size, 3, none⟩ = some (.int .i64 (dict : Int)) := HBk.cell 3
  have hmk : ∀ W : World, (Instr.makeSlice 68 (.int .i64 (nl : Int)) (.int .i64 (nl : Int))).run Try.prog W = .ok (.slice (some ⟨W.heap.size, 0, none⟩) nl nl) (W.alloc (.cells (madeCells #[Value.int .u16 0] nl) 25)) := by
    intro W
    have := run_make (P := Try.prog) W 68 25 i (.int .u16 0) Try.underlying68 hi hz0 .i64 .i64 (nl : Int) (nl : Int) (by omega) (Int.le_refl _) (by rw [hz2]; omega) (by omega)
    rw [hz1, Int.toNat_natCast, Nat.mul_one] at this
    exact this
  clear hw1 hO1 HBk hM1 h hF hf1 hf2 hn hnl hnl6 hn0 hn1 hmB hM h0 h1 hd32 hnlN hpn hprob hP hi hz0 hz1 hz2 h6
  go_enter Try.func10, Try.ntmps10
  go_upto_region 1 with fail
  rw [← HW1.out]
  clear HW1
  generalize hB : w.heap.size = B at *
  go_wp2_with fail
  refine KM.out.mono ?_
  rintro e w2 ⟨rfl, hb2⟩
  have hk2 := HBK.out.below hb2
  have d3 : w2.cell? ⟨B, 3, none⟩ = some (.int .i64 (dict : Int)) := hk2.cell 3
  have HK2 := Lib.hid hk2
  have HO2 := Lib.hid (HO1.out.then hb2)
  have HM2 := Lib.hid (HM1.out.below hb2)
  have KW := wnew7_any (n := n) HM2.out HH.out.2.1 HNB.out.1 HNB.out.2.1 HH.out.2.2.1
  have hnn : min (dict : Int) size = n := HH.out.2.2.2.2.1.symm
  have KW := Lib.hid KW
  clear hb2 hk2 KM c0 c1 c2 c3 HBK HM1 HO1
  go_wp2_with fail
  refine KW.out.mono ?_
  rintro e w3 ⟨g, G, rfl, hP3, hM3, hGn, hO3⟩
  have hBm : B ≠ m := by have := HNB.out.2.2; omega
  have hk3 := HK2.out.only hO3 hBm
  have d0 : w3.cell? ⟨B, 0, none⟩ = some (.int .i64 (lc : Int)) := hk3.cell 0
  have d1 : w3.cell? ⟨B, 1, none⟩ = some (.int .i64 (lp : Int)) := hk3.cell 1
  have d2 : w3.cell? ⟨B, 2, none⟩ = some (.int .i64 (pb : Int)) := hk3.cell 2
  have d3' : w3.cell? ⟨B, 3, none⟩ = some (.int .i64 (dict : Int)) := hk3.cell 3
  have HK3 := Lib.hid hk3
  have HO3 := Lib.hid (HO2.out.trans hO3)
  have HM3 := Lib.hid hM3
  have HW3 := Lib.hid hP3
  have HGN := Lib.hid (And.intro hGn hO3)
  clear hP3 hM3 hGn hO3 hk3 KW HK2 HM2 hnn d3
  go_wp2_with fail
  refine (KP.out w3).mono ?_
  rintro e w4 ⟨rfl, hb4⟩
  have hO4 : Only (fun _ => False) w3 w4 := Only.of_below hb4
  have HO4 := Lib.hid (HO3.out.then hb4)
  have HM4 := Lib.hid (HM3.out.below hb4)
  have HW4 := Lib.hid (HW3.out.only hO4 (fun _ _ h => h))
  have HK4 := Lib.hid (HK3.out.below hb4)
  have HG4 := Lib.hid (show ∀ i, G i → i < w4.heap.size from fun i hi => Nat.lt_of_lt_of_le (HW3.out.old hi) hb4.size)
  have KQ := mem_any HM4.out (HH.out.2.1.mem _) (2 * (P : Int))
  have hfit : decide (fits (t.doMem q (max n 1)).code (t.doMem q (max n 1)).mem q.mem (2 * (P : Int))) = true := by rw [HP.out]; exact decide_eq_true HH.out.2.2.2.1
  rw [hfit] at KQ
  have KQ := Lib.hid KQ
  clear hb4 hO4 HO3 HM3 HK3 KP d0 d1 d2 d3' hfit
  go_wp2_with fail
  refine KQ.out.mono ?_
  rintro e w5 ⟨rfl, hM5, hg5⟩
  have hO5 : Only (fun i => i = m) w4 w5 := Only.of_grown hg5 rfl
  have hk5 := HK4.out.only hO5 hBm
  have d0 : w5.cell? ⟨B, 0, none⟩ = some (.int .i64 (lc : Int)) := hk5.cell 0
  have d1 : w5.cell? ⟨B, 1, none⟩ = some (.int .i64 (lp : Int)) := hk5.cell 1
  have d2 : w5.cell? ⟨B, 2, none⟩ = some (.int .i64 (pb : Int)) := hk5.cell 2
  have d3 : w5.cell? ⟨B, 3, none⟩ = some (.int .i64 (dict : Int)) := hk5.cell 3
  have HK5 := Lib.hid hk5
  have HM5 := Lib.hid hM5
  have hGm : ∀ i, G i → i ≠ m := fun i hi => by
    have := HGN.out.1 i hi
    have := HO2.out.size
    have := HNB.out.2.2
    omega
  have HW5 := Lib.hid (HW4.out.only hO5 (fun i hi => hGm i hi))
  have HO5 := Lib.hid (HO4.out.trans hO5)
  have HG5 := Lib.hid (show ∀ i, G i → i < w5.heap.size from fun i hi => Nat.lt_of_lt_of_le (HG4.out i hi) hO5.size)
  have HGM := Lib.hid hGm
  clear hM5 hg5 hO5 hk5 hGm KQ HK4 HM4 HW4 HO4 HG4 HW3
  go_wp2_with fail
  refine (KL.out w5).mono ?_
  rintro e w6 ⟨rfl, hb6⟩
  have hO6 : Only (fun _ => False) w5 w6 := Only.of_below hb6
  have hk6 := HK5.out.below hb6
  have d0 : w6.cell? ⟨B, 0, none⟩ = some (.int .i64 (lc : Int)) := hk6.cell 0
  have d1 : w6.cell? ⟨B, 1, none⟩ = some (.int .i64 (lp : Int)) := hk6.cell 1
  have d2 : w6.cell? ⟨B, 2, none⟩ = some (.int .i64 (pb : Int)) := hk6.cell 2
  have d3 : w6.cell? ⟨B, 3, none⟩ = some (.int .i64 (dict : Int)) := hk6.cell 3
  have HM6 := Lib.hid (HM5.out.below hb6)
  have HW6 := Lib.hid (HW5.out.only hO6 (fun _ _ h => h))
  have HO6 := Lib.hid (HO5.out.then hb6)
  have HG6 := Lib.hid (show ∀ i, G i → i < w6.heap.size from fun i hi => Nat.lt_of_lt_of_le (HG5.out i hi) hb6.size)
  have HK6 := Lib.hid hk6
  clear hb6 hO6 hk6 HK5 HM5 HW5 HO5 HG5
  go_upto_region 11 with fail
  obtain ⟨lb, hlb⟩ : ∃ lb, lb = w6.heap.size := ⟨_, rfl⟩
  obtain ⟨cs, hcs⟩ : ∃ cs, cs = (((Try.zeroCells88.setIfInBounds 6 (Value.pointer (some ⟨g, 0, none⟩))).setIfInBounds 7 (Value.pointer (some ⟨m, 0, none⟩))).setIfInBounds 8 (Value.int .i64 (2 * (P : Int)))).setIfInBounds 1862 (Value.slice (some ⟨w6.heap.size, 0, none⟩) nl nl) := ⟨_, rfl⟩
  obtain ⟨w7, hw7⟩ : ∃ w7, w7 = w6.alloc (.cells (madeCells #[Value.int .u16 0] nl) 25) := ⟨_, rfl⟩
  have hs7 : w7.heap.size = lb + 1 := by rw [hw7, hlb]; simp
  obtain ⟨w8, hw8⟩ : ∃ w8, w8 = w7.alloc (.cells cs 88) := ⟨_, rfl⟩
  have hrow8 : Row w8 lb (List.replicate nl 0) nl := by
    have h1 := made_row w6 nl HH.out.2.2.2.2.2.2
    rw [← hw7, ← hlb] at h1
    rw [hw8]
    exact h1.only ((Only.refl (fun _ => False) w7).alloc _) (fun h => h)
  have hblk8 : Blk w8 (lb + 1) 88 cs := by
    rw [hw8, ← hs7]
    exact Blk.fresh w7 _ _
  have hO8 : Only (fun _ => False) w6 w8 := by rw [hw8, hw7]; exact ((Only.refl _ w6).alloc _).alloc _
  obtain ⟨K, hK⟩ : ∃ K : Kon, K = ⟨lb + 1, lb, nl, g, m, 0, 0, 0, [], 2 * (P : Int), (max n 1).toNat⟩ := ⟨_, rfl⟩
  have kg : K.g = lb + 1 := by rw [hK]
  have kb : K.lb = lb := by rw [hK]
  have kn : K.nl = nl := by rw [hK]
  have km : K.m = m := by rw [hK]
  have kw : K.wg = g := by rw [hK]
  have kr : K.room = 2 * (P : Int) := by rw [hK]
  have kz : K.sz = (max n 1).toNat := by rw [hK]
  have hmB6 : m < lb := by
    have h1 := HM6.out.lt
    omega
  have hGlb : ∀ i, G i → i < lb := fun i hi => by rw [hlb]; exact HG6.out i hi
  have hrk : Rk K (unFs K 0 0 0 0) w8 (List.replicate (1847 + K.nl) 0) := by
    refine ⟨?_, ?_, by simp⟩
    · refine made_at ?_
      rw [kg, kw, km, kr, kb, kn]
      rw [hcs, ← hlb, zero_link] at hblk8
      exact hblk8
    · have : (List.replicate (1847 + K.nl) 0).drop 1847 = List.replicate nl 0 := by rw [List.drop_replicate, kn]; congr 1; omega
      rw [this, kb, kn]
      exact hrow8
  have KR := preset_any (K := K) (lc := lc) (lp := lp) (pb := pb) (d := (dict : Int)) (by rw [kg, kb]; omega) HH.out.1.1 HH.out.1.2.1 HH.out.1.2.2.1 (by rw [kn]; exact HH.out.2.2.2.2.2.1) (by rw [kn]; exact HH.out.2.2.2.2.2.2) hrk
  rw [kg] at KR
  have KR := Lib.hid KR
  have hk8 := HK6.out.only hO8 (fun h => h)
  have d0 : w8.cell? ⟨B, 0, none⟩ = some (.int .i64 (lc : Int)) := hk8.cell 0
  have d1 : w8.cell? ⟨B, 1, none⟩ = some (.int .i64 (lp : Int)) := hk8.cell 1
  have d2 : w8.cell? ⟨B, 2, none⟩ = some (.int .i64 (pb : Int)) := hk8.cell 2
  have d3 : w8.cell? ⟨B, 3, none⟩ = some (.int .i64 (dict : Int)) := hk8.cell 3
  have HX8 := Lib.hid (And.intro (HM6.out.only hO8 (fun h => h)) (And.intro (HW6.out.only hO8 (fun _ _ h => h)) (And.intro (HO6.out.trans (hO8.mono fun _ h => h.elim)) (And.intro hmB6 hGlb))))
  have HKK := Lib.hid (And.intro kg (And.intro kb (And.intro kn (And.intro km (And.intro kw (And.intro kr kz))))))
  have HG8x := Lib.hid (show ∀ i, G i → i < w8.heap.size from fun i hi => Nat.lt_of_lt_of_le (HG6.out i hi) hO8.size)
  have HS8 := Lib.hid (show lb = w6.heap.size ∧ w.heap.size ≤ w6.heap.size from ⟨hlb, HO6.out.size⟩)
  rw [← hcs, ← hw7, ← hw8, ← hlb]
  clear hrk hrow8 hblk8 hO8 hk8 hw8 hw7 hs7 hcs kg kb kn km kw kr kz hK hmB6 hGlb HM6 HW6 HO6 HG6 HK6 hlb hmk
  go_wp2_with fail
  refine KR.out.mono ?_
  rintro e w9 ⟨rfl, hR9, hO9⟩
  have HR9 := Lib.hid (And.intro hR9 hO9)
  clear hR9 hO9 KR d0 d1 d2 d3
  go_wp2_with fail
  go_ret2
  obtain ⟨hM8, hW8, hOn8, hmB8, hG8⟩ := HX8.out
  obtain ⟨kg, kb, kn, km, kw, kr, kz⟩ := HKK.out
  obtain ⟨hR9, hO9⟩ := HR9.out
  obtain ⟨hh, hF, hf1, hf2, hn, hnl, hnl6⟩ := HH.out
  obtain ⟨hs8, hs0⟩ := HS8.out
  have hlt : ∀ i, G i → ¬ K.Bk i := by
    intro i hi hb
    have := hG8 i hi
    rcases hb with hb | hb
    · rw [kg] at hb; omega
    · rw [kb] at hb; omega
  have hmK : ¬ K.Bk m := by
    intro hb
    rcases hb with hb | hb
    · rw [kg] at hb; omega
    · rw [kb] at hb; omega
  have hP : P = probsN lc lp := HP.out
  subst hP
  have hW9 := hW8.only hO9 hlt
  have hO := hOn8.trans' hO9 (fun i hi => .inr (by
    rcases hi with hi | hi
    · rw [kg] at hi; omega
    · rw [kb] at hi; omega))
  have hgw := hO9.size
  have hg9 : ∀ i, G i → i < w9.heap.size := fun i hi => by
    have h1 := HG8x.out i hi
    omega
  refine ⟨K, G, km, kr, ?_, ?_, ?_, ⟨hR9, ?_, ?_, ?_, ?_, ?_⟩, ?_, ⟨?_, ?_, ?_⟩, hO⟩
  · rw [kz, hn]
  · rw [kn, hnl]
  · rw [kg]; rfl
  · rw [kw, km, kz]; exact hW9
  · rw [kg, kb]; omega
  · rw [km, kg]; omega
  · rw [km, kb]; omega
  · intro i hi
    have h1 := hG8 i hi
    have h2 := HGM.out i hi
    exact ⟨by rw [kg]; omega, by rw [kb]; omega, by rw [km]; exact h2, hg9 i hi⟩
  · rw [← hn]; exact hM8.only hO9 hmK
  · rw [kg]; omega
  · rw [kb]; omega
  · intro i hi
    have h1 := HGN.out.1 i hi
    have h2 := HO2.out.size
    omega
end Go.Proofs.Ytjgdjobhhdhfjaa

/-
  The program's decoder of LZMA: a length.
-/
namespace Go.Proofs.Ytjgdjobhhdhfjaa
open Go.RowKit

def LenPost (K : Kon) (w : World) (Gw : Nat → Prop) (z : Lzs) (r : Nat × Pm Dc) (left : Nat) (e : Ending) (w' : World) : Prop :=
  ∃ v : Nat, MidPost K w Gw (.int .i64 (v : Int)) z r.2 left e w' ∧ v < 272 ∧ (r.2.x ≠ none → v = r.1)
theorem alive_le {t : Pm Dc} {u n : Nat} (h : u < n) : Alive t 0 u < n := by unfold Alive; split <;> omega
theorem alive_is {t : Pm Dc} {u : Nat} (h : t.x ≠ none) : Alive t 0 u = u := by unfold Alive; rw [if_neg h]

section
variable {K : Kon} {w w' : World} {Gw : Nat → Prop} {z : Lzs} {t : Pm Dc} {left : Nat}

set_option maxRecDepth 100000 in
set_option maxHeartbeats 4000000 in
theorem llen_any {A o s : Nat} {v : Int} (h : Lw K w Gw z t left) (hp : z.pb ≤ 4) (ho : z.out.length ≤ 1000000) (hA : 688 ≤ A) (hA2 : A + 514 ≤ 1847) (hoA : o = 15 + (A - 256)) (hs : s = z.out.length % 2 ^ z.pb) :
    Calls Try.prog 120 #[.pointer (some ⟨K.g, 0, none⟩), .pointer (some ⟨K.g, o, none⟩)] w (LenPost K w Gw z (lenP decM t A s v) left) := by
  have hs15 : s ≤ 15 := by rw [hs]; exact mod_pb hp
  have KP := lplace_mid h hp ho
  rw [← hs] at KP
  have KP := Lib.hid KP
  have hb1 := bitP_ok decM_ok (k := 0) (a := A) (w := min (v.tdiv 8) 1) (okD_any h.mch.ok) (by omega) (fun h => by cases h)
  have hdef : lenP decM t A s v = lenA decM (bitP decM t A (min (v.tdiv 8) 1)) A s v := rfl
  rw [hdef]
  have KB := Lib.hid (fun (w1 : World) (h1 : Lw K w1 Gw z t left) => (h1.drewN 1).bit (a := A) (b := K.g) (i := o) (min (v.tdiv 8) 1) (Kon.ad_rest (by omega) (by omega) hoA) (by omega))
  obtain ⟨B, hB⟩ : ∃ B, B = bitP decM t A (min (v.tdiv 8) 1) := ⟨_, rfl⟩
  rw [← hB] at KB hb1 ⊢
  have j1 : (s : Int) < 16 := by omega
  have j0 : (0 : Int) ≤ (s : Int) := by omega
  by_cases hu : B.1 = 0
  · have KT := Lib.hid (fun (w1 : World) (h1 : Lw K w1 Gw z B.2 left) => (h1.drewN 1).tree (a := A + 2 + 8 * s) (n := 3) (b := K.g) (o := o + 2 + s * 8) (len := 8) (cap := 8) v (fun m hm => Kon.ad_rest (by omega) (by have : m < 8 := hm; omega) (by omega)) (by show A + 2 + 8 * s + 8 ≤ _; omega) (by decide) (by decide))
    have hlt := (treeP_ok decM_ok (k := 0) (a := A + 2 + 8 * s) (n := 3) (v := v) (okD_any hb1.2) (by show A + 2 + 8 * s + 8 ≤ _; omega) (fun h => by cases h)).1
    have hres : lenA decM B A s v = treeP decM B.2 (A + 2 + 8 * s) 3 v := by unfold lenA; rw [if_pos hu]
    rw [hres]
    obtain ⟨T, hT⟩ : ∃ T, T = treeP decM B.2 (A + 2 + 8 * s) 3 v := ⟨_, rfl⟩
    rw [← hT] at KT hlt ⊢
    have hu2 : ((B.1 : Int) == 0) = true := by simp [hu]
    have hlt : T.1 < 8 := hlt
    have HX := Lib.hid hlt
    clear h hs hB hT hu hres hdef hb1 hA hA2 hoA hs15 hp ho hlt
    go_enter Try.func120, Try.ntmps120
    go_wp2_with fail
    refine KP.out.mono ?_
    rintro e w1 ⟨rfl, hz1, ho1⟩
    have HO1 := Lib.hid ho1
    have c5 := hz1.f.c5
    have KB := Lib.hid (KB.out w1 hz1)
    clear KP hz1 ho1
    go_wp2_with fail
    go_still_tail 7, (by kernel_rfl)
    change wpList _ _ _ _ _ w1.drew
    go_wp2_with fail
    refine KB.out.mono ?_
    rintro e w2 ⟨rfl, hz2, ho2⟩
    have HO2 := Lib.hid (HO1.out.trans (Only.of_drewN ho2))
    have e5 := hz2.f.c5
    have KC := Lib.hid (KT.out w2 hz2)
    clear hz2 ho2 KB KT c5
    go_wp2_with fail
    go_still_tail 10, (by kernel_rfl)
    change wpList _ _ _ _ _ w2.drew
    go_wp2_with fail
    refine KC.out.mono ?_
    rintro e w3 ⟨rfl, hz3, ho3⟩
    have HZ3 := Lib.hid hz3
    have HO3 := Lib.hid (HO2.out.trans (Only.of_drewN ho3))
    clear hz3 ho3 KC
    go_wp2_with fail
    go_ret
    exact ⟨Alive T.2 0 T.1, ⟨rfl, HZ3.out, HO3.out⟩, by have := alive_le (t := T.2) HX.out; omega, fun hx => alive_is hx⟩
  · have hu2 : ((B.1 : Int) == 0) = false := by simp; omega
    have KB2 := Lib.hid (fun (w1 : World) (h1 : Lw K w1 Gw z B.2 left) => (h1.drewN 1).bit (a := A + 1) (b := K.g) (i := o + 1) (min (v.tdiv 16) 1) (Kon.ad_rest (by omega) (by omega) (by omega)) (by omega))
    have hb2 := bitP_ok decM_ok (k := 0) (a := A + 1) (w := min (v.tdiv 16) 1) (okD_any hb1.2) (by omega) (fun h => by cases h)
    have hres : lenA decM B A s v = lenB decM (bitP decM B.2 (A + 1) (min (v.tdiv 16) 1)) A s v := by unfold lenA; rw [if_neg hu]
    rw [hres]
    obtain ⟨B2, hB2⟩ : ∃ B2, B2 = bitP decM B.2 (A + 1) (min (v.tdiv 16) 1) := ⟨_, rfl⟩
    rw [← hB2] at KB2 hb2 ⊢
    by_cases hv : B2.1 = 0
    · have KT := Lib.hid (fun (w1 : World) (h1 : Lw K w1 Gw z B2.2 left) => (h1.drewN 1).tree (a := A + 130 + 8 * s) (n := 3) (b := K.g) (o := o + 130 + s * 8) (len := 8) (cap := 8) (v - 8) (fun m hm => Kon.ad_rest (by omega) (by have : m < 8 := hm; omega) (by omega)) (by show A + 130 + 8 * s + 8 ≤ _; omega) (by decide) (by decide))
      have hlt := (treeP_ok decM_ok (k := 0) (a := A + 130 + 8 * s) (n := 3) (v := v - 8) (okD_any hb2.2) (by show A + 130 + 8 * s + 8 ≤ _; omega) (fun h => by cases h)).1
      have hres2 : lenB decM B2 A s v = (8 + (treeP decM B2.2 (A + 130 + 8 * s) 3 (v - 8)).1, (treeP decM B2.2 (A + 130 + 8 * s) 3 (v - 8)).2) := by unfold lenB; rw [if_pos hv]
      rw [hres2]
      obtain ⟨T, hT⟩ : ∃ T, T = treeP decM B2.2 (A + 130 + 8 * s) 3 (v - 8) := ⟨_, rfl⟩
      rw [← hT] at KT hlt ⊢
      have hv2 : ((B2.1 : Int) == 0) = true := by simp [hv]
      have hlt : T.1 < 8 := hlt
      obtain ⟨x, hx⟩ : ∃ x, x = Alive T.2 0 T.1 := ⟨_, rfl⟩
      have hx8 : x < 8 := by rw [hx]; exact alive_le hlt
      have e7 : IntKind.i64.wrap (8 + (x : Int)) = ((8 + x : Nat) : Int) := by rw [show 8 + (x : Int) = ((8 + x : Nat) : Int) by omega]; exact IntWalk.i64_in _ (by omega)
      unfold TreePost at KT
      rw [← hx] at KT
      have HX := Lib.hid (And.intro hx hx8)
      clear h hs hB hB2 hT hu hv hres hres2 hdef hb1 hb2 hA hA2 hoA hs15 hp ho hlt hx hx8
      go_enter Try.func120, Try.ntmps120
      go_wp2_with fail
      refine KP.out.mono ?_
      rintro e w1 ⟨rfl, hz1, ho1⟩
      have HO1 := Lib.hid ho1
      have c5 := hz1.f.c5
      have KB := Lib.hid (KB.out w1 hz1)
      clear KP hz1 ho1
      go_wp2_with fail
      go_still_tail 7, (by kernel_rfl)
      change wpList _ _ _ _ _ w1.drew
      go_wp2_with fail
      refine KB.out.mono ?_
      rintro e w2 ⟨rfl, hz2, ho2⟩
      have HO2 := Lib.hid (HO1.out.trans (Only.of_drewN ho2))
      have e5 := hz2.f.c5
      have KC := Lib.hid (KB2.out w2 hz2)
      clear hz2 ho2 KB KB2 c5
      go_wp2_with fail
      go_still_tail 7, (by kernel_rfl)
      change wpList _ _ _ _ _ w2.drew
      go_wp2_with fail
      refine KC.out.mono ?_
      rintro e w3 ⟨rfl, hz3, ho3⟩
      have HO3 := Lib.hid (HO2.out.trans (Only.of_drewN ho3))
      have f5 := hz3.f.c5
      have KD := Lib.hid (KT.out w3 hz3)
      clear hz3 ho3 KC KT HO2 e5
      go_wp2_with fail
      go_still_tail 10, (by kernel_rfl)
      change wpList _ _ _ _ _ w3.drew
      go_wp2_with fail
      refine KD.out.mono ?_
      rintro e w4 ⟨rfl, hz4, ho4⟩
      have HZ4 := Lib.hid hz4
      have HO4 := Lib.hid (HO3.out.trans (Only.of_drewN ho4))
      clear hz4 ho4 KD
      go_wp2_with fail
      go_ret
      exact ⟨8 + x, ⟨rfl, HZ4.out, HO4.out⟩, by have := HX.out; omega, fun hn => by have := HX.out.1; rw [alive_is hn] at this; dsimp only; omega⟩
    · have KT := Lib.hid (fun (w1 : World) (h1 : Lw K w1 Gw z B2.2 left) => (h1.drewN 1).tree (a := A + 258) (n := 8) (b := K.g) (o := o + 258) (len := 256) (cap := 256) (v - 16) (fun m hm => Kon.ad_rest (by omega) (by have : m < 256 := hm; omega) (by omega)) (by show A + 258 + 256 ≤ _; omega) (by decide) (by decide))
      have hlt := (treeP_ok decM_ok (k := 0) (a := A + 258) (n := 8) (v := v - 16) (okD_any hb2.2) (by show A + 258 + 256 ≤ _; omega) (fun h => by cases h)).1
      have hres2 : lenB decM B2 A s v = (16 + (treeP decM B2.2 (A + 258) 8 (v - 16)).1, (treeP decM B2.2 (A + 258) 8 (v - 16)).2) := by unfold lenB; rw [if_neg hv]
      rw [hres2]
      obtain ⟨T, hT⟩ : ∃ T, T = treeP decM B2.2 (A + 258) 8 (v - 16) := ⟨_, rfl⟩
      rw [← hT] at KT hlt ⊢
      have hv2 : ((B2.1 : Int) == 0) = false := by simp; omega
      have hlt : T.1 < 256 := hlt
      obtain ⟨x, hx⟩ : ∃ x, x = Alive T.2 0 T.1 := ⟨_, rfl⟩
      have hx8 : x < 256 := by rw [hx]; exact alive_le hlt
      have e7 : IntKind.i64.wrap (16 + (x : Int)) = ((16 + x : Nat) : Int) := by rw [show 16 + (x : Int) = ((16 + x : Nat) : Int) by omega]; exact IntWalk.i64_in _ (by omega)
      unfold TreePost at KT
      rw [← hx] at KT
      have HX := Lib.hid (And.intro hx hx8)
      clear h hs hB hB2 hT hu hv hres hres2 hdef hb1 hb2 hA hA2 hoA hs15 hp ho hlt hx hx8
      go_enter Try.func120, Try.ntmps120
      go_wp2_with fail
      refine KP.out.mono ?_
      rintro e w1 ⟨rfl, hz1, ho1⟩
      have HO1 := Lib.hid ho1
      have c5 := hz1.f.c5
      have KB := Lib.hid (KB.out w1 hz1)
      clear KP hz1 ho1
      go_wp2_with fail
      go_still_tail 7, (by kernel_rfl)
      change wpList _ _ _ _ _ w1.drew
      go_wp2_with fail
      refine KB.out.mono ?_
      rintro e w2 ⟨rfl, hz2, ho2⟩
      have HO2 := Lib.hid (HO1.out.trans (Only.of_drewN ho2))
      have e5 := hz2.f.c5
      have KC := Lib.hid (KB2.out w2 hz2)
      clear hz2 ho2 KB KB2 c5
      go_wp2_with fail
      go_still_tail 7, (by kernel_rfl)
      change wpList _ _ _ _ _ w2.drew
      go_wp2_with fail
      refine KC.out.mono ?_
      rintro e w3 ⟨rfl, hz3, ho3⟩
      have HO3 := Lib.hid (HO2.out.trans (Only.of_drewN ho3))
      have f5 := hz3.f.c5
      have KD := Lib.hid (KT.out w3 hz3)
      clear hz3 ho3 KC KT HO2 e5
      go_wp2_with fail
      go_still_tail 8, (by kernel_rfl)
      change wpList _ _ _ _ _ w3.drew
      go_wp2_with fail
      refine KD.out.mono ?_
      rintro e w4 ⟨rfl, hz4, ho4⟩
      have HZ4 := Lib.hid hz4
      have HO4 := Lib.hid (HO3.out.trans (Only.of_drewN ho4))
      clear hz4 ho4 KD
      go_wp2_with fail
      go_ret
      exact ⟨16 + x, ⟨rfl, HZ4.out, HO4.out⟩, by have := HX.out; omega, fun hn => by have := HX.out.1; rw [alive_is hn] at this; dsimp only; omega⟩
end
end Go.Proofs.Ytjgdjobhhdhfjaa
