/-
  LwShort: put together.
-/
import Derived.Test.YtdhhibfppcpieaaGreatDoorR21
set_option linter.unusedVariables false
set_option linter.unusedSimpArgs false
/-
  The program's decoder of LZMA, where the quota is too small.
-/
namespace Go.Proofs.YtdhhibfppcpieaaGreatDoor
open Go.RowKit

theorem short_code {q : Quo} {t : Tel} {n : Int} (h : ¬ fits t.code t.mem q.mem n) : (t.doMem q n).code ≠ 0 := by
  show codeOf t.code t.mem q.mem n 101 ≠ 0
  unfold codeOf
  unfold fits at h
  split <;> omega

/-- what New answers if it doesn't get its memory -/
def ShortPost (w : World) (m : Nat) (q : Quo) (t' : Tel) (e : Ending) (w' : World) : Prop :=
  e = .returned (.tuple #[.pointer none, .int .i64 t'.code]) ∧ MeterAt w' 88 m q t' ∧ Only (fun i => i = m) w w'

set_option maxRecDepth 100000 in
set_option maxHeartbeats 4000000 in
theorem lshort_window {w : World} {m lc lp pb dict : Nat} {q : Quo} {t : Tel} {size : Int} (h : SetOk lc lp pb dict) (hM : MeterAt w 88 m q t) (hF : Fine q t) (hf1 : ¬ fits t.code t.mem q.mem (max (min (dict : Int) size) 1)) :
    Calls Tryz.prog 38 #[.agg #[.int .i64 (lc : Int), .int .i64 (lp : Int), .int .i64 (pb : Int), .int .i64 (dict : Int)], .int .i64 size, .pointer (some ⟨m, 0, none⟩)] w (ShortPost w m q (t.doMem q (max (min (dict : Int) size) 1))) := by
  obtain ⟨w1, hw1⟩ : ∃ w1, w1 = w.alloc (.cells #[.int .i64 (lc : Int), .int .i64 (lp : Int), .int .i64 (pb : Int), .int .i64 (dict : Int)] 51) := ⟨_, rfl⟩
  have hO1 : Only (fun i => i = m) w w1 := by rw [hw1]; exact (Only.refl _ w).alloc _
  have HBk : Blk w1 w.heap.size 51 #[.int .i64 (lc : Int), .int .i64 (lp : Int), .int .i64 (pb : Int), .int .i64 (dict : Int)] := by rw [hw1]; exact Blk.fresh w _ _
  have hM1 : MeterAt w1 88 m q t := by rw [hw1]; exact hM.alloc _
  have KM := pmay_any (lc : Int) (lp : Int) (pb : Int) (dict : Int) w1
  rw [setOk_may h] at KM
  have KM := Lib.hid KM
  obtain ⟨n, hn⟩ : ∃ n, n = min (dict : Int) size := ⟨_, rfl⟩
  rw [← hn] at hf1 ⊢
  obtain ⟨t1, ht1⟩ : ∃ t1, t1 = t.doMem q (max n 1) := ⟨_, rfl⟩
  have hcd : t1.code ≠ 0 := by rw [ht1]; exact short_code hf1
  obtain ⟨cd, hcd'⟩ : ∃ cd, cd = t1.code := ⟨_, rfl⟩
  have KW := fun (W : World) (hM : MeterAt W 88 m q t) => wshort7_any (n := n) hM hF hf1
  rw [← ht1] at KW ⊢
  unfold ShortPost
  rw [← hcd'] at KW hcd ⊢
  have q0 : ¬ cd = 0 := hcd
  have q0' : (cd != 0) = true := by simpa using hcd
  have KW := Lib.hid KW
  have hnn : min (dict : Int) size = n := hn.symm
  have c0 : w1.cell? ⟨w.heap.size, 0, none⟩ = some (.int .i64 (lc : Int)) := HBk.cell 0
  have c1 : w1.cell? ⟨w.heap.size, 1, none⟩ = some (.int .i64 (lp : Int)) := HBk.cell 1
  have c2 : w1.cell? ⟨w.heap.size, 2, none⟩ = some (.int .i64 (pb : Int)) := HBk.cell 2
  have c3 : w1.cell? ⟨w.heap.size, 3, none⟩ = some (.int .i64 (dict : Int)) := HBk.cell 3
  have HW1 := Lib.hid hw1
  have HO1 := Lib.hid hO1
  have HBK := Lib.hid HBk
  have HM1 := Lib.hid hM1
  clear hw1 hO1 HBk hM1 h hF hf1 hn hM ht1 hcd hcd'
  go_enter Tryz.func38, Tryz.ntmps38
  go_upto_region 1 with fail
  rw [← HW1.out]
  clear HW1
  generalize hB : w.heap.size = B at *
  go_wp2_with fail
  refine KM.out.mono ?_
  rintro e w2 ⟨rfl, hb2⟩
  have hk2 := HBK.out.below hb2
  have d3 : w2.cell? ⟨B, 3, none⟩ = some (.int .i64 (dict : Int)) := hk2.cell 3
  have HO2 := Lib.hid (HO1.out.then hb2)
  have HM2 := Lib.hid (HM1.out.below hb2)
  clear hb2 hk2 KM c0 c1 c2 c3 HBK HM1 HO1
  go_wp2_with fail
  refine (KW.out _ HM2.out).mono ?_
  rintro e w3 ⟨rfl, hM3, hO3⟩
  have H3 := Lib.hid (And.intro hM3 (HO2.out.trans hO3))
  clear hM3 hO3 KW
  go_wp2_with fail
  go_ret2
  exact ⟨rfl, H3.out.1, H3.out.2⟩

set_option maxRecDepth 100000 in
set_option maxHeartbeats 4000000 in
theorem lshort_probs {w : World} {m lc lp pb dict : Nat} {q : Quo} {t : Tel} {size : Int} (h : SetOk lc lp pb dict) (hM : MeterAt w 88 m q t) (hF : Fine q t) (h0 : -9223372036854775808 ≤ size) (h1 : size ≤ 1048576)
    (hf1 : fits t.code t.mem q.mem (max (min (dict : Int) size) 1)) (hf2 : ¬ fits (t.doMem q (max (min (dict : Int) size) 1)).code (t.doMem q (max (min (dict : Int) size) 1)).mem q.mem (2 * (probsN lc lp : Int))) :
    Calls Tryz.prog 38 #[.agg #[.int .i64 (lc : Int), .int .i64 (lp : Int), .int .i64 (pb : Int), .int .i64 (dict : Int)], .int .i64 size, .pointer (some ⟨m, 0, none⟩)] w
      (ShortPost w m q (((t.doMem q (max (min (dict : Int) size) 1)).doMem q (2 * (probsN lc lp : Int))).doFree (max (min (dict : Int) size) 1))) := by
  have hpn := (probsN_is h).2.1
  obtain ⟨w1, hw1⟩ : ∃ w1, w1 = w.alloc (.cells #[.int .i64 (lc : Int), .int .i64 (lp : Int), .int .i64 (pb : Int), .int .i64 (dict : Int)] 51) := ⟨_, rfl⟩
  have hO1 : Only (fun i => i = m) w w1 := by rw [hw1]; exact (Only.refl _ w).alloc _
  have HBk : Blk w1 w.heap.size 51 #[.int .i64 (lc : Int), .int .i64 (lp : Int), .int .i64 (pb : Int), .int .i64 (dict : Int)] := by rw [hw1]; exact Blk.fresh w _ _
  have hM1 : MeterAt w1 88 m q t := by rw [hw1]; exact hM.alloc _
  have hmB : m < w.heap.size := hM.lt
  have KM := pmay_any (lc : Int) (lp : Int) (pb : Int) (dict : Int) w1
  rw [setOk_may h] at KM
  have KM := Lib.hid KM
  have KP := Lib.hid (fun w => pprobs_any h w)
  obtain ⟨n, hn⟩ : ∃ n, n = min (dict : Int) size := ⟨_, rfl⟩
  rw [← hn] at hf1 hf2 ⊢
  have hn1 : n ≤ 1048576 := by omega
  have hn0 : -9223372036854775808 ≤ n := by have := h.2.2.2; omega
  have HW1 := Lib.hid hw1
  have HO1 := Lib.hid hO1
  have HBK := Lib.hid HBk
  have HM1 := Lib.hid hM1
  have HH := Lib.hid (And.intro hF (And.intro hf1 hf2))
  have HNB := Lib.hid (And.intro hn0 (And.intro hn1 hmB))
  have hnn : min (dict : Int) size = n := hn.symm
  obtain ⟨P, hP⟩ : ∃ P, P = probsN lc lp := ⟨_, rfl⟩
  rw [← hP] at KP hf2 ⊢
  have e1 : IntKind.i64.wrap (2 * (P : Int)) = 2 * (P : Int) := IntWalk.i64_in _ (by omega)
  have HF2 := Lib.hid hf2
  have c0 : w1.cell? ⟨w.heap.size, 0, none⟩ = some (.int .i64 (lc : Int)) := HBk.cell 0
  have c1 : w1.cell? ⟨w.heap.size, 1, none⟩ = some (.int .i64 (lp : Int)) := HBk.cell 1
  have c2 : w1.cell? ⟨w.heap.size, 2, none⟩ = some (.int .i64 (pb : Int)) := HBk.cell 2
  have c3 : w1.cell? ⟨w.heap.size, 3, none⟩ = some (.int .i64 (dict : Int)) := HBk.cell 3
  clear hw1 hO1 HBk hM1 h hF hf1 hf2 hn hn0 hn1 hmB hM h0 h1 hpn hP
  go_enter Tryz.func38, Tryz.ntmps38
  go_upto_region 1 with fail
  rw [← HW1.out]
  clear HW1
  generalize hB : w.heap.size = B at *
  go_wp2_with fail
  refine KM.out.mono ?_
  rintro e w2 ⟨rfl, hb2⟩
  have hk2 := HBK.out.below hb2
  have d3 : w2.cell? ⟨B, 3, none⟩ = some (.int .i64 (dict : Int)) := hk2.cell 3
  have HK2 := Lib.hid hk2
  have HO2 := Lib.hid (HO1.out.then hb2)
  have HM2 := Lib.hid (HM1.out.below hb2)
  have KW := wnew7_any (n := n) HM2.out HH.out.1 HNB.out.1 HNB.out.2.1 HH.out.2.1
  have KW := Lib.hid KW
  clear hb2 hk2 KM c0 c1 c2 c3 HBK HM1 HO1
  go_wp2_with fail
  refine KW.out.mono ?_
  rintro e w3 ⟨g, G, rfl, hP3, hM3, hGn, hO3⟩
  have hBm : B ≠ m := by have := HNB.out.2.2; omega
  have hk3 := HK2.out.only hO3 hBm
  have d0 : w3.cell? ⟨B, 0, none⟩ = some (.int .i64 (lc : Int)) := hk3.cell 0
  have d1 : w3.cell? ⟨B, 1, none⟩ = some (.int .i64 (lp : Int)) := hk3.cell 1
  have d2 : w3.cell? ⟨B, 2, none⟩ = some (.int .i64 (pb : Int)) := hk3.cell 2
  have d3' : w3.cell? ⟨B, 3, none⟩ = some (.int .i64 (dict : Int)) := hk3.cell 3
  have HO3 := Lib.hid (HO2.out.trans hO3)
  have HM3 := Lib.hid hM3
  have HW3 := Lib.hid hP3
  have HGN := Lib.hid (And.intro hGn (Nat.le_trans (Nat.le_of_eq hB.symm) HO2.out.size))
  clear hP3 hM3 hGn hO3 hk3 KW HK2 HM2 hnn d3
  go_wp2_with fail
  refine (KP.out w3).mono ?_
  rintro e w4 ⟨rfl, hb4⟩
  have hO4 : Only (fun _ => False) w3 w4 := Only.of_below hb4
  have HO4 := Lib.hid (HO3.out.then hb4)
  have HM4 := Lib.hid (HM3.out.below hb4)
  have HW4 := Lib.hid (HW3.out.only hO4 (fun _ _ h => h))
  obtain ⟨t2, ht2⟩ : ∃ t2, t2 = (t.doMem q (max n 1)).doMem q (2 * (P : Int)) := ⟨_, rfl⟩
  have KQ := mem_any HM4.out (HH.out.1.mem _) (2 * (P : Int))
  rw [← ht2] at KQ
  rw [decide_eq_false HF2.out] at KQ
  have hF2 : Fine q t2 := by rw [ht2]; exact (HH.out.1.mem _).mem _
  have HT2 := Lib.hid (And.intro hF2 ht2)
  have KQ := Lib.hid KQ
  clear hb4 hO4 HO3 HM3 KP d0 d1 d2 d3' ht2 hF2
  go_wp2_with fail
  refine KQ.out.mono ?_
  rintro e w5 ⟨rfl, hM5, hg5⟩
  have hO5 : Only (fun i => i = m) w4 w5 := Only.of_grown hg5 rfl
  have hGm : ∀ i, G i → i ≠ m := fun i hi => by
    have h1 := HGN.out.1 i hi
    have h2 := HGN.out.2
    have h3 := HNB.out.2.2
    omega
  have hz : (Ws.new n).sz ≤ 1048576 := by
    show (max n 1).toNat ≤ 1048576
    have := HNB.out.2.1
    omega
  have KC := Lib.hid (wclose_any (HW4.out.only hO5 (fun i hi => hGm i hi)) hz hM5 HT2.out.1 (fun hi => hGm m hi rfl))
  have HO5 := Lib.hid (HO4.out.trans hO5)
  have hGB : ∀ i, G i → B ≤ i := fun i hi => by
    have h1 := HGN.out.1 i hi
    have h2 := HGN.out.2
    omega
  have HGB := Lib.hid hGB
  clear hM5 hg5 hO5 hGm hz hGB KQ HM4 HW4 HO4 HW3
  go_wp2_with fail
  refine KC.out.mono ?_
  rintro e w6 ⟨rfl, G6, _, hM6, _, hO6⟩
  have hM6 : MeterAt w6 88 m q (t2.doFree (max n 1)) := by
    have e : (((Ws.new n).sz : Nat) : Int) = max n 1 := by
      show (((max n 1).toNat : Nat) : Int) = max n 1
      omega
    have h := hM6
    rw [if_neg (by show ¬ (false = true); decide), e] at h
    exact h
  have KD := Lib.hid (mcode_any hM6)
  have H6 := Lib.hid (And.intro hM6 (HO5.out.trans' hO6 (fun i hi => by
    rcases hi with hi | hi
    · exact .inr (by rw [hB]; exact HGB.out i hi)
    · exact .inl hi)))
  clear hM6 hO6 KC
  go_wp2_with fail
  refine KD.out.mono ?_
  rintro e w7 ⟨rfl, rfl⟩
  clear KD
  go_wp2_with fail
  go_ret2
  rw [← HT2.out.2]
  exact ⟨rfl, H6.out.1, H6.out.2⟩
end Go.Proofs.YtdhhibfppcpieaaGreatDoor
