/-
  CkChW: put together.
-/
import Derived.Test.YtdhhibfppcpieaaQ28
import Derived.Deep.RegionHeld3
import Derived.BigQuiet
set_option linter.unusedVariables false
set_option linter.unusedSimpArgs false
/-
  The law Lzma2cChunks, walked.
-/
namespace Go.Proofs.Ytdhhibfppcpieaa
open Go.RowKit

theorem min_cast {p left wt : Nat} (h : wt = min p left) : (wt : Int) = min (p : Int) (left : Int) := by omega
theorem left_nums {n p j left wt : Nat} (hp : 1 ≤ p) (hn : n ≤ 3000) (hleft : left = n - j * p) (hwt : wt = min p left) (hpos : 0 < left) :
    left ≤ 3000 ∧ 1 ≤ wt ∧ wt ≤ left ∧ left - wt = n - (j + 1) * p ∧ (j = 0 → left = n) ∧ (j ≠ 0 → ¬ left = n) := by
  have hm : (j + 1) * p = j * p + p := Nat.succ_mul j p
  refine ⟨by omega, by omega, by omega, by omega, fun h => by rw [hleft, h, Nat.zero_mul, Nat.sub_zero], fun h => ?_⟩
  have h2 : 1 * p ≤ j * p := Nat.mul_le_mul_right p (by omega)
  omega
theorem ch_four {ch : List UInt8} {j n k3 k4 : Nat} (h : ((ch.getD 0 0).toNat = 1 ∧ j = 0 ∧ ch.length = 3 + n) ∨ ((ch.getD 0 0).toNat = 2 ∧ j ≠ 0 ∧ ch.length = 3 + n) ∨
    (((ch.getD 0 0).toNat = 224 ∧ j = 0 ∧ ch.length = 6 + 256 * k3 + k4 + 1) ∨ ((ch.getD 0 0).toNat = 192 ∧ j ≠ 0 ∧ ch.length = 6 + 256 * k3 + k4 + 1) ∨ (((ch.getD 0 0).toNat = 128 ∨ (ch.getD 0 0).toNat = 160) ∧ j ≠ 0 ∧ ch.length = 5 + 256 * k3 + k4 + 1)) ∧ (ch.getD 3 0).toNat = k3 ∧ (ch.getD 4 0).toNat = k4) (hn : 1 ≤ n) : 4 ≤ ch.length := by
  rcases h with h | h | ⟨h | h | h, _, _⟩ <;> omega
theorem chunk_nums {at_ len C left wt x1 x2 a1 a2 a3 a4 a5 u1 u2 left2 : Nat} (hfit : at_ + len + 1 ≤ C) (hC : C ≤ 1000001) (hl : 4 ≤ len) (hl3 : left ≤ 3000) (hw1 : 1 ≤ wt) (hw2 : wt ≤ left) (hcnt : 256 * x1 + x2 + 1 = wt) (hx1 : x1 < 256) (hx2 : x2 < 256)
    (h1 : a1 = at_ + 1) (h2 : a2 = at_ + 2) (h3 : a3 = at_ + 3) (h4 : a4 = at_ + 4) (h5 : a5 = at_ + 5) (hu1 : u1 = 256 * x1) (hu2 : u2 = u1 + x2) (hl2 : left2 = left - wt) :
    (IntKind.i64.wrap ((at_ : Int) + 1) = (a1 : Int) ∧ IntKind.i64.wrap ((at_ : Int) + 2) = (a2 : Int) ∧ IntKind.i64.wrap ((at_ : Int) + 3) = (a3 : Int) ∧ IntKind.i64.wrap ((at_ : Int) + 4) = (a4 : Int) ∧ IntKind.i64.wrap ((at_ : Int) + 5) = (a5 : Int)) ∧
    (wrap64 (x1 : Int) = (x1 : Int) ∧ wrap64 (x2 : Int) = (x2 : Int) ∧ IntKind.i64.wrap (256 * (x1 : Int)) = (u1 : Int) ∧ IntKind.i64.wrap ((u1 : Int) + (x2 : Int)) = (u2 : Int) ∧ IntKind.i64.wrap ((u2 : Int) + 1) = (wt : Int) ∧ IntKind.i64.wrap ((left : Int) - (wt : Int)) = (left2 : Int)) ∧
    (at_ < C ∧ at_ + 1 < C ∧ at_ + 2 < C) ∧ (at_ : Int) < (C : Int) ∧ (a1 : Int) < (C : Int) ∧ (a2 : Int) < (C : Int) ∧ ¬ (a4 : Int) > (C : Int) ∧ (left : Int) > 0 := by
  refine ⟨⟨?_, ?_, ?_, ?_, ?_⟩, ⟨IntWalk.wrap64_in _ (by omega), IntWalk.wrap64_in _ (by omega), ?_, ?_, ?_, ?_⟩, ⟨by omega, by omega, by omega⟩, by omega, by omega, by omega, by omega, by omega⟩ <;> (rw [IntWalk.i64_in _ (by omega)]; omega)
theorem less_nums {left wt left2 : Nat} (h : left2 = left - wt) (h1 : 1 ≤ wt) (h2 : wt ≤ left) : left2 < left := by omega
theorem plain_nums {at_ len C left wt a3 at2 : Nat} (hfit : at_ + len + 1 ≤ C) (hC : C ≤ 1000001) (hl3 : left ≤ 3000) (hw2 : wt ≤ left) (h3 : a3 = at_ + 3) (hl : len = 3 + wt) (h2 : at2 = at_ + len) : IntKind.i64.wrap ((a3 : Int) + (wt : Int)) = (at2 : Int) := by
  rw [IntWalk.i64_in _ (by omega)]
  omega
theorem packed_nums {at_ len C k3 k4 a3 a4 a5 v s1 s2 s3 : Nat} (hfit : at_ + len + 1 ≤ C) (hC : C ≤ 1000001) (hk3 : k3 < 256) (hk4 : k4 < 256) (hl : 5 + 256 * k3 + k4 + 1 ≤ len) (h3 : a3 = at_ + 3) (h4 : a4 = at_ + 4) (h5 : a5 = at_ + 5) (hv : v = 256 * k3) (h1 : s1 = a5 + v) (h2 : s2 = s1 + k4) (hs3 : s3 = s2 + 1) :
    wrap64 (k3 : Int) = (k3 : Int) ∧ wrap64 (k4 : Int) = (k4 : Int) ∧ IntKind.i64.wrap (256 * (k3 : Int)) = (v : Int) ∧ IntKind.i64.wrap ((a5 : Int) + (v : Int)) = (s1 : Int) ∧ IntKind.i64.wrap ((s1 : Int) + (k4 : Int)) = (s2 : Int) ∧ IntKind.i64.wrap ((s2 : Int) + 1) = (s3 : Int) ∧ at_ + 3 < C ∧ at_ + 4 < C ∧ (a3 : Int) < (C : Int) ∧ (a4 : Int) < (C : Int) ∧ ¬ (a5 : Int) > (C : Int) := by
  refine ⟨IntWalk.wrap64_in _ (by omega), IntWalk.wrap64_in _ (by omega), ?_, ?_, ?_, ?_, by omega, by omega, by omega, by omega, by omega⟩ <;> (rw [IntWalk.i64_in _ (by omega)]; omega)
theorem five_lt (k3 k4 : Nat) : 4 < 5 + 256 * k3 + k4 + 1 := by omega
theorem six_nums {at_ len C k3 k4 a5 v s1 s2 s3 s4 : Nat} (hfit : at_ + len + 1 ≤ C) (hC : C ≤ 1000001) (hk3 : k3 < 256) (hk4 : k4 < 256) (h5 : a5 = at_ + 5) (hv : v = 256 * k3) (h1 : s1 = a5 + v) (h2 : s2 = s1 + k4) (h3 : s3 = s2 + 1) (h4 : s4 = s3 + 1) (hl : len = 6 + 256 * k3 + k4 + 1) :
    IntKind.i64.wrap ((s3 : Int) + 1) = (s4 : Int) ∧ s4 = at_ + len := by
  refine ⟨?_, by omega⟩
  rw [IntWalk.i64_in _ (by omega)]
  omega
theorem five_nums {at_ len k3 k4 a5 v s1 s2 s3 : Nat} (h5 : a5 = at_ + 5) (hv : v = 256 * k3) (h1 : s1 = a5 + v) (h2 : s2 = s1 + k4) (h3 : s3 = s2 + 1) (hl : len = 5 + 256 * k3 + k4 + 1) : s3 = at_ + len := by omega
theorem six_le (k3 k4 : Nat) : 5 + 256 * k3 + k4 + 1 ≤ 6 + 256 * k3 + k4 + 1 := by omega
theorem last_nums {at_ C left : Nat} (hC : C = at_ + 1) (hC1 : C ≤ 1000001) (hl : left = 0) : ¬ (left : Int) > 0 ∧ IntKind.i64.wrap ((C : Int) - 1) = (at_ : Int) ∧ at_ < C ∧ (at_ : Int) < (C : Int) := by
  refine ⟨by omega, ?_, by omega, by omega⟩
  rw [IntWalk.i64_in _ (by omega)]
  omega
set_option maxRecDepth 100000 in
set_option maxHeartbeats 16000000 in
theorem lzma2cChunks_walk {A : Option Addr} {n c pc : Nat} {a b' c' d : Int} {bs : List UInt8} {w : World} (hS : Sl w A n (bv bs)) (hnc : n ≤ c) (hc : c ≤ maxLen) (hpc : pc < 65536) :
    Calls Try.prog 5 #[.slice A n c, .agg #[.int .i64 a, .int .i64 b', .int .i64 c', .int .i64 d], .int .u16 (pc : Int)] w fun e w' => e = .returned (.bool true) ∧ Below w.heap.size w w' := by
  have hbl : bs.length = n := by rw [← bv_length]; exact hS.1
  obtain ⟨w1, hw1⟩ : ∃ w1, w1 = w.alloc (.cells #[.int .i64 a, .int .i64 b', .int .i64 c', .int .i64 d] 39) := ⟨_, rfl⟩
  have hb1 : Below w.heap.size w w1 := by rw [hw1]; exact (Below.refl _ _).alloc (Nat.le_refl _) _
  have HBK := Lib.hid (show Blk w1 w.heap.size 39 #[.int .i64 a, .int .i64 b', .int .i64 c', .int .i64 d] by rw [hw1]; exact Blk.fresh w _ _)
  have HLT := Lib.hid (show w.heap.size < w1.heap.size from HBK.out.lt)
  obtain ⟨p, hp⟩ : ∃ p, p = 1 + pc := ⟨_, rfl⟩
  have e1 : IntKind.i64.wrap (1 + (pc : Int)) = (p : Int) := by rw [IntWalk.i64_in _ (by omega)]; omega
  have e0 : wrap64 (pc : Int) = (pc : Int) := IntWalk.wrap64_in _ (by omega)
  have e0' : IntKind.i64.wrap (pc : Int) = (pc : Int) := IntWalk.i64_in _ (by omega)
  have hq1 : 1 ≤ p ∧ p ≤ 65536 := by omega
  have KA := Lib.hid (awake12_any w1)
  have HS := Lib.hid (And.intro hS (And.intro hnc (And.intro hc (And.intro hbl hq1))))
  have HW1 := Lib.hid hw1
  have HB1 := Lib.hid hb1
  have KR := Lib.hid (fun W => rmay12_any a b' c' d W)
  clear hS hnc hc hbl hpc hw1 hb1 hp
  go_enter Try.func5, Try.ntmps5
  go_upto_region 1 with fail
  rw [← HW1.out]
  clear HW1
  generalize hB : w.heap.size = B at *
  go_wp2_with fail
  refine KA.out.mono ?_
  rintro x w2 ⟨rfl, hb2⟩
  have hk2 := HBK.out.below hb2
  have d0 : w2.cell? ⟨B, 0, none⟩ = some (.int .i64 a) := hk2.cell 0
  have d1 : w2.cell? ⟨B, 1, none⟩ = some (.int .i64 b') := hk2.cell 1
  have d2 : w2.cell? ⟨B, 2, none⟩ = some (.int .i64 c') := hk2.cell 2
  have d3 : w2.cell? ⟨B, 3, none⟩ = some (.int .i64 d) := hk2.cell 3
  have HK2 := Lib.hid hk2
  have HB2 := Lib.hid (below_gg HB1.out hb2 (Nat.le_of_eq hB.symm))
  clear hb2 hk2 KA HB1
  have hlp : 0 < (p : Int) := by omega
  have hl0 : ¬ (p : Int) = 0 := by omega
  obtain ⟨qq, hqq⟩ : ∃ qq, qq = n / p := ⟨_, rfl⟩
  have k0 : (n : Int) / (p : Int) = (qq : Int) := by rw [hqq]; rfl
  by_cases hbig : n > 3000
  · have g1 : (n : Int) > 3000 := by omega
    go_wp2_with fail
    go_ret
    exact ⟨rfl, by rw [hB]; exact HB2.out⟩
  have g1 : ¬ (n : Int) > 3000 := by omega
  have k1 : wrap64 ((n : Int) / (p : Int)) = (qq : Int) := by rw [k0]; exact IntWalk.wrap64_in _ (by have := Nat.div_le_self n p; omega)
  clear hqq k0
  by_cases hmany : qq > 300
  · have g2 : (qq : Int) > 300 := by omega
    go_wp2_with fail
    go_ret
    exact ⟨rfl, by rw [hB]; exact HB2.out⟩
  have g2 : ¬ (qq : Int) > 300 := by omega
  cases hm : may12 a b' c' d with
  | false =>
    rw [hm] at KR
    go_wp2_with fail
    refine (KR.out _).mono ?_
    rintro x w3 ⟨rfl, hb3⟩
    have HB3 := Lib.hid (below_gg HB2.out hb3 (Nat.le_of_eq hB.symm))
    clear hb3 KR
    go_wp2_with fail
    go_ret
    exact ⟨rfl, by rw [hB]; exact HB3.out⟩
  | true =>
    rw [hm] at KR
    obtain ⟨lc, lp, pb, dict, rfl, rfl, rfl, rfl, hset, h4⟩ := may12_set hm
    have HSET := Lib.hid (And.intro hset h4)
    clear hset h4 hm
    go_wp2_with fail
    refine (KR.out _).mono ?_
    rintro x w3 ⟨rfl, hb3⟩
    have hk3 := HK2.out.below hb3
    have f0 : w3.cell? ⟨B, 0, none⟩ = some (.int .i64 (lc : Int)) := hk3.cell 0
    have f1 : w3.cell? ⟨B, 1, none⟩ = some (.int .i64 (lp : Int)) := hk3.cell 1
    have f2 : w3.cell? ⟨B, 2, none⟩ = some (.int .i64 (pb : Int)) := hk3.cell 2
    have f3 : w3.cell? ⟨B, 3, none⟩ = some (.int .i64 (dict : Int)) := hk3.cell 3
    have HB3 := Lib.hid (below_gg HB2.out hb3 (Nat.le_of_eq hB.symm))
    have KP := Lib.hid (kpack_any (w := w3) (A := A) (n := n) (c := c) (p := p) (b := bs) HSET.out.1 HSET.out.2 hq1.1 hq1.2 (HS.out.1.below (by rw [hB]; exact HB3.out)) (by omega) HS.out.2.1 HS.out.2.2.1)
    clear hb3 KR d0 d1 d2 d3 hk3 HB2 HK2
    go_wp2_with fail
    refine KP.out.mono ?_
    rintro x w4 ⟨R, cl, r, rfl, hsr, hle, hcm, _, hb4⟩
    have HB4 := Lib.hid (below_gg HB3.out hb4 (Nat.le_of_eq hB.symm))
    have HR := Lib.hid (And.intro hsr (And.intro hle hcm))
    clear hsr hle hcm hb4 KP f0 f1 f2 f3 HB3
    -- THE LOOP
    obtain ⟨M, hM⟩ : ∃ M, M = manyN n p := ⟨_, rfl⟩
    obtain ⟨C, hC⟩ : ∃ C, C = packN bs lc lp pb dict p := ⟨_, rfl⟩
    rw [← hC] at HR ⊢
    obtain ⟨O, hO⟩ : ∃ O : Nat → Nat, O = fun j => (outN bs lc lp pb dict p j).length := ⟨_, rfl⟩
    have hbl := HS.out.2.2.2.1
    have hn3 : n ≤ 3000 := by omega
    have hOM : C.length = O M + 1 := by
      rw [hC, hO, hM]
      show (outN bs lc lp pb dict p (manyN bs.length p) ++ [0]).length = _
      rw [List.length_append, hbl]
      rfl
    have hmul : manyN n p * p ≤ n + (p - 1) := many_mul
    have hml : manyN n p ≤ n + (p - 1) := many_le hq1.1
    have hOb : ∀ j, j ≤ M → O j ≤ 1000000 := by
      intro j hj
      have h1 := (ckw_fold (b := bs) (p := p) (p0 := headB lc lp pb) HSET.out.1 (by omega) (List.range j)).out
      rw [List.length_range] at h1
      have h2 : j * (p + 6) = j * p + j * 6 := Nat.mul_add _ _ _
      have h3 : j * p ≤ manyN n p * p := Nat.mul_le_mul_right p (by omega)
      have h4 : O j = (foldQ bs (headB lc lp pb) dict p (freshS lc lp pb dict) (List.range j)).2.out.length := by rw [hO]; rfl
      omega
    have hstep : ∀ j, j < M → ∃ ch : List UInt8, ∃ k3 k4, k3 < 256 ∧ k4 < 256 ∧ ChIs ch j (min p (n - j * p)) k3 k4 ∧ O (j + 1) = O j + ch.length ∧ O j + ch.length + 1 ≤ C.length ∧ (∀ i, i < ch.length → (bv C)[O j + i]? = some (.int .u8 ((ch.getD i 0).toNat : Int))) ∧ 0 < n - j * p := by
      intro j hj
      have hj' : j < manyN bs.length p := by rw [hbl, ← hM]; exact hj
      obtain ⟨k3, k4, h3, h4, hch⟩ := ch_is (lc := lc) (lp := lp) (pb := pb) (dict := dict) HSET.out.1 (by omega) hq1.1 hq1.2 hj'
      obtain ⟨rest, hcut⟩ := pack_cut (lc := lc) (lp := lp) (pb := pb) (dict := dict) hj'
      rw [hbl] at hch
      have hlen : C.length = O j + ((chN bs lc lp pb dict p j).length + (rest.length + 1)) := by
        rw [hC, hcut, List.length_append, List.length_append, List.length_append, hO]
        rfl
      refine ⟨chN bs lc lp pb dict p j, k3, k4, h3, h4, hch, ?_, by omega, fun i hi => ?_, ?_⟩
      · rw [hO]
        show (outN bs lc lp pb dict p (j + 1)).length = _
        rw [outN_succ, List.length_append]
      · rw [hC, hcut]
        unfold bv
        rw [List.getElem?_map, hO]
        show Option.map _ ((outN bs lc lp pb dict p j ++ _)[(outN bs lc lp pb dict p j).length + i]?) = _
        rw [List.getElem?_append_right (by omega), Nat.add_sub_cancel_left, List.getElem?_append_left hi, List.getD_eq_getElem?_getD, List.getElem?_eq_getElem hi]
        rfl
      · have := (many_lt hq1.1).1 hj'
        omega
    have hlast : (bv C)[O M]? = some (.int .u8 0) := by
      rw [hC, hM, hO]
      show (bv (outN bs lc lp pb dict p (manyN bs.length p) ++ [0]))[(outN bs lc lp pb dict p (manyN n p)).length]? = _
      unfold bv
      rw [hbl, List.getElem?_map, List.getElem?_append_right (Nat.le_refl _), Nat.sub_self]
      rfl
    have hO0 : O 0 = 0 := by rw [hO]; rfl
    have hlM : n - M * p = 0 := by
      by_cases h : M * p < n
      · have := (many_lt hq1.1).2 h
        omega
      · omega
    obtain ⟨q, o, rfl, hqlt, hqc⟩ := HR.out.1.2 (by omega)
    have HST := Lib.hid hstep
    have HLA := Lib.hid (And.intro hlast (And.intro hO0 (And.intro hlM (And.intro hOM hOb))))
    have HQC := Lib.hid (And.intro hqlt hqc)
    have HPM := Lib.hid (show M * p ≤ n + (p - 1) by rw [hM]; exact hmul)
    have HBB := Lib.hid hB
    clear hstep hlast hO0 hlM hOM hOb hqlt hqc hmul hml hC hO hM hbl hB HS HSET HBK HR
    go_wp2_with fail
    go_loopw [11, 12] (fun v u wr => ∃ j : Nat, j ≤ M ∧ v = .int .i64 (O j : Int) ∧ u = .int .i64 ((n - j * p : Nat) : Int) ∧ Below w4.heap.size w4 wr) (fun _ u _ => (intOf u).toNat)
    case atStart => exact ⟨0, Nat.zero_le _, by rw [HLA.out.2.1]; rfl, by rw [Nat.zero_mul, Nat.sub_zero], Below.refl _ _⟩
    case round =>
      obtain ⟨j, hj, rfl, rfl, hbe⟩ := hrel
      obtain ⟨at_, hat⟩ : ∃ x, x = O j := ⟨_, rfl⟩
      obtain ⟨left, hleft⟩ : ∃ x, x = n - j * p := ⟨_, rfl⟩
      rw [← hat, ← hleft]
      have hcell : ∀ i, i < C.length → wr.cell? ⟨q, o + i, none⟩ = (bv C)[i]? := fun i hi => (hbe.cell (p := ⟨q, o + i, none⟩) HQC.out.1).trans (HQC.out.2 i hi)
      have hCl := HLA.out.2.2.2.1
      have hC1 : C.length ≤ 1000001 := by rw [hCl]; exact Nat.succ_le_succ (HLA.out.2.2.2.2 M (Nat.le_refl _))
      by_cases hlt : j < M
      · obtain ⟨ch, k3, k4, h3, h4, hch, hnx, hfit, hget, hpos⟩ := HST.out j hlt
        rw [← hat] at hnx hfit hget
        rw [← hleft] at hch hpos
        obtain ⟨wt, hwt⟩ : ∃ x, x = min p left := ⟨_, rfl⟩
        rw [← hwt] at hch
        have mm := min2_int (P := Try.prog) #[3, 3] 3 (p : Int) (left : Int) (wt : Int) (min_cast hwt)
        obtain ⟨hl3, hw1, hw2, hnl0, hj0, hjn⟩ := left_nums hq1.1 hn3 hleft hwt hpos
        clear hwt hleft
        have hcnt := hch.count
        obtain ⟨x1, hx1⟩ : ∃ x, x = (ch.getD 1 0).toNat := ⟨_, rfl⟩
        obtain ⟨x2, hx2⟩ : ∃ x, x = (ch.getD 2 0).toNat := ⟨_, rfl⟩
        rw [← hx1, ← hx2] at hcnt
        have hx18 : x1 < 256 := by rw [hx1]; exact (ch.getD 1 0).toNat_lt
        have hx28 : x2 < 256 := by rw [hx2]; exact (ch.getD 2 0).toNat_lt
        have hl4 : 4 ≤ ch.length := ch_four hch.kind hw1
        obtain ⟨a1, ha1⟩ : ∃ x, x = at_ + 1 := ⟨_, rfl⟩
        obtain ⟨a2, ha2⟩ : ∃ x, x = at_ + 2 := ⟨_, rfl⟩
        obtain ⟨a3, ha3⟩ : ∃ x, x = at_ + 3 := ⟨_, rfl⟩
        obtain ⟨a4, ha4⟩ : ∃ x, x = at_ + 4 := ⟨_, rfl⟩
        obtain ⟨a5, ha5⟩ : ∃ x, x = at_ + 5 := ⟨_, rfl⟩
        obtain ⟨u1, hu1⟩ : ∃ x, x = 256 * x1 := ⟨_, rfl⟩
        obtain ⟨u2, hu2⟩ : ∃ x, x = u1 + x2 := ⟨_, rfl⟩
        obtain ⟨left2, hleft2⟩ : ∃ x, x = left - wt := ⟨_, rfl⟩
        obtain ⟨⟨w1_, w2_, w3_, w4_, w5_⟩, ⟨y1, y2, z1, z2, z3, z4⟩, ⟨j0, j1, j2⟩, i0, i1, i2, i4, il⟩ := chunk_nums hfit hC1 hl4 hl3 hw1 hw2 hcnt hx18 hx28 ha1 ha2 ha3 ha4 ha5 hu1 hu2 hleft2
        have hnl : left2 = n - (j + 1) * p := hleft2.trans hnl0
        clear hnl0
        have m0 : wr.cell? ⟨q, o + at_, none⟩ = some (.int .u8 ((ch.getD 0 0).toNat : Int)) := (hcell at_ j0).trans (hget 0 (Nat.lt_of_lt_of_le (by decide) hl4))
        have m1 : wr.cell? ⟨q, o + a1, none⟩ = some (.int .u8 (x1 : Int)) := by rw [ha1, hx1]; exact (hcell (at_ + 1) j1).trans (hget 1 (Nat.lt_of_lt_of_le (by decide) hl4))
        have m2 : wr.cell? ⟨q, o + a2, none⟩ = some (.int .u8 (x2 : Int)) := by rw [ha2, hx2]; exact (hcell (at_ + 2) j2).trans (hget 2 (Nat.lt_of_lt_of_le (by decide) hl4))
        have hatO : at_ + ch.length = O (j + 1) := hnx.symm
        have HEND := Lib.hid (And.intro hlt (And.intro hbe hnl))
        clear hnl
        have HML := Lib.hid (show left2 < left from less_nums hleft2 hw1 hw2)
        rcases hch.kind with ⟨c0, cj, cl_⟩ | ⟨c0, cj, cl_⟩ | ⟨⟨c0, cj, cl_⟩ | ⟨c0, cj, cl_⟩ | ⟨c0 | c0, cj, cl_⟩, c3, c4⟩
        · rw [c0] at m0
          have m0 : wr.cell? ⟨q, o + at_, none⟩ = some (.int .u8 1) := m0
          obtain rfl := hj0 cj
          obtain ⟨at2, hat2⟩ : ∃ x, x = O (j + 1) := ⟨_, rfl⟩
          have z5 : IntKind.i64.wrap ((a3 : Int) + (wt : Int)) = (at2 : Int) := plain_nums hfit hC1 hl3 hw2 ha3 cl_ (hat2.trans hatO.symm)
          have HA2 := Lib.hid hat2
          clear hat2 hat hcell hCl hC1 hch hnx hfit hget hpos hcnt hx1 hx2 hx18 hx28 ha1 ha2 ha3 ha4 ha5 hleft2 hl4 hl3 hw1 hw2 hatO hj0 hjn c0 cl_ h3 h4 hlt hbe hj cj j0 j1 j2 hu1 hu2
          go_wp2_with fail
          go_quiet (fail)
          go_wp2_with fail
          go_roundw
          case rel => exact ⟨j + 1, HEND.out.1, by rw [HA2.out], by rw [HEND.out.2.2], below_drewN HEND.out.2.1 _⟩
          case measure => have := HML.out; simp [intOf]; omega
        · rw [c0] at m0
          have m0 : wr.cell? ⟨q, o + at_, none⟩ = some (.int .u8 2) := m0
          have hne := hjn cj
          have b0 : ¬ (left : Int) = (n : Int) := fun h => hne (Int.ofNat_inj.1 h)
          have b1 : ((left : Int) == (n : Int)) = false := by rw [beq_eq_false_iff_ne]; exact b0
          obtain ⟨at2, hat2⟩ : ∃ x, x = O (j + 1) := ⟨_, rfl⟩
          have z5 : IntKind.i64.wrap ((a3 : Int) + (wt : Int)) = (at2 : Int) := plain_nums hfit hC1 hl3 hw2 ha3 cl_ (hat2.trans hatO.symm)
          have HA2 := Lib.hid hat2
          clear hat2 hat hcell hCl hC1 hch hnx hfit hget hpos hcnt hx1 hx2 hx18 hx28 ha1 ha2 ha3 ha4 ha5 hleft2 hl4 hl3 hw1 hw2 hatO hj0 hjn c0 cl_ h3 h4 hlt hbe hj cj j0 j1 j2 hu1 hu2
          go_wp2_with fail
          go_quiet (fail)
          go_wp2_with fail
          go_roundw
          case rel => exact ⟨j + 1, HEND.out.1, by rw [HA2.out], by rw [HEND.out.2.2], below_drewN HEND.out.2.1 _⟩
          case measure => have := HML.out; simp [intOf]; omega
        · rw [c0] at m0
          have m0 : wr.cell? ⟨q, o + at_, none⟩ = some (.int .u8 224) := m0
          obtain rfl := hj0 cj
          obtain ⟨v_, hv1⟩ : ∃ x, x = 256 * k3 := ⟨_, rfl⟩
          obtain ⟨s1, hs1⟩ : ∃ x, x = a5 + v_ := ⟨_, rfl⟩
          obtain ⟨s2, hs2⟩ : ∃ x, x = s1 + k4 := ⟨_, rfl⟩
          obtain ⟨s3, hs3⟩ : ∃ x, x = s2 + 1 := ⟨_, rfl⟩
          have hlen5 : 5 + 256 * k3 + k4 + 1 ≤ ch.length := by rw [cl_]; first | exact Nat.le_refl _ | exact six_le k3 k4
          obtain ⟨v1, v2, z5, z6, z7, z8, j3, j4, i3, i5, i6⟩ := packed_nums hfit hC1 h3 h4 hlen5 ha3 ha4 ha5 hv1 hs1 hs2 hs3
          have m3 : wr.cell? ⟨q, o + a3, none⟩ = some (.int .u8 (k3 : Int)) := by rw [ha3, ← c3]; exact (hcell (at_ + 3) j3).trans (hget 3 (Nat.lt_of_lt_of_le (by decide) hl4))
          have m4 : wr.cell? ⟨q, o + a4, none⟩ = some (.int .u8 (k4 : Int)) := by rw [ha4, ← c4]; exact (hcell (at_ + 4) j4).trans (hget 4 (Nat.lt_of_lt_of_le (five_lt k3 k4) hlen5))
          obtain ⟨s4, hs4⟩ : ∃ x, x = s3 + 1 := ⟨_, rfl⟩
          obtain ⟨z9, he4⟩ := six_nums hfit hC1 h3 h4 ha5 hv1 hs1 hs2 hs3 hs4 cl_
          have HA2 := Lib.hid (he4.trans hatO)
          clear he4
          clear hs4
          clear hat hcell hCl hC1 hch hnx hfit hget hpos hcnt hx1 hx2 hx18 hx28 ha1 ha2 ha3 ha4 ha5 hleft2 hl4 hl3 hw1 hw2 hatO hj0 hjn c0 cl_ h3 h4 hlt hbe hj cj c3 c4 hs1 hs2 hs3 hv1 hlen5 j0 j1 j2 j3 j4 hu1 hu2
          go_wp2_with fail
          go_quiet (fail)
          have m3 := m3
          have m4 := m4
          go_wp2_with fail
          go_quiet (fail)
          go_wp2_with fail
          go_roundw
          case rel => exact ⟨j + 1, HEND.out.1, by rw [HA2.out], by rw [HEND.out.2.2], by first | exact below_drewN HEND.out.2.1 _ | exact below_drewN (below_drewN HEND.out.2.1 _) _⟩
          case measure => have := HML.out; simp [intOf]; omega
        · rw [c0] at m0
          have m0 : wr.cell? ⟨q, o + at_, none⟩ = some (.int .u8 192) := m0
          have hne := hjn cj
          have b0 : ¬ (left : Int) = (n : Int) := fun h => hne (Int.ofNat_inj.1 h)
          have b1 : ((left : Int) == (n : Int)) = false := by rw [beq_eq_false_iff_ne]; exact b0
          obtain ⟨v_, hv1⟩ : ∃ x, x = 256 * k3 := ⟨_, rfl⟩
          obtain ⟨s1, hs1⟩ : ∃ x, x = a5 + v_ := ⟨_, rfl⟩
          obtain ⟨s2, hs2⟩ : ∃ x, x = s1 + k4 := ⟨_, rfl⟩
          obtain ⟨s3, hs3⟩ : ∃ x, x = s2 + 1 := ⟨_, rfl⟩
          have hlen5 : 5 + 256 * k3 + k4 + 1 ≤ ch.length := by rw [cl_]; first | exact Nat.le_refl _ | exact six_le k3 k4
          obtain ⟨v1, v2, z5, z6, z7, z8, j3, j4, i3, i5, i6⟩ := packed_nums hfit hC1 h3 h4 hlen5 ha3 ha4 ha5 hv1 hs1 hs2 hs3
          have m3 : wr.cell? ⟨q, o + a3, none⟩ = some (.int .u8 (k3 : Int)) := by rw [ha3, ← c3]; exact (hcell (at_ + 3) j3).trans (hget 3 (Nat.lt_of_lt_of_le (by decide) hl4))
          have m4 : wr.cell? ⟨q, o + a4, none⟩ = some (.int .u8 (k4 : Int)) := by rw [ha4, ← c4]; exact (hcell (at_ + 4) j4).trans (hget 4 (Nat.lt_of_lt_of_le (five_lt k3 k4) hlen5))
          obtain ⟨s4, hs4⟩ : ∃ x, x = s3 + 1 := ⟨_, rfl⟩
          obtain ⟨z9, he4⟩ := six_nums hfit hC1 h3 h4 ha5 hv1 hs1 hs2 hs3 hs4 cl_
          have HA2 := Lib.hid (he4.trans hatO)
          clear he4
          clear hs4
          clear hat hcell hCl hC1 hch hnx hfit hget hpos hcnt hx1 hx2 hx18 hx28 ha1 ha2 ha3 ha4 ha5 hleft2 hl4 hl3 hw1 hw2 hatO hj0 hjn c0 cl_ h3 h4 hlt hbe hj cj c3 c4 hs1 hs2 hs3 hv1 hlen5 j0 j1 j2 j3 j4 hu1 hu2
          go_wp2_with fail
          go_quiet (fail)
          have m3 := m3
          have m4 := m4
          go_wp2_with fail
          go_quiet (fail)
          go_wp2_with fail
          go_roundw
          case rel => exact ⟨j + 1, HEND.out.1, by rw [HA2.out], by rw [HEND.out.2.2], by first | exact below_drewN HEND.out.2.1 _ | exact below_drewN (below_drewN HEND.out.2.1 _) _⟩
          case measure => have := HML.out; simp [intOf]; omega
        · rw [c0] at m0
          have m0 : wr.cell? ⟨q, o + at_, none⟩ = some (.int .u8 128) := m0
          have hne := hjn cj
          have b0 : ¬ (left : Int) = (n : Int) := fun h => hne (Int.ofNat_inj.1 h)
          have b1 : ((left : Int) == (n : Int)) = false := by rw [beq_eq_false_iff_ne]; exact b0
          obtain ⟨v_, hv1⟩ : ∃ x, x = 256 * k3 := ⟨_, rfl⟩
          obtain ⟨s1, hs1⟩ : ∃ x, x = a5 + v_ := ⟨_, rfl⟩
          obtain ⟨s2, hs2⟩ : ∃ x, x = s1 + k4 := ⟨_, rfl⟩
          obtain ⟨s3, hs3⟩ : ∃ x, x = s2 + 1 := ⟨_, rfl⟩
          have hlen5 : 5 + 256 * k3 + k4 + 1 ≤ ch.length := by rw [cl_]; first | exact Nat.le_refl _ | exact six_le k3 k4
          obtain ⟨v1, v2, z5, z6, z7, z8, j3, j4, i3, i5, i6⟩ := packed_nums hfit hC1 h3 h4 hlen5 ha3 ha4 ha5 hv1 hs1 hs2 hs3
          have m3 : wr.cell? ⟨q, o + a3, none⟩ = some (.int .u8 (k3 : Int)) := by rw [ha3, ← c3]; exact (hcell (at_ + 3) j3).trans (hget 3 (Nat.lt_of_lt_of_le (by decide) hl4))
          have m4 : wr.cell? ⟨q, o + a4, none⟩ = some (.int .u8 (k4 : Int)) := by rw [ha4, ← c4]; exact (hcell (at_ + 4) j4).trans (hget 4 (Nat.lt_of_lt_of_le (five_lt k3 k4) hlen5))
          have HA2 := Lib.hid ((five_nums ha5 hv1 hs1 hs2 hs3 cl_).trans hatO)
          clear hat hcell hCl hC1 hch hnx hfit hget hpos hcnt hx1 hx2 hx18 hx28 ha1 ha2 ha3 ha4 ha5 hleft2 hl4 hl3 hw1 hw2 hatO hj0 hjn c0 cl_ h3 h4 hlt hbe hj cj c3 c4 hs1 hs2 hs3 hv1 hlen5 j0 j1 j2 j3 j4 hu1 hu2
          go_wp2_with fail
          go_quiet (fail)
          have m3 := m3
          have m4 := m4
          go_wp2_with fail
          go_quiet (fail)
          go_wp2_with fail
          go_roundw
          case rel => exact ⟨j + 1, HEND.out.1, by rw [HA2.out], by rw [HEND.out.2.2], by first | exact below_drewN HEND.out.2.1 _ | exact below_drewN (below_drewN HEND.out.2.1 _) _⟩
          case measure => have := HML.out; simp [intOf]; omega
        · rw [c0] at m0
          have m0 : wr.cell? ⟨q, o + at_, none⟩ = some (.int .u8 160) := m0
          have hne := hjn cj
          have b0 : ¬ (left : Int) = (n : Int) := fun h => hne (Int.ofNat_inj.1 h)
          have b1 : ((left : Int) == (n : Int)) = false := by rw [beq_eq_false_iff_ne]; exact b0
          obtain ⟨v_, hv1⟩ : ∃ x, x = 256 * k3 := ⟨_, rfl⟩
          obtain ⟨s1, hs1⟩ : ∃ x, x = a5 + v_ := ⟨_, rfl⟩
          obtain ⟨s2, hs2⟩ : ∃ x, x = s1 + k4 := ⟨_, rfl⟩
          obtain ⟨s3, hs3⟩ : ∃ x, x = s2 + 1 := ⟨_, rfl⟩
          have hlen5 : 5 + 256 * k3 + k4 + 1 ≤ ch.length := by rw [cl_]; first | exact Nat.le_refl _ | exact six_le k3 k4
          obtain ⟨v1, v2, z5, z6, z7, z8, j3, j4, i3, i5, i6⟩ := packed_nums hfit hC1 h3 h4 hlen5 ha3 ha4 ha5 hv1 hs1 hs2 hs3
          have m3 : wr.cell? ⟨q, o + a3, none⟩ = some (.int .u8 (k3 : Int)) := by rw [ha3, ← c3]; exact (hcell (at_ + 3) j3).trans (hget 3 (Nat.lt_of_lt_of_le (by decide) hl4))
          have m4 : wr.cell? ⟨q, o + a4, none⟩ = some (.int .u8 (k4 : Int)) := by rw [ha4, ← c4]; exact (hcell (at_ + 4) j4).trans (hget 4 (Nat.lt_of_lt_of_le (five_lt k3 k4) hlen5))
          have HA2 := Lib.hid ((five_nums ha5 hv1 hs1 hs2 hs3 cl_).trans hatO)
          clear hat hcell hCl hC1 hch hnx hfit hget hpos hcnt hx1 hx2 hx18 hx28 ha1 ha2 ha3 ha4 ha5 hleft2 hl4 hl3 hw1 hw2 hatO hj0 hjn c0 cl_ h3 h4 hlt hbe hj cj c3 c4 hs1 hs2 hs3 hv1 hlen5 j0 j1 j2 j3 j4 hu1 hu2
          go_wp2_with fail
          go_quiet (fail)
          have m3 := m3
          have m4 := m4
          go_wp2_with fail
          go_quiet (fail)
          go_wp2_with fail
          go_roundw
          case rel => exact ⟨j + 1, HEND.out.1, by rw [HA2.out], by rw [HEND.out.2.2], by first | exact below_drewN HEND.out.2.1 _ | exact below_drewN (below_drewN HEND.out.2.1 _) _⟩
          case measure => have := HML.out; simp [intOf]; omega
      · obtain rfl : j = M := Nat.le_antisymm hj (Nat.le_of_not_lt hlt)
        obtain ⟨il, w1_, j0, i0⟩ := last_nums (C := C.length) (at_ := at_) (left := left) (by rw [hCl, hat]) hC1 (by rw [hleft]; exact HLA.out.2.2.1)
        have m0 : wr.cell? ⟨q, o + at_, none⟩ = some (.int .u8 0) := (hcell at_ j0).trans (by rw [hat]; exact HLA.out.1)
        have HBE := Lib.hid (HB4.out.trans (hbe.mono (by have := HB4.out.size; rw [HBB.out] at this; exact this)))
        clear j0 hat hleft hcell hCl hC1 hlt hj hbe
        go_wp2_with fail
        go_ret
        exact ⟨rfl, by rw [HBB.out]; exact HBE.out⟩
end Go.Proofs.Ytdhhibfppcpieaa
