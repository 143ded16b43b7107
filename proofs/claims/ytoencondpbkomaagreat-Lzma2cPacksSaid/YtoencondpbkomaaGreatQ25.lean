/-
  PsRfind: put together.
-/
import Derived.Test.YtoencondpbkomaaGreatQ24
import Derived.Test.YtoencondpbkomaaGreatQ17
import Derived.Deep.CutRange
import Derived.Deep.CutBlock
set_option linter.unusedVariables false
set_option linter.unusedSimpArgs false
/-
  The reference's Find: the walk.
-/
namespace Go.Proofs.YtoencondpbkomaaGreat
open Go.RowKit
section
variable {w : World} {A : Option Addr} {n c : Nat} {bs : List UInt8} {fi ti di : Int} {r0 r1 r2 r3 : Nat}
theorem rf_wraps {rn rk T i : Nat} (h : rn ≤ min 273 (T - i)) (hk : rk < 4) : IntKind.i64.wrap ((rn : Int) + 1) = (rn : Int) + 1 ∧ wrap64 ((rn : Int) + 1) = (rn : Int) + 1 ∧ IntKind.i64.wrap (2 + (rk : Int)) = 2 + (rk : Int) ∧ wrap64 (2 + (rk : Int)) = 2 + (rk : Int) :=
  ⟨IntWalk.i64_in _ (by omega), IntWalk.wrap64_in _ (by omega), IntWalk.i64_in _ (by omega), IntWalk.wrap64_in _ (by omega)⟩
theorem rf_sum {a b T : Nat} (h : a + b ≤ T) (hT : T ≤ 1000000000) : wrap64 ((a : Int) + (b : Int)) = ((a + b : Nat) : Int) := by
  rw [IntWalk.wrap64_in _ (by omega)]
  omega
theorem rf_cap {L : Nat} (h : L + 1 ≤ 1000000001) : L + 1 ≤ maxLen ∧ (L + 1) * 32 ≤ 140737488355328 := by
  unfold maxLen
  omega
theorem rf_sum1 {a T : Nat} (h : a + 1 ≤ T) (hT : T ≤ 1000000000) : wrap64 ((a : Int) + 1) = ((a + 1 : Nat) : Int) := by
  rw [IntWalk.wrap64_in _ (by omega)]
  omega
theorem rf_meas {T a b : Nat} (h : a < T) (hb : a < b) : T - (intOf (Value.int .i64 (b : Int))).toNat < T - (intOf (Value.int .i64 (a : Int))).toNat := by
  simp [intOf]
  omega
theorem rf_lw {lw i D T n : Nat} (h : lw < min i D) (h1 : i ≤ T) (h2 : T ≤ n) (h3 : n ≤ 1000000000) : lw ≤ 1000000000 := by omega
theorem rf_u32 {x : Nat} (h : x ≤ 1000000000) : IntKind.u32.wrap (x : Int) = (x : Int) ∧ (x : Int) % 4294967296 = (x : Int) := by
  refine ⟨?_, by omega⟩
  simp [IntKind.wrap, IntKind.bits, IntKind.signed]
  omega
theorem rf_rn {x : Nat} (h : x ≤ 274) : IntKind.i64.wrap ((x : Int) + 1) = (x : Int) + 1 ∧ wrap64 ((x : Int) + 1) = (x : Int) + 1 := ⟨IntWalk.i64_in _ (by omega), IntWalk.wrap64_in _ (by omega)⟩
theorem rf_r0 {x : Nat} (h : x < 4294967296) : x ≤ 4294967295 := by omega
theorem rf_i64 {x : Nat} (h : x < 4294967296) : IntKind.i64.wrap (x : Int) = (x : Int) := IntWalk.i64_in _ (by omega)
theorem rf_w64 {x : Nat} (h : x < 4294967296) : wrap64 (x : Int) = (x : Int) := IntWalk.wrap64_in _ (by omega)
theorem rf_lt {i T n : Nat} (h : i < T) (h2 : T ≤ n) : i < n := by omega
theorem rf_pos {i T n : Nat} (h : i < T) (h2 : T ≤ n) : 0 < n := by omega
theorem rf_lt2 {i T n m : Nat} (h : i < T) (h2 : T ≤ n) (h3 : m = n) : i < m := by omega
theorem rf_len {b : List UInt8} {D T : Nat} {s s' : Ps} {L : List Pq} (h : findF b D T s = (L, s')) (hs : s.i ≤ T) : L.length ≤ T := by
  have h1 := go_len (b := b) (dict := D) (e := T) (s := s) T
  have h : goF b D T s T = (L, s') := h
  rw [h] at h1
  exact h1
theorem Rff.on {w wr : World} {q0 q1 : Nat} {s : Ps} {L : List Pq} {R : Option Addr} {cl : Nat} (h : Rff w wr q0 q1 s L R cl) : Rff w wr q0 q1 s.on L R cl := ⟨h.rb, h.zb, h.row, h.ra, h.bel, h.q0w, h.qq, ⟨h.lit.r0, h.lit.r1, h.lit.r2, h.lit.r3⟩⟩
set_option maxRecDepth 100000 in
set_option maxHeartbeats 64000000 in
theorem rfind_any (hS : Sl w A n (bv bs)) (hn : n ≤ 1000000000) (hd1 : -9223372036854775808 ≤ di) (hd2 : di ≤ 9223372036854775807) (hl : Ps.Lit ⟨0, r0, r1, r2, r3⟩) :
    Calls Tryz.prog 18 #[.slice A n c, .int .i64 fi, .int .i64 ti, .int .i64 di, .agg #[.int .u32 (r0 : Int), .int .u32 (r1 : Int), .int .u32 (r2 : Int), .int .u32 (r3 : Int)]] w (FindPost w bs (dictI di) (toN n (fromN n fi) ti) ⟨fromN n fi, r0, r1, r2, r3⟩) := by
  have hbl : bs.length = n := by rw [← bv_length]; exact hS.1
  obtain ⟨F, hF⟩ : ∃ F, F = fromN n fi := ⟨_, rfl⟩
  obtain ⟨T, hT⟩ : ∃ T, T = toN n F ti := ⟨_, rfl⟩
  obtain ⟨D, hD⟩ : ∃ D, D = dictI di := ⟨_, rfl⟩
  rw [← hF, ← hT, ← hD]
  obtain ⟨s0, hs0⟩ : ∃ s0 : Ps, s0 = ⟨F, r0, r1, r2, r3⟩ := ⟨_, rfl⟩
  rw [← hs0]
  have HS0 := Lib.hid (show s0.i = F by rw [hs0])
  have hFn : F ≤ n ∧ (F : Int) = min (max fi 0) (n : Int) := by rw [hF]; unfold fromN; omega
  have hTn : F ≤ T ∧ T ≤ n ∧ (T : Int) = min (max ti (F : Int)) (n : Int) := by rw [hT]; unfold toN; omega
  have hDn : 1 ≤ D ∧ (D : Int) = max di 1 := by rw [hD]; unfold dictI; omega
  have HX := Lib.hid (And.intro hFn (And.intro hTn hDn))
  have HH := Lib.hid (show F ≤ T ∧ T ≤ n ∧ 1 ≤ D ∧ D ≤ 9223372036854775807 ∧ n ≤ 1000000000 ∧ bs.length = n from ⟨hTn.1, hTn.2.1, hDn.1, by omega, hn, hbl⟩)
  have HL := Lib.hid hl
  obtain ⟨w2, hw2⟩ : ∃ w2, w2 = (w.alloc (.cells #[.int .u32 (r0 : Int), .int .u32 (r1 : Int), .int .u32 (r2 : Int), .int .u32 (r3 : Int)] 49)).alloc (.cells #[.int .u32 0, .int .u32 0, .int .u32 0, .int .u32 0] 49) := ⟨_, rfl⟩
  have hb2 : Below w.heap.size w w2 := by rw [hw2]; exact ((Below.refl _ _).alloc (Nat.le_refl _) _).alloc (by simp) _
  have hq0 : Blk w2 w.heap.size 49 #[.int .u32 (r0 : Int), .int .u32 (r1 : Int), .int .u32 (r2 : Int), .int .u32 (r3 : Int)] := by rw [hw2]; exact (Blk.fresh w _ _).alloc _
  have hq1 : Blk w2 (w.heap.size + 1) 49 zero4 := by
    rw [hw2]
    have := Blk.fresh (w.alloc (.cells #[.int .u32 (r0 : Int), .int .u32 (r1 : Int), .int .u32 (r2 : Int), .int .u32 (r3 : Int)] 49)) 49 zero4
    have e : (w.alloc (.cells #[.int .u32 (r0 : Int), .int .u32 (r1 : Int), .int .u32 (r2 : Int), .int .u32 (r3 : Int)] 49)).heap.size = w.heap.size + 1 := by simp
    rw [e] at this
    exact this
  obtain ⟨q0, hqq0⟩ : ∃ q0, q0 = w.heap.size := ⟨_, rfl⟩
  obtain ⟨q1, hqq1⟩ : ∃ q1, q1 = w.heap.size + 1 := ⟨_, rfl⟩
  have hrf : Rff w w2 q0 q1 s0 [] none 0 := by
    rw [hs0]
    exact ⟨by rw [hqq0]; exact hq0, by rw [hqq1]; exact hq1, ⟨rfl, .inl ⟨rfl, rfl⟩⟩, fun k e => (nomatch e), hb2, by omega, by omega, ⟨hl.r0, hl.r1, hl.r2, hl.r3⟩⟩
  have HRF := Lib.hid hrf
  have HW2 := Lib.hid hw2
  have HQQ := Lib.hid (And.intro hqq0 hqq1)
  have HS := Lib.hid hS
  clear hS hn hd1 hd2 hl hbl hs0 hF hT hD hFn hTn hDn hw2 hb2 hq0 hq1 hrf hqq0 hqq1
  go_enter Tryz.func18, Tryz.ntmps18
  go_upto_if 25 with fail
  rw [← HW2.out, ← HQQ.out.2, ← HQQ.out.1]
  clear HW2 HQQ
  obtain ⟨x1, hx1⟩ : ∃ x1, x1 = max fi 0 := ⟨_, rfl⟩
  have HX1 := Lib.hid hx1
  clear hx1
  go_cut [1] from 24 (fun v wx => v = .int .i64 x1 ∧ wx = w2)
  case first =>
    as_aux_lemma =>
      by_cases h : fi < 0
      · go_wp2_with fail
        go_meet
        exact ⟨by rw [HX1.out]; congr 1; omega, rfl⟩
      · go_wp2_with fail
        go_meet
        exact ⟨by rw [HX1.out]; congr 1; omega, rfl⟩
  case rest =>
  obtain ⟨rfl, hwc⟩ := hcut
  rw [hwc]
  clear hwc wc
  go_upto_if 29 with fail
  go_cut [1] from 26 (fun v wx => v = .int .i64 (F : Int) ∧ wx = w2)
  case first =>
    as_aux_lemma =>
      by_cases h : x1 > (n : Int)
      · go_wp2_with fail
        go_meet
        exact ⟨by rw [HX.out.1.2]; congr 1; have := HX1.out; omega, rfl⟩
      · go_wp2_with fail
        go_meet
        exact ⟨by rw [HX.out.1.2]; congr 1; have := HX1.out; omega, rfl⟩
  case rest =>
  obtain ⟨rfl, hwc⟩ := hcut
  rw [hwc]
  clear hwc wc
  obtain ⟨x2, hx2⟩ : ∃ x2, x2 = max ti (F : Int) := ⟨_, rfl⟩
  have HX2 := Lib.hid hx2
  clear hx2
  go_upto_if 34 with fail
  go_cut [2] from 32 (fun v wx => v = .int .i64 x2 ∧ wx = w2)
  case first =>
    as_aux_lemma =>
      by_cases h : ti < (F : Int)
      · go_wp2_with fail
        go_meet
        exact ⟨by rw [HX2.out]; congr 1; omega, rfl⟩
      · go_wp2_with fail
        go_meet
        exact ⟨by rw [HX2.out]; congr 1; omega, rfl⟩
  case rest =>
  obtain ⟨rfl, hwc⟩ := hcut
  rw [hwc]
  clear hwc wc
  go_upto_if 39 with fail
  go_cut [2] from 36 (fun v wx => v = .int .i64 (T : Int) ∧ wx = w2)
  case first =>
    as_aux_lemma =>
      by_cases h : x2 > (n : Int)
      · go_wp2_with fail
        go_meet
        exact ⟨by rw [HX.out.2.1.2.2]; congr 1; have := HX2.out; omega, rfl⟩
      · go_wp2_with fail
        go_meet
        exact ⟨by rw [HX.out.2.1.2.2]; congr 1; have := HX2.out; omega, rfl⟩
  case rest =>
  obtain ⟨rfl, hwc⟩ := hcut
  rw [hwc]
  clear hwc wc
  go_upto_if 43 with fail
  go_cut [3] from 42 (fun v wx => v = .int .i64 (D : Int) ∧ wx = w2)
  case first =>
    as_aux_lemma =>
      by_cases h : di < 1
      · go_wp2_with fail
        go_meet
        exact ⟨by rw [HX.out.2.2.2]; congr 1; omega, rfl⟩
      · go_wp2_with fail
        go_meet
        exact ⟨by rw [HX.out.2.2.2]; congr 1; omega, rfl⟩
  case rest =>
  obtain ⟨rfl, hwc⟩ := hcut
  rw [hwc]
  clear hwc wc HX HX1 HX2
  clear x1 x2
  clear HL
  go_wp2_with fail
  go_loopw [12, 13] (fun v12 v13 wr => ∃ (j : Nat) (L : List Pq) (s : Ps) (R : Option Addr) (cl : Nat), goF bs D T s0 j = (L, s) ∧ v12 = .slice R L.length cl ∧ v13 = .int .i64 (s.i : Int) ∧ Rff w wr q0 q1 s L R cl) (fun _ v13 _ => T - (intOf v13).toNat)
  case atStart => exact ⟨0, [], s0, none, 0, rfl, rfl, by rw [HS0.out], HRF.out⟩
  case round =>
    clear HRF
    obtain ⟨j, L, s, R, cl, hgo, rfl, rfl, hrf⟩ := hrel
    have hle := go_end (b := bs) (dict := D) (e := T) (s := s0) (by rw [HS0.out]; exact HH.out.1) j
    rw [hgo] at hle
    have hle : s.i ≤ T := hle
    have HGO := Lib.hid hgo
    have HRF := Lib.hid hrf
    by_cases hlt : s.i < T
    · have i1 : (s.i : Int) < (T : Int) := by omega
      generalize wr = wA at *
      obtain ⟨hFT, hTn, hD1, hD2, hn, hbl⟩ := HH.out
      have KL := Lib.hid (fun (k d : Nat) (hd : d ≤ 4294967295) => rlong_any (A := A) (n := n) (c := c) (i := s.i) (e := T) (d := d) (dict := D) (bs := bs) (w := wA.drewN k) ((HS.out.below HRF.out.bel).drewN k) hn hTn hle hD2 hd)
      obtain ⟨gE, hgE⟩ : ∃ gE : Nat → Nat, gE = fun h => cpN bs D T s.i (s.rep h) := ⟨_, rfl⟩
      obtain ⟨gL, hgL⟩ : ∃ gL : Nat → Nat, gL = fun d => cpN bs D T s.i d := ⟨_, rfl⟩
      have HGE := Lib.hid (fun h => show cpN bs D T s.i (s.rep h) = gE h by rw [hgE])
      have HGL := Lib.hid (fun d => show cpN bs D T s.i d = gL d by rw [hgL])
      have HEL := Lib.hid (show best gE 4 = eldP bs D T s ∧ best gL (min s.i D) = lonP bs D T s by rw [hgE, hgL]; exact ⟨rfl, rfl⟩)
      have HG3 := Lib.hid (fun h => show gE h ≤ 273 ∧ gL h ≤ 273 by rw [hgE, hgL]; have h1 := cpN_le bs D T s.i (s.rep h); have h2 := cpN_le bs D T s.i h; exact ⟨by show cpN bs D T s.i (s.rep h) ≤ 273; omega, by show cpN bs D T s.i h ≤ 273; omega⟩)
      have HLT := Lib.hid (And.intro hlt hle)
      clear hgo hle hrf hlt hFT hTn hD1 hD2 hn hbl hgE hgL
      obtain ⟨r, hr⟩ : ∃ r, r = eldP bs D T s := ⟨_, rfl⟩
      have HR := Lib.hid hr
      clear hr
      obtain ⟨rk, rn⟩ := r
      go_upto_block 2 with fail
      go_cut [14, 15, 16, 17] from 45 to 176 (fun v14 v15 v16 v17 wx => v14 = .int .i64 (rn : Int) ∧ v15 = .int .i64 (rk : Int) ∧ ∃ k, wx = wA.drewN k)
      case first =>
        as_aux_lemma =>
          go_wp2_with fail
          go_loopw [14, 15, 16] (fun v14 v15 v16 wr => ∃ h k : Nat, h ≤ 4 ∧ v16 = .int .i64 (h : Int) ∧ v14 = .int .i64 ((best gE h).2 : Int) ∧ v15 = .int .i64 ((best gE h).1 : Int) ∧ wr = wA.drewN k) (fun _ _ v16 _ => 4 - (intOf v16).toNat)
          case atStart => exact ⟨0, 0, by omega, rfl, rfl, rfl, rfl⟩
          case round =>
            obtain ⟨h, k, hh, rfl, rfl, rfl, rfl⟩ := hrel
            by_cases h4 : h < 4
            · have i4 : (h : Int) < 4 := by omega
              have i5 : (0 : Int) ≤ (h : Int) := by omega
              have ch := HRF.out.rep h4
              have hrl := HRF.out.lit.rep h
              have K := KL.out k (s.rep h) (by omega)
              rw [HGE.out h] at K
              have K := Lib.hid K
              have e1 : IntKind.i64.wrap (s.rep h : Int) = (s.rep h : Int) := IntWalk.i64_in _ (by omega)
              have e2 : IntKind.i64.wrap ((h : Int) + 1) = (h : Int) + 1 := IntWalk.i64_in _ (by omega)
              have hbs : best gE (h + 1) = if (best gE h).2 < gE h then (h, gE h) else best gE h := rfl
              have hx3 := (HG3.out h).1
              obtain ⟨x, hx⟩ : ∃ x, x = gE h := ⟨_, rfl⟩
              rw [← hx] at K hbs hx3
              obtain ⟨b, hb⟩ : ∃ b, b = best gE h := ⟨_, rfl⟩
              rw [← hb] at hbs ⊢
              obtain ⟨b1, b2⟩ := b
              have HH4 := Lib.hid h4
              generalize s.rep h = d at *
              clear hh h4 hrl hx hb hx3
              by_cases hl : b2 < x
              · have i6 : (b2 : Int) < (x : Int) := by omega
                have HBS := Lib.hid (show best gE (h + 1) = (h, x) by rw [hbs]; exact if_pos hl)
                clear hl hbs
                go_wp2_with fail
                refine K.out.mono ?_
                rintro y w1 ⟨rfl, k1, rfl⟩
                clear K
                go_wp2_with fail
                go_roundw
                case rel => exact ⟨h + 1, k + k1, by have := HH4.out; omega, by go_num, by rw [HBS.out], by rw [HBS.out], rfl⟩
                case measure => have := HH4.out; simp [intOf]; omega
              · have i6 : ¬ (b2 : Int) < (x : Int) := by omega
                have HBS := Lib.hid (show best gE (h + 1) = (b1, b2) by rw [hbs]; exact if_neg hl)
                clear hl hbs
                go_wp2_with fail
                refine K.out.mono ?_
                rintro y w1 ⟨rfl, k1, rfl⟩
                clear K
                go_wp2_with fail
                go_roundw
                case rel => exact ⟨h + 1, k + k1, by have := HH4.out; omega, by go_num, by rw [HBS.out], by rw [HBS.out], rfl⟩
                case measure => have := HH4.out; simp [intOf]; omega
            · obtain rfl : h = 4 := by omega
              clear hh h4
              have hrr : best gE 4 = (rk, rn) := HEL.out.1.trans HR.out.symm
              have HRR := Lib.hid hrr
              clear hrr
              go_wp2_with fail
              go_meet
              exact ⟨by rw [HRR.out], by rw [HRR.out], k, rfl⟩
      case rest =>
      obtain ⟨rfl, rfl, k, hw⟩ := hcut
      rw [hw]
      have HRF2 := Lib.hid (HRF.out.drewN k)
      have KL2 := Lib.hid (fun (k2 d : Nat) (hd : d ≤ 4294967295) => show Calls Tryz.prog 35 #[.slice A n c, .int .i64 (s.i : Int), .int .i64 (T : Int), .int .i64 (d : Int), .int .i64 (D : Int)] ((wA.drewN k).drewN k2) (fun x w' => x = .returned (.int .i64 (cpN bs D T s.i d : Int)) ∧ ∃ k3, ((wA.drewN k).drewN k2).drewN k3 = w') by
        rw [World.drewN_drewN]
        exact KL.out (k + k2) d hd)
      have HRB := Lib.hid (show rk < 4 ∧ rn ≤ min 273 (T - s.i) by
        have h1 := eld_lt (b := bs) (dict := D) (e := T) (s := s)
        have h2 := eld_le (b := bs) (dict := D) (e := T) (s := s)
        rw [← HR.out] at h1 h2
        exact ⟨h1, h2⟩)
      clear HRF KL hw wc HGE
      generalize wA.drewN k = wB at *
      obtain ⟨l, hl⟩ : ∃ l, l = lonP bs D T s := ⟨_, rfl⟩
      have HLO := Lib.hid hl
      clear hl
      obtain ⟨lw, lm⟩ := l
      go_upto_block 4 with fail
      go_cut [18, 19, 20, 21] from 45 to 176 (fun v18 v19 v20 v21 wx => v18 = .int .i64 (lm : Int) ∧ v19 = .int .i64 (lw : Int) ∧ ∃ k, wx = wB.drewN k)
      case first =>
        as_aux_lemma =>
          go_wp2_with fail
          go_loopw [18, 19, 20] (fun v18 v19 v20 wr => ∃ d k : Nat, d ≤ min s.i D ∧ v20 = .int .i64 (d : Int) ∧ v18 = .int .i64 ((best gL d).2 : Int) ∧ v19 = .int .i64 ((best gL d).1 : Int) ∧ wr = wB.drewN k) (fun _ _ v20 _ => s.i - (intOf v20).toNat)
          case atStart => exact ⟨0, 0, Nat.zero_le _, rfl, rfl, rfl, rfl⟩
          case round =>
            obtain ⟨d, k2, hd, rfl, rfl, rfl, rfl⟩ := hrel
            obtain ⟨hFT, hTn, hD1, hD2, hn, hbl⟩ := HH.out
            obtain ⟨hlt, hle⟩ := HLT.out
            by_cases hdd : d < min s.i D
            · have i4 : (d : Int) < (s.i : Int) := by omega
              have i5 : (d : Int) < (D : Int) := by omega
              have K := KL2.out k2 d (by omega)
              rw [HGL.out d] at K
              have K := Lib.hid K
              have e2 : IntKind.i64.wrap ((d : Int) + 1) = (d : Int) + 1 := IntWalk.i64_in _ (by omega)
              have hbs : best gL (d + 1) = if (best gL d).2 < gL d then (d, gL d) else best gL d := rfl
              obtain ⟨x, hx⟩ : ∃ x, x = gL d := ⟨_, rfl⟩
              rw [← hx] at K hbs
              obtain ⟨b, hb⟩ : ∃ b, b = best gL d := ⟨_, rfl⟩
              rw [← hb] at hbs ⊢
              obtain ⟨b1, b2⟩ := b
              have HDD := Lib.hid (show d < min s.i D ∧ s.i < T from ⟨hdd, hlt⟩)
              clear hd hdd hx hb hFT hTn hD1 hD2 hn hbl hlt hle
              by_cases hl : b2 < x
              · have i6 : (b2 : Int) < (x : Int) := by omega
                have HBS := Lib.hid (show best gL (d + 1) = (d, x) by rw [hbs]; exact if_pos hl)
                clear hl hbs
                go_wp2_with fail
                refine K.out.mono ?_
                rintro y w1 ⟨rfl, k1, rfl⟩
                clear K
                go_wp2_with fail
                go_roundw
                case rel => exact ⟨d + 1, k2 + k1, by have := HDD.out; omega, by go_num, by rw [HBS.out], by rw [HBS.out], rfl⟩
                case measure => have := HDD.out; simp [intOf]; omega
              · have i6 : ¬ (b2 : Int) < (x : Int) := by omega
                have HBS := Lib.hid (show best gL (d + 1) = (b1, b2) by rw [hbs]; exact if_neg hl)
                clear hl hbs
                go_wp2_with fail
                refine K.out.mono ?_
                rintro y w1 ⟨rfl, k1, rfl⟩
                clear K
                go_wp2_with fail
                go_roundw
                case rel => exact ⟨d + 1, k2 + k1, by have := HDD.out; omega, by go_num, by rw [HBS.out], by rw [HBS.out], rfl⟩
                case measure => have := HDD.out; simp [intOf]; omega
            · obtain rfl : d = min s.i D := by omega
              have hll : best gL (min s.i D) = (lw, lm) := HEL.out.2.trans HLO.out.symm
              have HLL := Lib.hid hll
              obtain ⟨dd, hdq⟩ : ∃ dd, dd = min s.i D := ⟨_, rfl⟩
              rw [← hdq]
              rw [← hdq] at HLL
              have g1 : ¬ ((dd : Int) < (s.i : Int) ∧ (dd : Int) < (D : Int)) := by omega
              have HG1 := Lib.hid g1
              clear hll hd hdd hdq g1 hFT hTn hD1 hD2 hn hbl hlt hle
              by_cases h1 : (dd : Int) < (s.i : Int)
              · have h2 : ¬ (dd : Int) < (D : Int) := fun h => HG1.out ⟨h1, h⟩
                go_wp2_with fail
                go_meet
                exact ⟨by rw [HLL.out], by rw [HLL.out], k2, rfl⟩
              · go_wp2_with fail
                go_meet
                exact ⟨by rw [HLL.out], by rw [HLL.out], k2, rfl⟩
      case rest =>
      obtain ⟨rfl, rfl, k2, hw⟩ := hcut
      rw [hw]
      have hmm : lonM bs D T s = if lm < 2 then 0 else lm := by unfold lonM; rw [← HLO.out]
      have hlb := lon_le (b := bs) (dict := D) (e := T) (s := s)
      rw [← HLO.out] at hlb
      have hlb : lm ≤ min 273 (T - s.i) := hlb
      have hlw := lon_lt (b := bs) (dict := D) (e := T) (s := s)
      rw [← HLO.out] at hlw
      have hlw : 0 < lm → lw < min s.i D := hlw
      obtain ⟨mm, hm0⟩ : ∃ mm, mm = lonM bs D T s := ⟨_, rfl⟩
      have HMM := Lib.hid (show mm = lonM bs D T s ∧ mm ≤ min 273 (T - s.i) ∧ (0 < mm → lw < min s.i D) ∧ mm = (if lm < 2 then 0 else lm) from ⟨hm0, by rw [hm0, hmm]; split <;> omega, fun h => hlw (by rw [hm0, hmm] at h; split at h <;> omega), by rw [hm0, hmm]⟩)
      have HRF3 := Lib.hid (HRF2.out.drewN k2)
      have KL3 := Lib.hid (fun (d : Nat) (hd : d ≤ 4294967295) => KL2.out k2 d hd)
      clear hmm hlb hlw hm0 KL2 HRF2 HG3 HGL HEL hw wc
      generalize wB.drewN k2 = wC at *
      go_upto_if 88 with fail
      go_cut [18] from 45 to 176 (fun v wx => v = .int .i64 (mm : Int) ∧ wx = wC)
      case first =>
        as_aux_lemma =>
          by_cases h3 : lm < 2
          · have h4 : (lm : Int) < 2 := by omega
            go_wp2_with fail
            go_meet
            exact ⟨by rw [HMM.out.2.2.2, if_pos h3]; rfl, rfl⟩
          · have h4 : ¬ (lm : Int) < 2 := by omega
            go_wp2_with fail
            go_meet
            exact ⟨by rw [HMM.out.2.2.2, if_neg h3], rfl⟩
      case rest =>
      obtain ⟨rfl, hw⟩ := hcut
      rw [hw]
      clear hw wc
      have hst : stepF bs D T s = stepG (rk, rn) lw mm (cpN bs D T s.i s.r0) (bs.getD s.i 0) s := by
        unfold stepF
        rw [← HR.out, ← HLO.out, HMM.out.1]
      have hgo2 : goF bs D T s0 (j + 1) = (L ++ [(stepF bs D T s).1], (stepF bs D T s).2) := by
        have := go_succ (b := bs) (dict := D) (e := T) (s := s0) (n := j) (by rw [HGO.out]; exact HLT.out.1)
        rw [HGO.out] at this
        exact this
      have hsi := step_i (b := bs) (dict := D) (e := T) (s := s) HLT.out.1
      have HLE := Lib.hid (show L.length + 1 ≤ 1000000001 from by
        have h1 := go_len (b := bs) (dict := D) (e := T) (s := s0) j
        have h2 := go_more (b := bs) (dict := D) (e := T) (s := s0) j (by rw [HGO.out]; exact HLT.out.1)
        rw [HGO.out] at h1 h2
        have h1 : L.length ≤ j := h1
        have h2 : s0.i + j ≤ s.i := h2
        have := HH.out
        have := HLT.out
        omega)
      have HLQ := Lib.hid (rf_cap HLE.out)
      clear HLE
      have hlit := step_lit (b := bs) (dict := D) (e := T) HRF3.out.lit (by have := HH.out; omega)
      obtain ⟨pq, hpq⟩ : ∃ pq, pq = (stepF bs D T s).1 := ⟨_, rfl⟩
      obtain ⟨s', hs'⟩ : ∃ s', s' = (stepF bs D T s).2 := ⟨_, rfl⟩
      rw [← hpq, ← hs'] at hgo2
      rw [← hs'] at hsi hlit
      have HGO2 := Lib.hid hgo2
      have HST := Lib.hid (show stepG (rk, rn) lw mm (cpN bs D T s.i s.r0) (bs.getD s.i 0) s = (pq, s') by rw [← hst, hpq, hs'])
      have HSI := Lib.hid (And.intro hsi hlit)
      clear hst hgo2 hsi hlit hpq hs'
      clear hle hlb hlw i1
      by_cases ha : 2 ≤ rn ∧ mm ≤ rn + 1
      · as_aux_lemma =>
          have hh := HST.out
          unfold stepG at hh
          rw [if_pos ha] at hh
          injection hh with hp hs
          have HPQ := Lib.hid hp.symm
          have HSN := Lib.hid (show s.i < s'.i ∧ s'.i ≤ T ∧ s'.i = s.i + rn from ⟨HSI.out.1.1, HSI.out.1.2, by rw [← hs, Ps.raise_i]⟩)
          have HSR := Lib.hid hs.symm
          have i2 : (2 : Int) ≤ (rn : Int) := by omega
          have i3 : (mm : Int) ≤ (rn : Int) + 1 := by omega
          obtain ⟨e1, e1', e2, e2'⟩ := rf_wraps (rn := rn) (rk := rk) (T := T) (i := s.i) HRB.out.2 HRB.out.1
          clear ha hp hs
          obtain ⟨ip, hip, hpz, hps, hpb⟩ := info_parts info_ppk
          have HF8 := Lib.hid (HRF3.out.alloc (.cells #[.int .i64 (2 + (rk : Int)), .int .u8 0, .int .i64 (rn : Int), .int .u32 0] 59))
          go_wp2_with (at_builtin; refine wpList_append_lies _ rfl (.tmp 97) (.tmp 102) 47 rfl w.heap.size 59 ip _ 4 32 Tryz.underlying47 hip hpz hps hpb (by rfl) (by decide) (.slice R L.length cl) L.length (L.flatMap pkV) rfl HF8.out.row ⟨wC.heap.size, 0, none⟩ 1 1 (pkV pq) rfl rfl (by rw [HPQ.out]; exact ppk_news wC ⟨2 + (rk : Int), 0, (rn : Int), 0⟩ _) (ppkV_one pq) (by decide) HLQ.out.1 HLQ.out.2 HF8.out.bel.size _ rfl ?_)
          intro x9 cap9 w9 ho9 hg9 hl9 hx9
          have hf9 := HF8.out.app ho9 hg9 (hl9.imp id (fun h => by simpa using h))
          clear ho9 hg9 hl9 hx9 hip hpz hps hpb HF8
          have HF9 := Lib.hid hf9
          clear hf9 e1 e1' e2 e2' i2 i3
          go_upto_region 36 with fail
          have ck := HF9.out.rep HRB.out.1
          obtain ⟨ft, hft⟩ : ∃ ft, ft = s.rep rk := ⟨_, rfl⟩
          rw [← hft] at ck
          have HFT := Lib.hid hft
          clear hft
          have b1 : (0 : Int) ≤ (rk : Int) := by omega
          have b2 : (rk : Int) < 4 := by have := HRB.out.1; omega
          go_upto_region 37 with fail
          clear ck b1 b2
          go_upto_block 6 with fail
          go_cut [23] from 108 to 117 (fun v23 wx => v23 = .int .i64 0 ∧ Only (fun i => i = q0) w9 wx ∧ Blk wx q0 49 (shC s rk 0))
          case first =>
            go_wp2_with fail
            go_loopw [23] (fun v23 wr => ∃ h : Nat, h ≤ rk ∧ v23 = .int .i64 (h : Int) ∧ Only (fun i => i = q0) w9 wr ∧ Blk wr q0 49 (shC s rk h)) (fun v23 _ => (intOf v23).toNat)
            case atStart => exact ⟨rk, Nat.le_refl _, rfl, Only.refl _ _, by rw [shC_start]; exact HF9.out.rb⟩
            case round =>
              obtain ⟨h, hh, rfl, hO, hB⟩ := hrel
              have hrk := HRB.out.1
              by_cases h0 : 0 < h
              · obtain ⟨h1, rfl⟩ : ∃ h1, h = h1 + 1 := ⟨h - 1, by omega⟩
                have cc := shC_cell hB (t := h1) (by omega)
                rw [shf_at s (by omega)] at cc
                have cd := shC_cell hB (t := h1 + 1) (by omega)
                have cf := hB.free (h1 + 1)
                have HB2 := Lib.hid (show Blk (wr.setCell ⟨q0, h1 + 1, none⟩ (.int .u32 (s.rep h1 : Int))) q0 49 (shC s rk h1) by have := hB.put (h1 + 1) (.int .u32 (s.rep h1 : Int)); rwa [shC_step s hrk (by omega)] at this)
                have HO2 := Lib.hid (hO.setCell (p := ⟨q0, h1 + 1, none⟩) (.inl rfl) (.int .u32 (s.rep h1 : Int)))
                obtain ⟨h2, hh2⟩ : ∃ h2, h2 = h1 + 1 := ⟨_, rfl⟩
                rw [← hh2] at cd cf HB2 HO2 hh ⊢
                have e1 : IntKind.i64.wrap ((h2 : Int) - 1) = (h1 : Int) := by rw [IntWalk.i64_in _ (by omega)]; omega
                have i1 : (h2 : Int) > 0 := by omega
                have b1 : (0 : Int) ≤ (h1 : Int) := by omega
                have b2 : (h1 : Int) < 4 := by omega
                have b3 : (0 : Int) ≤ (h2 : Int) := by omega
                have b4 : (h2 : Int) < 4 := by omega
                have HHH := Lib.hid (show h2 = h1 + 1 ∧ h2 ≤ rk from ⟨hh2, hh⟩)
                clear hO hB hh h0 hrk hh2
                go_wp2_with fail
                go_roundw
                case rel => exact ⟨h1, by have := HHH.out; omega, by go_num, HO2.out, HB2.out⟩
                case measure => have := HHH.out; simp [intOf]; omega
              · obtain rfl : h = 0 := by omega
                have HX9 := Lib.hid (And.intro hO hB)
                clear hO hB hh h0 hrk
                go_wp2_with fail
                go_meet
                exact ⟨rfl, HX9.out.1, HX9.out.2⟩
          case rest =>
            obtain ⟨rfl, hO, hB⟩ := hcut
            have hrk := HRB.out.1
            have cc := shC_cell hB (t := 0) (by decide)
            have cf := hB.free 0
            have hB2 : Blk (wc.setCell ⟨q0, 0, none⟩ (.int .u32 (ft : Int))) q0 49 (repC s') := by
              have := hB.put 0 (.int .u32 (s.rep rk : Int))
              rw [shC_end s hrk] at this
              have e : repC (s.raise 0 rk) = repC s' := by
                rw [HSR.out]
                have k1 : rk = 0 ∨ rk = 1 ∨ rk = 2 ∨ rk = 3 := by omega
                rcases k1 with rfl | rfl | rfl | rfl <;> rfl
              rw [HFT.out]
              rwa [e] at this
            have HRX := Lib.hid (HF9.out.turn (hO.setCell (p := ⟨q0, 0, none⟩) (.inl rfl) (.int .u32 (ft : Int))) hB2 HSI.out.2)
            have e3 := rf_sum (a := s.i) (b := rn) (T := T) (by rw [← HSN.out.2.2]; exact HSN.out.2.1) (Nat.le_trans HH.out.2.1 HH.out.2.2.2.2.1)
            clear hO hB hB2 hrk
            generalize wc = wr9 at *
            go_upto_region 42 with fail
            clear cc cf
            go_wp2_with fail
            go_roundw
            case rel =>
              first
                | exact ⟨j + 1, L ++ [pq], s', some ⟨x9, 0, none⟩, cap9, HGO2.out, by simp, by rw [HSN.out.2.2, e3], HRX.out⟩
                | ((repeat apply Exists.intro); exact ⟨⟨j + 1, L ++ [pq], s', some ⟨x9, 0, none⟩, cap9, HGO2.out, by simp, by rw [HSN.out.2.2, e3], HRX.out⟩, rfl⟩)
            case measure =>
              have h1 := HSN.out
              have h2 := HLT.out
              first
                | (rw [e3]; exact rf_meas h2.1 (by omega))
                | (clear e3; simp [intOf]; omega)
      · have hrn : rn ≤ 274 := Nat.le_trans HRB.out.2 (Nat.le_trans (Nat.min_le_left _ _) (by decide))
        have HRN := Lib.hid hrn
        clear hrn
        by_cases hb : 3 ≤ mm ∨ (mm = 2 ∧ lw < 128)
        · by_cases h2 : 2 ≤ rn
          · as_aux_lemma =>
              have hh := HST.out
              unfold stepG at hh
              rw [if_neg ha, if_pos hb] at hh
              injection hh with hp hs
              have HPQ := Lib.hid hp.symm
              have HSN := Lib.hid (show s.i < s'.i ∧ s'.i ≤ T ∧ s'.i = s.i + mm from ⟨HSI.out.1.1, HSI.out.1.2, by rw [← hs]; rfl⟩)
              have HSR := Lib.hid hs.symm
              have hmpos : 0 < mm := by omega
              have HLW := Lib.hid (show lw ≤ 1000000000 from rf_lw (HMM.out.2.2.1 hmpos) HLT.out.2 HH.out.2.1 HH.out.2.2.2.2.1)
              have HLWC := Lib.hid (rf_u32 HLW.out)
              have r1 : (2 : Int) ≤ (rn : Int) := by omega
              have r2 : ¬ (mm : Int) ≤ (rn : Int) + 1 := by omega
              obtain ⟨r3, r4⟩ := rf_rn HRN.out
              have m1 : (3 : Int) ≤ (mm : Int) := by omega
              have l1 := HLWC.out.1
              have l2 := HLWC.out.2
              clear ha hb hp hs hmpos h2
              have HRFD := HRF3
              obtain ⟨ip, hip, hpz, hps, hpb⟩ := info_parts info_ppk
              have HF8 := Lib.hid (HRFD.out.alloc (.cells #[.int .i64 1, .int .u8 0, .int .i64 (mm : Int), .int .u32 (lw : Int)] 59))
              go_wp2_with (at_builtin; refine wpList_append_lies _ rfl (.tmp 133) (.tmp 138) 47 rfl w.heap.size 59 ip _ 4 32 Tryz.underlying47 hip hpz hps hpb (by rfl) (by decide) (.slice R L.length cl) L.length (L.flatMap pkV) rfl HF8.out.row ⟨wC.heap.size, 0, none⟩ 1 1 (pkV pq) rfl rfl (by rw [HPQ.out]; exact ppk_news wC ⟨1, 0, (mm : Int), (lw : Int)⟩ _) (ppkV_one pq) (by decide) HLQ.out.1 HLQ.out.2 HF8.out.bel.size _ rfl ?_)
              intro x9 cap9 w9 ho9 hg9 hl9 hx9
              have hf9 := HF8.out.app ho9 hg9 (hl9.imp id (fun h => by simpa using h))
              clear ho9 hg9 hl9 hx9 hip hpz hps hpb HF8
              have HF9 := Lib.hid hf9
              clear hf9
              have c0 := HF9.out.rep (k := 0) (by decide)
              have c1 := HF9.out.rep (k := 1) (by decide)
              have c2 := HF9.out.rep (k := 2) (by decide)
              have c3 := HF9.out.rep (k := 3) (by decide)
              have f0 := HF9.out.rb.free 0
              have f1 := HF9.out.rb.free 1
              have f2 := HF9.out.rb.free 2
              have f3 := HF9.out.rb.free 3
              have c0 : w9.cell? ⟨q0, 0, none⟩ = some (.int .u32 (s.r0 : Int)) := c0
              have c1 : w9.cell? ⟨q0, 1, none⟩ = some (.int .u32 (s.r1 : Int)) := c1
              have c2 : w9.cell? ⟨q0, 2, none⟩ = some (.int .u32 (s.r2 : Int)) := c2
              have c3 : w9.cell? ⟨q0, 3, none⟩ = some (.int .u32 (s.r3 : Int)) := c3
              go_upto_region 46 with fail
              have hB4 := (((HF9.out.rb.put 0 (.int .u32 (lw : Int))).put 1 (.int .u32 (s.r0 : Int))).put 2 (.int .u32 (s.r1 : Int))).put 3 (.int .u32 (s.r2 : Int))
              have hO4 := ((((Only.refl (fun i => i = q0) w9).setCell (p := ⟨q0, 0, none⟩) (.inl rfl) (.int .u32 (lw : Int))).setCell (p := ⟨q0, 1, none⟩) (.inl rfl) (.int .u32 (s.r0 : Int))).setCell (p := ⟨q0, 2, none⟩) (.inl rfl) (.int .u32 (s.r1 : Int))).setCell (p := ⟨q0, 3, none⟩) (.inl rfl) (.int .u32 (s.r2 : Int))
              have HRX := Lib.hid (HF9.out.turn (s' := s') hO4 (by rw [HSR.out]; exact hB4) HSI.out.2)
              clear c0 c1 c2 c3 f0 f1 f2 f3 hB4 hO4 l1 l2
              have e3 := rf_sum (a := s.i) (b := mm) (T := T) (by rw [← HSN.out.2.2]; exact HSN.out.2.1) (Nat.le_trans HH.out.2.1 HH.out.2.2.2.2.1)
              go_wp2_with fail
              go_roundw
              case rel =>
                first
                  | exact ⟨j + 1, L ++ [pq], s', some ⟨x9, 0, none⟩, cap9, HGO2.out, by simp, by rw [HSN.out.2.2, e3], HRX.out⟩
                  | ((repeat apply Exists.intro); exact ⟨⟨j + 1, L ++ [pq], s', some ⟨x9, 0, none⟩, cap9, HGO2.out, by simp, by rw [HSN.out.2.2, e3], HRX.out⟩, rfl⟩)
                  | ((repeat apply Exists.intro); exact ⟨⟨j + 1, L ++ [pq], s', some ⟨x9, 0, none⟩, cap9, HGO2.out, by simp, by rw [HSN.out.2.2], HRX.out⟩, rfl⟩)
              case measure =>
                have h1 := HSN.out
                have h2 := HLT.out
                first
                  | (rw [e3]; exact rf_meas h2.1 (by omega))
                  | (clear e3; simp [intOf]; omega)
          · by_cases h3 : 3 ≤ mm
            · as_aux_lemma =>
                have hh := HST.out
                unfold stepG at hh
                rw [if_neg ha, if_pos hb] at hh
                injection hh with hp hs
                have HPQ := Lib.hid hp.symm
                have HSN := Lib.hid (show s.i < s'.i ∧ s'.i ≤ T ∧ s'.i = s.i + mm from ⟨HSI.out.1.1, HSI.out.1.2, by rw [← hs]; rfl⟩)
                have HSR := Lib.hid hs.symm
                have hmpos : 0 < mm := by omega
                have HLW := Lib.hid (show lw ≤ 1000000000 from rf_lw (HMM.out.2.2.1 hmpos) HLT.out.2 HH.out.2.1 HH.out.2.2.2.2.1)
                have HLWC := Lib.hid (rf_u32 HLW.out)
                have r1 : ¬ (2 : Int) ≤ (rn : Int) := by omega
                have m1 : (3 : Int) ≤ (mm : Int) := by omega
                have l1 := HLWC.out.1
                have l2 := HLWC.out.2
                clear ha hb hp hs hmpos h2 h3
                have HRFD := HRF3
                obtain ⟨ip, hip, hpz, hps, hpb⟩ := info_parts info_ppk
                have HF8 := Lib.hid (HRFD.out.alloc (.cells #[.int .i64 1, .int .u8 0, .int .i64 (mm : Int), .int .u32 (lw : Int)] 59))
                go_wp2_with (at_builtin; refine wpList_append_lies _ rfl (.tmp 133) (.tmp 138) 47 rfl w.heap.size 59 ip _ 4 32 Tryz.underlying47 hip hpz hps hpb (by rfl) (by decide) (.slice R L.length cl) L.length (L.flatMap pkV) rfl HF8.out.row ⟨wC.heap.size, 0, none⟩ 1 1 (pkV pq) rfl rfl (by rw [HPQ.out]; exact ppk_news wC ⟨1, 0, (mm : Int), (lw : Int)⟩ _) (ppkV_one pq) (by decide) HLQ.out.1 HLQ.out.2 HF8.out.bel.size _ rfl ?_)
                intro x9 cap9 w9 ho9 hg9 hl9 hx9
                have hf9 := HF8.out.app ho9 hg9 (hl9.imp id (fun h => by simpa using h))
                clear ho9 hg9 hl9 hx9 hip hpz hps hpb HF8
                have HF9 := Lib.hid hf9
                clear hf9
                have c0 := HF9.out.rep (k := 0) (by decide)
                have c1 := HF9.out.rep (k := 1) (by decide)
                have c2 := HF9.out.rep (k := 2) (by decide)
                have c3 := HF9.out.rep (k := 3) (by decide)
                have f0 := HF9.out.rb.free 0
                have f1 := HF9.out.rb.free 1
                have f2 := HF9.out.rb.free 2
                have f3 := HF9.out.rb.free 3
                have c0 : w9.cell? ⟨q0, 0, none⟩ = some (.int .u32 (s.r0 : Int)) := c0
                have c1 : w9.cell? ⟨q0, 1, none⟩ = some (.int .u32 (s.r1 : Int)) := c1
                have c2 : w9.cell? ⟨q0, 2, none⟩ = some (.int .u32 (s.r2 : Int)) := c2
                have c3 : w9.cell? ⟨q0, 3, none⟩ = some (.int .u32 (s.r3 : Int)) := c3
                go_upto_region 46 with fail
                have hB4 := (((HF9.out.rb.put 0 (.int .u32 (lw : Int))).put 1 (.int .u32 (s.r0 : Int))).put 2 (.int .u32 (s.r1 : Int))).put 3 (.int .u32 (s.r2 : Int))
                have hO4 := ((((Only.refl (fun i => i = q0) w9).setCell (p := ⟨q0, 0, none⟩) (.inl rfl) (.int .u32 (lw : Int))).setCell (p := ⟨q0, 1, none⟩) (.inl rfl) (.int .u32 (s.r0 : Int))).setCell (p := ⟨q0, 2, none⟩) (.inl rfl) (.int .u32 (s.r1 : Int))).setCell (p := ⟨q0, 3, none⟩) (.inl rfl) (.int .u32 (s.r2 : Int))
                have HRX := Lib.hid (HF9.out.turn (s' := s') hO4 (by rw [HSR.out]; exact hB4) HSI.out.2)
                clear c0 c1 c2 c3 f0 f1 f2 f3 hB4 hO4 l1 l2
                have e3 := rf_sum (a := s.i) (b := mm) (T := T) (by rw [← HSN.out.2.2]; exact HSN.out.2.1) (Nat.le_trans HH.out.2.1 HH.out.2.2.2.2.1)
                go_wp2_with fail
                go_roundw
                case rel =>
                  first
                    | exact ⟨j + 1, L ++ [pq], s', some ⟨x9, 0, none⟩, cap9, HGO2.out, by simp, by rw [HSN.out.2.2, e3], HRX.out⟩
                    | ((repeat apply Exists.intro); exact ⟨⟨j + 1, L ++ [pq], s', some ⟨x9, 0, none⟩, cap9, HGO2.out, by simp, by rw [HSN.out.2.2, e3], HRX.out⟩, rfl⟩)
                    | ((repeat apply Exists.intro); exact ⟨⟨j + 1, L ++ [pq], s', some ⟨x9, 0, none⟩, cap9, HGO2.out, by simp, by rw [HSN.out.2.2], HRX.out⟩, rfl⟩)
                case measure =>
                  have h1 := HSN.out
                  have h2 := HLT.out
                  first
                    | (rw [e3]; exact rf_meas h2.1 (by omega))
                    | (clear e3; simp [intOf]; omega)
            · as_aux_lemma =>
                have hmm2 : mm = 2 := by omega
                have hh := HST.out
                unfold stepG at hh
                rw [if_neg ha, if_pos hb] at hh
                injection hh with hp hs
                have HPQ := Lib.hid hp.symm
                have HSN := Lib.hid (show s.i < s'.i ∧ s'.i ≤ T ∧ s'.i = s.i + mm from ⟨HSI.out.1.1, HSI.out.1.2, by rw [← hs]; rfl⟩)
                have HSR := Lib.hid hs.symm
                have hmpos : 0 < mm := by omega
                have HLW := Lib.hid (show lw ≤ 1000000000 from rf_lw (HMM.out.2.2.1 hmpos) HLT.out.2 HH.out.2.1 HH.out.2.2.2.2.1)
                have HLWC := Lib.hid (rf_u32 HLW.out)
                have r1 : ¬ (2 : Int) ≤ (rn : Int) := by omega
                have m0 : ¬ (3 : Int) ≤ (mm : Int) := by omega
                have m1 : ((mm : Int) == 2) = true := by simp; omega
                have m2 : (lw : Int) < 128 := by omega
                have l1 := HLWC.out.1
                have l2 := HLWC.out.2
                clear ha hb hp hs hmpos h2 h3 hmm2
                have HRFD := HRF3
                obtain ⟨ip, hip, hpz, hps, hpb⟩ := info_parts info_ppk
                have HF8 := Lib.hid (HRFD.out.alloc (.cells #[.int .i64 1, .int .u8 0, .int .i64 (mm : Int), .int .u32 (lw : Int)] 59))
                go_wp2_with (at_builtin; refine wpList_append_lies _ rfl (.tmp 133) (.tmp 138) 47 rfl w.heap.size 59 ip _ 4 32 Tryz.underlying47 hip hpz hps hpb (by rfl) (by decide) (.slice R L.length cl) L.length (L.flatMap pkV) rfl HF8.out.row ⟨wC.heap.size, 0, none⟩ 1 1 (pkV pq) rfl rfl (by rw [HPQ.out]; exact ppk_news wC ⟨1, 0, (mm : Int), (lw : Int)⟩ _) (ppkV_one pq) (by decide) HLQ.out.1 HLQ.out.2 HF8.out.bel.size _ rfl ?_)
                intro x9 cap9 w9 ho9 hg9 hl9 hx9
                have hf9 := HF8.out.app ho9 hg9 (hl9.imp id (fun h => by simpa using h))
                clear ho9 hg9 hl9 hx9 hip hpz hps hpb HF8
                have HF9 := Lib.hid hf9
                clear hf9
                have c0 := HF9.out.rep (k := 0) (by decide)
                have c1 := HF9.out.rep (k := 1) (by decide)
                have c2 := HF9.out.rep (k := 2) (by decide)
                have c3 := HF9.out.rep (k := 3) (by decide)
                have f0 := HF9.out.rb.free 0
                have f1 := HF9.out.rb.free 1
                have f2 := HF9.out.rb.free 2
                have f3 := HF9.out.rb.free 3
                have c0 : w9.cell? ⟨q0, 0, none⟩ = some (.int .u32 (s.r0 : Int)) := c0
                have c1 : w9.cell? ⟨q0, 1, none⟩ = some (.int .u32 (s.r1 : Int)) := c1
                have c2 : w9.cell? ⟨q0, 2, none⟩ = some (.int .u32 (s.r2 : Int)) := c2
                have c3 : w9.cell? ⟨q0, 3, none⟩ = some (.int .u32 (s.r3 : Int)) := c3
                go_upto_region 46 with fail
                have hB4 := (((HF9.out.rb.put 0 (.int .u32 (lw : Int))).put 1 (.int .u32 (s.r0 : Int))).put 2 (.int .u32 (s.r1 : Int))).put 3 (.int .u32 (s.r2 : Int))
                have hO4 := ((((Only.refl (fun i => i = q0) w9).setCell (p := ⟨q0, 0, none⟩) (.inl rfl) (.int .u32 (lw : Int))).setCell (p := ⟨q0, 1, none⟩) (.inl rfl) (.int .u32 (s.r0 : Int))).setCell (p := ⟨q0, 2, none⟩) (.inl rfl) (.int .u32 (s.r1 : Int))).setCell (p := ⟨q0, 3, none⟩) (.inl rfl) (.int .u32 (s.r2 : Int))
                have HRX := Lib.hid (HF9.out.turn (s' := s') hO4 (by rw [HSR.out]; exact hB4) HSI.out.2)
                clear c0 c1 c2 c3 f0 f1 f2 f3 hB4 hO4 l1 l2
                have e3 := rf_sum (a := s.i) (b := mm) (T := T) (by rw [← HSN.out.2.2]; exact HSN.out.2.1) (Nat.le_trans HH.out.2.1 HH.out.2.2.2.2.1)
                go_wp2_with fail
                go_roundw
                case rel =>
                  first
                    | exact ⟨j + 1, L ++ [pq], s', some ⟨x9, 0, none⟩, cap9, HGO2.out, by simp, by rw [HSN.out.2.2, e3], HRX.out⟩
                    | ((repeat apply Exists.intro); exact ⟨⟨j + 1, L ++ [pq], s', some ⟨x9, 0, none⟩, cap9, HGO2.out, by simp, by rw [HSN.out.2.2, e3], HRX.out⟩, rfl⟩)
                    | ((repeat apply Exists.intro); exact ⟨⟨j + 1, L ++ [pq], s', some ⟨x9, 0, none⟩, cap9, HGO2.out, by simp, by rw [HSN.out.2.2], HRX.out⟩, rfl⟩)
                case measure =>
                  have h1 := HSN.out
                  have h2 := HLT.out
                  first
                    | (rw [e3]; exact rf_meas h2.1 (by omega))
                    | (clear e3; simp [intOf]; omega)
        · have h2 : ¬ 2 ≤ rn := by omega
          have h3 : ¬ 3 ≤ mm := by omega
          by_cases hc : 0 < cpN bs D T s.i s.r0
          · by_cases h4 : mm = 2
            · as_aux_lemma =>
                have HX4 := h4
                have hh := HST.out
                unfold stepG at hh
                rw [if_neg ha, if_neg hb, if_pos hc] at hh
                injection hh with hp hs
                have HPQ := Lib.hid hp.symm
                have HSN := Lib.hid (show s.i < s'.i ∧ s'.i ≤ T ∧ s'.i = s.i + 1 from ⟨HSI.out.1.1, HSI.out.1.2, by rw [← hs]; rfl⟩)
                have HSR := Lib.hid hs.symm
                have r1 : ¬ (2 : Int) ≤ (rn : Int) := by omega
                have m1 : ¬ (3 : Int) ≤ (mm : Int) := by omega
                have m2 : (mm : Int) = 2 := by omega
                have m3 : ¬ (lw : Int) < 128 := by omega
                have KL := Lib.hid (KL3.out s.r0 (rf_r0 HRF3.out.lit.r0))
                have c0 : wC.cell? ⟨q0, 0, none⟩ = some (.int .u32 (s.r0 : Int)) := HRF3.out.rep (k := 0) (by decide)
                have l0 : IntKind.i64.wrap (s.r0 : Int) = (s.r0 : Int) := rf_i64 HRF3.out.lit.r0
                have l1 : wrap64 (s.r0 : Int) = (s.r0 : Int) := rf_w64 HRF3.out.lit.r0
                obtain ⟨cv, hcv⟩ : ∃ cv, cv = cpN bs D T s.i s.r0 := ⟨_, rfl⟩
                rw [← hcv] at hc KL
                have HCV := Lib.hid hc
                clear ha hb hp hs hcv h2 h3 h4 HX4
                go_wp2_with fail
                refine KL.out.mono ?_
                rintro y wD ⟨rfl, k3, rfl⟩
                have HRFD := Lib.hid (HRF3.out.drewN k3)
                have g9 : (cv : Int) > 0 := by have := HCV.out; omega
                clear KL c0 l0 l1 hc
                generalize wC.drewN k3 = wD at *
                obtain ⟨ip, hip, hpz, hps, hpb⟩ := info_parts info_ppk
                have HF8 := Lib.hid (HRFD.out.alloc (.cells #[.int .i64 6, .int .u8 0, .int .i64 0, .int .u32 0] 59))
                go_wp2_with (at_builtin; refine wpList_append_lies _ rfl (.tmp 161) (.tmp 163) 47 rfl w.heap.size 59 ip _ 4 32 Tryz.underlying47 hip hpz hps hpb (by rfl) (by decide) (.slice R L.length cl) L.length (L.flatMap pkV) rfl HF8.out.row ⟨wD.heap.size, 0, none⟩ 1 1 (pkV pq) rfl rfl (by rw [HPQ.out]; exact ppk_news wD ⟨6, 0, 0, 0⟩ _) (ppkV_one pq) (by decide) HLQ.out.1 HLQ.out.2 HF8.out.bel.size _ rfl ?_)
                intro x9 cap9 w9 ho9 hg9 hl9 hx9
                have hf9 := HF8.out.app ho9 hg9 (hl9.imp id (fun h => by simpa using h))
                clear ho9 hg9 hl9 hx9 hip hpz hps hpb HF8
                have HF9 := Lib.hid hf9
                clear hf9
                have HRX := Lib.hid (show Rff w w9 q0 q1 s' (L ++ [pq]) (some ⟨x9, 0, none⟩) cap9 from by rw [HSR.out]; exact HF9.out.on)
                have e3 := rf_sum1 (a := s.i) (T := T) (by rw [← HSN.out.2.2]; exact HSN.out.2.1) (Nat.le_trans HH.out.2.1 HH.out.2.2.2.2.1)
                go_wp2_with fail
                go_roundw
                case rel =>
                  first
                    | exact ⟨j + 1, L ++ [pq], s', some ⟨x9, 0, none⟩, cap9, HGO2.out, by simp, by rw [HSN.out.2.2, e3], HRX.out⟩
                    | ((repeat apply Exists.intro); exact ⟨⟨j + 1, L ++ [pq], s', some ⟨x9, 0, none⟩, cap9, HGO2.out, by simp, by rw [HSN.out.2.2, e3], HRX.out⟩, rfl⟩)
                    | ((repeat apply Exists.intro); exact ⟨⟨j + 1, L ++ [pq], s', some ⟨x9, 0, none⟩, cap9, HGO2.out, by simp, by rw [HSN.out.2.2], HRX.out⟩, rfl⟩)
                case measure =>
                  have h1 := HSN.out
                  have h2 := HLT.out
                  first
                    | (rw [e3]; exact rf_meas h2.1 (by omega))
                    | (clear e3; simp [intOf]; omega)
            · as_aux_lemma =>
                have hh := HST.out
                unfold stepG at hh
                rw [if_neg ha, if_neg hb, if_pos hc] at hh
                injection hh with hp hs
                have HPQ := Lib.hid hp.symm
                have HSN := Lib.hid (show s.i < s'.i ∧ s'.i ≤ T ∧ s'.i = s.i + 1 from ⟨HSI.out.1.1, HSI.out.1.2, by rw [← hs]; rfl⟩)
                have HSR := Lib.hid hs.symm
                have r1 : ¬ (2 : Int) ≤ (rn : Int) := by omega
                have m1 : ¬ (3 : Int) ≤ (mm : Int) := by omega
                have m2 : ¬ (mm : Int) = 2 := by omega
                have KL := Lib.hid (KL3.out s.r0 (rf_r0 HRF3.out.lit.r0))
                have c0 : wC.cell? ⟨q0, 0, none⟩ = some (.int .u32 (s.r0 : Int)) := HRF3.out.rep (k := 0) (by decide)
                have l0 : IntKind.i64.wrap (s.r0 : Int) = (s.r0 : Int) := rf_i64 HRF3.out.lit.r0
                have l1 : wrap64 (s.r0 : Int) = (s.r0 : Int) := rf_w64 HRF3.out.lit.r0
                obtain ⟨cv, hcv⟩ : ∃ cv, cv = cpN bs D T s.i s.r0 := ⟨_, rfl⟩
                rw [← hcv] at hc KL
                have HCV := Lib.hid hc
                clear ha hb hp hs hcv h2 h3 h4
                go_wp2_with fail
                refine KL.out.mono ?_
                rintro y wD ⟨rfl, k3, rfl⟩
                have HRFD := Lib.hid (HRF3.out.drewN k3)
                have g9 : (cv : Int) > 0 := by have := HCV.out; omega
                clear KL c0 l0 l1 hc
                generalize wC.drewN k3 = wD at *
                obtain ⟨ip, hip, hpz, hps, hpb⟩ := info_parts info_ppk
                have HF8 := Lib.hid (HRFD.out.alloc (.cells #[.int .i64 6, .int .u8 0, .int .i64 0, .int .u32 0] 59))
                go_wp2_with (at_builtin; refine wpList_append_lies _ rfl (.tmp 161) (.tmp 163) 47 rfl w.heap.size 59 ip _ 4 32 Tryz.underlying47 hip hpz hps hpb (by rfl) (by decide) (.slice R L.length cl) L.length (L.flatMap pkV) rfl HF8.out.row ⟨wD.heap.size, 0, none⟩ 1 1 (pkV pq) rfl rfl (by rw [HPQ.out]; exact ppk_news wD ⟨6, 0, 0, 0⟩ _) (ppkV_one pq) (by decide) HLQ.out.1 HLQ.out.2 HF8.out.bel.size _ rfl ?_)
                intro x9 cap9 w9 ho9 hg9 hl9 hx9
                have hf9 := HF8.out.app ho9 hg9 (hl9.imp id (fun h => by simpa using h))
                clear ho9 hg9 hl9 hx9 hip hpz hps hpb HF8
                have HF9 := Lib.hid hf9
                clear hf9
                have HRX := Lib.hid (show Rff w w9 q0 q1 s' (L ++ [pq]) (some ⟨x9, 0, none⟩) cap9 from by rw [HSR.out]; exact HF9.out.on)
                have e3 := rf_sum1 (a := s.i) (T := T) (by rw [← HSN.out.2.2]; exact HSN.out.2.1) (Nat.le_trans HH.out.2.1 HH.out.2.2.2.2.1)
                go_wp2_with fail
                go_roundw
                case rel =>
                  first
                    | exact ⟨j + 1, L ++ [pq], s', some ⟨x9, 0, none⟩, cap9, HGO2.out, by simp, by rw [HSN.out.2.2, e3], HRX.out⟩
                    | ((repeat apply Exists.intro); exact ⟨⟨j + 1, L ++ [pq], s', some ⟨x9, 0, none⟩, cap9, HGO2.out, by simp, by rw [HSN.out.2.2, e3], HRX.out⟩, rfl⟩)
                    | ((repeat apply Exists.intro); exact ⟨⟨j + 1, L ++ [pq], s', some ⟨x9, 0, none⟩, cap9, HGO2.out, by simp, by rw [HSN.out.2.2], HRX.out⟩, rfl⟩)
                case measure =>
                  have h1 := HSN.out
                  have h2 := HLT.out
                  first
                    | (rw [e3]; exact rf_meas h2.1 (by omega))
                    | (clear e3; simp [intOf]; omega)
          · by_cases h4 : mm = 2
            · as_aux_lemma =>
                have HX4 := h4
                have hh := HST.out
                unfold stepG at hh
                rw [if_neg ha, if_neg hb, if_neg hc] at hh
                injection hh with hp hs
                have HPQ := Lib.hid hp.symm
                have HSN := Lib.hid (show s.i < s'.i ∧ s'.i ≤ T ∧ s'.i = s.i + 1 from ⟨HSI.out.1.1, HSI.out.1.2, by rw [← hs]; rfl⟩)
                have HSR := Lib.hid hs.symm
                have r1 : ¬ (2 : Int) ≤ (rn : Int) := by omega
                have m1 : ¬ (3 : Int) ≤ (mm : Int) := by omega
                have m2 : (mm : Int) = 2 := by omega
                have m3 : ¬ (lw : Int) < 128 := by omega
                have KL := Lib.hid (KL3.out s.r0 (rf_r0 HRF3.out.lit.r0))
                have c0 : wC.cell? ⟨q0, 0, none⟩ = some (.int .u32 (s.r0 : Int)) := HRF3.out.rep (k := 0) (by decide)
                have l0 : IntKind.i64.wrap (s.r0 : Int) = (s.r0 : Int) := rf_i64 HRF3.out.lit.r0
                have l1 : wrap64 (s.r0 : Int) = (s.r0 : Int) := rf_w64 HRF3.out.lit.r0
                obtain ⟨cv, hcv⟩ : ∃ cv, cv = cpN bs D T s.i s.r0 := ⟨_, rfl⟩
                rw [← hcv] at hc KL
                have HCV := Lib.hid hc
                clear ha hb hp hs hcv h2 h3 h4 HX4
                go_wp2_with fail
                refine KL.out.mono ?_
                rintro y wD ⟨rfl, k3, rfl⟩
                have HRFD := Lib.hid (HRF3.out.drewN k3)
                have g9 : ¬ (cv : Int) > 0 := by have := HCV.out; omega
                clear KL c0 l0 l1 hc
                have hsl := HS.out.below HRFD.out.bel
                obtain ⟨ba, oa, hA, hba, hca⟩ := hsl.2 (rf_pos HLT.out.1 HH.out.2.1)
                subst hA
                have k1 : (wC.drewN k3).cell? ⟨ba, oa + s.i, none⟩ = some (.int .u8 ((bs.getD s.i 0).toNat : Int)) := by rw [hca s.i (rf_lt HLT.out.1 HH.out.2.1), bv_get bs _ (rf_lt2 HLT.out.1 HH.out.2.1 HH.out.2.2.2.2.2)]
                have b0 : (0 : Int) ≤ (s.i : Int) := Int.natCast_nonneg _
                have b1 : (s.i : Int) < (n : Int) := Int.ofNat_lt.2 (rf_lt HLT.out.1 HH.out.2.1)
                generalize wC.drewN k3 = wD at *
                generalize bs.getD s.i 0 = yb at *
                clear hsl hba hca
                obtain ⟨ip, hip, hpz, hps, hpb⟩ := info_parts info_ppk
                have HF8 := Lib.hid (HRFD.out.alloc (.cells #[.int .i64 0, .int .u8 (yb.toNat : Int), .int .i64 0, .int .u32 0] 59))
                go_wp2_with (at_builtin; refine wpList_append_lies _ rfl (.tmp 167) (.tmp 173) 47 rfl w.heap.size 59 ip _ 4 32 Tryz.underlying47 hip hpz hps hpb (by rfl) (by decide) (.slice R L.length cl) L.length (L.flatMap pkV) rfl HF8.out.row ⟨wD.heap.size, 0, none⟩ 1 1 (pkV pq) rfl rfl (by rw [HPQ.out]; exact ppk_news wD ⟨0, (yb.toNat : Int), 0, 0⟩ _) (ppkV_one pq) (by decide) HLQ.out.1 HLQ.out.2 HF8.out.bel.size _ rfl ?_)
                intro x9 cap9 w9 ho9 hg9 hl9 hx9
                have hf9 := HF8.out.app ho9 hg9 (hl9.imp id (fun h => by simpa using h))
                clear ho9 hg9 hl9 hx9 hip hpz hps hpb HF8
                have HF9 := Lib.hid hf9
                clear hf9
                have HRX := Lib.hid (show Rff w w9 q0 q1 s' (L ++ [pq]) (some ⟨x9, 0, none⟩) cap9 from by rw [HSR.out]; exact HF9.out.on)
                have e3 := rf_sum1 (a := s.i) (T := T) (by rw [← HSN.out.2.2]; exact HSN.out.2.1) (Nat.le_trans HH.out.2.1 HH.out.2.2.2.2.1)
                go_wp2_with fail
                go_roundw
                case rel =>
                  first
                    | exact ⟨j + 1, L ++ [pq], s', some ⟨x9, 0, none⟩, cap9, HGO2.out, by simp, by rw [HSN.out.2.2, e3], HRX.out⟩
                    | ((repeat apply Exists.intro); exact ⟨⟨j + 1, L ++ [pq], s', some ⟨x9, 0, none⟩, cap9, HGO2.out, by simp, by rw [HSN.out.2.2, e3], HRX.out⟩, rfl⟩)
                    | ((repeat apply Exists.intro); exact ⟨⟨j + 1, L ++ [pq], s', some ⟨x9, 0, none⟩, cap9, HGO2.out, by simp, by rw [HSN.out.2.2], HRX.out⟩, rfl⟩)
                case measure =>
                  have h1 := HSN.out
                  have h2 := HLT.out
                  first
                    | (rw [e3]; exact rf_meas h2.1 (by omega))
                    | (clear e3; simp [intOf]; omega)
            · as_aux_lemma =>
                have hh := HST.out
                unfold stepG at hh
                rw [if_neg ha, if_neg hb, if_neg hc] at hh
                injection hh with hp hs
                have HPQ := Lib.hid hp.symm
                have HSN := Lib.hid (show s.i < s'.i ∧ s'.i ≤ T ∧ s'.i = s.i + 1 from ⟨HSI.out.1.1, HSI.out.1.2, by rw [← hs]; rfl⟩)
                have HSR := Lib.hid hs.symm
                have r1 : ¬ (2 : Int) ≤ (rn : Int) := by omega
                have m1 : ¬ (3 : Int) ≤ (mm : Int) := by omega
                have m2 : ¬ (mm : Int) = 2 := by omega
                have KL := Lib.hid (KL3.out s.r0 (rf_r0 HRF3.out.lit.r0))
                have c0 : wC.cell? ⟨q0, 0, none⟩ = some (.int .u32 (s.r0 : Int)) := HRF3.out.rep (k := 0) (by decide)
                have l0 : IntKind.i64.wrap (s.r0 : Int) = (s.r0 : Int) := rf_i64 HRF3.out.lit.r0
                have l1 : wrap64 (s.r0 : Int) = (s.r0 : Int) := rf_w64 HRF3.out.lit.r0
                obtain ⟨cv, hcv⟩ : ∃ cv, cv = cpN bs D T s.i s.r0 := ⟨_, rfl⟩
                rw [← hcv] at hc KL
                have HCV := Lib.hid hc
                clear ha hb hp hs hcv h2 h3 h4
                go_wp2_with fail
                refine KL.out.mono ?_
                rintro y wD ⟨rfl, k3, rfl⟩
                have HRFD := Lib.hid (HRF3.out.drewN k3)
                have g9 : ¬ (cv : Int) > 0 := by have := HCV.out; omega
                clear KL c0 l0 l1 hc
                have hsl := HS.out.below HRFD.out.bel
                obtain ⟨ba, oa, hA, hba, hca⟩ := hsl.2 (rf_pos HLT.out.1 HH.out.2.1)
                subst hA
                have k1 : (wC.drewN k3).cell? ⟨ba, oa + s.i, none⟩ = some (.int .u8 ((bs.getD s.i 0).toNat : Int)) := by rw [hca s.i (rf_lt HLT.out.1 HH.out.2.1), bv_get bs _ (rf_lt2 HLT.out.1 HH.out.2.1 HH.out.2.2.2.2.2)]
                have b0 : (0 : Int) ≤ (s.i : Int) := Int.natCast_nonneg _
                have b1 : (s.i : Int) < (n : Int) := Int.ofNat_lt.2 (rf_lt HLT.out.1 HH.out.2.1)
                generalize wC.drewN k3 = wD at *
                generalize bs.getD s.i 0 = yb at *
                clear hsl hba hca
                obtain ⟨ip, hip, hpz, hps, hpb⟩ := info_parts info_ppk
                have HF8 := Lib.hid (HRFD.out.alloc (.cells #[.int .i64 0, .int .u8 (yb.toNat : Int), .int .i64 0, .int .u32 0] 59))
                go_wp2_with (at_builtin; refine wpList_append_lies _ rfl (.tmp 167) (.tmp 173) 47 rfl w.heap.size 59 ip _ 4 32 Tryz.underlying47 hip hpz hps hpb (by rfl) (by decide) (.slice R L.length cl) L.length (L.flatMap pkV) rfl HF8.out.row ⟨wD.heap.size, 0, none⟩ 1 1 (pkV pq) rfl rfl (by rw [HPQ.out]; exact ppk_news wD ⟨0, (yb.toNat : Int), 0, 0⟩ _) (ppkV_one pq) (by decide) HLQ.out.1 HLQ.out.2 HF8.out.bel.size _ rfl ?_)
                intro x9 cap9 w9 ho9 hg9 hl9 hx9
                have hf9 := HF8.out.app ho9 hg9 (hl9.imp id (fun h => by simpa using h))
                clear ho9 hg9 hl9 hx9 hip hpz hps hpb HF8
                have HF9 := Lib.hid hf9
                clear hf9
                have HRX := Lib.hid (show Rff w w9 q0 q1 s' (L ++ [pq]) (some ⟨x9, 0, none⟩) cap9 from by rw [HSR.out]; exact HF9.out.on)
                have e3 := rf_sum1 (a := s.i) (T := T) (by rw [← HSN.out.2.2]; exact HSN.out.2.1) (Nat.le_trans HH.out.2.1 HH.out.2.2.2.2.1)
                go_wp2_with fail
                go_roundw
                case rel =>
                  first
                    | exact ⟨j + 1, L ++ [pq], s', some ⟨x9, 0, none⟩, cap9, HGO2.out, by simp, by rw [HSN.out.2.2, e3], HRX.out⟩
                    | ((repeat apply Exists.intro); exact ⟨⟨j + 1, L ++ [pq], s', some ⟨x9, 0, none⟩, cap9, HGO2.out, by simp, by rw [HSN.out.2.2, e3], HRX.out⟩, rfl⟩)
                    | ((repeat apply Exists.intro); exact ⟨⟨j + 1, L ++ [pq], s', some ⟨x9, 0, none⟩, cap9, HGO2.out, by simp, by rw [HSN.out.2.2], HRX.out⟩, rfl⟩)
                case measure =>
                  have h1 := HSN.out
                  have h2 := HLT.out
                  first
                    | (rw [e3]; exact rf_meas h2.1 (by omega))
                    | (clear e3; simp [intOf]; omega)
    · as_aux_lemma =>
        have hT : T ≤ s.i := by omega
        have hT2 : s.i = T := by omega
        have hfin : findF bs D T s0 = (L, s) := by
          rw [find_is (n := j) (by rw [HGO.out]; exact hT), HGO.out]
        have hll : L.length ≤ T := rf_len hfin (by rw [HS0.out]; exact HH.out.1)
        have HFI := Lib.hid (And.intro hfin hll)
        have i1 : ¬ (s.i : Int) < (T : Int) := by omega
        clear hle hlt hgo hT hT2 hfin hll
        have c0 : wr.cell? ⟨q0, 0, none⟩ = some (.int .u32 (s.r0 : Int)) := HRF.out.rep (k := 0) (by decide)
        have c1 : wr.cell? ⟨q0, 1, none⟩ = some (.int .u32 (s.r1 : Int)) := HRF.out.rep (k := 1) (by decide)
        have c2 : wr.cell? ⟨q0, 2, none⟩ = some (.int .u32 (s.r2 : Int)) := HRF.out.rep (k := 2) (by decide)
        have c3 : wr.cell? ⟨q0, 3, none⟩ = some (.int .u32 (s.r3 : Int)) := HRF.out.rep (k := 3) (by decide)
        have hqb := HRF.out.zb
        have z0 : wr.cell? ⟨q1, 0, none⟩ = some (.int .u32 0) := hqb.cell 0
        have z1 : wr.cell? ⟨q1, 1, none⟩ = some (.int .u32 0) := hqb.cell 1
        have z2 : wr.cell? ⟨q1, 2, none⟩ = some (.int .u32 0) := hqb.cell 2
        have z3 : wr.cell? ⟨q1, 3, none⟩ = some (.int .u32 0) := hqb.cell 3
        have f0 := hqb.free 0
        have f1 := hqb.free 1
        have f2 := hqb.free 2
        have f3 := hqb.free 3
        obtain ⟨wz, hwz⟩ : ∃ wz, wz = (((wr.setCell ⟨q1, 0, none⟩ (.int .u32 (s.r0 : Int))).setCell ⟨q1, 1, none⟩ (.int .u32 (s.r1 : Int))).setCell ⟨q1, 2, none⟩ (.int .u32 (s.r2 : Int))).setCell ⟨q1, 3, none⟩ (.int .u32 (s.r3 : Int)) := ⟨_, rfl⟩
        have hbz : Blk wz q1 49 #[.int .u32 (s.r0 : Int), .int .u32 (s.r1 : Int), .int .u32 (s.r2 : Int), .int .u32 (s.r3 : Int)] := by
          rw [hwz]
          exact (((hqb.put 0 (.int .u32 (s.r0 : Int))).put 1 (.int .u32 (s.r1 : Int))).put 2 (.int .u32 (s.r2 : Int))).put 3 (.int .u32 (s.r3 : Int))
        have hOz : Only (fun i => i = q1) wr wz := by
          rw [hwz]
          exact ((((Only.refl (fun i => i = q1) wr).setCell (p := ⟨q1, 0, none⟩) (.inl rfl) _).setCell (p := ⟨q1, 1, none⟩) (.inl rfl) _).setCell (p := ⟨q1, 2, none⟩) (.inl rfl) _).setCell (p := ⟨q1, 3, none⟩) (.inl rfl) _
        have HBZ := Lib.hid hbz
        have HOZ := Lib.hid hOz
        have HWZ := Lib.hid hwz
        clear hqb hwz hbz hOz
        go_wp2_with fail
        go_region
        all_goals
          go_wp2_with fail
          rw [← HWZ.out]
          have k0 : wz.cell? ⟨q1, 0, none⟩ = some (.int .u32 (s.r0 : Int)) := HBZ.out.cell 0
          have k1 : wz.cell? ⟨q1, 1, none⟩ = some (.int .u32 (s.r1 : Int)) := HBZ.out.cell 1
          have k2 : wz.cell? ⟨q1, 2, none⟩ = some (.int .u32 (s.r2 : Int)) := HBZ.out.cell 2
          have k3 : wz.cell? ⟨q1, 3, none⟩ = some (.int .u32 (s.r3 : Int)) := HBZ.out.cell 3
          have hqw := Nat.le_trans HRF.out.q0w (Nat.le_of_lt HRF.out.qq)
          have hrow := pown4_only HRF.out.row HOZ.out (fun k e => (HRF.out.ra k e).2)
          have hbel := HRF.out.bel.trans (HOZ.out.below HRF.out.bel.size (by rintro i rfl; exact hqw))
          refine bodyPost_ret (v := .tuple #[.slice R L.length cl, .agg #[.int .u32 (s.r0 : Int), .int .u32 (s.r1 : Int), .int .u32 (s.r2 : Int), .int .u32 (s.r3 : Int)]]) (by simp [results, Tryz.results18, go_sem, k0, k1, k2, k3]) rfl ⟨below_drewN hbel 1, L, s, R, cl, HFI.out.1, HRF.out.lit, HFI.out.2, rfl, hrow⟩
end
end Go.Proofs.YtoencondpbkomaaGreat
