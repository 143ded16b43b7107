/-
  ZqReset, ZqNum, ZqStep: put together.
-/
import Derived.Test.YtoencondpbkomaaGreatDoorT05
import Derived.Test.YtoencondpbkomaaGreatDoorT22
import Derived.BigQuiet
import Derived.Test.YtoencondpbkomaaGreatDoorT08
import Derived.Test.YtoencondpbkomaaGreatDoorT15
import Derived.Test.YtoencondpbkomaaGreatDoorT21
set_option linter.unusedVariables false
set_option linter.unusedSimpArgs false

namespace Go.Proofs.YtoencondpbkomaaGreatDoor
open Go.RowKit
def ResPost (K : Kon) (w : World) (fs : List Value) (n : Nat) (e : Ending) (w' : World) : Prop :=
  e = .returned (.tuple #[]) ∧ (∃ ps2, Rk K fs w' ps2 ∧ ∀ i, i < 1847 + n → ps2.getD i 0 = 1024) ∧ Only K.Bk w w'
section
variable {K : Kon} {w w' : World} {Gw : Nat → Prop} {d : Int} {z : Lzs} {v4 v5 v16 v17 v18 : Value} {n : Nat}

set_option maxRecDepth 100000 in
set_option maxHeartbeats 8000000 in
theorem qpreset_any {lc lp pb : Nat} {ps : List Nat} (hn : K.g ≠ K.lb) (h1 : lc ≤ 8) (h2 : lp ≤ 4) (h3 : pb ≤ 4) (hnl : n = 768 * 2 ^ (lc + lp)) (hnc : n ≤ K.nc) (hnl2 : K.nc ≤ 1000000) (hK : K.nl = K.nc) (h : Rk K (restFs K z v4 v5 v16 v17 v18) w ps) :
    Calls Tryz.prog 70 #[.pointer (some ⟨K.g, 0, none⟩), .agg #[.int .i64 (lc : Int), .int .i64 (lp : Int), .int .i64 (pb : Int), .int .i64 d]] w (ResPost K w (restFs { K with sd := d } (z.anew lc lp pb) v4 v5 v16 v17 v18) n) := by
  obtain ⟨fs9, hfs9⟩ : ∃ fs9, fs9 = restFs { K with sd := d } (z.anew lc lp pb) v4 v5 v16 v17 v18 := ⟨_, rfl⟩
  rw [← hfs9]
  have HFS := Lib.hid hfs9
  clear hfs9
  obtain ⟨w1, hw1⟩ : ∃ w1, w1 = w.alloc (.cells #[.int .i64 (lc : Int), .int .i64 (lp : Int), .int .i64 (pb : Int), .int .i64 d] 40) := ⟨_, rfl⟩
  have hO1 : Only K.Bk w w1 := by rw [hw1]; exact (Only.refl _ w).alloc _
  have hz1 : Rk K (restFs K z v4 v5 v16 v17 v18) w1 ps := (K.prb _ hn).only h (show Only (fun _ => False) w w1 by rw [hw1]; exact (Only.refl _ w).alloc _) (fun _ _ h => h)
  have HBk : Blk w1 w.heap.size 40 #[.int .i64 (lc : Int), .int .i64 (lp : Int), .int .i64 (pb : Int), .int .i64 d] := by rw [hw1]; exact Blk.fresh w _ _
  have hgs : K.g < w.heap.size := h.1.lt
  have hls : K.lb < w.heap.size := h.2.1.lt
  have KM := fun w => pbits_any (lc : Int) (lp : Int) (pb : Int) d w
  have hmay : mayB (lc : Int) (lp : Int) (pb : Int) = true := by unfold mayB inB; simp; omega
  rw [hmay] at KM
  have KM := Lib.hid KM
  have KL := fun w => plits_any (lc := lc) (lp := lp) (pb : Int) d (by omega) w
  rw [← hnl] at KL
  have KL := Lib.hid KL
  have HW1 := Lib.hid hw1
  have HZ1 := Lib.hid hz1
  have HO1 := Lib.hid hO1
  have HN := Lib.hid (And.intro hn (And.intro hnl2 (And.intro hgs (And.intro hls (And.intro hnc hK)))))
  clear hnc hw1 hz1 hO1 hmay hnl h h1 h2 h3 hn hnl2 hK
  generalize hB : w.heap.size = B at *
  have HBK := Lib.hid HBk
  have hnc := HN.out.2.2.2.2.1
  have q1n : ¬ K.nc < n := by omega
  have q1d : decide (K.nc < n) = false := decide_eq_false q1n
  have q1 : ¬ ((n : Nat) : Int) > (K.nc : Int) := by omega
  have q1' : decide (((n : Nat) : Int) > (K.nc : Int)) = false := decide_eq_false q1
  clear HBk hgs hls hnc
  go_enter Tryz.func70, Tryz.ntmps70
  go_upto_region 1 with fail
  rw [← HW1.out]
  clear HW1
  have HS := Lib.hid (fun (W : World) (hW : Only (fun _ => False) w1 W) => (show W.cell? ⟨B, 0, none⟩ = some (.int .i64 (lc : Int)) ∧ W.cell? ⟨B, 1, none⟩ = some (.int .i64 (lp : Int)) ∧ W.cell? ⟨B, 2, none⟩ = some (.int .i64 (pb : Int)) ∧ W.cell? ⟨B, 3, none⟩ = some (.int .i64 d) ∧ W.cell? ⟨K.g, 1862, none⟩ = some (.slice (some ⟨K.lb, 0, none⟩) K.nc K.nc) from
    have hk := HBK.out.only hW (fun h => h)
    ⟨hk.cell 0, hk.cell 1, hk.cell 2, hk.cell 3, (HZ1.out.1.only hW (fun h => h)).cell 15 (by decide)⟩))
  obtain ⟨c0, c1, c2, c3, c4⟩ := HS.out w1 (Only.refl _ _)
  go_region_held3 (fun w' => w'.cell? ⟨B, 0, none⟩ = some (.int .i64 (lc : Int)) ∧ w'.cell? ⟨B, 1, none⟩ = some (.int .i64 (lp : Int)) ∧ w'.cell? ⟨B, 2, none⟩ = some (.int .i64 (pb : Int)) ∧ w'.cell? ⟨B, 3, none⟩ = some (.int .i64 d) ∧ w'.cell? ⟨K.g, 1862, none⟩ = some (.slice (some ⟨K.lb, 0, none⟩) K.nc K.nc))
    (first | assumption | go_keep | exact ⟨c0, c1, c2, c3, c4⟩ | exact HS.out _ HB2.out | exact HS.out _ HB3.out)
    (first
      | (go_at_call 86; refine (KM.out _).mono ?_; rintro e w2 ⟨rfl, hb2⟩; have HB2 := Lib.hid (show Only (fun _ => False) w1 w2 from ((Only.refl (fun _ => False) w1).drew).trans (Only.of_below hb2)); clear hb2)
      | (go_at_call 69; refine (KL.out _).mono ?_; rintro e w3 ⟨rfl, hb3⟩; have HB3 := Lib.hid (show Only (fun _ => False) w1 w3 from HB2.out.trans (Only.of_below hb3)); clear hb3))
  have hz3 : Rk K (restFs K z v4 v5 v16 v17 v18) w3 ps := (K.prb _ HN.out.1).only HZ1.out HB3.out (fun _ _ h => h)
  have p0 := hz3.put HN.out.1 0 (by decide) (.int .i64 (lc : Int))
  have p1 := p0.put HN.out.1 1 (by decide) (.int .i64 (lp : Int))
  have p2 := p1.put HN.out.1 2 (by decide) (.int .i64 (pb : Int))
  have p3 := p2.put HN.out.1 3 (by decide) (.int .i64 d)
  have p4 := p3.put HN.out.1 10 (by decide) (.int .i64 0)
  have p5 := p4.put HN.out.1 11 (by decide) (.int .u32 0)
  have p6 := p5.put HN.out.1 12 (by decide) (.int .u32 0)
  have p7 := p6.put HN.out.1 13 (by decide) (.int .u32 0)
  have p8 := p7.put HN.out.1 14 (by decide) (.int .u32 0)
  have HZ4 : Hid (Rk K fs9 ((((((((((w3).setCell ⟨K.g, 0, none⟩ (.int .i64 (lc : Int))).setCell ⟨K.g, 1, none⟩ (.int .i64 (lp : Int))).setCell ⟨K.g, 2, none⟩ (.int .i64 (pb : Int))).setCell ⟨K.g, 3, none⟩ (.int .i64 d)).setCell ⟨K.g, 10, none⟩ (.int .i64 0)).setCell ⟨K.g, 11, none⟩ (.int .u32 0)).setCell ⟨K.g, 12, none⟩ (.int .u32 0)).setCell ⟨K.g, 13, none⟩ (.int .u32 0)).setCell ⟨K.g, 14, none⟩ (.int .u32 0)) ps)   := Lib.hid (by rw [HFS.out]; exact p8)
  have HO4 : Hid (Only K.Bk w ((((((((((w3).setCell ⟨K.g, 0, none⟩ (.int .i64 (lc : Int))).setCell ⟨K.g, 1, none⟩ (.int .i64 (lp : Int))).setCell ⟨K.g, 2, none⟩ (.int .i64 (pb : Int))).setCell ⟨K.g, 3, none⟩ (.int .i64 d)).setCell ⟨K.g, 10, none⟩ (.int .i64 0)).setCell ⟨K.g, 11, none⟩ (.int .u32 0)).setCell ⟨K.g, 12, none⟩ (.int .u32 0)).setCell ⟨K.g, 13, none⟩ (.int .u32 0)).setCell ⟨K.g, 14, none⟩ (.int .u32 0))) := Lib.hid ((((((((((HO1.out.trans (HB3.out.mono fun _ h => h.elim)).setCell (p := ⟨K.g, 0, none⟩) (.inl (.inl rfl)) (.int .i64 (lc : Int))).setCell (p := ⟨K.g, 1, none⟩) (.inl (.inl rfl)) (.int .i64 (lp : Int))).setCell (p := ⟨K.g, 2, none⟩) (.inl (.inl rfl)) (.int .i64 (pb : Int))).setCell (p := ⟨K.g, 3, none⟩) (.inl (.inl rfl)) (.int .i64 d)).setCell (p := ⟨K.g, 10, none⟩) (.inl (.inl rfl)) (.int .i64 0)).setCell (p := ⟨K.g, 11, none⟩) (.inl (.inl rfl)) (.int .u32 0)).setCell (p := ⟨K.g, 12, none⟩) (.inl (.inl rfl)) (.int .u32 0)).setCell (p := ⟨K.g, 13, none⟩) (.inl (.inl rfl)) (.int .u32 0)).setCell (p := ⟨K.g, 14, none⟩) (.inl (.inl rfl)) (.int .u32 0))
  obtain ⟨u0, a0⟩ : ∃ u, w3.cell? ⟨K.g, 0, none⟩ = some u := ⟨_, hz3.1.cell 0 (by decide)⟩
  have f0 := hz3.1.free 0
  obtain ⟨u1, a1⟩ : ∃ u, w3.cell? ⟨K.g, 1, none⟩ = some u := ⟨_, hz3.1.cell 1 (by decide)⟩
  have f1 := hz3.1.free 1
  obtain ⟨u2, a2⟩ : ∃ u, w3.cell? ⟨K.g, 2, none⟩ = some u := ⟨_, hz3.1.cell 2 (by decide)⟩
  have f2 := hz3.1.free 2
  obtain ⟨u3, a3⟩ : ∃ u, w3.cell? ⟨K.g, 3, none⟩ = some u := ⟨_, hz3.1.cell 3 (by decide)⟩
  have f3 := hz3.1.free 3
  obtain ⟨u10, a10⟩ : ∃ u, w3.cell? ⟨K.g, 10, none⟩ = some u := ⟨_, hz3.1.cell 10 (by decide)⟩
  have f10 := hz3.1.free 10
  obtain ⟨u11, a11⟩ : ∃ u, w3.cell? ⟨K.g, 11, none⟩ = some u := ⟨_, hz3.1.cell 11 (by decide)⟩
  have f11 := hz3.1.free 11
  obtain ⟨u12, a12⟩ : ∃ u, w3.cell? ⟨K.g, 12, none⟩ = some u := ⟨_, hz3.1.cell 12 (by decide)⟩
  have f12 := hz3.1.free 12
  obtain ⟨u13, a13⟩ : ∃ u, w3.cell? ⟨K.g, 13, none⟩ = some u := ⟨_, hz3.1.cell 13 (by decide)⟩
  have f13 := hz3.1.free 13
  obtain ⟨u14, a14⟩ : ∃ u, w3.cell? ⟨K.g, 14, none⟩ = some u := ⟨_, hz3.1.cell 14 (by decide)⟩
  have f14 := hz3.1.free 14
  obtain ⟨c0, c1, c2, c3, _⟩ := HS.out w3 HB3.out
  clear hz3 p0 p1 p2 p3 p4 p5 p6 p7 p8 HS HZ1 HB2 KM
  (try clear q1')
  (try clear q1d)
  (try clear q1n)
  (try clear q1)
  (try clear hnc)
  go_upto_region 4 with fail
  have HB4 : Hid (Blk ((((((((((w3).setCell ⟨K.g, 0, none⟩ (.int .i64 (lc : Int))).setCell ⟨K.g, 1, none⟩ (.int .i64 (lp : Int))).setCell ⟨K.g, 2, none⟩ (.int .i64 (pb : Int))).setCell ⟨K.g, 3, none⟩ (.int .i64 d)).setCell ⟨K.g, 10, none⟩ (.int .i64 0)).setCell ⟨K.g, 11, none⟩ (.int .u32 0)).setCell ⟨K.g, 12, none⟩ (.int .u32 0)).setCell ⟨K.g, 13, none⟩ (.int .u32 0)).setCell ⟨K.g, 14, none⟩ (.int .u32 0)) B 40 #[.int .i64 (lc : Int), .int .i64 (lp : Int), .int .i64 (pb : Int), .int .i64 d]) := Lib.hid (((((((((((HBK.out.only HB3.out (fun h => h)).far (p := ⟨K.g, 0, none⟩) (show B ≠ K.g by have := HN.out.2.2.1; omega) (.int .i64 (lc : Int))).far (p := ⟨K.g, 1, none⟩) (show B ≠ K.g by have := HN.out.2.2.1; omega) (.int .i64 (lp : Int))).far (p := ⟨K.g, 2, none⟩) (show B ≠ K.g by have := HN.out.2.2.1; omega) (.int .i64 (pb : Int))).far (p := ⟨K.g, 3, none⟩) (show B ≠ K.g by have := HN.out.2.2.1; omega) (.int .i64 d)).far (p := ⟨K.g, 10, none⟩) (show B ≠ K.g by have := HN.out.2.2.1; omega) (.int .i64 0)).far (p := ⟨K.g, 11, none⟩) (show B ≠ K.g by have := HN.out.2.2.1; omega) (.int .u32 0)).far (p := ⟨K.g, 12, none⟩) (show B ≠ K.g by have := HN.out.2.2.1; omega) (.int .u32 0)).far (p := ⟨K.g, 13, none⟩) (show B ≠ K.g by have := HN.out.2.2.1; omega) (.int .u32 0)).far (p := ⟨K.g, 14, none⟩) (show B ≠ K.g by have := HN.out.2.2.1; omega) (.int .u32 0)))
  clear HBK HB3
  generalize (((((((((w3).setCell ⟨K.g, 0, none⟩ (.int .i64 (lc : Int))).setCell ⟨K.g, 1, none⟩ (.int .i64 (lp : Int))).setCell ⟨K.g, 2, none⟩ (.int .i64 (pb : Int))).setCell ⟨K.g, 3, none⟩ (.int .i64 d)).setCell ⟨K.g, 10, none⟩ (.int .i64 0)).setCell ⟨K.g, 11, none⟩ (.int .u32 0)).setCell ⟨K.g, 12, none⟩ (.int .u32 0)).setCell ⟨K.g, 13, none⟩ (.int .u32 0)).setCell ⟨K.g, 14, none⟩ (.int .u32 0) = w4 at *
  clear a0 f0 a1 f1 a2 f2 a3 f3 a10 f10 a11 f11 a12 f12 a13 f13 a14 f14 c0 c1 c2 c3
  have KC := Lib.hid (chances_renew (D := fun _ => False) (K.prb _ HN.out.1) K.lay (Nat.le_add_right _ _) ⟨ps, HZ4.out, fun _ h => h.elim, Only.refl _ _⟩)
  go_wp2_with fail
  refine KC.out.mono ?_
  rintro e w5 ⟨rfl, hr5⟩
  have HR5 := Lib.hid hr5
  obtain ⟨ps5, hp5, _, ho5⟩ := hr5
  have HS5 := Lib.hid (fun (W : World) (hW : Only (fun _ => False) w5 W) => (show W.cell? ⟨B, 0, none⟩ = some (.int .i64 (lc : Int)) ∧ W.cell? ⟨B, 1, none⟩ = some (.int .i64 (lp : Int)) ∧ W.cell? ⟨B, 2, none⟩ = some (.int .i64 (pb : Int)) ∧ W.cell? ⟨B, 3, none⟩ = some (.int .i64 d) ∧ W.cell? ⟨K.g, 1862, none⟩ = some (.slice (some ⟨K.lb, 0, none⟩) K.nc K.nc) from
    have hk := (HB4.out.only ho5 (fun h => by have a1 := HN.out.2.2.1; have a2 := HN.out.2.2.2.1; rcases h with h | h <;> omega)).only hW (fun h => h)
    ⟨hk.cell 0, hk.cell 1, hk.cell 2, hk.cell 3, ((hp5.1.only hW (fun h => h)).cell 15 (by decide)).trans (by rw [HFS.out]; rfl)⟩))
  obtain ⟨c0, c1, c2, c3, c4⟩ := HS5.out w5 (Only.refl _ _)
  have hnc := HN.out.2.2.2.2.1
  have q2 : (0 : Int) ≤ ((n : Nat) : Int) := by omega
  have q3 : (n : Int) ≤ (K.nc : Int) := by omega
  clear hp5 ho5 HZ4 KC
  go_wp2_with fail
  go_region_held3 (fun w' => w'.cell? ⟨B, 0, none⟩ = some (.int .i64 (lc : Int)) ∧ w'.cell? ⟨B, 1, none⟩ = some (.int .i64 (lp : Int)) ∧ w'.cell? ⟨B, 2, none⟩ = some (.int .i64 (pb : Int)) ∧ w'.cell? ⟨B, 3, none⟩ = some (.int .i64 d) ∧ w'.cell? ⟨K.g, 1862, none⟩ = some (.slice (some ⟨K.lb, 0, none⟩) K.nc K.nc))
    (first | assumption | go_keep | exact ⟨c0, c1, c2, c3, c4⟩ | exact HS5.out _ HB6.out | exact HS6)
    (first
      | (go_at_call 69; refine (KL.out _).mono ?_; rintro e w6 ⟨rfl, hb6⟩; have HB6 := Lib.hid (show Only (fun _ => False) w5 w6 from ((Only.refl (fun _ => False) w5).drew).trans (Only.of_below hb6)); clear hb6)
      | (go_at_call 97; refine (renew_any (R := Rk K fs9) (B := K.Bk) (w0 := w4) (D := fun i => False ∨ i < 1847) (ad := K.ad) (L := 1847 + K.nl) (a := 1847) (b := K.lb) (o := 0) (n := n) (cap := K.nc) (K.prb _ HN.out.1) (fun j hj => Kon.ad_lit (by omega) (by omega)) (by have := HN.out.2.2.2.2.1; have := HN.out.2.2.2.2.2; omega) (Nat.le_trans HN.out.2.2.2.2.1 HN.out.2.1) ?_).mono ?_; (· obtain ⟨ps6, g1, g2, g3⟩ := HR5.out; exact ⟨ps6, (K.prb _ HN.out.1).only g1 HB6.out (fun _ _ h => h), g2, g3.trans (HB6.out.mono fun _ h => h.elim)⟩); rintro e w7 ⟨rfl, hr7⟩; have HR7 := Lib.hid hr7; have HS6 := (show w7.cell? ⟨B, 0, none⟩ = some (.int .i64 (lc : Int)) ∧ w7.cell? ⟨B, 1, none⟩ = some (.int .i64 (lp : Int)) ∧ w7.cell? ⟨B, 2, none⟩ = some (.int .i64 (pb : Int)) ∧ w7.cell? ⟨B, 3, none⟩ = some (.int .i64 d) ∧ w7.cell? ⟨K.g, 1862, none⟩ = some (.slice (some ⟨K.lb, 0, none⟩) K.nc K.nc) from (by obtain ⟨ps7, g1, _, g3⟩ := hr7; have hk := HB4.out.only g3 (fun h => by have a1 := HN.out.2.2.1; have a2 := HN.out.2.2.2.1; rcases h with h | h <;> omega); exact ⟨hk.cell 0, hk.cell 1, hk.cell 2, hk.cell 3, (g1.1.cell 15 (by decide)).trans (by rw [HFS.out]; rfl)⟩)); clear hr7))
  go_wp2_with fail
  first | go_end0 | refine bodyPost_ret (results_none rfl _ _ _) rfl ?_
  obtain ⟨ps7, g1, g2, g3⟩ := HR7.out
  exact ⟨rfl, ⟨ps7, g1, fun i hi => g2 i (by
    by_cases h : i < 1847
    · exact .inl (.inr h)
    · exact .inr (by omega))⟩, HO4.out.trans g3⟩

/-- Reset, at rest. -/
theorem zreset_any {lc lp pb : Nat} {ps : List Nat} (h1 : lc ≤ 8) (h2 : lp ≤ 4) (h3 : pb ≤ 4) (hn : n = 768 * 2 ^ (lc + lp)) (hnc : n ≤ K.nc) (h : Lrest K w Gw z ps v4 v5 v16 v17 v18) :
    Calls Tryz.prog 70 #[.pointer (some ⟨K.g, 0, none⟩), .agg #[.int .i64 (lc : Int), .int .i64 (lp : Int), .int .i64 (pb : Int), .int .i64 d]] w fun e w' =>
      e = .returned (.tuple #[]) ∧ Lrest (K.less n d) w' Gw (z.anew lc lp pb) (List.replicate (1847 + n) 1024) v4 v5 v16 v17 v18 ∧ Only K.Bk w w' := by
  obtain ⟨ps2, hf⟩ := h.row.full
  refine (qpreset_any (K := K.full) (d := d) h.gn h1 h2 h3 hn hnc h.nc.2 rfl hf).mono ?_
  rintro e w' ⟨rfl, ⟨ps3, g1, g2⟩, g3⟩
  refine ⟨rfl, ⟨Rk.less g1 hnc g2, h.win.only g3 (fun i hi e => ?_), h.gn, h.mg, h.mb, ⟨hnc, h.nc.2⟩, h.wd, Nat.lt_of_lt_of_le h.mo g3.size⟩, g3⟩
  rcases e with e | e
  · exact (h.wd i hi).1 e
  · exact (h.wd i hi).2.1 e
end
end Go.Proofs.YtoencondpbkomaaGreatDoor

/-
  LZMA2's chunks as numbers, packed ones too: what a chunk tells, what a stream tells.
-/
namespace Go.Proofs.YtoencondpbkomaaGreatDoor
set_option linter.unusedVariables false

/-- between two chunks: what the next packed one must bring, the decoder's numbers, its probabilities, the bytes that are left -/
structure Rs where
  nd : Nat
  z : Lzs
  ps : List Nat
  r : List UInt8
/-- what a packed chunk brings, by its How -/
def bringN (how : Nat) : Nat := if how = 0 then 0 else if how = 1 then 4 else if how = 2 then 6 else 7
/-- whether all is brought that is needed: nd is 7, 6 or 0 -/
def bringsN (nd how : Nat) : Bool := decide (nd = 0 ∨ (nd = 6 ∧ 2 ≤ how) ∨ how = 3)
/-- a setting's byte; which settings may be -/
def setN (x : UInt8) : Option (Nat × Nat × Nat) := if x.toNat < 225 ∧ x.toNat % 9 + x.toNat / 9 % 5 ≤ 4 then some (x.toNat % 9, x.toNat / 9 % 5, x.toNat / 45) else none
/-- a decoder's numbers behind what a chunk brings -/
def Lzs.brought (z : Lzs) (how : Nat) (s : Nat × Nat × Nat) : Lzs := if how = 3 then { z with out := [] }.anew s.1 s.2.1 s.2.2 else if how = 0 then z else z.anew s.1 s.2.1 s.2.2
def psN (ps : List Nat) (how : Nat) (s : Nat × Nat × Nat) : List Nat := if how = 0 then ps else List.replicate (1847 + 768 * 2 ^ (s.1 + s.2.1)) 1024
/-- the packets of a chunk that tells n bytes more, N in the window then; rest: the bytes behind it -/
def packC (n : Nat) (rest : List UInt8) (z : Lzs) (t : Pm Dc) (N : Nat) : Option (List UInt8 × Rs) :=
  match upG (N : Int) n z t with
  | none => none
  | some (z2, t2) => if leftD t2.x = true ∧ z2.out.length = N then some (z2.out.drop (N - n), ⟨0, z2, t2.ps, rest⟩) else none
/-- its bytes behind the head: how many are told, packed; the setting -/
def bodyC (q : Rs) (how n k : Nat) (s : Nat × Nat × Nat) (r : List UInt8) : Option (List UInt8 × Rs) :=
  if r.length < k then none
  else packC n (r.drop k) (q.z.brought how s) ⟨psN q.ps how s, started (r.take k)⟩ ((q.z.brought how s).out.length + n)
def plainC (nd : Nat) (z : Lzs) (ps : List Nat) (r : List UInt8) (n : Nat) : Option (List UInt8 × Rs) :=
  if nd % 2 = 1 ∨ r.length < n then none else some (r.take n, ⟨nd, { z with out := z.out ++ r.take n }, ps, r.drop n⟩)
/-- a packed chunk behind its first byte -/
def packedC (q : Rs) (c : Nat) (r : List UInt8) : Option (List UInt8 × Rs) :=
  match r with
  | h :: g :: k1 :: k2 :: r2 =>
    if bringsN q.nd (c / 32 - 4) = false then none
    else if 2 ≤ c / 32 - 4 then
      match r2 with
      | [] => none
      | x :: r3 => match setN x with
        | none => none
        | some s => bodyC q (c / 32 - 4) (c % 32 * 65536 + 256 * h.toNat + g.toNat + 1) (256 * k1.toNat + k2.toNat + 1) s r3
    else bodyC q (c / 32 - 4) (c % 32 * 65536 + 256 * h.toNat + g.toNat + 1) (256 * k1.toNat + k2.toNat + 1) (q.z.lc, q.z.lp, q.z.pb) r2
  | _ => none
/-- the next chunk: what it tells, and what is behind it -/
def chunkN (q : Rs) : Option (List UInt8 × Rs) :=
  match q.r with
  | [] => none
  | c :: r1 =>
    if c.toNat = 1 ∨ c.toNat = 2 then
      match r1 with
      | h :: g :: r2 => if c.toNat = 1 then plainC 6 { q.z with out := [] } q.ps r2 (256 * h.toNat + g.toNat + 1) else plainC q.nd q.z q.ps r2 (256 * h.toNat + g.toNat + 1)
      | _ => none
    else if 128 ≤ c.toNat then packedC q c.toNat r1
    else none
def telN : Nat → Rs → Nat → Option (List UInt8)
  | 0, _, _ => none
  | f + 1, q, k =>
    if q.r = [0] then (if k = 0 then some [] else none)
    else match chunkN q with
      | none => none
      | some (xs, q') => if xs.length ≤ k then (telN f q' (k - xs.length)).map (xs ++ ·) else none
/-- so many bytes, and the end -/
def Rs.tells (q : Rs) (k : Nat) : Option (List UInt8) := telN (q.r.length + 1) q k

theorem packC_r {n N : Nat} {rest : List UInt8} {z : Lzs} {t : Pm Dc} {xs : List UInt8} {q' : Rs} (h : packC n rest z t N = some (xs, q')) : q'.r = rest := by
  unfold packC at h
  split at h
  · cases h
  · split at h
    · injection h with h
      injection h with h1 h2
      rw [← h2]
    · cases h
theorem bodyC_r {q : Rs} {how n k : Nat} {s : Nat × Nat × Nat} {r : List UInt8} {xs : List UInt8} {q' : Rs} (h : bodyC q how n k s r = some (xs, q')) : q'.r.length ≤ r.length := by
  unfold bodyC at h
  split at h
  · cases h
  · rw [packC_r h, List.length_drop]
    omega
theorem packedC_r {q : Rs} {c : Nat} {r : List UInt8} {xs : List UInt8} {q' : Rs} (h : packedC q c r = some (xs, q')) : q'.r.length < r.length := by
  unfold packedC at h
  split at h
  · split at h
    · cases h
    · split at h
      · split at h
        · cases h
        · split at h
          · cases h
          · have := bodyC_r h
            simp
            omega
      · have := bodyC_r h
        simp
        omega
  · cases h
theorem plainC_r {nd n : Nat} {z : Lzs} {ps : List Nat} {r : List UInt8} {xs : List UInt8} {q' : Rs} (h : plainC nd z ps r n = some (xs, q')) : q'.r.length ≤ r.length := by
  unfold plainC at h
  split at h
  · cases h
  · injection h with h
    injection h with h1 h2
    rw [← h2]
    show (r.drop n).length ≤ _
    rw [List.length_drop]
    omega
theorem chunkN_r {q : Rs} {xs : List UInt8} {q' : Rs} (h : chunkN q = some (xs, q')) : q'.r.length < q.r.length := by
  unfold chunkN at h
  split at h
  · cases h
  · rename_i c r1 e
    rw [e]
    split at h
    · split at h
      · split at h
        · have := plainC_r h
          simp
          omega
        · have := plainC_r h
          simp
          omega
      · cases h
    · split at h
      · have := packedC_r h
        simp
        omega
      · cases h
theorem telN_same : ∀ (f f' : Nat) (q : Rs) (k : Nat), q.r.length < f → q.r.length < f' → telN f q k = telN f' q k
  | 0, _, q, _, h, _ => absurd h (Nat.not_lt_zero _)
  | _, 0, q, _, _, h => absurd h (Nat.not_lt_zero _)
  | f + 1, f' + 1, q, k, h, h' => by
    unfold telN
    split
    · rfl
    · cases hc : chunkN q with
      | none => rfl
      | some p =>
        obtain ⟨xs, q'⟩ := p
        have := chunkN_r hc
        show (if xs.length ≤ k then (telN f q' (k - xs.length)).map (xs ++ ·) else none) = (if xs.length ≤ k then (telN f' q' (k - xs.length)).map (xs ++ ·) else none)
        rw [telN_same f f' q' _ (by omega) (by omega)]
theorem tells_end {q : Rs} {k : Nat} (h : q.r = [0]) : q.tells k = if k = 0 then some [] else none := by
  unfold Rs.tells telN
  rw [if_pos h]
theorem tells_chunk {q : Rs} {k : Nat} (h : q.r ≠ [0]) : q.tells k = match chunkN q with
    | none => none
    | some (xs, q') => if xs.length ≤ k then (q'.tells (k - xs.length)).map (xs ++ ·) else none := by
  unfold Rs.tells
  rw [telN, if_neg h]
  cases hc : chunkN q with
  | none => rfl
  | some p =>
    obtain ⟨xs, q'⟩ := p
    have := chunkN_r hc
    show (if xs.length ≤ k then (telN q.r.length q' (k - xs.length)).map (xs ++ ·) else none) = (if xs.length ≤ k then (telN (q'.r.length + 1) q' (k - xs.length)).map (xs ++ ·) else none)
    rw [telN_same q.r.length (q'.r.length + 1) q' _ (by omega) (by omega)]
theorem tells_none {q : Rs} {k : Nat} (h : q.r ≠ [0]) (hc : chunkN q = none) : q.tells k = none := by rw [tells_chunk h, hc]
theorem tells_some {q q' : Rs} {k : Nat} {xs : List UInt8} (h : q.r ≠ [0]) (hc : chunkN q = some (xs, q')) (hk : xs.length ≤ k) : q.tells k = (q'.tells (k - xs.length)).map (xs ++ ·) := by
  rw [tells_chunk h, hc]
  exact if_pos hk
theorem tells_less {q q' : Rs} {k : Nat} {xs : List UInt8} (h : q.r ≠ [0]) (hc : chunkN q = some (xs, q')) (hk : k < xs.length) : q.tells k = none := by
  rw [tells_chunk h, hc]
  exact if_neg (by omega)
end Go.Proofs.YtoencondpbkomaaGreatDoor

/-
  LZMA2's chunks as numbers, byte by byte: where a decoder stands, what it tells from there on.
-/
namespace Go.Proofs.YtoencondpbkomaaGreatDoor
set_option linter.unusedVariables false

/-- where a decoder stands: it is bad; the byte 0 came; between two chunks; in a plain one with l bytes left; in a packed one: of what is decoded n bytes in the window are told, l are left; full: its packed bytes are all there -/
inductive St2 where
  | bad
  | fin (r : List UInt8)
  | rest (q : Rs)
  | plain (q : Rs) (l : Nat)
  | pack (zf : Lzs) (tf : Pm Dc) (n l : Nat) (full : Bool) (r : List UInt8)
/-- what is told from there on: so many bytes, and the end -/
def St2.tells : St2 → Nat → Option (List UInt8)
  | .bad, _ => none
  | .fin r, k => if k = 0 ∧ r = [] then some [] else none
  | .rest q, k => q.tells k
  | .plain q l, k => match plainC q.nd q.z q.ps q.r l with
    | none => none
    | some (xs, q') => if xs.length ≤ k then (q'.tells (k - xs.length)).map (xs ++ ·) else none
  | .pack zf tf n l full r, k => if full = true then (match packC l r zf tf (n + l) with
    | none => none
    | some (xs, q') => if xs.length ≤ k then (q'.tells (k - xs.length)).map (xs ++ ·) else none) else none
/-- how many bytes the window has -/
def St2.wl : St2 → Nat
  | .bad => 0
  | .fin _ => 0
  | .rest q => q.z.out.length
  | .plain q _ => q.z.out.length
  | .pack _ _ n _ _ _ => n

theorem plain_none {q : Rs} {l k : Nat} (h : q.r.length < l) : (St2.plain q l).tells k = none := by
  show (match plainC q.nd q.z q.ps q.r l with | none => none | some (xs, q') => if xs.length ≤ k then (q'.tells (k - xs.length)).map (xs ++ ·) else none) = none
  have e : plainC q.nd q.z q.ps q.r l = none := if_pos (.inr h)
  rw [e]
theorem plain_tells {q : Rs} {l k : Nat} (hn : q.nd % 2 = 0) (h : l ≤ q.r.length) : (St2.plain q l).tells k = if l ≤ k then ((⟨q.nd, { q.z with out := q.z.out ++ q.r.take l }, q.ps, q.r.drop l⟩ : Rs).tells (k - l)).map (q.r.take l ++ ·) else none := by
  show (match plainC q.nd q.z q.ps q.r l with | none => none | some (xs, q') => if xs.length ≤ k then (q'.tells (k - xs.length)).map (xs ++ ·) else none) = _
  have e : plainC q.nd q.z q.ps q.r l = some (q.r.take l, ⟨q.nd, { q.z with out := q.z.out ++ q.r.take l }, q.ps, q.r.drop l⟩) := if_neg (by omega)
  rw [e]
  have hl : (q.r.take l).length = l := by rw [List.length_take]; omega
  show (if (q.r.take l).length ≤ k then _ else _) = _
  rw [hl]
theorem map_cons {o : Option (List UInt8)} {x : UInt8} {xs : List UInt8} : o.map ((x :: xs) ++ ·) = (o.map (xs ++ ·)).map (x :: ·) := by
  cases o <;> rfl
theorem map_nil {o : Option (List UInt8)} : o.map (([] : List UInt8) ++ ·) = o := by
  cases o <;> rfl
/-- behind a byte of a plain chunk -/
def plainNext (q : Rs) (l : Nat) (x : UInt8) (r : List UInt8) : St2 := if l = 1 then .rest ⟨q.nd, { q.z with out := q.z.out ++ [x] }, q.ps, r⟩ else .plain ⟨q.nd, { q.z with out := q.z.out ++ [x] }, q.ps, r⟩ (l - 1)
theorem plain_next {q : Rs} {l k : Nat} {x : UInt8} {r : List UInt8} (hn : q.nd % 2 = 0) (h1 : 1 ≤ l) (hr : q.r = x :: r) : (St2.plain q l).tells (k + 1) = ((plainNext q l x r).tells k).map (x :: ·) := by
  by_cases h : l ≤ q.r.length
  · rw [plain_tells hn h]
    obtain ⟨m, rfl⟩ : ∃ m, l = m + 1 := ⟨l - 1, by omega⟩
    rw [hr] at h ⊢
    have hm : m ≤ r.length := by simpa using h
    rw [List.take_succ_cons, List.drop_succ_cons]
    unfold plainNext
    by_cases h0 : m = 0
    · subst h0
      rw [if_pos (by omega), if_pos rfl, List.take_zero, List.drop_zero]
      show ((Rs.tells _ k).map _) = ((Rs.tells _ k).map _)
      rfl
    · rw [if_neg (show ¬ m + 1 = 1 by omega), Nat.add_sub_cancel]
      have e := plain_tells (q := ⟨q.nd, { q.z with out := q.z.out ++ [x] }, q.ps, r⟩) (l := m) (k := k) hn hm
      rw [e]
      by_cases hk : m ≤ k
      · rw [if_pos (by omega), if_pos hk, map_cons]
        have e1 : k + 1 - (m + 1) = k - m := by omega
        have e2 : q.z.out ++ x :: r.take m = q.z.out ++ [x] ++ r.take m := by simp
        rw [e1, e2]
      · rw [if_neg (by omega), if_neg hk]
        rfl
  · rw [plain_none (by omega)]
    unfold plainNext
    have hl : q.r.length = r.length + 1 := by rw [hr]; rfl
    rw [if_neg (by omega)]
    have e := plain_none (q := ⟨q.nd, { q.z with out := q.z.out ++ [x] }, q.ps, r⟩) (l := l - 1) (k := k) (show r.length < l - 1 by omega)
    rw [e]
    rfl
theorem plain_dry {q : Rs} {l k : Nat} (h1 : 1 ≤ l) (hr : q.r = []) : (St2.plain q l).tells k = none := plain_none (by rw [hr]; exact h1)
theorem plain_zero {q : Rs} {l : Nat} (h1 : 1 ≤ l) : (St2.plain q l).tells 0 = none := by
  show (match plainC q.nd q.z q.ps q.r l with | none => none | some (xs, q') => if xs.length ≤ 0 then (q'.tells (0 - xs.length)).map (xs ++ ·) else none) = none
  cases hp : plainC q.nd q.z q.ps q.r l with
  | none => rfl
  | some p =>
    obtain ⟨xs, q'⟩ := p
    unfold plainC at hp
    split at hp
    · cases hp
    · rename_i hc
      injection hp with hp
      injection hp with e1 e2
      have hl : xs.length = l := by rw [← e1, List.length_take]; omega
      show (if xs.length ≤ 0 then _ else _) = _
      rw [if_neg (by omega)]

/-- packets enough: more make no difference -/
theorem upG_same {N : Int} : ∀ (f f' : Nat) {z : Lzs} {t : Pm Dc}, N ≤ z.out.length + f → N ≤ z.out.length + f' → upG N f z t = upG N f' z t
  | 0, 0, _, _, _, _ => rfl
  | 0, f' + 1, z, t, h, _ => by
    rw [upG_done (f := f' + 1) (by omega)]
    rfl
  | f + 1, 0, z, t, _, h => by
    rw [upG_done (f := f + 1) (by omega)]
    rfl
  | f + 1, f' + 1, z, t, h, h' => by
    by_cases hl : (z.out.length : Int) < N
    · by_cases hs : stopD N (packP decM z t pk0) = true
      · rw [upG_stop hl hs, upG_stop hl hs]
      · rw [upG_go hl hs, upG_go hl hs]
        have := pack_more (size := N) (z := z) (t := t) (by simpa using hs)
        exact upG_same f f' (by omega) (by omega)
    · rw [upG_done hl, upG_done hl]
theorem stop_of {N : Int} {r : Nat × Lzs × Pm Dc} (h : stopP r) : stopD N r = true := by
  unfold stopD
  rcases h with h | h | h
  · have e : decM.bad r.2.2.x = true := by rw [h]; rfl
    rw [e]
    cases r.2.1.bad <;> cases r.2.1.ended <;> rfl
  · rw [h]; rfl
  · rw [h]
    cases r.2.1.bad <;> rfl
theorem stop_not {N : Int} {r : Nat × Lzs × Pm Dc} (h : ¬ stopP r) : stopD N r = decide (N < (r.2.1.out.length : Int)) := by
  unfold stopP at h
  have h1 : r.2.2.x ≠ none := fun e => h (.inl e)
  have h2 : r.2.1.bad = false := by
    cases e : r.2.1.bad with
    | false => rfl
    | true => exact absurd (.inr (.inl e)) h
  have h3 : r.2.1.ended = false := by
    cases e : r.2.1.ended with
    | false => rfl
    | true => exact absurd (.inr (.inr e)) h
  have h4 : decM.bad r.2.2.x = false := by
    cases e : r.2.2.x with
    | none => exact absurd e h1
    | some x => rfl
  unfold stopD
  rw [h2, h3, h4]
  simp
end Go.Proofs.YtoencondpbkomaaGreatDoor
