/-
  LwSet, LwReset, ZeroKit, LwZero, LwNew, LwLen: put together.
-/
import Derived.Test.YtpdpbbmkicemdaaGreatMc04
import Derived.Test.YtpdpbbmkicemdaaGreatMc01
import Derived.Deep.Cut
import Derived.Test.YtpdpbbmkicemdaaGreatMc02
import Derived.Test.YtpdpbbmkicemdaaGreatMc06
import Derived.BigQuiet
import Derived.Laws.Tables
import Derived.Laws.MakeOwn
set_option linter.unusedVariables false
set_option linter.unusedSimpArgs false
/-
  The program's settings of LZMA: whether one may be; how many probabilities there are.
-/
namespace Go.Proofs.YtpdpbbmkicemdaaGreat
open Go.RowKit

def inB (n most : Int) : Bool := decide (0 ≤ n ∧ n ≤ most)
set_option maxRecDepth 100000 in
set_option maxHeartbeats 1000000 in
theorem pwithin_any (n most : Int) (w : World) : Calls Tryz.prog 87 #[.int .i64 n, .int .i64 most] w fun e w' => e = .returned (.bool (inB n most)) ∧ w = w' := by
  obtain ⟨v, hv⟩ : ∃ v, v = inB n most := ⟨_, rfl⟩
  rw [← hv]
  unfold inB at hv
  by_cases h0 : 0 ≤ n
  · have g0 : n ≥ 0 := h0
    by_cases h1 : n ≤ most
    · obtain rfl : v = true := by rw [hv]; exact decide_eq_true ⟨h0, h1⟩
      clear hv
      go_enter Tryz.func87, Tryz.ntmps87
      go_wp2_with fail
      go_ret
      exact ⟨rfl, rfl⟩
    · obtain rfl : v = false := by rw [hv]; exact decide_eq_false (fun h => h1 h.2)
      clear hv
      go_enter Tryz.func87, Tryz.ntmps87
      go_wp2_with fail
      go_ret
      exact ⟨rfl, rfl⟩
  · have g0 : ¬ n ≥ 0 := h0
    obtain rfl : v = false := by rw [hv]; exact decide_eq_false (fun h => h0 h.1)
    clear hv
    go_enter Tryz.func87, Tryz.ntmps87
    go_wp2_with fail
    go_ret
    exact ⟨rfl, rfl⟩

def mayB (a b c : Int) : Bool := inB a 8 && (inB b 4 && inB c 4)
set_option maxRecDepth 100000 in
set_option maxHeartbeats 4000000 in
theorem pbits_any (a b c d : Int) (w : World) : Calls Tryz.prog 57 #[.agg #[.int .i64 a, .int .i64 b, .int .i64 c, .int .i64 d]] w fun e w' => e = .returned (.bool (mayB a b c)) ∧ Below w.heap.size w w' := by
  have HB := Lib.hid ((Below.refl w.heap.size w).alloc (Nat.le_refl _) (.cells #[.int .i64 a, .int .i64 b, .int .i64 c, .int .i64 d] 24))
  have K1 := Lib.hid (fun w => pwithin_any a 8 w)
  have K2 := Lib.hid (fun w => pwithin_any b 4 w)
  have K3 := Lib.hid (fun w => pwithin_any c 4 w)
  obtain ⟨v, hv⟩ : ∃ v, v = mayB a b c := ⟨_, rfl⟩
  rw [← hv]
  unfold mayB at hv
  obtain ⟨x, hx⟩ : ∃ x, x = inB a 8 := ⟨_, rfl⟩
  obtain ⟨y, hy⟩ : ∃ x, x = inB b 4 := ⟨_, rfl⟩
  obtain ⟨z, hz⟩ : ∃ x, x = inB c 4 := ⟨_, rfl⟩
  rw [← hx] at K1 hv
  rw [← hy] at K2 hv
  rw [← hz] at K3 hv
  clear hx hy hz
  cases x with
  | false =>
    obtain rfl : v = false := hv
    go_enter Tryz.func57, Tryz.ntmps57
    go_wp2_with fail
    refine (K1.out _).mono ?_
    rintro e w1 ⟨rfl, rfl⟩
    go_wp2_with fail
    go_ret
    exact ⟨rfl, HB.out⟩
  | true =>
    cases y with
    | false =>
      obtain rfl : v = false := hv
      go_enter Tryz.func57, Tryz.ntmps57
      go_wp2_with fail
      refine (K1.out _).mono ?_
      rintro e w1 ⟨rfl, rfl⟩
      go_wp2_with fail
      refine (K2.out _).mono ?_
      rintro e w1 ⟨rfl, rfl⟩
      go_wp2_with fail
      go_ret
      exact ⟨rfl, HB.out⟩
    | true =>
      obtain rfl : v = z := by rw [hv]; cases z <;> rfl
      clear hv
      cases v
      all_goals
        go_enter Tryz.func57, Tryz.ntmps57
        go_wp2_with fail
        refine (K1.out _).mono ?_
        rintro e w1 ⟨rfl, rfl⟩
        go_wp2_with fail
        refine (K2.out _).mono ?_
        rintro e w1 ⟨rfl, rfl⟩
        go_wp2_with fail
        refine (K3.out _).mono ?_
        rintro e w1 ⟨rfl, rfl⟩
        go_wp2_with fail
        go_ret
        exact ⟨rfl, HB.out⟩

theorem may_split (a b c d : Int) : maySet a b c d = (mayB a b c && (decide (4096 ≤ d) && decide (d ≤ 4294967295))) := by
  unfold maySet mayB inB
  rw [Bool.eq_iff_iff]
  simp
  constructor
  · rintro ⟨h1, h2, h3, h4, h5, h6, h7, h8⟩; exact ⟨⟨⟨h1, h2⟩, ⟨h3, h4⟩, h5, h6⟩, h7, h8⟩
  · rintro ⟨⟨⟨h1, h2⟩, ⟨h3, h4⟩, h5, h6⟩, h7, h8⟩; exact ⟨h1, h2, h3, h4, h5, h6, h7, h8⟩

set_option maxRecDepth 100000 in
set_option maxHeartbeats 4000000 in
theorem pmay_any (a b c d : Int) (w : World) : Calls Tryz.prog 28 #[.agg #[.int .i64 a, .int .i64 b, .int .i64 c, .int .i64 d]] w fun e w' => e = .returned (.bool (maySet a b c d)) ∧ Below w.heap.size w w' := by
  obtain ⟨w1, hw1⟩ : ∃ w1, w1 = w.alloc (.cells #[.int .i64 a, .int .i64 b, .int .i64 c, .int .i64 d] 24) := ⟨_, rfl⟩
  have hb1 : Below w.heap.size w w1 := by rw [hw1]; exact (Below.refl _ _).alloc (Nat.le_refl _) _
  have HBk : Blk w1 w.heap.size 24 #[.int .i64 a, .int .i64 b, .int .i64 c, .int .i64 d] := by rw [hw1]; exact Blk.fresh w _ _
  have K := Lib.hid (pbits_any a b c d w1)
  have c0 : w1.cell? ⟨w.heap.size, 0, none⟩ = some (.int .i64 a) := HBk.cell 0
  have c1 : w1.cell? ⟨w.heap.size, 1, none⟩ = some (.int .i64 b) := HBk.cell 1
  have c2 : w1.cell? ⟨w.heap.size, 2, none⟩ = some (.int .i64 c) := HBk.cell 2
  have c3 : w1.cell? ⟨w.heap.size, 3, none⟩ = some (.int .i64 d) := HBk.cell 3
  have HW1 := Lib.hid hw1
  have HB1 := Lib.hid hb1
  have HBK := Lib.hid HBk
  have hs := may_split a b c d
  obtain ⟨v, hv⟩ : ∃ v, v = maySet a b c d := ⟨_, rfl⟩
  rw [← hv] at hs ⊢
  obtain ⟨x, hx⟩ : ∃ x, x = mayB a b c := ⟨_, rfl⟩
  rw [← hx] at hs K
  clear hw1 hb1 HBk hv hx
  cases x with
  | false =>
    obtain rfl : v = false := hs
    go_enter Tryz.func28, Tryz.ntmps28
    go_upto_region 1 with fail
    rw [← HW1.out]
    clear HW1
    go_wp2_with fail
    refine K.out.mono ?_
    rintro e w2 ⟨rfl, hb2⟩
    have HB2 := Lib.hid (HB1.out.trans ⟨hb2.os, hb2.tape, hb2.output, hb2.size, fun i hi => hb2.block i (Nat.lt_of_lt_of_le hi HB1.out.size)⟩)
    clear hb2 K c0 c1 c2 c3 HB1
    go_wp2_with fail
    go_ret
    exact ⟨rfl, HB2.out⟩
  | true =>
    rw [Bool.true_and] at hs
    by_cases h6 : 4096 ≤ d
    · have g6 : d ≥ 4096 := h6
      by_cases h7 : d ≤ 4294967295
      · obtain rfl : v = true := by rw [hs, decide_eq_true h6, decide_eq_true h7]; rfl
        clear hs h6
        go_enter Tryz.func28, Tryz.ntmps28
        go_upto_region 1 with fail
        rw [← HW1.out]
        clear HW1
        go_wp2_with fail
        refine K.out.mono ?_
        rintro e w2 ⟨rfl, hb2⟩
        have hk2 : Blk w2 w.heap.size 24 #[.int .i64 a, .int .i64 b, .int .i64 c, .int .i64 d] := HBK.out.below hb2
        have d3 : w2.cell? ⟨w.heap.size, 3, none⟩ = some (.int .i64 d) := hk2.cell 3
        have HB2 := Lib.hid (HB1.out.trans ⟨hb2.os, hb2.tape, hb2.output, hb2.size, fun i hi => hb2.block i (Nat.lt_of_lt_of_le hi HB1.out.size)⟩)
        clear hb2 hk2 K c0 c1 c2 c3 HB1
        go_wp2_with fail
        go_ret
        exact ⟨rfl, HB2.out⟩
      · obtain rfl : v = false := by rw [hs, decide_eq_false h7, Bool.and_false]
        have H7 := Lib.hid h7
        clear hs h6 h7
        go_enter Tryz.func28, Tryz.ntmps28
        go_upto_region 1 with fail
        rw [← HW1.out]
        clear HW1
        go_wp2_with fail
        refine K.out.mono ?_
        rintro e w2 ⟨rfl, hb2⟩
        have hk2 : Blk w2 w.heap.size 24 #[.int .i64 a, .int .i64 b, .int .i64 c, .int .i64 d] := HBK.out.below hb2
        have d3 : w2.cell? ⟨w.heap.size, 3, none⟩ = some (.int .i64 d) := hk2.cell 3
        have HB2 := Lib.hid (HB1.out.trans ⟨hb2.os, hb2.tape, hb2.output, hb2.size, fun i hi => hb2.block i (Nat.lt_of_lt_of_le hi HB1.out.size)⟩)
        clear hb2 hk2 K c0 c1 c2 c3 HB1
        go_wp2_with fail
        go_ret
        exact ⟨congrArg (fun b => Ending.returned (.bool b)) (decide_eq_false (by have := H7.out; omega)), HB2.out⟩
    · obtain rfl : v = false := by rw [hs, decide_eq_false h6]; rfl
      have g6 : ¬ d ≥ 4096 := h6
      clear hs h6
      go_enter Tryz.func28, Tryz.ntmps28
      go_upto_region 1 with fail
      rw [← HW1.out]
      clear HW1
      go_wp2_with fail
      refine K.out.mono ?_
      rintro e w2 ⟨rfl, hb2⟩
      have hk2 : Blk w2 w.heap.size 24 #[.int .i64 a, .int .i64 b, .int .i64 c, .int .i64 d] := HBK.out.below hb2
      have d3 : w2.cell? ⟨w.heap.size, 3, none⟩ = some (.int .i64 d) := hk2.cell 3
      have HB2 := Lib.hid (HB1.out.trans ⟨hb2.os, hb2.tape, hb2.output, hb2.size, fun i hi => hb2.block i (Nat.lt_of_lt_of_le hi HB1.out.size)⟩)
      clear hb2 hk2 K c0 c1 c2 c3 HB1
      go_wp2_with fail
      go_ret
      exact ⟨rfl, HB2.out⟩

theorem lits_small {k : Nat} (h : k ≤ 12) : 768 * 2 ^ k ≤ 3145728 := Nat.mul_le_mul_left 768 (Nat.le_trans (Nat.pow_le_pow_right (by decide) h) (show 2 ^ 12 ≤ 4096 by decide))
set_option maxRecDepth 100000 in
set_option maxHeartbeats 2000000 in
theorem plits_any {lc lp : Nat} (c d : Int) (h : lc + lp ≤ 12) (w : World) : Calls Tryz.prog 34 #[.agg #[.int .i64 (lc : Int), .int .i64 (lp : Int), .int .i64 c, .int .i64 d]] w fun e w' => e = .returned (.int .i64 ((768 * 2 ^ (lc + lp) : Nat) : Int)) ∧ Below w.heap.size w w' := by
  have HB := Lib.hid ((Below.refl w.heap.size w).alloc (Nat.le_refl _) (.cells #[.int .i64 (lc : Int), .int .i64 (lp : Int), .int .i64 c, .int .i64 d] 24))
  obtain ⟨k, hk⟩ : ∃ k, k = lc + lp := ⟨_, rfl⟩
  have hs := lits_small h
  rw [← hk] at hs ⊢
  have e1 : IntKind.i64.wrap ((lc : Int) + (lp : Int)) = (k : Int) := by rw [hk, ← Int.natCast_add]; exact IntWalk.i64_in _ (by omega)
  obtain ⟨y, hy⟩ : ∃ y, y = 768 * 2 ^ k := ⟨_, rfl⟩
  rw [← hy] at hs ⊢
  have e2 : IntKind.i64.wrap (768 * 2 ^ k) = (y : Int) := by
    rw [cast_pow2, show (768 : Int) * ((2 ^ k : Nat) : Int) = (y : Int) by rw [hy, Int.natCast_mul]; rfl]
    exact IntWalk.i64_in _ (by omega)
  have e3 : min k 64 = k := by omega
  have e4 : (0 : Int) ≤ (k : Int) := by omega
  have HE := Lib.hid (And.intro h hk)
  have HY := Lib.hid (And.intro hy hs)
  clear h hk hy hs
  go_enter Tryz.func34, Tryz.ntmps34
  go_wp2_with fail
  go_ret
  exact ⟨rfl, HB.out⟩
end Go.Proofs.YtpdpbbmkicemdaaGreat

/-
  The program's decoder of LZMA: state, distances and probabilities begin anew.
-/
namespace Go.Proofs.YtpdpbbmkicemdaaGreat
open Go.RowKit

/-- the fields of a decoder that has begun nothing; what is cut out of them is written by Reset -/
def unFs (K : Kon) (a b c d : Int) : List Value :=
  [.int .i64 a, .int .i64 b, .int .i64 c, .int .i64 d, .nilIface, .pointer none, .pointer (some ⟨K.wg, 0, none⟩), .pointer (some ⟨K.m, 0, none⟩), .int .i64 K.room,
    .int .i64 0, .int .i64 0, .int .u32 0, .int .u32 0, .int .u32 0, .int .u32 0, .slice (some ⟨K.lb, 0, none⟩) K.nl K.nl, .int .i64 0, .bool false, .bool false]

theorem all_fresh {ps : List Nat} {L : Nat} (hl : ps.length = L) (h : ∀ i, i < L → ps.getD i 0 = 1024) : ps = List.replicate L 1024 := by
  refine List.ext_getElem (by simp [hl]) (fun i h1 h2 => ?_)
  have := h i (by omega)
  simp only [List.getD, List.getElem?_eq_getElem h1, Option.getD_some] at this
  rw [this, List.getElem_replicate]
theorem Rk.put {K : Kon} {fs : List Value} {w : World} {ps : List Nat} (h : Rk K fs w ps) (hn : K.g ≠ K.lb) (k : Nat) (hk : k < 19) (v : Value) : Rk K (fs.set k v) (w.setCell ⟨K.g, fat k, none⟩ v) ps :=
  ⟨h.1.put k hk v, h.2.1.only ((Only.refl (fun j => j = K.g) w).setCell (p := ⟨K.g, fat k, none⟩) (.inl rfl) v) (fun e => hn e.symm), h.2.2⟩

section
variable {K : Kon} {w w' : World} {a b c d : Int}

set_option maxRecDepth 100000 in
set_option maxHeartbeats 8000000 in
theorem preset_any {lc lp pb : Nat} {ps : List Nat} (hn : K.g ≠ K.lb) (h1 : lc ≤ 8) (h2 : lp ≤ 4) (h3 : pb ≤ 4) (hnl : K.nl = 768 * 2 ^ (lc + lp)) (hnl2 : K.nl ≤ 1000000) (h : Rk K (unFs K 0 0 0 0) w ps) :
    Calls Tryz.prog 35 #[.pointer (some ⟨K.g, 0, none⟩), .agg #[.int .i64 (lc : Int), .int .i64 (lp : Int), .int .i64 (pb : Int), .int .i64 d]] w fun e w' =>
      e = .returned (.tuple #[]) ∧ Rk K (unFs K lc lp pb d) w' (List.replicate (1847 + K.nl) 1024) ∧ Only K.Bk w w' := by
  obtain ⟨w1, hw1⟩ : ∃ w1, w1 = w.alloc (.cells #[.int .i64 (lc : Int), .int .i64 (lp : Int), .int .i64 (pb : Int), .int .i64 d] 24) := ⟨_, rfl⟩
  have hO1 : Only K.Bk w w1 := by rw [hw1]; exact (Only.refl _ w).alloc _
  have hz1 : Rk K (unFs K 0 0 0 0) w1 ps := (K.prb _ hn).only h (show Only (fun _ => False) w w1 by rw [hw1]; exact (Only.refl _ w).alloc _) (fun _ _ h => h)
  have HBk : Blk w1 w.heap.size 24 #[.int .i64 (lc : Int), .int .i64 (lp : Int), .int .i64 (pb : Int), .int .i64 d] := by rw [hw1]; exact Blk.fresh w _ _
  have hgs : K.g < w.heap.size := h.1.lt
  have hls : K.lb < w.heap.size := h.2.1.lt
  have KM := fun w => pbits_any (lc : Int) (lp : Int) (pb : Int) d w
  have hmay : mayB (lc : Int) (lp : Int) (pb : Int) = true := by unfold mayB inB; simp; omega
  rw [hmay] at KM
  have KM := Lib.hid KM
  have KL := fun w => plits_any (lc := lc) (lp := lp) (pb : Int) d (by omega) w
  rw [← hnl] at KL
  have KL := Lib.hid KL
  have HW1 := Lib.hid hw1
  have HZ1 := Lib.hid hz1
  have HO1 := Lib.hid hO1
  have HN := Lib.hid (And.intro hn (And.intro hnl2 (And.intro hgs hls)))
  clear hw1 hz1 hO1 hmay hnl h h1 h2 h3 hn hnl2
  generalize hB : w.heap.size = B at *
  have HBK := Lib.hid HBk
  have q1 : ¬ ((K.nl : Nat) : Int) > (K.nl : Int) := by omega
  have q1' : decide (((K.nl : Nat) : Int) > (K.nl : Int)) = false := decide_eq_false q1
  clear HBk hgs hls
  go_enter Tryz.func35, Tryz.ntmps35
  go_upto_region 1 with fail
  rw [← HW1.out]
  clear HW1
  have HS := Lib.hid (fun (W : World) (hW : Only (fun _ => False) w1 W) => (show W.cell? ⟨B, 0, none⟩ = some (.int .i64 (lc : Int)) ∧ W.cell? ⟨B, 1, none⟩ = some (.int .i64 (lp : Int)) ∧ W.cell? ⟨B, 2, none⟩ = some (.int .i64 (pb : Int)) ∧ W.cell? ⟨B, 3, none⟩ = some (.int .i64 d) ∧ W.cell? ⟨K.g, 1862, none⟩ = some (.slice (some ⟨K.lb, 0, none⟩) K.nl K.nl) from
    have hk := HBK.out.only hW (fun h => h)
    ⟨hk.cell 0, hk.cell 1, hk.cell 2, hk.cell 3, (HZ1.out.1.only hW (fun h => h)).cell 15 (by decide)⟩))
  obtain ⟨c0, c1, c2, c3, c4⟩ := HS.out w1 (Only.refl _ _)
  go_region_held3 (fun w' => w'.cell? ⟨B, 0, none⟩ = some (.int .i64 (lc : Int)) ∧ w'.cell? ⟨B, 1, none⟩ = some (.int .i64 (lp : Int)) ∧ w'.cell? ⟨B, 2, none⟩ = some (.int .i64 (pb : Int)) ∧ w'.cell? ⟨B, 3, none⟩ = some (.int .i64 d) ∧ w'.cell? ⟨K.g, 1862, none⟩ = some (.slice (some ⟨K.lb, 0, none⟩) K.nl K.nl))
    (first | assumption | go_keep | exact ⟨c0, c1, c2, c3, c4⟩ | exact HS.out _ HB2.out | exact HS.out _ HB3.out)
    (first
      | (go_at_call 57; refine (KM.out _).mono ?_; rintro e w2 ⟨rfl, hb2⟩; have HB2 := Lib.hid (show Only (fun _ => False) w1 w2 from ((Only.refl (fun _ => False) w1).drew).trans (Only.of_below hb2)); clear hb2)
      | (go_at_call 34; refine (KL.out _).mono ?_; rintro e w3 ⟨rfl, hb3⟩; have HB3 := Lib.hid (show Only (fun _ => False) w1 w3 from HB2.out.trans (Only.of_below hb3)); clear hb3))
  have hz3 : Rk K (unFs K 0 0 0 0) w3 ps := (K.prb _ HN.out.1).only HZ1.out HB3.out (fun _ _ h => h)
  have p0 := hz3.put HN.out.1 0 (by decide) (.int .i64 (lc : Int))
  have p1 := p0.put HN.out.1 1 (by decide) (.int .i64 (lp : Int))
  have p2 := p1.put HN.out.1 2 (by decide) (.int .i64 (pb : Int))
  have p3 := p2.put HN.out.1 3 (by decide) (.int .i64 d)
  have p4 := p3.put HN.out.1 10 (by decide) (.int .i64 0)
  have p5 := p4.put HN.out.1 11 (by decide) (.int .u32 0)
  have p6 := p5.put HN.out.1 12 (by decide) (.int .u32 0)
  have p7 := p6.put HN.out.1 13 (by decide) (.int .u32 0)
  have p8 := p7.put HN.out.1 14 (by decide) (.int .u32 0)
  have HZ4 : Hid (Rk K (unFs K lc lp pb d) ((((((((((w3).setCell ⟨K.g, 0, none⟩ (.int .i64 (lc : Int))).setCell ⟨K.g, 1, none⟩ (.int .i64 (lp : Int))).setCell ⟨K.g, 2, none⟩ (.int .i64 (pb : Int))).setCell ⟨K.g, 3, none⟩ (.int .i64 d)).setCell ⟨K.g, 10, none⟩ (.int .i64 0)).setCell ⟨K.g, 11, none⟩ (.int .u32 0)).setCell ⟨K.g, 12, none⟩ (.int .u32 0)).setCell ⟨K.g, 13, none⟩ (.int .u32 0)).setCell ⟨K.g, 14, none⟩ (.int .u32 0)) ps) := Lib.hid p8
  have HO4 : Hid (Only K.Bk w ((((((((((w3).setCell ⟨K.g, 0, none⟩ (.int .i64 (lc : Int))).setCell ⟨K.g, 1, none⟩ (.int .i64 (lp : Int))).setCell ⟨K.g, 2, none⟩ (.int .i64 (pb : Int))).setCell ⟨K.g, 3, none⟩ (.int .i64 d)).setCell ⟨K.g, 10, none⟩ (.int .i64 0)).setCell ⟨K.g, 11, none⟩ (.int .u32 0)).setCell ⟨K.g, 12, none⟩ (.int .u32 0)).setCell ⟨K.g, 13, none⟩ (.int .u32 0)).setCell ⟨K.g, 14, none⟩ (.int .u32 0))) := Lib.hid ((((((((((HO1.out.trans (HB3.out.mono fun _ h => h.elim)).setCell (p := ⟨K.g, 0, none⟩) (.inl (.inl rfl)) (.int .i64 (lc : Int))).setCell (p := ⟨K.g, 1, none⟩) (.inl (.inl rfl)) (.int .i64 (lp : Int))).setCell (p := ⟨K.g, 2, none⟩) (.inl (.inl rfl)) (.int .i64 (pb : Int))).setCell (p := ⟨K.g, 3, none⟩) (.inl (.inl rfl)) (.int .i64 d)).setCell (p := ⟨K.g, 10, none⟩) (.inl (.inl rfl)) (.int .i64 0)).setCell (p := ⟨K.g, 11, none⟩) (.inl (.inl rfl)) (.int .u32 0)).setCell (p := ⟨K.g, 12, none⟩) (.inl (.inl rfl)) (.int .u32 0)).setCell (p := ⟨K.g, 13, none⟩) (.inl (.inl rfl)) (.int .u32 0)).setCell (p := ⟨K.g, 14, none⟩) (.inl (.inl rfl)) (.int .u32 0))
  have HB4 : Hid (Blk ((((((((((w3).setCell ⟨K.g, 0, none⟩ (.int .i64 (lc : Int))).setCell ⟨K.g, 1, none⟩ (.int .i64 (lp : Int))).setCell ⟨K.g, 2, none⟩ (.int .i64 (pb : Int))).setCell ⟨K.g, 3, none⟩ (.int .i64 d)).setCell ⟨K.g, 10, none⟩ (.int .i64 0)).setCell ⟨K.g, 11, none⟩ (.int .u32 0)).setCell ⟨K.g, 12, none⟩ (.int .u32 0)).setCell ⟨K.g, 13, none⟩ (.int .u32 0)).setCell ⟨K.g, 14, none⟩ (.int .u32 0)) B 24 #[.int .i64 (lc : Int), .int .i64 (lp : Int), .int .i64 (pb : Int), .int .i64 d]) := Lib.hid (((((((((((HBK.out.only HB3.out (fun h => h)).far (p := ⟨K.g, 0, none⟩) (show B ≠ K.g by have := HN.out.2.2.1; omega) (.int .i64 (lc : Int))).far (p := ⟨K.g, 1, none⟩) (show B ≠ K.g by have := HN.out.2.2.1; omega) (.int .i64 (lp : Int))).far (p := ⟨K.g, 2, none⟩) (show B ≠ K.g by have := HN.out.2.2.1; omega) (.int .i64 (pb : Int))).far (p := ⟨K.g, 3, none⟩) (show B ≠ K.g by have := HN.out.2.2.1; omega) (.int .i64 d)).far (p := ⟨K.g, 10, none⟩) (show B ≠ K.g by have := HN.out.2.2.1; omega) (.int .i64 0)).far (p := ⟨K.g, 11, none⟩) (show B ≠ K.g by have := HN.out.2.2.1; omega) (.int .u32 0)).far (p := ⟨K.g, 12, none⟩) (show B ≠ K.g by have := HN.out.2.2.1; omega) (.int .u32 0)).far (p := ⟨K.g, 13, none⟩) (show B ≠ K.g by have := HN.out.2.2.1; omega) (.int .u32 0)).far (p := ⟨K.g, 14, none⟩) (show B ≠ K.g by have := HN.out.2.2.1; omega) (.int .u32 0)))
  obtain ⟨u0, a0⟩ : ∃ u, w3.cell? ⟨K.g, 0, none⟩ = some u := ⟨_, hz3.1.cell 0 (by decide)⟩
  have f0 := hz3.1.free 0
  obtain ⟨u1, a1⟩ : ∃ u, w3.cell? ⟨K.g, 1, none⟩ = some u := ⟨_, hz3.1.cell 1 (by decide)⟩
  have f1 := hz3.1.free 1
  obtain ⟨u2, a2⟩ : ∃ u, w3.cell? ⟨K.g, 2, none⟩ = some u := ⟨_, hz3.1.cell 2 (by decide)⟩
  have f2 := hz3.1.free 2
  obtain ⟨u3, a3⟩ : ∃ u, w3.cell? ⟨K.g, 3, none⟩ = some u := ⟨_, hz3.1.cell 3 (by decide)⟩
  have f3 := hz3.1.free 3
  obtain ⟨u10, a10⟩ : ∃ u, w3.cell? ⟨K.g, 10, none⟩ = some u := ⟨_, hz3.1.cell 10 (by decide)⟩
  have f10 := hz3.1.free 10
  obtain ⟨u11, a11⟩ : ∃ u, w3.cell? ⟨K.g, 11, none⟩ = some u := ⟨_, hz3.1.cell 11 (by decide)⟩
  have f11 := hz3.1.free 11
  obtain ⟨u12, a12⟩ : ∃ u, w3.cell? ⟨K.g, 12, none⟩ = some u := ⟨_, hz3.1.cell 12 (by decide)⟩
  have f12 := hz3.1.free 12
  obtain ⟨u13, a13⟩ : ∃ u, w3.cell? ⟨K.g, 13, none⟩ = some u := ⟨_, hz3.1.cell 13 (by decide)⟩
  have f13 := hz3.1.free 13
  obtain ⟨u14, a14⟩ : ∃ u, w3.cell? ⟨K.g, 14, none⟩ = some u := ⟨_, hz3.1.cell 14 (by decide)⟩
  have f14 := hz3.1.free 14
  obtain ⟨c0, c1, c2, c3, _⟩ := HS.out w3 HB3.out
  clear hz3 p0 p1 p2 p3 p4 p5 p6 p7 p8 HS HZ1 HBK HB2 HB3 KM
  go_upto_region 4 with fail
  generalize (((((((((w3).setCell ⟨K.g, 0, none⟩ (.int .i64 (lc : Int))).setCell ⟨K.g, 1, none⟩ (.int .i64 (lp : Int))).setCell ⟨K.g, 2, none⟩ (.int .i64 (pb : Int))).setCell ⟨K.g, 3, none⟩ (.int .i64 d)).setCell ⟨K.g, 10, none⟩ (.int .i64 0)).setCell ⟨K.g, 11, none⟩ (.int .u32 0)).setCell ⟨K.g, 12, none⟩ (.int .u32 0)).setCell ⟨K.g, 13, none⟩ (.int .u32 0)).setCell ⟨K.g, 14, none⟩ (.int .u32 0) = w4 at *
  clear a0 f0 a1 f1 a2 f2 a3 f3 a10 f10 a11 f11 a12 f12 a13 f13 a14 f14 c0 c1 c2 c3
  have KC := Lib.hid (chances_renew (D := fun _ => False) (K.prb _ HN.out.1) K.lay (by omega) ⟨ps, HZ4.out, fun _ h => h.elim, Only.refl _ _⟩)
  go_wp2_with fail
  refine KC.out.mono ?_
  rintro e w5 ⟨rfl, hr5⟩
  have HR5 := Lib.hid hr5
  obtain ⟨ps5, hp5, _, ho5⟩ := hr5
  have HS5 := Lib.hid (fun (W : World) (hW : Only (fun _ => False) w5 W) => (show W.cell? ⟨B, 0, none⟩ = some (.int .i64 (lc : Int)) ∧ W.cell? ⟨B, 1, none⟩ = some (.int .i64 (lp : Int)) ∧ W.cell? ⟨B, 2, none⟩ = some (.int .i64 (pb : Int)) ∧ W.cell? ⟨B, 3, none⟩ = some (.int .i64 d) ∧ W.cell? ⟨K.g, 1862, none⟩ = some (.slice (some ⟨K.lb, 0, none⟩) K.nl K.nl) from
    have hk := (HB4.out.only ho5 (fun h => by have := HN.out.2.2; rcases h with h | h <;> omega)).only hW (fun h => h)
    ⟨hk.cell 0, hk.cell 1, hk.cell 2, hk.cell 3, (hp5.1.only hW (fun h => h)).cell 15 (by decide)⟩))
  obtain ⟨c0, c1, c2, c3, c4⟩ := HS5.out w5 (Only.refl _ _)
  have q2 : (0 : Int) ≤ ((K.nl : Nat) : Int) := by omega
  clear hp5 ho5 HZ4 KC
  go_wp2_with fail
  go_region_held3 (fun w' => w'.cell? ⟨B, 0, none⟩ = some (.int .i64 (lc : Int)) ∧ w'.cell? ⟨B, 1, none⟩ = some (.int .i64 (lp : Int)) ∧ w'.cell? ⟨B, 2, none⟩ = some (.int .i64 (pb : Int)) ∧ w'.cell? ⟨B, 3, none⟩ = some (.int .i64 d) ∧ w'.cell? ⟨K.g, 1862, none⟩ = some (.slice (some ⟨K.lb, 0, none⟩) K.nl K.nl))
    (first | assumption | go_keep | exact ⟨c0, c1, c2, c3, c4⟩ | exact HS5.out _ HB6.out | exact HS6)
    (first
      | (go_at_call 34; refine (KL.out _).mono ?_; rintro e w6 ⟨rfl, hb6⟩; have HB6 := Lib.hid (show Only (fun _ => False) w5 w6 from ((Only.refl (fun _ => False) w5).drew).trans (Only.of_below hb6)); clear hb6)
      | (go_at_call 61; refine (renew_any (R := Rk K (unFs K lc lp pb d)) (B := K.Bk) (w0 := w4) (D := fun i => False ∨ i < 1847) (ad := K.ad) (L := 1847 + K.nl) (a := 1847) (b := K.lb) (o := 0) (n := K.nl) (cap := K.nl) (K.prb _ HN.out.1) (fun j hj => Kon.ad_lit (by omega) (by omega)) (by omega) HN.out.2.1 ?_).mono ?_; (· obtain ⟨ps6, g1, g2, g3⟩ := HR5.out; exact ⟨ps6, (K.prb _ HN.out.1).only g1 HB6.out (fun _ _ h => h), g2, g3.trans (HB6.out.mono fun _ h => h.elim)⟩); rintro e w7 ⟨rfl, hr7⟩; have HR7 := Lib.hid hr7; have HS6 := (show w7.cell? ⟨B, 0, none⟩ = some (.int .i64 (lc : Int)) ∧ w7.cell? ⟨B, 1, none⟩ = some (.int .i64 (lp : Int)) ∧ w7.cell? ⟨B, 2, none⟩ = some (.int .i64 (pb : Int)) ∧ w7.cell? ⟨B, 3, none⟩ = some (.int .i64 d) ∧ w7.cell? ⟨K.g, 1862, none⟩ = some (.slice (some ⟨K.lb, 0, none⟩) K.nl K.nl) from (by obtain ⟨ps7, g1, _, g3⟩ := hr7; have hk := HB4.out.only g3 (fun h => by have := HN.out.2.2; rcases h with h | h <;> omega); exact ⟨hk.cell 0, hk.cell 1, hk.cell 2, hk.cell 3, g1.1.cell 15 (by decide)⟩)); clear hr7))
  go_wp2_with fail
  first | go_end0 | refine bodyPost_ret (results_none rfl _ _ _) rfl ?_
  obtain ⟨ps7, g1, g2, g3⟩ := HR7.out
  have he := all_fresh g1.2.2 (fun i hi => g2 i (by
    by_cases h : i < 1847
    · exact .inl (.inr h)
    · exact .inr (by omega)))
  rw [he] at g1
  exact ⟨rfl, g1, HO4.out.trans g3⟩
end
end Go.Proofs.YtpdpbbmkicemdaaGreat

/-
  Zeros of great structs, cell by cell.
-/
namespace Go.Proofs.YtpdpbbmkicemdaaGreat
open Go.RowKit

/-- a type's zero, cell by cell; it is never written out -/
def zOf (P : Program) (t : TypeId) : Array Value := match P.info? t with
  | some i => (match i.zero with | some v => v.cells | none => #[])
  | none => #[]
/-- kinds of zeros -/
def vk : Nat → Value
  | 0 => .int .u16 0
  | 1 => .int .i64 0
  | 2 => .int .u32 0
  | 3 => .nilIface
  | 4 => .pointer none
  | 5 => .slice none 0 0
  | _ => .bool false
def isz (k : Nat) (v : Value) : Bool := match k, v with
  | 0, .int .u16 x => x == 0
  | 1, .int .i64 x => x == 0
  | 2, .int .u32 x => x == 0
  | 3, .nilIface => true
  | 4, .pointer none => true
  | 5, .slice none 0 0 => true
  | 6, .bool false => true
  | _, _ => false
theorem isz_sound (k : Nat) (v : Value) (h : isz k v = true) : v = vk k := by
  unfold isz at h
  split at h
  all_goals first
    | (cases h; done)
    | rfl
    | (have := eq_of_beq h; subst this; rfl)
end Go.Proofs.YtpdpbbmkicemdaaGreat

/-
  The program's decoder of LZMA, as it is built.
-/
namespace Go.Proofs.YtpdpbbmkicemdaaGreat
open Go.RowKit

def zk (i : Nat) : Nat := if 1862 < i then (if i = 1863 then 1 else 6) else if i = 1862 then 5 else if 15 ≤ i then 0 else if 11 ≤ i then 2 else if i = 4 then 3 else if i = 5 then 4 else if i = 6 then 4 else if i = 7 then 4 else 1
def chk : Nat → List Value → Bool
  | i, [] => i == 1866
  | i, v :: l => isz (zk i) v && chk (i + 1) l
theorem chk_sound : ∀ (l : List Value) (i : Nat), chk i l = true → i + l.length = 1866 ∧ ∀ j, j < l.length → l[j]? = some (vk (zk (i + j)))
  | [], i, h => ⟨by have := eq_of_beq h; simpa using this, fun j hj => by simp at hj⟩
  | v :: l, i, h => by
    unfold chk at h
    obtain ⟨h1, h2⟩ := Bool.and_eq_true_iff.1 h
    obtain ⟨g1, g2⟩ := chk_sound l (i + 1) h2
    refine ⟨by simp only [List.length_cons]; omega, fun j hj => ?_⟩
    cases j with
    | zero => simp [isz_sound _ _ h1]
    | succ j =>
      simp only [List.length_cons] at hj
      rw [List.getElem?_cons_succ, g2 j (by omega)]
      congr 3
      omega
set_option maxRecDepth 1000000 in
theorem zero_chk : chk 0 (zOf Tryz.prog 106).toList = true := by kernel_rfl
def madeDec (Z : Array Value) (x y : Option Addr) (r : Int) (A : Option Addr) (n c : Nat) : Array Value :=
  (((Z.setIfInBounds 6 (.pointer x)).setIfInBounds 7 (.pointer y)).setIfInBounds 8 (.int .i64 r)).setIfInBounds 1862 (.slice A n c)
theorem zero_size : (zOf Tryz.prog 106).size = 1866 := by
  have := (chk_sound _ _ zero_chk).1
  rw [Array.length_toList] at this
  omega
theorem zero_get (i : Nat) (h : i < 1866) : (zOf Tryz.prog 106)[i]? = some (vk (zk i)) := by
  have := (chk_sound _ _ zero_chk).2 i (by rw [Array.length_toList, zero_size]; exact h)
  rw [Nat.zero_add, Array.getElem?_toList] at this
  exact this
theorem zero_low (a : Nat) (h : a < 1847) : (zOf Tryz.prog 106)[15 + a]? = some (.int .u16 0) := by
  rw [zero_get _ (by omega)]
  unfold zk
  rw [if_neg (by omega), if_neg (by omega), if_pos (by omega)]
  rfl
def decPlaces : List (Nat × Nat) := [(0, 4), (4, 1), (5, 1), (6, 1), (7, 1), (8, 1), (9, 1), (10, 1), (11, 4), (15, 1847), (1862, 1), (1863, 1), (1864, 1), (1865, 1)]
theorem made_at {K : Kon} {w : World} (hB : Blk w K.g 106 (madeDec (zOf Tryz.prog 106) (some ⟨K.wg, 0, none⟩) (some ⟨K.m, 0, none⟩) K.room (some ⟨K.lb, 0, none⟩) K.nl K.nl)) : LzAt w K.g (unFs K 0 0 0 0) (List.replicate (1847 + K.nl) 0) := by
  refine ⟨_, hB, by unfold madeDec; simp [zero_size], rfl, fun k hk => ?_, fun a ha => ?_⟩
  · have hs := zero_size
    unfold madeDec
    match k, hk with
    | 0, _ => exact (by rw [show fat 0 = 0 from rfl]; simp [zero_get 0 (by decide)]; rfl)
    | 1, _ => exact (by rw [show fat 1 = 1 from rfl]; simp [zero_get 1 (by decide)]; rfl)
    | 2, _ => exact (by rw [show fat 2 = 2 from rfl]; simp [zero_get 2 (by decide)]; rfl)
    | 3, _ => exact (by rw [show fat 3 = 3 from rfl]; simp [zero_get 3 (by decide)]; rfl)
    | 4, _ => exact (by rw [show fat 4 = 4 from rfl]; simp [zero_get 4 (by decide)]; rfl)
    | 5, _ => exact (by rw [show fat 5 = 5 from rfl]; simp [zero_get 5 (by decide)]; rfl)
    | 6, _ => exact (by rw [show fat 6 = 6 from rfl]; simp [hs]; rfl)
    | 7, _ => exact (by rw [show fat 7 = 7 from rfl]; simp [hs]; rfl)
    | 8, _ => exact (by rw [show fat 8 = 8 from rfl]; simp [hs]; rfl)
    | 9, _ => exact (by rw [show fat 9 = 9 from rfl]; simp [zero_get 9 (by decide)]; rfl)
    | 10, _ => exact (by rw [show fat 10 = 10 from rfl]; simp [zero_get 10 (by decide)]; rfl)
    | 11, _ => exact (by rw [show fat 11 = 11 from rfl]; simp [zero_get 11 (by decide)]; rfl)
    | 12, _ => exact (by rw [show fat 12 = 12 from rfl]; simp [zero_get 12 (by decide)]; rfl)
    | 13, _ => exact (by rw [show fat 13 = 13 from rfl]; simp [zero_get 13 (by decide)]; rfl)
    | 14, _ => exact (by rw [show fat 14 = 14 from rfl]; simp [zero_get 14 (by decide)]; rfl)
    | 15, _ => exact (by rw [show fat 15 = 1862 from rfl]; simp [hs]; rfl)
    | 16, _ => exact (by rw [show fat 16 = 1863 from rfl]; simp [zero_get 1863 (by decide)]; rfl)
    | 17, _ => exact (by rw [show fat 17 = 1864 from rfl]; simp [zero_get 1864 (by decide)]; rfl)
    | 18, _ => exact (by rw [show fat 18 = 1865 from rfl]; simp [zero_get 1865 (by decide)]; rfl)
    | k + 19, hk => omega
  · have := sg_lt ha
    unfold madeDec
    rw [Array.getElem?_setIfInBounds_ne (by omega), Array.getElem?_setIfInBounds_ne (by omega), Array.getElem?_setIfInBounds_ne (by omega), Array.getElem?_setIfInBounds_ne (by omega), zero_low _ this]
    simp [List.getD, show a < 1847 + K.nl by omega]
end Go.Proofs.YtpdpbbmkicemdaaGreat

/-
  The program's decoder of LZMA: a new one.
-/
namespace Go.Proofs.YtpdpbbmkicemdaaGreat
open Go.RowKit

/-- A decoder that has begun nothing. -/
structure Un (K : Kon) (w : World) (Gw : Nat → Prop) (lc lp pb dict : Nat) : Prop where
  row : Rk K (unFs K lc lp pb dict) w (List.replicate (1847 + K.nl) 1024)
  win : Pwin w K.wg Gw K.m ⟨K.sz, [], false⟩
  gn : K.g ≠ K.lb
  mg : K.m ≠ K.g
  mb : K.m ≠ K.lb
  wd : ∀ i, Gw i → i ≠ K.g ∧ i ≠ K.lb ∧ i ≠ K.m ∧ i < w.heap.size
def NewPost (w : World) (m : Nat) (q : Quo) (t : Tel) (lc lp pb dict : Nat) (size : Int) (e : Ending) (w' : World) : Prop :=
  ∃ (K : Kon) (Gw : Nat → Prop), K.m = m ∧ K.room = 2 * (probsN lc lp : Int) ∧ K.sz = (max (min (dict : Int) size) 1).toNat ∧ K.nl = 768 * 2 ^ (lc + lp) ∧ e = .returned (.tuple #[.pointer (some ⟨K.g, 0, none⟩), .int .i64 0]) ∧
    Un K w' Gw lc lp pb dict ∧ MeterAt w' 75 m q ((t.doMem q (max (min (dict : Int) size) 1)).doMem q (2 * (probsN lc lp : Int))) ∧ (w.heap.size ≤ K.g ∧ w.heap.size ≤ K.lb ∧ ∀ i, Gw i → w.heap.size ≤ i) ∧ Only (fun i => i = m) w w'

set_option maxRecDepth 100000 in
set_option maxHeartbeats 2000000 in
theorem pprobs_any {lc lp pb dict : Nat} (h : SetOk lc lp pb dict) (w : World) : Calls Tryz.prog 30 #[.agg #[.int .i64 (lc : Int), .int .i64 (lp : Int), .int .i64 (pb : Int), .int .i64 (dict : Int)]] w fun e w' => e = .returned (.int .i64 (probsN lc lp : Int)) ∧ Below w.heap.size w w' := by
  obtain ⟨w1, hw1⟩ : ∃ w1, w1 = w.alloc (.cells #[.int .i64 (lc : Int), .int .i64 (lp : Int), .int .i64 (pb : Int), .int .i64 (dict : Int)] 24) := ⟨_, rfl⟩
  have hb1 : Below w.heap.size w w1 := by rw [hw1]; exact (Below.refl _ _).alloc (Nat.le_refl _) _
  have HBk : Blk w1 w.heap.size 24 #[.int .i64 (lc : Int), .int .i64 (lp : Int), .int .i64 (pb : Int), .int .i64 (dict : Int)] := by rw [hw1]; exact Blk.fresh w _ _
  have KM := pmay_any (lc : Int) (lp : Int) (pb : Int) (dict : Int) w1
  rw [setOk_may h] at KM
  have KM := Lib.hid KM
  have KL := fun w => plits_any (lc := lc) (lp := lp) (pb : Int) (dict : Int) (by have := h.1; have := h.2.1; omega) w
  have hp := (probsN_is h).2.1
  obtain ⟨y, hy⟩ : ∃ y, y = 768 * 2 ^ (lc + lp) := ⟨_, rfl⟩
  have hpn : probsN lc lp = 1847 + y := by unfold probsN; rw [hy]
  rw [← hy] at KL
  rw [hpn] at hp ⊢
  have KL := Lib.hid KL
  have e1 : IntKind.i64.wrap (1847 + (y : Int)) = ((1847 + y : Nat) : Int) := by rw [show 1847 + (y : Int) = ((1847 + y : Nat) : Int) by omega]; exact IntWalk.i64_in _ (by omega)
  obtain ⟨r, hr⟩ : ∃ r, r = 1847 + y := ⟨_, rfl⟩
  rw [← hr] at e1 ⊢
  have c0 : w1.cell? ⟨w.heap.size, 0, none⟩ = some (.int .i64 (lc : Int)) := HBk.cell 0
  have c1 : w1.cell? ⟨w.heap.size, 1, none⟩ = some (.int .i64 (lp : Int)) := HBk.cell 1
  have c2 : w1.cell? ⟨w.heap.size, 2, none⟩ = some (.int .i64 (pb : Int)) := HBk.cell 2
  have c3 : w1.cell? ⟨w.heap.size, 3, none⟩ = some (.int .i64 (dict : Int)) := HBk.cell 3
  have HW1 := Lib.hid hw1
  have HB1 := Lib.hid hb1
  have HBK := Lib.hid HBk
  clear hw1 hb1 HBk h hp hy hpn hr
  go_enter Tryz.func30, Tryz.ntmps30
  go_upto_region 1 with fail
  rw [← HW1.out]
  clear HW1
  go_wp2_with fail
  refine KM.out.mono ?_
  rintro e w2 ⟨rfl, hb2⟩
  have hk2 : Blk w2 w.heap.size 24 #[.int .i64 (lc : Int), .int .i64 (lp : Int), .int .i64 (pb : Int), .int .i64 (dict : Int)] := HBK.out.below hb2
  have d0 : w2.cell? ⟨w.heap.size, 0, none⟩ = some (.int .i64 (lc : Int)) := hk2.cell 0
  have d1 : w2.cell? ⟨w.heap.size, 1, none⟩ = some (.int .i64 (lp : Int)) := hk2.cell 1
  have d2 : w2.cell? ⟨w.heap.size, 2, none⟩ = some (.int .i64 (pb : Int)) := hk2.cell 2
  have d3 : w2.cell? ⟨w.heap.size, 3, none⟩ = some (.int .i64 (dict : Int)) := hk2.cell 3
  have HB2 := Lib.hid (HB1.out.trans ⟨hb2.os, hb2.tape, hb2.output, hb2.size, fun i hi => hb2.block i (Nat.lt_of_lt_of_le hi HB1.out.size)⟩)
  clear hb2 hk2 KM c0 c1 c2 c3 HB1
  go_wp2_with fail
  refine (KL.out _).mono ?_
  rintro e w3 ⟨rfl, hb3⟩
  have HB3 := Lib.hid (HB2.out.trans ⟨hb3.os, hb3.tape, hb3.output, hb3.size, fun i hi => hb3.block i (Nat.lt_of_lt_of_le hi HB2.out.size)⟩)
  clear hb3 KL d0 d1 d2 d3
  go_wp2_with fail
  go_ret
  exact ⟨rfl, HB3.out⟩

set_option maxRecDepth 1000000 in
theorem zeroCells_chk : chk 0 Tryz.zeroCells106.toList = true := by kernel_rfl
theorem zero_link : Tryz.zeroCells106 = zOf Tryz.prog 106 := by
  have hs : Tryz.zeroCells106.size = 1866 := by
    have := (chk_sound _ _ zeroCells_chk).1
    rw [Array.length_toList] at this
    omega
  have hg : ∀ i, i < 1866 → Tryz.zeroCells106[i]? = some (vk (zk i)) := by
    intro i h
    have := (chk_sound _ _ zeroCells_chk).2 i (by rw [Array.length_toList, hs]; exact h)
    rw [Nat.zero_add, Array.getElem?_toList] at this
    exact this
  apply Array.ext_getElem?
  intro i
  by_cases h : i < 1866
  · rw [hg i h, zero_get i h]
  · rw [Array.getElem?_eq_none (by omega), Array.getElem?_eq_none (by rw [zero_size]; omega)]

theorem made_row (w : World) (n : Nat) (h : n ≤ 1000000) : Row (w.alloc (.cells (madeCells #[Value.int .u16 0] n) 91)) w.heap.size (List.replicate n 0) n := by
  have hm := madeNums n
  have hl : (madeCells #[Value.int .u16 0] n).size = n := by
    have := congrArg List.length hm
    rw [Array.length_toList, pv_length, List.length_replicate] at this
    exact this
  unfold Row
  rw [List.length_replicate]
  refine ⟨by simp [pv_length], .inr ⟨w.heap.size, n, madeCells #[Value.int .u16 0] n, rfl, Nat.zero_le _, heap_alloc_new w _, Nat.le_refl _, by unfold maxLen; omega, by omega, ?_⟩⟩
  rw [Nat.mul_one, ← hm]
  exact List.take_of_length_le (by rw [Array.length_toList, hl]; exact Nat.le_refl _)

set_option maxRecDepth 100000 in
set_option maxHeartbeats 8000000 in
theorem lnew_any {w : World} {m lc lp pb dict : Nat} {q : Quo} {t : Tel} {size : Int} (h : SetOk lc lp pb dict) (h6 : lc + lp ≤ 6) (hM : MeterAt w 75 m q t) (hF : Fine q t) (h0 : -9223372036854775808 ≤ size) (h1 : size ≤ 1048576)
    (hf1 : fits t.code t.mem q.mem (max (min (dict : Int) size) 1)) (hf2 : fits (t.doMem q (max (min (dict : Int) size) 1)).code (t.doMem q (max (min (dict : Int) size) 1)).mem q.mem (2 * (probsN lc lp : Int))) :
    Calls Tryz.prog 15 #[.agg #[.int .i64 (lc : Int), .int .i64 (lp : Int), .int .i64 (pb : Int), .int .i64 (dict : Int)], .int .i64 size, .pointer (some ⟨m, 0, none⟩)] w (NewPost w m q t lc lp pb dict size) := by
  obtain ⟨i, hi, hz0, hz1, hz2⟩ := info_parts info_u16
  have hnlN := lits_small (k := lc + lp) (by omega)
  have hnl6 : 768 * 2 ^ (lc + lp) ≤ 1000000 := Nat.le_trans (Nat.mul_le_mul_left 768 (Nat.pow_le_pow_right (by decide) h6)) (by decide)
  have hpn := (probsN_is h).2.1
  have hprob : probsN lc lp = 1847 + 768 * 2 ^ (lc + lp) := rfl
  obtain ⟨nl, hnl⟩ : ∃ nl, nl = 768 * 2 ^ (lc + lp) := ⟨_, rfl⟩
  obtain ⟨w1, hw1⟩ : ∃ w1, w1 = w.alloc (.cells #[.int .i64 (lc : Int), .int .i64 (lp : Int), .int .i64 (pb : Int), .int .i64 (dict : Int)] 24) := ⟨_, rfl⟩
  have hO1 : Only (fun i => i = m) w w1 := by rw [hw1]; exact (Only.refl _ w).alloc _
  have HBk : Blk w1 w.heap.size 24 #[.int .i64 (lc : Int), .int .i64 (lp : Int), .int .i64 (pb : Int), .int .i64 (dict : Int)] := by rw [hw1]; exact Blk.fresh w _ _
  have hM1 : MeterAt w1 75 m q t := by rw [hw1]; exact hM.alloc _
  have hmB : m < w.heap.size := hM.lt
  have KM := pmay_any (lc : Int) (lp : Int) (pb : Int) (dict : Int) w1
  rw [setOk_may h] at KM
  have KM := Lib.hid KM
  have KL := fun w => plits_any (lc := lc) (lp := lp) (pb : Int) (dict : Int) (by omega) w
  rw [← hnl] at KL hnl6 hprob
  have KL := Lib.hid KL
  have KP := Lib.hid (fun w => pprobs_any h w)
  obtain ⟨n, hn⟩ : ∃ n, n = min (dict : Int) size := ⟨_, rfl⟩
  rw [← hn] at hf1 hf2
  have hd32 := h.2.2.2
  have hn1 : n ≤ 1048576 := by omega
  have hn0 : -9223372036854775808 ≤ n := by omega
  have HW1 := Lib.hid hw1
  have HO1 := Lib.hid hO1
  have HBK := Lib.hid HBk
  have HM1 := Lib.hid hM1
  have HH := Lib.hid (And.intro h (And.intro hF (And.intro hf1 (And.intro hf2 (And.intro hn (And.intro hnl hnl6))))))
  have HNB := Lib.hid (And.intro hn0 (And.intro hn1 hmB))
  obtain ⟨P, hP⟩ : ∃ P, P = probsN lc lp := ⟨_, rfl⟩
  rw [← hP] at KP
  have e1 : IntKind.i64.wrap (2 * (P : Int)) = 2 * (P : Int) := IntWalk.i64_in _ (by omega)
  have HP := Lib.hid hP
  have c0 : w1.cell? ⟨w.heap.size, 0, none⟩ = some (.int .i64 (lc : Int)) := HBk.cell 0
  have c1 : w1.cell? ⟨w.heap.size, 1, none⟩ = some (.int .i64 (lp : Int)) := HBk.cell 1
  have c2 : w1.cell? ⟨w.heap.size, 2, none⟩ = some (.int .i64 (pb : Int)) := HBk.cell 2
  have c3 : w1.cell? ⟨w.heap.size, 3, none⟩ = some (.int .i64 (dict : Int)) := HBk.cell 3
  have hmk : ∀ W : World, (Instr.makeSlice 61 (.int .i64 (nl : Int)) (.int .i64 (nl : Int))).run Tryz.prog W = .ok (.slice (some ⟨W.heap.size, 0, none⟩) nl nl) (W.alloc (.cells (madeCells #[Value.int .u16 0] nl) 91)) := by
    intro W
    have := run_make (P := Tryz.prog) W 61 91 i (.int .u16 0) Tryz.underlying61 hi hz0 .i64 .i64 (nl : Int) (nl : Int) (by omega) (Int.le_refl _) (by rw [hz2]; omega) (by omega)
    rw [hz1, Int.toNat_natCast, Nat.mul_one] at this
    exact this
  clear hw1 hO1 HBk hM1 h hF hf1 hf2 hn hnl hnl6 hn0 hn1 hmB hM h0 h1 hd32 hnlN hpn hprob hP hi hz0 hz1 hz2 h6
  go_enter Tryz.func15, Tryz.ntmps15
  go_upto_region 1 with fail
  rw [← HW1.out]
  clear HW1
  generalize hB : w.heap.size = B at *
  go_wp2_with fail
  refine KM.out.mono ?_
  rintro e w2 ⟨rfl, hb2⟩
  have hk2 := HBK.out.below hb2
  have d3 : w2.cell? ⟨B, 3, none⟩ = some (.int .i64 (dict : Int)) := hk2.cell 3
  have HK2 := Lib.hid hk2
  have HO2 := Lib.hid (HO1.out.then hb2)
  have HM2 := Lib.hid (HM1.out.below hb2)
  have KW := wnew7_any (n := n) HM2.out HH.out.2.1 HNB.out.1 HNB.out.2.1 HH.out.2.2.1
  have hnn : min (dict : Int) size = n := HH.out.2.2.2.2.1.symm
  have KW := Lib.hid KW
  clear hb2 hk2 KM c0 c1 c2 c3 HBK HM1 HO1
  go_wp2_with fail
  refine KW.out.mono ?_
  rintro e w3 ⟨g, G, rfl, hP3, hM3, hGn, hO3⟩
  have hBm : B ≠ m := by have := HNB.out.2.2; omega
  have hk3 := HK2.out.only hO3 hBm
  have d0 : w3.cell? ⟨B, 0, none⟩ = some (.int .i64 (lc : Int)) := hk3.cell 0
  have d1 : w3.cell? ⟨B, 1, none⟩ = some (.int .i64 (lp : Int)) := hk3.cell 1
  have d2 : w3.cell? ⟨B, 2, none⟩ = some (.int .i64 (pb : Int)) := hk3.cell 2
  have d3' : w3.cell? ⟨B, 3, none⟩ = some (.int .i64 (dict : Int)) := hk3.cell 3
  have HK3 := Lib.hid hk3
  have HO3 := Lib.hid (HO2.out.trans hO3)
  have HM3 := Lib.hid hM3
  have HW3 := Lib.hid hP3
  have HGN := Lib.hid (And.intro hGn hO3)
  clear hP3 hM3 hGn hO3 hk3 KW HK2 HM2 hnn d3
  go_wp2_with fail
  refine (KP.out w3).mono ?_
  rintro e w4 ⟨rfl, hb4⟩
  have hO4 : Only (fun _ => False) w3 w4 := Only.of_below hb4
  have HO4 := Lib.hid (HO3.out.then hb4)
  have HM4 := Lib.hid (HM3.out.below hb4)
  have HW4 := Lib.hid (HW3.out.only hO4 (fun _ _ h => h))
  have HK4 := Lib.hid (HK3.out.below hb4)
  have HG4 := Lib.hid (show ∀ i, G i → i < w4.heap.size from fun i hi => Nat.lt_of_lt_of_le (HW3.out.old hi) hb4.size)
  have KQ := mem_any HM4.out (HH.out.2.1.mem _) (2 * (P : Int))
  have hfit : decide (fits (t.doMem q (max n 1)).code (t.doMem q (max n 1)).mem q.mem (2 * (P : Int))) = true := by rw [HP.out]; exact decide_eq_true HH.out.2.2.2.1
  rw [hfit] at KQ
  have KQ := Lib.hid KQ
  clear hb4 hO4 HO3 HM3 HK3 KP d0 d1 d2 d3' hfit
  go_wp2_with fail
  refine KQ.out.mono ?_
  rintro e w5 ⟨rfl, hM5, hg5⟩
  have hO5 : Only (fun i => i = m) w4 w5 := Only.of_grown hg5 rfl
  have hk5 := HK4.out.only hO5 hBm
  have d0 : w5.cell? ⟨B, 0, none⟩ = some (.int .i64 (lc : Int)) := hk5.cell 0
  have d1 : w5.cell? ⟨B, 1, none⟩ = some (.int .i64 (lp : Int)) := hk5.cell 1
  have d2 : w5.cell? ⟨B, 2, none⟩ = some (.int .i64 (pb : Int)) := hk5.cell 2
  have d3 : w5.cell? ⟨B, 3, none⟩ = some (.int .i64 (dict : Int)) := hk5.cell 3
  have HK5 := Lib.hid hk5
  have HM5 := Lib.hid hM5
  have hGm : ∀ i, G i → i ≠ m := fun i hi => by
    have := HGN.out.1 i hi
    have := HO2.out.size
    have := HNB.out.2.2
    omega
  have HW5 := Lib.hid (HW4.out.only hO5 (fun i hi => hGm i hi))
  have HO5 := Lib.hid (HO4.out.trans hO5)
  have HG5 := Lib.hid (show ∀ i, G i → i < w5.heap.size from fun i hi => Nat.lt_of_lt_of_le (HG4.out i hi) hO5.size)
  have HGM := Lib.hid hGm
  clear hM5 hg5 hO5 hk5 hGm KQ HK4 HM4 HW4 HO4 HG4 HW3
  go_wp2_with fail
  refine (KL.out w5).mono ?_
  rintro e w6 ⟨rfl, hb6⟩
  have hO6 : Only (fun _ => False) w5 w6 := Only.of_below hb6
  have hk6 := HK5.out.below hb6
  have d0 : w6.cell? ⟨B, 0, none⟩ = some (.int .i64 (lc : Int)) := hk6.cell 0
  have d1 : w6.cell? ⟨B, 1, none⟩ = some (.int .i64 (lp : Int)) := hk6.cell 1
  have d2 : w6.cell? ⟨B, 2, none⟩ = some (.int .i64 (pb : Int)) := hk6.cell 2
  have d3 : w6.cell? ⟨B, 3, none⟩ = some (.int .i64 (dict : Int)) := hk6.cell 3
  have HM6 := Lib.hid (HM5.out.below hb6)
  have HW6 := Lib.hid (HW5.out.only hO6 (fun _ _ h => h))
  have HO6 := Lib.hid (HO5.out.then hb6)
  have HG6 := Lib.hid (show ∀ i, G i → i < w6.heap.size from fun i hi => Nat.lt_of_lt_of_le (HG5.out i hi) hb6.size)
  have HK6 := Lib.hid hk6
  clear hb6 hO6 hk6 HK5 HM5 HW5 HO5 HG5
  go_upto_region 11 with fail
  obtain ⟨lb, hlb⟩ : ∃ lb, lb = w6.heap.size := ⟨_, rfl⟩
  obtain ⟨cs, hcs⟩ : ∃ cs, cs = (((Tryz.zeroCells106.setIfInBounds 6 (Value.pointer (some ⟨g, 0, none⟩))).setIfInBounds 7 (Value.pointer (some ⟨m, 0, none⟩))).setIfInBounds 8 (Value.int .i64 (2 * (P : Int)))).setIfInBounds 1862 (Value.slice (some ⟨w6.heap.size, 0, none⟩) nl nl) := ⟨_, rfl⟩
  obtain ⟨w7, hw7⟩ : ∃ w7, w7 = w6.alloc (.cells (madeCells #[Value.int .u16 0] nl) 91) := ⟨_, rfl⟩
  have hs7 : w7.heap.size = lb + 1 := by rw [hw7, hlb]; simp
  obtain ⟨w8, hw8⟩ : ∃ w8, w8 = w7.alloc (.cells cs 106) := ⟨_, rfl⟩
  have hrow8 : Row w8 lb (List.replicate nl 0) nl := by
    have h1 := made_row w6 nl HH.out.2.2.2.2.2.2
    rw [← hw7, ← hlb] at h1
    rw [hw8]
    exact h1.only ((Only.refl (fun _ => False) w7).alloc _) (fun h => h)
  have hblk8 : Blk w8 (lb + 1) 106 cs := by
    rw [hw8, ← hs7]
    exact Blk.fresh w7 _ _
  have hO8 : Only (fun _ => False) w6 w8 := by rw [hw8, hw7]; exact ((Only.refl _ w6).alloc _).alloc _
  obtain ⟨K, hK⟩ : ∃ K : Kon, K = ⟨lb + 1, lb, nl, g, m, 0, 0, 0, [], 2 * (P : Int), (max n 1).toNat⟩ := ⟨_, rfl⟩
  have kg : K.g = lb + 1 := by rw [hK]
  have kb : K.lb = lb := by rw [hK]
  have kn : K.nl = nl := by rw [hK]
  have km : K.m = m := by rw [hK]
  have kw : K.wg = g := by rw [hK]
  have kr : K.room = 2 * (P : Int) := by rw [hK]
  have kz : K.sz = (max n 1).toNat := by rw [hK]
  have hmB6 : m < lb := by
    have h1 := HM6.out.lt
    omega
  have hGlb : ∀ i, G i → i < lb := fun i hi => by rw [hlb]; exact HG6.out i hi
  have hrk : Rk K (unFs K 0 0 0 0) w8 (List.replicate (1847 + K.nl) 0) := by
    refine ⟨?_, ?_, by simp⟩
    · refine made_at ?_
      rw [kg, kw, km, kr, kb, kn]
      rw [hcs, ← hlb, zero_link] at hblk8
      exact hblk8
    · have : (List.replicate (1847 + K.nl) 0).drop 1847 = List.replicate nl 0 := by rw [List.drop_replicate, kn]; congr 1; omega
      rw [this, kb, kn]
      exact hrow8
  have KR := preset_any (K := K) (lc := lc) (lp := lp) (pb := pb) (d := (dict : Int)) (by rw [kg, kb]; omega) HH.out.1.1 HH.out.1.2.1 HH.out.1.2.2.1 (by rw [kn]; exact HH.out.2.2.2.2.2.1) (by rw [kn]; exact HH.out.2.2.2.2.2.2) hrk
  rw [kg] at KR
  have KR := Lib.hid KR
  have hk8 := HK6.out.only hO8 (fun h => h)
  have d0 : w8.cell? ⟨B, 0, none⟩ = some (.int .i64 (lc : Int)) := hk8.cell 0
  have d1 : w8.cell? ⟨B, 1, none⟩ = some (.int .i64 (lp : Int)) := hk8.cell 1
  have d2 : w8.cell? ⟨B, 2, none⟩ = some (.int .i64 (pb : Int)) := hk8.cell 2
  have d3 : w8.cell? ⟨B, 3, none⟩ = some (.int .i64 (dict : Int)) := hk8.cell 3
  have HX8 := Lib.hid (And.intro (HM6.out.only hO8 (fun h => h)) (And.intro (HW6.out.only hO8 (fun _ _ h => h)) (And.intro (HO6.out.trans (hO8.mono fun _ h => h.elim)) (And.intro hmB6 hGlb))))
  have HKK := Lib.hid (And.intro kg (And.intro kb (And.intro kn (And.intro km (And.intro kw (And.intro kr kz))))))
  have HG8x := Lib.hid (show ∀ i, G i → i < w8.heap.size from fun i hi => Nat.lt_of_lt_of_le (HG6.out i hi) hO8.size)
  have HS8 := Lib.hid (show lb = w6.heap.size ∧ w.heap.size ≤ w6.heap.size from ⟨hlb, HO6.out.size⟩)
  rw [← hcs, ← hw7, ← hw8, ← hlb]
  clear hrk hrow8 hblk8 hO8 hk8 hw8 hw7 hs7 hcs kg kb kn km kw kr kz hK hmB6 hGlb HM6 HW6 HO6 HG6 HK6 hlb hmk
  go_wp2_with fail
  refine KR.out.mono ?_
  rintro e w9 ⟨rfl, hR9, hO9⟩
  have HR9 := Lib.hid (And.intro hR9 hO9)
  clear hR9 hO9 KR d0 d1 d2 d3
  go_wp2_with fail
  go_ret2
  obtain ⟨hM8, hW8, hOn8, hmB8, hG8⟩ := HX8.out
  obtain ⟨kg, kb, kn, km, kw, kr, kz⟩ := HKK.out
  obtain ⟨hR9, hO9⟩ := HR9.out
  obtain ⟨hh, hF, hf1, hf2, hn, hnl, hnl6⟩ := HH.out
  obtain ⟨hs8, hs0⟩ := HS8.out
  have hlt : ∀ i, G i → ¬ K.Bk i := by
    intro i hi hb
    have := hG8 i hi
    rcases hb with hb | hb
    · rw [kg] at hb; omega
    · rw [kb] at hb; omega
  have hmK : ¬ K.Bk m := by
    intro hb
    rcases hb with hb | hb
    · rw [kg] at hb; omega
    · rw [kb] at hb; omega
  have hP : P = probsN lc lp := HP.out
  subst hP
  have hW9 := hW8.only hO9 hlt
  have hO := hOn8.trans' hO9 (fun i hi => .inr (by
    rcases hi with hi | hi
    · rw [kg] at hi; omega
    · rw [kb] at hi; omega))
  have hgw := hO9.size
  have hg9 : ∀ i, G i → i < w9.heap.size := fun i hi => by
    have h1 := HG8x.out i hi
    omega
  refine ⟨K, G, km, kr, ?_, ?_, ?_, ⟨hR9, ?_, ?_, ?_, ?_, ?_⟩, ?_, ⟨?_, ?_, ?_⟩, hO⟩
  · rw [kz, hn]
  · rw [kn, hnl]
  · rw [kg]; rfl
  · rw [kw, km, kz]; exact hW9
  · rw [kg, kb]; omega
  · rw [km, kg]; omega
  · rw [km, kb]; omega
  · intro i hi
    have h1 := hG8 i hi
    have h2 := HGM.out i hi
    exact ⟨by rw [kg]; omega, by rw [kb]; omega, by rw [km]; exact h2, hg9 i hi⟩
  · rw [← hn]; exact hM8.only hO9 hmK
  · rw [kg]; omega
  · rw [kb]; omega
  · intro i hi
    have h1 := HGN.out.1 i hi
    have h2 := HO2.out.size
    omega
end Go.Proofs.YtpdpbbmkicemdaaGreat

/-
  The program's decoder of LZMA: a length.
-/
namespace Go.Proofs.YtpdpbbmkicemdaaGreat
open Go.RowKit

def LenPost (K : Kon) (w : World) (Gw : Nat → Prop) (z : Lzs) (r : Nat × Pm Dc) (left : Nat) (e : Ending) (w' : World) : Prop :=
  ∃ v : Nat, MidPost K w Gw (.int .i64 (v : Int)) z r.2 left e w' ∧ v < 272 ∧ (r.2.x ≠ none → v = r.1)
theorem alive_le {t : Pm Dc} {u n : Nat} (h : u < n) : Alive t 0 u < n := by unfold Alive; split <;> omega
theorem alive_is {t : Pm Dc} {u : Nat} (h : t.x ≠ none) : Alive t 0 u = u := by unfold Alive; rw [if_neg h]

section
variable {K : Kon} {w w' : World} {Gw : Nat → Prop} {z : Lzs} {t : Pm Dc} {left : Nat}

set_option maxRecDepth 100000 in
set_option maxHeartbeats 4000000 in
theorem llen_any {A o s : Nat} {v : Int} (h : Lw K w Gw z t left) (hp : z.pb ≤ 4) (ho : z.out.length ≤ 1000000) (hA : 688 ≤ A) (hA2 : A + 514 ≤ 1847) (hoA : o = 15 + (A - 256)) (hs : s = z.out.length % 2 ^ z.pb) :
    Calls Tryz.prog 96 #[.pointer (some ⟨K.g, 0, none⟩), .pointer (some ⟨K.g, o, none⟩)] w (LenPost K w Gw z (lenP decM t A s v) left) := by
  have hs15 : s ≤ 15 := by rw [hs]; exact mod_pb hp
  have KP := lplace_mid h hp ho
  rw [← hs] at KP
  have KP := Lib.hid KP
  have hb1 := bitP_ok decM_ok (k := 0) (a := A) (w := min (v.tdiv 8) 1) (okD_any h.mch.ok) (by omega) (fun h => by cases h)
  have hdef : lenP decM t A s v = lenA decM (bitP decM t A (min (v.tdiv 8) 1)) A s v := rfl
  rw [hdef]
  have KB := Lib.hid (fun (w1 : World) (h1 : Lw K w1 Gw z t left) => (h1.drewN 1).bit (a := A) (b := K.g) (i := o) (min (v.tdiv 8) 1) (Kon.ad_rest (by omega) (by omega) hoA) (by omega))
  obtain ⟨B, hB⟩ : ∃ B, B = bitP decM t A (min (v.tdiv 8) 1) := ⟨_, rfl⟩
  rw [← hB] at KB hb1 ⊢
  have j1 : (s : Int) < 16 := by omega
  have j0 : (0 : Int) ≤ (s : Int) := by omega
  by_cases hu : B.1 = 0
  · have KT := Lib.hid (fun (w1 : World) (h1 : Lw K w1 Gw z B.2 left) => (h1.drewN 1).tree (a := A + 2 + 8 * s) (n := 3) (b := K.g) (o := o + 2 + s * 8) (len := 8) (cap := 8) v (fun m hm => Kon.ad_rest (by omega) (by have : m < 8 := hm; omega) (by omega)) (by show A + 2 + 8 * s + 8 ≤ _; omega) (by decide) (by decide))
    have hlt := (treeP_ok decM_ok (k := 0) (a := A + 2 + 8 * s) (n := 3) (v := v) (okD_any hb1.2) (by show A + 2 + 8 * s + 8 ≤ _; omega) (fun h => by cases h)).1
    have hres : lenA decM B A s v = treeP decM B.2 (A + 2 + 8 * s) 3 v := by unfold lenA; rw [if_pos hu]
    rw [hres]
    obtain ⟨T, hT⟩ : ∃ T, T = treeP decM B.2 (A + 2 + 8 * s) 3 v := ⟨_, rfl⟩
    rw [← hT] at KT hlt ⊢
    have hu2 : ((B.1 : Int) == 0) = true := by simp [hu]
    have hlt : T.1 < 8 := hlt
    have HX := Lib.hid hlt
    clear h hs hB hT hu hres hdef hb1 hA hA2 hoA hs15 hp ho hlt
    go_enter Tryz.func96, Tryz.ntmps96
    go_wp2_with fail
    refine KP.out.mono ?_
    rintro e w1 ⟨rfl, hz1, ho1⟩
    have HO1 := Lib.hid ho1
    have c5 := hz1.f.c5
    have KB := Lib.hid (KB.out w1 hz1)
    clear KP hz1 ho1
    go_wp2_with fail
    go_still_tail 7, (by kernel_rfl)
    change wpList _ _ _ _ _ w1.drew
    go_wp2_with fail
    refine KB.out.mono ?_
    rintro e w2 ⟨rfl, hz2, ho2⟩
    have HO2 := Lib.hid (HO1.out.trans (Only.of_drewN ho2))
    have e5 := hz2.f.c5
    have KC := Lib.hid (KT.out w2 hz2)
    clear hz2 ho2 KB KT c5
    go_wp2_with fail
    go_still_tail 10, (by kernel_rfl)
    change wpList _ _ _ _ _ w2.drew
    go_wp2_with fail
    refine KC.out.mono ?_
    rintro e w3 ⟨rfl, hz3, ho3⟩
    have HZ3 := Lib.hid hz3
    have HO3 := Lib.hid (HO2.out.trans (Only.of_drewN ho3))
    clear hz3 ho3 KC
    go_wp2_with fail
    go_ret
    exact ⟨Alive T.2 0 T.1, ⟨rfl, HZ3.out, HO3.out⟩, by have := alive_le (t := T.2) HX.out; omega, fun hx => alive_is hx⟩
  · have hu2 : ((B.1 : Int) == 0) = false := by simp; omega
    have KB2 := Lib.hid (fun (w1 : World) (h1 : Lw K w1 Gw z B.2 left) => (h1.drewN 1).bit (a := A + 1) (b := K.g) (i := o + 1) (min (v.tdiv 16) 1) (Kon.ad_rest (by omega) (by omega) (by omega)) (by omega))
    have hb2 := bitP_ok decM_ok (k := 0) (a := A + 1) (w := min (v.tdiv 16) 1) (okD_any hb1.2) (by omega) (fun h => by cases h)
    have hres : lenA decM B A s v = lenB decM (bitP decM B.2 (A + 1) (min (v.tdiv 16) 1)) A s v := by unfold lenA; rw [if_neg hu]
    rw [hres]
    obtain ⟨B2, hB2⟩ : ∃ B2, B2 = bitP decM B.2 (A + 1) (min (v.tdiv 16) 1) := ⟨_, rfl⟩
    rw [← hB2] at KB2 hb2 ⊢
    by_cases hv : B2.1 = 0
    · have KT := Lib.hid (fun (w1 : World) (h1 : Lw K w1 Gw z B2.2 left) => (h1.drewN 1).tree (a := A + 130 + 8 * s) (n := 3) (b := K.g) (o := o + 130 + s * 8) (len := 8) (cap := 8) (v - 8) (fun m hm => Kon.ad_rest (by omega) (by have : m < 8 := hm; omega) (by omega)) (by show A + 130 + 8 * s + 8 ≤ _; omega) (by decide) (by decide))
      have hlt := (treeP_ok decM_ok (k := 0) (a := A + 130 + 8 * s) (n := 3) (v := v - 8) (okD_any hb2.2) (by show A + 130 + 8 * s + 8 ≤ _; omega) (fun h => by cases h)).1
      have hres2 : lenB decM B2 A s v = (8 + (treeP decM B2.2 (A + 130 + 8 * s) 3 (v - 8)).1, (treeP decM B2.2 (A + 130 + 8 * s) 3 (v - 8)).2) := by unfold lenB; rw [if_pos hv]
      rw [hres2]
      obtain ⟨T, hT⟩ : ∃ T, T = treeP decM B2.2 (A + 130 + 8 * s) 3 (v - 8) := ⟨_, rfl⟩
      rw [← hT] at KT hlt ⊢
      have hv2 : ((B2.1 : Int) == 0) = true := by simp [hv]
      have hlt : T.1 < 8 := hlt
      obtain ⟨x, hx⟩ : ∃ x, x = Alive T.2 0 T.1 := ⟨_, rfl⟩
      have hx8 : x < 8 := by rw [hx]; exact alive_le hlt
      have e7 : IntKind.i64.wrap (8 + (x : Int)) = ((8 + x : Nat) : Int) := by rw [show 8 + (x : Int) = ((8 + x : Nat) : Int) by omega]; exact IntWalk.i64_in _ (by omega)
      unfold TreePost at KT
      rw [← hx] at KT
      have HX := Lib.hid (And.intro hx hx8)
      clear h hs hB hB2 hT hu hv hres hres2 hdef hb1 hb2 hA hA2 hoA hs15 hp ho hlt hx hx8
      go_enter Tryz.func96, Tryz.ntmps96
      go_wp2_with fail
      refine KP.out.mono ?_
      rintro e w1 ⟨rfl, hz1, ho1⟩
      have HO1 := Lib.hid ho1
      have c5 := hz1.f.c5
      have KB := Lib.hid (KB.out w1 hz1)
      clear KP hz1 ho1
      go_wp2_with fail
      go_still_tail 7, (by kernel_rfl)
      change wpList _ _ _ _ _ w1.drew
      go_wp2_with fail
      refine KB.out.mono ?_
      rintro e w2 ⟨rfl, hz2, ho2⟩
      have HO2 := Lib.hid (HO1.out.trans (Only.of_drewN ho2))
      have e5 := hz2.f.c5
      have KC := Lib.hid (KB2.out w2 hz2)
      clear hz2 ho2 KB KB2 c5
      go_wp2_with fail
      go_still_tail 7, (by kernel_rfl)
      change wpList _ _ _ _ _ w2.drew
      go_wp2_with fail
      refine KC.out.mono ?_
      rintro e w3 ⟨rfl, hz3, ho3⟩
      have HO3 := Lib.hid (HO2.out.trans (Only.of_drewN ho3))
      have f5 := hz3.f.c5
      have KD := Lib.hid (KT.out w3 hz3)
      clear hz3 ho3 KC KT HO2 e5
      go_wp2_with fail
      go_still_tail 10, (by kernel_rfl)
      change wpList _ _ _ _ _ w3.drew
      go_wp2_with fail
      refine KD.out.mono ?_
      rintro e w4 ⟨rfl, hz4, ho4⟩
      have HZ4 := Lib.hid hz4
      have HO4 := Lib.hid (HO3.out.trans (Only.of_drewN ho4))
      clear hz4 ho4 KD
      go_wp2_with fail
      go_ret
      exact ⟨8 + x, ⟨rfl, HZ4.out, HO4.out⟩, by have := HX.out; omega, fun hn => by have := HX.out.1; rw [alive_is hn] at this; dsimp only; omega⟩
    · have KT := Lib.hid (fun (w1 : World) (h1 : Lw K w1 Gw z B2.2 left) => (h1.drewN 1).tree (a := A + 258) (n := 8) (b := K.g) (o := o + 258) (len := 256) (cap := 256) (v - 16) (fun m hm => Kon.ad_rest (by omega) (by have : m < 256 := hm; omega) (by omega)) (by show A + 258 + 256 ≤ _; omega) (by decide) (by decide))
      have hlt := (treeP_ok decM_ok (k := 0) (a := A + 258) (n := 8) (v := v - 16) (okD_any hb2.2) (by show A + 258 + 256 ≤ _; omega) (fun h => by cases h)).1
      have hres2 : lenB decM B2 A s v = (16 + (treeP decM B2.2 (A + 258) 8 (v - 16)).1, (treeP decM B2.2 (A + 258) 8 (v - 16)).2) := by unfold lenB; rw [if_neg hv]
      rw [hres2]
      obtain ⟨T, hT⟩ : ∃ T, T = treeP decM B2.2 (A + 258) 8 (v - 16) := ⟨_, rfl⟩
      rw [← hT] at KT hlt ⊢
      have hv2 : ((B2.1 : Int) == 0) = false := by simp; omega
      have hlt : T.1 < 256 := hlt
      obtain ⟨x, hx⟩ : ∃ x, x = Alive T.2 0 T.1 := ⟨_, rfl⟩
      have hx8 : x < 256 := by rw [hx]; exact alive_le hlt
      have e7 : IntKind.i64.wrap (16 + (x : Int)) = ((16 + x : Nat) : Int) := by rw [show 16 + (x : Int) = ((16 + x : Nat) : Int) by omega]; exact IntWalk.i64_in _ (by omega)
      unfold TreePost at KT
      rw [← hx] at KT
      have HX := Lib.hid (And.intro hx hx8)
      clear h hs hB hB2 hT hu hv hres hres2 hdef hb1 hb2 hA hA2 hoA hs15 hp ho hlt hx hx8
      go_enter Tryz.func96, Tryz.ntmps96
      go_wp2_with fail
      refine KP.out.mono ?_
      rintro e w1 ⟨rfl, hz1, ho1⟩
      have HO1 := Lib.hid ho1
      have c5 := hz1.f.c5
      have KB := Lib.hid (KB.out w1 hz1)
      clear KP hz1 ho1
      go_wp2_with fail
      go_still_tail 7, (by kernel_rfl)
      change wpList _ _ _ _ _ w1.drew
      go_wp2_with fail
      refine KB.out.mono ?_
      rintro e w2 ⟨rfl, hz2, ho2⟩
      have HO2 := Lib.hid (HO1.out.trans (Only.of_drewN ho2))
      have e5 := hz2.f.c5
      have KC := Lib.hid (KB2.out w2 hz2)
      clear hz2 ho2 KB KB2 c5
      go_wp2_with fail
      go_still_tail 7, (by kernel_rfl)
      change wpList _ _ _ _ _ w2.drew
      go_wp2_with fail
      refine KC.out.mono ?_
      rintro e w3 ⟨rfl, hz3, ho3⟩
      have HO3 := Lib.hid (HO2.out.trans (Only.of_drewN ho3))
      have f5 := hz3.f.c5
      have KD := Lib.hid (KT.out w3 hz3)
      clear hz3 ho3 KC KT HO2 e5
      go_wp2_with fail
      go_still_tail 8, (by kernel_rfl)
      change wpList _ _ _ _ _ w3.drew
      go_wp2_with fail
      refine KD.out.mono ?_
      rintro e w4 ⟨rfl, hz4, ho4⟩
      have HZ4 := Lib.hid hz4
      have HO4 := Lib.hid (HO3.out.trans (Only.of_drewN ho4))
      clear hz4 ho4 KD
      go_wp2_with fail
      go_ret
      exact ⟨16 + x, ⟨rfl, HZ4.out, HO4.out⟩, by have := HX.out; omega, fun hn => by have := HX.out.1; rw [alive_is hn] at this; dsimp only; omega⟩
end
end Go.Proofs.YtpdpbbmkicemdaaGreat
