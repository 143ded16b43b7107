/-
  CwReset, CwNew, PcFin, CwEnd, CwPack, AwkNine, LzSet: put together.
-/
import Derived.Test.YtjgdjobhhdhfjaaRa14
import Derived.Test.YtjgdjobhhdhfjaaRa08
import Derived.Test.YtjgdjobhhdhfjaaRa15
import Derived.BigQuiet
import Derived.Laws.MakeOwn
import Derived.Test.YtjgdjobhhdhfjaaRa06
import Derived.Test.YtjgdjobhhdhfjaaRa05
import Derived.Test.YtjgdjobhhdhfjaaRa01
import Derived.Test.YtjgdjobhhdhfjaaRa03
import Derived.Deep.Cut
set_option linter.unusedVariables false
set_option linter.unusedSimpArgs false
/-
  The program's coder of LZMA: state, distances and probabilities begin anew.
-/
namespace Go.Proofs.Ytjgdjobhhdhfjaa
open Go.RowKit

/-- the coder's block alone -/
def Lr (g : Nat) (fs : List Value) (w : World) (ps : List Nat) : Prop := LcAt w g fs ps ∧ ps.length = 1847
theorem lr_prb (g : Nat) (fs : List Value) : Prb (Lr g fs) (fun i => i = g) (fun a => (g, 11 + sg a)) 1847 where
  blk _ := rfl
  cell h ha := h.1.chance ha
  free h ha := h.1.free _
  put {w ps a} h ha q := ⟨h.1.prob ha (by rw [h.2]; exact Nat.le_refl _) q, by rw [List.length_set]; exact h.2⟩
  only h hO hS := ⟨h.1.only hO (hS _ rfl), h.2⟩
  len h := h.2
  old {w ps i} h hi := by subst hi; exact h.1.lt
theorem lr_lay (g : Nat) : Lay (fun a => (g, 11 + sg a)) g 11 := fun a ha => rfl
theorem all_fresh' {ps : List Nat} {L : Nat} (hl : ps.length = L) (h : ∀ i, i < L → ps.getD i 0 = 1024) : ps = List.replicate L 1024 := by
  refine List.ext_getElem (by simp [hl]) (fun i h1 h2 => ?_)
  have := h i (by omega)
  simp only [List.getD, List.getElem?_eq_getElem h1, Option.getD_some] at this
  rw [this, List.getElem_replicate]
theorem Lr.put {g : Nat} {fs : List Value} {w : World} {ps : List Nat} (h : Lr g fs w ps) (k : Nat) (hk : k < 13) (v : Value) : Lr g (fs.set k v) (w.setCell ⟨g, cfat k, none⟩ v) ps := ⟨h.1.put k hk v, h.2⟩

section
variable {w w' : World} {g eg : Nat}

set_option maxRecDepth 100000 in
set_option maxHeartbeats 8000000 in
/-- Reset of a coder that was just built. -/
theorem creset_any {lc lp pb dict : Nat} {a b c : Int} {ps : List Nat} (hset : SetOk lc lp pb dict) (h6 : lc + lp ≤ 6) (h : Lr g (coFs a b c (dict : Int) eg (.slice none 0 0)) w ps) :
    Calls Try.prog 58 #[.pointer (some ⟨g, 0, none⟩), .agg #[.int .i64 (lc : Int), .int .i64 (lp : Int), .int .i64 (pb : Int), .int .i64 (dict : Int)]] w fun e w' =>
      e = .returned (.tuple #[]) ∧ ∃ lb, Lr g (coFs (lc : Int) (lp : Int) (pb : Int) (dict : Int) eg (.slice (some ⟨lb, 0, none⟩) (768 * 2 ^ (lc + lp)) (768 * 2 ^ (lc + lp)))) w' (List.replicate 1847 1024) ∧ Row w' lb (List.replicate (768 * 2 ^ (lc + lp)) 1024) (768 * 2 ^ (lc + lp)) ∧ w.heap.size ≤ lb ∧ Only (fun i => i = g) w w' := by
  obtain ⟨w1, hw1⟩ : ∃ w1, w1 = w.alloc (.cells #[.int .i64 (lc : Int), .int .i64 (lp : Int), .int .i64 (pb : Int), .int .i64 (dict : Int)] 24) := ⟨_, rfl⟩
  have hO1 : Only (fun _ => False) w w1 := by rw [hw1]; exact (Only.refl _ w).alloc _
  have HBk : Blk w1 w.heap.size 24 #[.int .i64 (lc : Int), .int .i64 (lp : Int), .int .i64 (pb : Int), .int .i64 (dict : Int)] := by rw [hw1]; exact Blk.fresh w _ _
  have hgs : g < w.heap.size := h.1.lt
  have KM := pmay_any (lc : Int) (lp : Int) (pb : Int) (dict : Int) w1
  rw [setOk_may hset] at KM
  have KM := Lib.hid KM
  have KL := fun w => plits_any (lc := lc) (lp := lp) (pb : Int) (dict : Int) (by omega) w
  obtain ⟨nl, hnl⟩ : ∃ nl, nl = 768 * 2 ^ (lc + lp) := ⟨_, rfl⟩
  have hnl6 : nl ≤ 1000000 := by rw [hnl]; exact Nat.le_trans (Nat.mul_le_mul_left 768 (Nat.pow_le_pow_right (by decide) h6)) (by decide)
  rw [← hnl] at KL ⊢
  have KL := Lib.hid KL
  have KF := Lib.hid (fun w => fresh_any (n := nl) hnl6 w)
  have HR1 := Lib.hid ((lr_prb g _).only h hO1 (fun _ _ h => h))
  have HW1 := Lib.hid hw1
  have HO1 := Lib.hid hO1
  have HBK := Lib.hid HBk
  have HG := Lib.hid hgs
  have o0 : w1.cell? ⟨w.heap.size, 0, none⟩ = some (.int .i64 (lc : Int)) := HBk.cell 0
  have o1 : w1.cell? ⟨w.heap.size, 1, none⟩ = some (.int .i64 (lp : Int)) := HBk.cell 1
  have o2 : w1.cell? ⟨w.heap.size, 2, none⟩ = some (.int .i64 (pb : Int)) := HBk.cell 2
  have o3 : w1.cell? ⟨w.heap.size, 3, none⟩ = some (.int .i64 (dict : Int)) := HBk.cell 3
  clear hw1 hO1 HBk h hset h6 hnl hnl6
  go_enter Try.func58, Try.ntmps58
  go_upto_region 1 with fail
  rw [← HW1.out]
  clear HW1
  go_wp2_with fail
  refine KM.out.mono ?_
  rintro e w2 ⟨rfl, hb2⟩
  have ho2 : Only (fun _ => False) w1 w2 := Only.of_below hb2
  have HO2 := Lib.hid (HO1.out.trans ho2)
  have HBK2 := Lib.hid (HBK.out.only ho2 (fun h => h))
  have hr2 := (lr_prb g _).only HR1.out ho2 (fun _ _ h => h)
  have o0 : w2.cell? ⟨w.heap.size, 0, none⟩ = some (.int .i64 (lc : Int)) := HBK2.out.cell 0
  have o1 : w2.cell? ⟨w.heap.size, 1, none⟩ = some (.int .i64 (lp : Int)) := HBK2.out.cell 1
  have o2 : w2.cell? ⟨w.heap.size, 2, none⟩ = some (.int .i64 (pb : Int)) := HBK2.out.cell 2
  have a0 : w2.cell? ⟨g, 0, none⟩ = some (.int .i64 a) := hr2.1.cell 0 (by decide)
  have a1 : w2.cell? ⟨g, 1, none⟩ = some (.int .i64 b) := hr2.1.cell 1 (by decide)
  have a2 : w2.cell? ⟨g, 2, none⟩ = some (.int .i64 c) := hr2.1.cell 2 (by decide)
  have b0 := hr2.1.free 0
  have b1 := hr2.1.free 1
  have b2 := hr2.1.free 2
  have hne : w.heap.size ≠ g := by have := HG.out; omega
  have HR2 := Lib.hid hr2
  have p1 := ((hr2.put 0 (by decide) (.int .i64 (lc : Int))).put 1 (by decide) (.int .i64 (lp : Int))).put 2 (by decide) (.int .i64 (pb : Int))
  have HZ3 : Hid (Lr g (coFs (lc : Int) (lp : Int) (pb : Int) (dict : Int) eg (.slice none 0 0)) (((w2.setCell ⟨g, 0, none⟩ (.int .i64 (lc : Int))).setCell ⟨g, 1, none⟩ (.int .i64 (lp : Int))).setCell ⟨g, 2, none⟩ (.int .i64 (pb : Int))) ps) := Lib.hid p1
  have hq3 : Only (fun i => i = g) w2 (((w2.setCell ⟨g, 0, none⟩ (.int .i64 (lc : Int))).setCell ⟨g, 1, none⟩ (.int .i64 (lp : Int))).setCell ⟨g, 2, none⟩ (.int .i64 (pb : Int))) :=
    (((Only.refl (fun i => i = g) w2).setCell (p := ⟨g, 0, none⟩) (.inl rfl) _).setCell (p := ⟨g, 1, none⟩) (.inl rfl) _).setCell (p := ⟨g, 2, none⟩) (.inl rfl) _
  have HO3 := Lib.hid (show Only (fun i => i = g) w _ from (HO2.out.mono fun _ h => h.elim).trans hq3)
  have HBK3 := Lib.hid (HBK2.out.only hq3 hne)
  clear hb2 ho2 hr2 p1 hq3 KM HBK HBK2 HR1 HO1 HO2
  go_wp2_with fail
  go_region
  have HZ3 := Lib.hid ((lr_prb g _).only HZ3.out ((Only.refl (fun _ => False) _).drewN 1) (fun _ _ h => h))
  have HO3 := Lib.hid (HO3.out.drewN 1)
  have HBK3 := Lib.hid (HBK3.out.drewN 1)
  change Exit.then _ _ _ _ ((((w2.setCell ⟨g, 0, none⟩ (.int .i64 (lc : Int))).setCell ⟨g, 1, none⟩ (.int .i64 (lp : Int))).setCell ⟨g, 2, none⟩ (.int .i64 (pb : Int))).drewN 1)
  generalize ((((w2.setCell ⟨g, 0, none⟩ (.int .i64 (lc : Int))).setCell ⟨g, 1, none⟩ (.int .i64 (lp : Int))).setCell ⟨g, 2, none⟩ (.int .i64 (pb : Int))).drewN 1) = w3 at *
  clear o0 o1 o2 a0 a1 a2 b0 b1 b2 HR2
  have a6 := HZ3.out.1.cell 6 (by decide)
  have a7 := HZ3.out.1.cell 7 (by decide)
  have a8 := HZ3.out.1.cell 8 (by decide)
  have a9 := HZ3.out.1.cell 9 (by decide)
  have a10 := HZ3.out.1.cell 10 (by decide)
  change w3.cell? ⟨g, 6, none⟩ = some (.int .i64 0) at a6
  change w3.cell? ⟨g, 7, none⟩ = some (.int .u32 0) at a7
  change w3.cell? ⟨g, 8, none⟩ = some (.int .u32 0) at a8
  change w3.cell? ⟨g, 9, none⟩ = some (.int .u32 0) at a9
  change w3.cell? ⟨g, 10, none⟩ = some (.int .u32 0) at a10
  have b6 := HZ3.out.1.free 6
  have b7 := HZ3.out.1.free 7
  have b8 := HZ3.out.1.free 8
  have b9 := HZ3.out.1.free 9
  have b10 := HZ3.out.1.free 10
  have p4 := ((((HZ3.out.put 6 (by decide) (.int .i64 0)).put 7 (by decide) (.int .u32 0)).put 8 (by decide) (.int .u32 0)).put 9 (by decide) (.int .u32 0)).put 10 (by decide) (.int .u32 0)
  have HZ4 : Hid (Lr g (coFs (lc : Int) (lp : Int) (pb : Int) (dict : Int) eg (.slice none 0 0)) (((((w3.setCell ⟨g, 6, none⟩ (.int .i64 0)).setCell ⟨g, 7, none⟩ (.int .u32 0)).setCell ⟨g, 8, none⟩ (.int .u32 0)).setCell ⟨g, 9, none⟩ (.int .u32 0)).setCell ⟨g, 10, none⟩ (.int .u32 0)) ps) := Lib.hid p4
  have hq4 : Only (fun i => i = g) w3 (((((w3.setCell ⟨g, 6, none⟩ (.int .i64 0)).setCell ⟨g, 7, none⟩ (.int .u32 0)).setCell ⟨g, 8, none⟩ (.int .u32 0)).setCell ⟨g, 9, none⟩ (.int .u32 0)).setCell ⟨g, 10, none⟩ (.int .u32 0)) :=
    (((((Only.refl (fun i => i = g) w3).setCell (p := ⟨g, 6, none⟩) (.inl rfl) _).setCell (p := ⟨g, 7, none⟩) (.inl rfl) _).setCell (p := ⟨g, 8, none⟩) (.inl rfl) _).setCell (p := ⟨g, 9, none⟩) (.inl rfl) _).setCell (p := ⟨g, 10, none⟩) (.inl rfl) _
  have HO4 := Lib.hid (HO3.out.trans hq4)
  have HBK4 := Lib.hid (HBK3.out.only hq4 hne)
  clear p4 hq4 HZ3 HO3 HBK3
  go_upto_region 4 with fail
  generalize (((((w3.setCell ⟨g, 6, none⟩ (.int .i64 0)).setCell ⟨g, 7, none⟩ (.int .u32 0)).setCell ⟨g, 8, none⟩ (.int .u32 0)).setCell ⟨g, 9, none⟩ (.int .u32 0)).setCell ⟨g, 10, none⟩ (.int .u32 0)) = w4 at *
  clear a6 a7 a8 a9 a10 b6 b7 b8 b9 b10
  have KC := Lib.hid (chances_renew (D := fun _ => False) (lr_prb g _) (lr_lay g) (Nat.le_refl _) ⟨ps, HZ4.out, fun _ h => h.elim, Only.refl _ w4⟩)
  go_wp2_with fail
  refine KC.out.mono ?_
  rintro e w5 ⟨rfl, ps5, hr5, hf5, ho5⟩
  have he := all_fresh' hr5.2 (fun i hi => hf5 i (.inr hi))
  subst he
  have HBK5 := Lib.hid (HBK4.out.only ho5 hne)
  have HZ5 := Lib.hid hr5
  have HO5 := Lib.hid (HO4.out.trans ho5)
  have o0 : w5.cell? ⟨w.heap.size, 0, none⟩ = some (.int .i64 (lc : Int)) := HBK5.out.cell 0
  have o1 : w5.cell? ⟨w.heap.size, 1, none⟩ = some (.int .i64 (lp : Int)) := HBK5.out.cell 1
  have o2 : w5.cell? ⟨w.heap.size, 2, none⟩ = some (.int .i64 (pb : Int)) := HBK5.out.cell 2
  have o3 : w5.cell? ⟨w.heap.size, 3, none⟩ = some (.int .i64 (dict : Int)) := HBK5.out.cell 3
  clear hr5 hf5 ho5 KC HBK4 HZ4 HO4
  go_wp2_with fail
  refine (KL.out _).mono ?_
  rintro e w6 ⟨rfl, hb6⟩
  have ho6 : Only (fun _ => False) w5 w6 := Only.of_below hb6
  have HZ6 := Lib.hid ((lr_prb g _).only HZ5.out ho6 (fun _ _ h => h))
  have HO6 := Lib.hid (HO5.out.trans (ho6.mono fun _ h => h.elim))
  clear hb6 ho6 o0 o1 o2 o3 HBK5 HZ5 HO5 KL
  go_wp2_with fail
  refine (KF.out _).mono ?_
  rintro e w7 ⟨rfl, hrow, hb7⟩
  have ho7 : Only (fun _ => False) w6 w7 := Only.of_below hb7
  have hz7 := (lr_prb g _).only HZ6.out ho7 (fun _ _ h => h)
  have HO7 := Lib.hid ((HO6.out.trans (ho7.mono fun _ h => h.elim)).setCell (p := ⟨g, 1858, none⟩) (.inl rfl) (.slice (some ⟨w6.heap.size, 0, none⟩) nl nl))
  have HLB := Lib.hid (show w.heap.size ≤ w6.heap.size from HO6.out.size)
  have hgl := HZ6.out.1.lt
  have HROW : Hid (Row (w7.setCell ⟨g, 1858, none⟩ (.slice (some ⟨w6.heap.size, 0, none⟩) nl nl)) w6.heap.size (List.replicate nl 1024) nl) := Lib.hid (hrow.only ((Only.refl (fun j => j = g) w7).setCell (p := ⟨g, 1858, none⟩) (.inl rfl) _) (by omega))
  have HZ8 : Hid (Lr g (coFs (lc : Int) (lp : Int) (pb : Int) (dict : Int) eg (.slice (some ⟨w6.heap.size, 0, none⟩) nl nl)) (w7.setCell ⟨g, 1858, none⟩ (.slice (some ⟨w6.heap.size, 0, none⟩) nl nl)) (List.replicate 1847 1024)) := Lib.hid (hz7.put 11 (by decide) (.slice (some ⟨w6.heap.size, 0, none⟩) nl nl))
  have aL : w7.cell? ⟨g, 1858, none⟩ = some (.slice none 0 0) := hz7.1.cell 11 (by decide)
  have bL := hz7.1.free 1858
  clear hrow hb7 ho7 hz7 KF HZ6 HO6 hgl
  generalize w6.heap.size = lb at *
  go_wp2_with fail
  first | go_end0 | refine bodyPost_ret (results_none rfl _ _ _) rfl ?_
  exact ⟨rfl, lb, HZ8.out, HROW.out, HLB.out, HO7.out⟩
end
end Go.Proofs.Ytjgdjobhhdhfjaa

/-
  The program's coder of LZMA: a new one.
-/
namespace Go.Proofs.Ytjgdjobhhdhfjaa
open Go.RowKit

/-- A coder that begins. -/
def CNewPost (w : World) (lc lp pb dict k : Nat) (e : Ending) (w' : World) : Prop :=
  ∃ K : Koc, e = .returned (.tuple #[.pointer (some ⟨K.g, 0, none⟩), .int .i64 0]) ∧ K.nl = 768 * 2 ^ (lc + lp) ∧
    Cw K w' none none 0 (Lzs.start lc lp pb dict) k ⟨List.replicate (1847 + K.nl) 1024, En.new⟩ ∧ (w.heap.size ≤ K.g ∧ w.heap.size ≤ K.lb ∧ w.heap.size ≤ K.eg) ∧ Only (fun _ => False) w w'

theorem enNew_ok (k : Nat) (hk : k ≤ 1000000) : okE k En.new := ⟨enOk_new, by show 5 + 32 * k ≤ _; omega⟩
theorem new_pm {L k : Nat} (hk : k ≤ 1000000) : PmOk okE L k (⟨List.replicate L 1024, En.new⟩ : Pm En) :=
  ⟨fun p hp => by rw [List.eq_of_mem_replicate hp]; exact ⟨by decide, by decide⟩, by simp, enNew_ok k hk⟩

set_option maxRecDepth 100000 in
set_option maxHeartbeats 16000000 in
theorem cnew7_any {lc lp pb dict k : Nat} (h : SetOk lc lp pb dict) (h6 : lc + lp ≤ 6) (hk : k ≤ 1000000) (w : World) :
    Calls Try.prog 30 #[.agg #[.int .i64 (lc : Int), .int .i64 (lp : Int), .int .i64 (pb : Int), .int .i64 (dict : Int)]] w (CNewPost w lc lp pb dict k) := by
  obtain ⟨w1, hw1⟩ : ∃ w1, w1 = w.alloc (.cells #[.int .i64 (lc : Int), .int .i64 (lp : Int), .int .i64 (pb : Int), .int .i64 (dict : Int)] 24) := ⟨_, rfl⟩
  have HBk : Blk w1 w.heap.size 24 #[.int .i64 (lc : Int), .int .i64 (lp : Int), .int .i64 (pb : Int), .int .i64 (dict : Int)] := by rw [hw1]; exact Blk.fresh w _ _
  have HO1 := Lib.hid (show Only (fun _ => False) w w1 by rw [hw1]; exact (Only.refl _ w).alloc _)
  have KM := pmay_any (lc : Int) (lp : Int) (pb : Int) (dict : Int) w1
  rw [setOk_may h] at KM
  have KM := Lib.hid KM
  have HH := Lib.hid (And.intro h (And.intro h6 hk))
  have HW1 := Lib.hid hw1
  have HBK := Lib.hid HBk
  have KE := Lib.hid (fun w => cnew_any w)
  have o0 : w1.cell? ⟨w.heap.size, 0, none⟩ = some (.int .i64 (lc : Int)) := HBk.cell 0
  have o1 : w1.cell? ⟨w.heap.size, 1, none⟩ = some (.int .i64 (lp : Int)) := HBk.cell 1
  have o2 : w1.cell? ⟨w.heap.size, 2, none⟩ = some (.int .i64 (pb : Int)) := HBk.cell 2
  have o3 : w1.cell? ⟨w.heap.size, 3, none⟩ = some (.int .i64 (dict : Int)) := HBk.cell 3
  clear hw1 HBk h h6 hk
  go_enter Try.func30, Try.ntmps30
  go_upto_region 1 with fail
  rw [← HW1.out]
  clear HW1
  go_wp2_with fail
  refine KM.out.mono ?_
  rintro e w2 ⟨rfl, hb2⟩
  have ho2 : Only (fun _ => False) w1 w2 := Only.of_below hb2
  have HO2 := Lib.hid (HO1.out.trans ho2)
  have HBK2 := Lib.hid (HBK.out.only ho2 (fun h => h))
  clear hb2 ho2 KM o0 o1 o2 o3 HBK HO1
  have HS := Lib.hid (fun (W : World) (hW : Only (fun _ => False) w2 W) => (show W.cell? ⟨w.heap.size, 0, none⟩ = some (.int .i64 (lc : Int)) ∧ W.cell? ⟨w.heap.size, 1, none⟩ = some (.int .i64 (lp : Int)) ∧ W.cell? ⟨w.heap.size, 2, none⟩ = some (.int .i64 (pb : Int)) ∧ W.cell? ⟨w.heap.size, 3, none⟩ = some (.int .i64 (dict : Int)) from
    have hk := HBK2.out.only hW (fun h => h)
    ⟨hk.cell 0, hk.cell 1, hk.cell 2, hk.cell 3⟩))
  obtain ⟨o0, o1, o2, o3⟩ := HS.out w2 (Only.refl _ _)
  go_wp2_with fail
  go_region_held3 (fun W => W.cell? ⟨w.heap.size, 0, none⟩ = some (.int .i64 (lc : Int)) ∧ W.cell? ⟨w.heap.size, 1, none⟩ = some (.int .i64 (lp : Int)) ∧ W.cell? ⟨w.heap.size, 2, none⟩ = some (.int .i64 (pb : Int)) ∧ W.cell? ⟨w.heap.size, 3, none⟩ = some (.int .i64 (dict : Int)))
    (first | assumption | go_keep | exact ⟨o0, o1, o2, o3⟩ | exact HS.out _ HQ3.out)
    (first | (go_at_call 57; refine (KE.out _).mono ?_; rintro e w3 ⟨rfl, hw3⟩; have HW3 := Lib.hid hw3; have HQ3 := Lib.hid (show Only (fun _ => False) w2 w3 from by rw [hw3]; exact ((Only.refl _ w2).drew).alloc _); clear hw3))
  obtain ⟨cs, hcs⟩ : ∃ cs, cs = (((((Try.zeroCells114.setIfInBounds 0 (.int .i64 (lc : Int))).setIfInBounds 1 (.int .i64 (lp : Int))).setIfInBounds 2 (.int .i64 (pb : Int))).setIfInBounds 3 (.int .i64 (dict : Int))).setIfInBounds 4 (.pointer (some ⟨w2.heap.size, 0, none⟩))) := ⟨_, rfl⟩
  rw [← hcs]
  have hblk : Blk (w3.alloc (.cells cs 114)) w3.heap.size 114 cs := Blk.fresh w3 _ _
  rw [hcs, czero_link] at hblk
  rw [← czero_link] at hblk
  have hblk2 := hblk
  rw [czero_link] at hblk2
  have hat : LcAt (w3.alloc (.cells cs 114)) w3.heap.size (coFs (lc : Int) (lp : Int) (pb : Int) (dict : Int) w2.heap.size (.slice none 0 0)) (List.replicate 1847 0) := by
    have := made_co hblk2
    rw [← czero_link, ← hcs] at this
    exact this
  have ho4 : Only (fun _ => False) w3 (w3.alloc (.cells cs 114)) := (Only.refl _ w3).alloc _
  have hpn : Pn w3 w2.heap.size none En.new := by rw [HW3.out]; exact pn_fresh w2.drew
  have HPN := Lib.hid (hpn.only ho4 (fun h => h) (fun _ _ h => h))
  have HS4 := Lib.hid (HS.out _ (HQ3.out.trans ho4))
  have HO4 := Lib.hid ((HO2.out.trans HQ3.out).trans ho4)
  have hs23 : w2.heap.size < w3.heap.size := by rw [HW3.out]; simp
  have HSZ := Lib.hid (And.intro HO2.out.size (And.intro hs23 (show w3.heap.size < (w3.alloc (.cells cs 114)).heap.size from hat.lt)))
  have KR := Lib.hid (creset_any HH.out.1 HH.out.2.1 (⟨hat, by simp⟩ : Lr w3.heap.size _ _ (List.replicate 1847 0)))
  clear hblk hblk2 hat ho4 hpn hs23 hcs HQ3 HO2 HW3 HS HBK2
  generalize w3.alloc (.cells cs 114) = w4 at *
  obtain ⟨o0, o1, o2, o3⟩ := HS4.out
  go_wp2_with fail
  refine KR.out.mono ?_
  rintro e w5 ⟨rfl, lb, hr5, hrow5, hlb, ho5⟩
  obtain ⟨z1, z2, z3⟩ := HSZ.out
  have hst := HH.out.1
  obtain ⟨nl, hnl⟩ : ∃ nl, nl = 768 * 2 ^ (lc + lp) := ⟨_, rfl⟩
  rw [← hnl] at hr5 hrow5
  have hpn5 := HPN.out.only ho5 (fun e => by omega) (fun _ h => by cases h)
  have hrep : ∀ a, a < 1847 → (List.replicate (1847 + nl) 1024).getD a 0 = (List.replicate 1847 1024).getD a 0 := fun a ha => by
    unfold List.getD
    rw [List.getElem?_replicate, List.getElem?_replicate, if_pos ha, if_pos (by omega)]
  have hcw : Cw ⟨w3.heap.size, lb, nl, w2.heap.size⟩ w5 none none 0 (Lzs.start lc lp pb dict) k ⟨List.replicate (1847 + nl) 1024, En.new⟩ := by
    refine ⟨⟨hpn5, ⟨hr5.1.same hrep, ?_, by simp⟩, new_pm HH.out.2.2⟩, ⟨rfl, .inl ⟨rfl, rfl⟩⟩, ⟨?_, ?_, ?_, fun _ h => (by cases h), fun _ h => (by cases h)⟩⟩
    · show Row w5 lb ((List.replicate (1847 + nl) 1024).drop 1847) nl
      rw [List.drop_replicate, Nat.add_sub_cancel_left]
      exact hrow5
    · show w3.heap.size ≠ lb
      omega
    · show w3.heap.size ≠ w2.heap.size
      omega
    · show lb ≠ w2.heap.size
      omega
  have HCW := Lib.hid hcw
  have HNL := Lib.hid hnl
  have HLE := Lib.hid (show w.heap.size ≤ w3.heap.size ∧ w.heap.size ≤ lb ∧ w.heap.size ≤ w2.heap.size by omega)
  have HON := Lib.hid (show Only (fun _ => False) w w5 from HO4.out.trans' ho5 (fun i hi => .inr (by subst hi; omega)))
  clear hr5 hrow5 hlb ho5 z1 z2 z3 hst hpn5 hrep hcw hnl KR o0 o1 o2 o3 HS4 HPN HO4 HSZ
  go_wp2_with fail
  go_ret2
  exact ⟨⟨w3.heap.size, lb, nl, w2.heap.size⟩, rfl, HNL.out, HCW.out, HLE.out, HON.out⟩
end Go.Proofs.Ytjgdjobhhdhfjaa

/-
  The program's coder is finished.
-/
namespace Go.Proofs.Ytjgdjobhhdhfjaa
open Go.RowKit

/-- What a finish leaves: the coder's bytes, and a coder that begins. -/
def FinPost (w : World) (g : Nat) (G : Option Nat) (e : En) (x : Ending) (w' : World) : Prop :=
  ∃ A m bs, x = .returned (.slice A bs.length m) ∧ w'.ownsRow 0 5 1 (.slice A bs.length m) bs.length (bv bs) ∧ be bs = e.n ∧ bs.length = e.l ∧ Nwr w G (Value.slice A bs.length m).ownBlock ∧ (Value.slice A bs.length m).ownBlock ≠ some g ∧ Pn w' g none En.new ∧ Only (pset g G) w w'

set_option maxHeartbeats 4000000 in
theorem finish_any {w : World} {g : Nat} {G : Option Nat} {e : En} (h : Pn w g G e) (hlen : e.l ≤ 999999990) :
    Calls Try.prog 123 #[.pointer (some ⟨g, 0, none⟩)] w (FinPost w g G e) := by
  obtain ⟨c, hP, hc⟩ := h
  have HP := Lib.hid hP
  have HC := Lib.hid hc
  have HLEN := Lib.hid hlen
  clear hP hc hlen
  go_enter Try.func123, Try.ntmps123
  go_wp2_with fail
  go_loopw [4] (fun i wr => ∃ (k : Nat) (G' : Option Nat), k ≤ 5 ∧ i = .int .i64 (k : Int) ∧ Pw wr g G' (c.gives k) e.r ∧ Nwr w G G' ∧ Only (pset g G) w wr) (fun i _ => 5 - (intOf i).toNat)
  case atStart => exact ⟨0, G, Nat.zero_le _, rfl, HP.out, Nwr.refl _ _, Only.refl _ _⟩
  case round =>
    clear HP
    obtain ⟨k, G', hk, rfl, hP, hN, hO⟩ := hrel
    have HN := Lib.hid hN
    have HO := Lib.hid hO
    by_cases hlt : k < 5
    · have h5 := (HC.out.mono HC.out.pos (Nat.le_refl 1)).gives k
      have K := Lib.hid (give_any hP h5.wt h5.low (by have h1 := gives_len c k; have h2 := HC.out.len; have h3 := HLEN.out; omega))
      have hlt' : (k : Int) < 5 := by omega
      clear hP hN hO h5
      go_wp2_with fail
      refine K.out.mono ?_
      rintro x w3 ⟨rfl, G2, hP2, hN2, hO2⟩
      have HP2 := Lib.hid hP2
      have HN2 := Lib.hid (HN.out.trans hN2 HO.out.size)
      have HO2 := Lib.hid (pset_trans HO.out HN.out hO2)
      clear hP2 hN2 hO2 HN HO K
      go_wp2_with fail
      go_roundw
      case rel => exact ⟨k + 1, G2, by omega, by go_num, HP2.out, HN2.out, HO2.out⟩
      case measure => simp [intOf]; omega
    · obtain rfl : k = 5 := by omega
      have hirr : ¬ ((5 : Nat) : Int) < 5 := by omega
      obtain ⟨A, m, hB, hOw, hG, hne⟩ := hP
      have c0 : wr.cell? ⟨g, 0, none⟩ = some (.int .u64 ((c.gives 5).lo : Int)) := hB.cell 0
      have c1 : wr.cell? ⟨g, 1, none⟩ = some (.int .u32 (e.r : Int)) := hB.cell 1
      have c2 : wr.cell? ⟨g, 2, none⟩ = some (.slice A (c.gives 5).gs.length m) := hB.cell 2
      have HB := Lib.hid hB
      have HOw := Lib.hid hOw
      have HG := Lib.hid hG
      have HNE := Lib.hid hne
      have K := Lib.hid (cnew_any wr)
      clear hB hOw hG hne hN hO hk hlt
      go_wp2_with fail
      refine K.out.mono ?_
      rintro x w3 ⟨rfl, hw3⟩
      have hO3 : Only (fun _ => False) wr w3 := by rw [hw3]; exact (Only.refl _ wr).alloc _
      have hN3 : Blk w3 wr.heap.size 148 (pcCells 0 4294967295 (.slice none 0 0) 0 0) := by rw [hw3]; exact Blk.fresh wr _ _
      have hB3 : Blk w3 g 148 _ := HB.out.only hO3 (fun h => h)
      obtain ⟨n0, n1, n2, n3, n4⟩ : w3.cell? ⟨wr.heap.size, 0, none⟩ = some (.int .u64 0) ∧ w3.cell? ⟨wr.heap.size, 1, none⟩ = some (.int .u32 4294967295) ∧ w3.cell? ⟨wr.heap.size, 2, none⟩ = some (.slice none 0 0) ∧ w3.cell? ⟨wr.heap.size, 3, none⟩ = some (.int .u8 0) ∧ w3.cell? ⟨wr.heap.size, 4, none⟩ = some (.int .i64 0) := ⟨hN3.cell 0, hN3.cell 1, hN3.cell 2, hN3.cell 3, hN3.cell 4⟩
      obtain ⟨g0, g1, g2, g3, g4⟩ : w3.cell? ⟨g, 0, none⟩ = some (.int .u64 ((c.gives 5).lo : Int)) ∧ w3.cell? ⟨g, 1, none⟩ = some (.int .u32 (e.r : Int)) ∧ w3.cell? ⟨g, 2, none⟩ = some (.slice A (c.gives 5).gs.length m) ∧ w3.cell? ⟨g, 3, none⟩ = some (.int .u8 ((c.gives 5).wt : Int)) ∧ w3.cell? ⟨g, 4, none⟩ = some (.int .i64 ((c.gives 5).fu : Int)) := ⟨hB3.cell 0, hB3.cell 1, hB3.cell 2, hB3.cell 3, hB3.cell 4⟩
      obtain ⟨z0, z1, z2, z3, z4⟩ : w3.frozen? ⟨g, 0, none⟩ = false ∧ w3.frozen? ⟨g, 1, none⟩ = false ∧ w3.frozen? ⟨g, 2, none⟩ = false ∧ w3.frozen? ⟨g, 3, none⟩ = false ∧ w3.frozen? ⟨g, 4, none⟩ = false := ⟨hB3.free 0, hB3.free 1, hB3.free 2, hB3.free 3, hB3.free 4⟩
      have HB3 := Lib.hid hB3
      have HO3 := Lib.hid hO3
      clear hO3 hN3 hB3 hw3 c0 c1 c2 K
      go_wp2_with fail
      first | go_end0 | (go_ret) | refine bodyPost_ret (results_none rfl _ _ _) rfl ?_
      obtain ⟨f1, f2⟩ := HC.out.finish
      have S5 : Only (fun i => i = g) w3 (((((w3.setCell ⟨g, 0, none⟩ (.int .u64 0)).setCell ⟨g, 1, none⟩ (.int .u32 4294967295)).setCell ⟨g, 2, none⟩ (.slice none 0 0)).setCell ⟨g, 3, none⟩ (.int .u8 0)).setCell ⟨g, 4, none⟩ (.int .i64 0)) :=
        (((((Only.refl (fun i => i = g) w3).setCell (p := ⟨g, 0, none⟩) (.inl rfl) _).setCell (p := ⟨g, 1, none⟩) (.inl rfl) _).setCell (p := ⟨g, 2, none⟩) (.inl rfl) _).setCell (p := ⟨g, 3, none⟩) (.inl rfl) _).setCell (p := ⟨g, 4, none⟩) (.inl rfl) _
      have P5 := ((((HB3.out.put 0 (.int .u64 0)).put 1 (.int .u32 4294967295)).put 2 (.slice none 0 0)).put 3 (.int .u8 0)).put 4 (.int .i64 0)
      have hgn : ∀ i, (Value.slice A (c.gives 5).gs.length m).ownBlock = some i → ¬ i = g := fun i hi e => HNE.out (HG.out.symm.trans (e ▸ hi))
      refine ⟨A, m, (c.gives 5).gs, rfl, own_only' (own_only' HOw.out HO3.out (fun _ _ h => h)) S5 hgn, f1, f2, ?_, ?_, ⟨Co.new, ⟨none, 0, P5, ⟨rfl, .inl ⟨rfl, rfl⟩⟩, rfl, by simp⟩, coN_new⟩, ?_⟩
      · rw [HG.out]; exact HN.out
      · rw [HG.out]; exact HNE.out
      · exact (HO.out.trans (HO3.out.mono (fun _ h => h.elim))).trans (S5.mono (fun i hi => .inl hi))
end Go.Proofs.Ytjgdjobhhdhfjaa

/-
  The program's coder of LZMA: its stream.
-/
namespace Go.Proofs.Ytjgdjobhhdhfjaa
open Go.RowKit

section
variable {K : Koc} {w w' : World} {Ge Ge' : Option Nat} {A' : Option Addr} {c : Nat} {z : Lzs} {k : Nat} {t : Pm En}
/-- the stream: its bytes -/
def CFin (K : Koc) (w : World) (Ge : Option Nat) (A' : Option Addr) (c : Nat) (z : Lzs) (t : Pm En) (x : Ending) (w' : World) : Prop :=
  ∃ B m bs, x = .returned (.slice B bs.length m) ∧ Sl w' B bs.length (bv bs) ∧ be bs = t.x.n ∧ bs.length = t.x.l ∧ w'.cell? ⟨K.g, 5, none⟩ = some (.slice A' z.out.length c) ∧ Sl w' A' z.out.length (bv z.out) ∧ Only (K.own Ge) w w'
set_option maxRecDepth 100000 in
set_option maxHeartbeats 4000000 in
theorem cfinish_any (h : Cw K w Ge A' c z k t) :
    Calls Try.prog 98 #[.pointer (some ⟨K.g, 0, none⟩)] w (CFin K w Ge A' c z t) := by
  have cE := h.f.ended
  have fE := h.f.fz 1859
  have HZ1 : Hid (Cw K (w.setCell ⟨K.g, 1859, none⟩ (.bool false)) Ge A' c { z with ended := false } k t) := Lib.hid (h.put 12 (by decide) (.bool false) (z' := { z with ended := false }) rfl rfl)
  have HO1 : Hid (Only (K.own Ge) w (w.setCell ⟨K.g, 1859, none⟩ (.bool false))) := Lib.hid ((Only.refl (K.own Ge) w).cwn_put 12 (.bool false))
  clear h
  go_enter Try.func98, Try.ntmps98
  go_upto_region 2 with fail
  generalize w.setCell ⟨K.g, 1859, none⟩ (.bool false) = w1 at *
  clear cE fE
  have c4 := HZ1.out.f.c4
  have KF := Lib.hid (finish_any HZ1.out.mch.pn (by have := HZ1.out.mch.ok.x.2; omega))
  go_wp2_with fail
  refine KF.out.mono ?_
  rintro e w2 ⟨B, m, bs, rfl, hown, hbe, hlen, hrest⟩
  obtain ⟨o1, o2, o3, o4, o5⟩ := HZ1.out.old
  have hta := HZ1.out.ap.ta
  have hkeep : w2.cell? ⟨K.g, 5, none⟩ = some (.slice A' z.out.length c) := by
    have hc5 := HZ1.out.f.c5
    refine (World.cell?_of_block (hrest.2.2.2.block K.g o1 ?_)).trans hc5
    rintro (e | e)
    · exact HZ1.out.ap.ge e
    · exact (HZ1.out.ap.eo _ e).1 rfl
  have htold : Sl w2 A' z.out.length (bv z.out) := by
    refine Sl.of_own (own_only' HZ1.out.told hrest.2.2.2 (fun i hi e => ?_))
    rcases e with e | e
    · exact (hta i hi).2.2.1 e
    · exact (hta i hi).2.2.2 e
  have HE := Lib.hid (show CFin K w Ge A' c z t (.returned (.slice B bs.length m)) w2 from ⟨B, m, bs, rfl, Sl.of_own hown, hbe, hlen, hkeep, htold, HO1.out.trans (hrest.2.2.2.mono fun i hi => cset_of hi)⟩)
  clear hown hbe hlen hrest o1 o2 o3 o4 o5 hta hkeep htold KF HZ1 HO1 c4
  go_wp2_with fail
  go_ret
  exact HE.out

end
end Go.Proofs.Ytjgdjobhhdhfjaa

/-
  The program's Pack: the stream of a list's packets, and what they tell.
-/
namespace Go.Proofs.Ytjgdjobhhdhfjaa
open Go.RowKit

/-- what packing answers -/
def PackedPost (w : World) (s : Lzs × Pm En) (x : Ending) (w' : World) : Prop :=
  Below w.heap.size w w' ∧ ∃ (bs : List UInt8) (A1 : Option Addr) (c1 : Nat) (A2 : Option Addr) (c2 : Nat), x = .returned (.tuple #[.slice A1 bs.length c1, .slice A2 s.1.out.length c2, .int .i64 0]) ∧ Sl w' A1 bs.length (bv bs) ∧ be bs = s.2.x.n ∧ bs.length = s.2.x.l ∧ Sl w' A2 s.1.out.length (bv s.1.out)

/-- a coder, all of whose blocks are new -/
structure Young (B : Nat) (K : Koc) (Ge Gt : Option Nat) : Prop where
  g : B ≤ K.g
  l : B ≤ K.lb
  e : B ≤ K.eg
  ge : ∀ i, Ge = some i → B ≤ i
  gt : ∀ i, Gt = some i → B ≤ i
theorem Young.all {B : Nat} {K : Koc} {Ge Gt : Option Nat} (h : Young B K Ge Gt) {i : Nat} (hi : K.all Ge Gt i) : B ≤ i := by
  rcases hi with (e | e | e | e) | e
  · exact e ▸ h.e
  · exact h.ge i e
  · exact e ▸ h.g
  · exact e ▸ h.l
  · exact h.gt i e
theorem Young.step {B : Nat} {K : Koc} {w : World} {Ge Ge' Gt Gt' : Option Nat} (h : Young B K Ge Gt) (h1 : Nwr w Ge Ge') (h2 : Nwr w Gt Gt') (hB : B ≤ w.heap.size) : Young B K Ge' Gt' :=
  ⟨h.g, h.l, h.e, fun i hi => by rcases h1 i hi with e | e; exact h.ge i e; omega, fun i hi => by rcases h2 i hi with e | e; exact h.gt i e; omega⟩

set_option maxRecDepth 100000 in
set_option maxHeartbeats 16000000 in
theorem cpack_any {w : World} {lc lp pb dict n c : Nat} {A : Option Addr} {qs : Nat → Pq} (h : SetOk lc lp pb dict) (h6 : lc + lp ≤ 6) (hP : Pkts w A n qs) (hq : ∀ i, i < n → PqLit (qs i)) (hn : n ≤ 1000) :
    Calls Try.prog 56 #[.agg #[.int .i64 (lc : Int), .int .i64 (lp : Int), .int .i64 (pb : Int), .int .i64 (dict : Int)], .slice A n c] w (PackedPost w (runG qs (freshS lc lp pb dict) n)) := by
  obtain ⟨w1, hw1⟩ : ∃ w1, w1 = w.alloc (.cells #[.int .i64 (lc : Int), .int .i64 (lp : Int), .int .i64 (pb : Int), .int .i64 (dict : Int)] 24) := ⟨_, rfl⟩
  have hO1 : Only (fun _ => False) w w1 := by rw [hw1]; exact (Only.refl _ w).alloc _
  have HBk : Blk w1 w.heap.size 24 #[.int .i64 (lc : Int), .int .i64 (lp : Int), .int .i64 (pb : Int), .int .i64 (dict : Int)] := by rw [hw1]; exact Blk.fresh w _ _
  have KN := Lib.hid (cnew7_any (k := 27 * n) h h6 (by omega) w1)
  have HOK := Lib.hid (fun j (hj : j ≤ n) => And.intro (run_ok h hq (by omega) j hj) (run_bad h hq (by omega) j hj))
  have HSUC := Lib.hid (fun j => run_succ (qs := qs) (freshS lc lp pb dict) j)
  have HP := Lib.hid hP
  have HQ := Lib.hid hq
  have HN := Lib.hid hn
  have HW1 := Lib.hid hw1
  have HO1 := Lib.hid hO1
  have hpn : probsN lc lp = 1847 + 768 * 2 ^ (lc + lp) := rfl
  obtain ⟨s0, hs0⟩ : ∃ s0, s0 = freshS lc lp pb dict := ⟨_, rfl⟩
  rw [← hs0] at HOK HSUC ⊢
  have HS0 := Lib.hid hs0
  have HPN := Lib.hid hpn
  have o0 : w1.cell? ⟨w.heap.size, 0, none⟩ = some (.int .i64 (lc : Int)) := HBk.cell 0
  have o1 : w1.cell? ⟨w.heap.size, 1, none⟩ = some (.int .i64 (lp : Int)) := HBk.cell 1
  have o2 : w1.cell? ⟨w.heap.size, 2, none⟩ = some (.int .i64 (pb : Int)) := HBk.cell 2
  have o3 : w1.cell? ⟨w.heap.size, 3, none⟩ = some (.int .i64 (dict : Int)) := HBk.cell 3
  clear hw1 hO1 HBk h h6 hP hq hn hs0 hpn
  go_enter Try.func56, Try.ntmps56
  go_upto_region 1 with fail
  rw [← HW1.out]
  clear HW1
  go_wp2_with fail
  refine KN.out.mono ?_
  rintro e w2 ⟨K, rfl, hnl, hcw, hnew, ho2⟩
  have hB2 : Below w.heap.size w w2 := (HO1.out.trans ho2).below (Nat.le_refl _) (fun _ h => h.elim)
  have hst : Cw K w2 none none 0 (runG qs s0 0).1 (27 * (n - 0)) (runG qs s0 0).2 := by
    have e : runG qs s0 0 = s0 := rfl
    rw [e, HS0.out]
    unfold freshS
    rw [HPN.out, ← hnl]
    exact hcw
  have HY := Lib.hid (show Young w.heap.size K none (tb none (runG qs s0 0).1.out.length 0) from ⟨by have := HO1.out.size; omega, by have := HO1.out.size; omega, by have := HO1.out.size; omega, fun _ h => by (cases h), fun _ h => by (cases h)⟩)
  have HST := Lib.hid hst
  have HB2 := Lib.hid hB2
  have HNL := Lib.hid (show 1847 + K.nl = probsN lc lp by rw [HPN.out, hnl])
  clear hnl hcw hnew ho2 hB2 hst KN HO1 o0 o1 o2 o3 HPN HS0
  go_wp2_with fail
  go_loopw [10, 21] (fun _ i wr => ∃ (j : Nat) (Ge : Option Nat) (A1 : Option Addr) (c1 : Nat), j ≤ n ∧ i = .int .i64 (j : Int) ∧ Cw K wr Ge A1 c1 (runG qs s0 j).1 (27 * (n - j)) (runG qs s0 j).2 ∧ Young w.heap.size K Ge (tb A1 (runG qs s0 j).1.out.length c1) ∧ Below w.heap.size w wr) (fun _ i _ => n - (intOf i).toNat)
  case atStart => exact ⟨0, none, none, 0, Nat.zero_le _, rfl, HST.out, HY.out, HB2.out⟩
  case round =>
    clear HST HY HB2
    obtain ⟨j, Ge, A1, c1, hj, rfl, hz, hy, hb⟩ := hrel
    by_cases hlt : j < n
    · have glt : (j : Int) < (n : Int) := by omega
      have j0 : (0 : Int) ≤ (j : Int) := by omega
      have ej : IntKind.i64.wrap ((j : Int) + 1) = (j : Int) + 1 := IntWalk.i64_in _ (by have := HN.out; omega)
      obtain ⟨⟨hnr, hpm⟩, hbad⟩ := HOK.out j (by omega)
      have hsuc := HSUC.out j
      obtain ⟨b, o, rfl, hbw, hcl⟩ := (HP.out.below' hb) (by omega)
      obtain ⟨l0, l1, l2, l3⟩ := hcl j hlt
      have hql := HQ.out j hlt
      generalize qs j = q at *
      have ea : (((UInt8.ofNat q.a.toNat).toNat : Nat) : Int) = q.a := by
        have := hql.a
        have e : (UInt8.ofNat q.a.toNat).toNat = q.a.toNat := by simp; omega
        rw [e]
        omega
      have ev : ((q.v.toNat : Nat) : Int) = q.v := by have := hql.v; omega
      have KC := fun W (hW : Only (fun _ => False) wr W) => ccode_any (k := 27 * (n - (j + 1))) (kd := q.k) (len := q.n) (d := q.v.toNat) (b := UInt8.ofNat q.a.toNat) (by rw [show 27 * (n - (j + 1)) + 27 = 27 * (n - j) by omega]; exact hz.quiet hW) (by rw [HNL.out]; exact hnr) (by have := HN.out; omega) hbad (by have := hql.v; omega)
      rw [ea, ev] at KC
      have hstep : stepP (runG qs s0 j) ⟨q.k, q.v.toNat, q.n, UInt8.ofNat q.a.toNat⟩ = runG qs s0 (j + 1) := by rw [hsuc]; rfl
      have hpair : ((runG qs s0 j).1, (runG qs s0 j).2) = runG qs s0 j := rfl
      rw [hpair, hstep] at KC
      have KC := Lib.hid KC
      have HY := Lib.hid hy
      have HB := Lib.hid hb
      have HSZ := Lib.hid hb.size
      have HBW := Lib.hid (show b < wr.heap.size from Nat.lt_of_lt_of_le hbw hb.size)
      clear hnr hpm hbad hsuc hcl hql ea ev hstep hpair hz hy hb hj hlt hbw
      go_wp2_with fail
      refine (KC.out _ ((Only.refl _ wr).alloc _)).mono ?_
      rintro e w3 ⟨rfl, G3, A3, c3, hz3, hn3, hnt3, ho3⟩
      have hal : Only (K.all Ge (tb A1 (runG qs s0 j).1.out.length c1)) wr w3 := ((Only.refl _ wr).alloc _).trans ho3
      have HZ3 := Lib.hid hz3
      have HY3 := Lib.hid (HY.out.step hn3 hnt3 (Nat.le_trans HSZ.out (by simp)))
      have HB3 := Lib.hid (HB.out.trans (hal.below HSZ.out (fun i hi => HY.out.all hi)))
      clear hz3 hn3 hnt3 ho3 hal HY HB KC
      go_wp2_with fail
      go_roundw
      case rel => exact ⟨j + 1, G3, A3, c3, by omega, by go_num, HZ3.out, HY3.out, HB3.out⟩
      case measure => simp [intOf]; omega
    · obtain rfl : j = n := by omega
      have c5 := hz.f.c5
      have KF := Lib.hid (fun n => cfinish_any (hz.drewN n))
      have HZ := Lib.hid hz
      have HY := Lib.hid hy
      have HB := Lib.hid hb
      clear hz hy hb hj
      go_wp2_with fail
      go_region_held3 (fun W => W.cell? ⟨K.g, 5, none⟩ = some (.slice A1 (runG qs s0 j).1.out.length c1)) (first | assumption | go_keep | exact c5 | exact f5)
        (first | (go_at_call 98; refine (KF.out _).mono ?_; rintro e w3 ⟨B, m, bs, rfl, hs1, hbe, hle, f5, hs2, ho3⟩; have HO3 := Lib.hid (Only.of_drewN ho3); have HE := Lib.hid (And.intro hs1 (And.intro hbe (And.intro hle hs2))); clear hs1 hbe hle hs2 ho3))
      go_wp2_with fail
      go_ret3
      have hbel := HB.out.trans (HO3.out.below HB.out.size (fun i hi => HY.out.all (.inl hi)))
      exact ⟨hbel, bs, B, m, A1, c1, rfl, HE.out.1, HE.out.2.1, HE.out.2.2.1, HE.out.2.2.2⟩
end Go.Proofs.Ytjgdjobhhdhfjaa

/-
  The laws' beginning of stage 9, as numbers.
-/
namespace Go.Proofs.Ytjgdjobhhdhfjaa
def awkQ (i : Nat) : Pq := if i = 0 then ⟨6, 0, 0, 0⟩ else ⟨0, 0, 0, 0⟩
set_option maxRecDepth 1000000 in
theorem awk_run : (runG awkQ (freshS 3 0 2 4096) 2).2.x.n = 0 ∧ (runG awkQ (freshS 3 0 2 4096) 2).2.x.l = 6 ∧ (runG awkQ (freshS 3 0 2 4096) 2).1.out = [0] := by decide +kernel
theorem zeros_of {bs : List UInt8} {k : Nat} (h : be bs = 0) (hl : bs.length = k) : bs = List.replicate k 0 := be_inj _ _ (by rw [hl]; simp) (by rw [h, be_zeros])
end Go.Proofs.Ytjgdjobhhdhfjaa

/-
  The reference of LZMA: settings.
-/
namespace Go.Proofs.Ytjgdjobhhdhfjaa
open Go.RowKit

set_option maxHeartbeats 4000000 in
theorem may_any (a b c d : Int) (w : World) :
    Calls Try.prog 8 #[.agg #[.int .i64 a, .int .i64 b, .int .i64 c, .int .i64 d]] w fun x w' => x = .returned (.bool (maySet a b c d)) ∧ Below w.heap.size w w' := by
  have HB := Lib.hid ((Below.refl w.heap.size w).alloc (Nat.le_refl _) (.cells #[.int .i64 a, .int .i64 b, .int .i64 c, .int .i64 d] 24))
  obtain ⟨v, hv⟩ : ∃ v, v = maySet a b c d := ⟨_, rfl⟩
  rw [← hv]
  unfold maySet at hv
  by_cases h0 : 0 ≤ a
  · have g0 : a ≥ 0 := h0
    by_cases h1 : a ≤ 8
    · have g1 : a ≤ 8 := h1
      by_cases h2 : 0 ≤ b
      · have g2 : b ≥ 0 := h2
        by_cases h3 : b ≤ 4
        · have g3 : b ≤ 4 := h3
          by_cases h4 : 0 ≤ c
          · have g4 : c ≥ 0 := h4
            by_cases h5 : c ≤ 4
            · have g5 : c ≤ 4 := h5
              by_cases h6 : 4096 ≤ d
              · have g6 : d ≥ 4096 := h6
                by_cases h7 : d ≤ 4294967295
                · have g7 : d ≤ 4294967295 := h7
                  obtain rfl : v = true := by rw [hv]; simp; omega
                  clear hv
                  go_enter Try.func8, Try.ntmps8
                  go_wp2_with fail
                  go_ret
                  exact ⟨rfl, HB.out⟩
                · have g7 : ¬ d ≤ 4294967295 := h7
                  obtain rfl : v = false := by rw [hv]; simp; omega
                  clear hv
                  go_enter Try.func8, Try.ntmps8
                  go_upto_region 1 with fail
                  go_step
                  iterate 39 (with_reducible refine wpList_step (fun K hK => ?_); go_simp; (first | (with_reducible refine hK _ _ ?_) | (refine Eq.mpr (if_neg ?_) ?_; (· decide); with_reducible refine hK _ _ ?_)); clear hK K)
                  go_wp2_with fail
                  go_ret
                  exact ⟨rfl, HB.out⟩
              · have g6 : ¬ d ≥ 4096 := h6
                obtain rfl : v = false := by rw [hv]; simp; omega
                clear hv
                go_enter Try.func8, Try.ntmps8
                go_upto_region 1 with fail
                go_step
                iterate 39 (with_reducible refine wpList_step (fun K hK => ?_); go_simp; (first | (with_reducible refine hK _ _ ?_) | (refine Eq.mpr (if_neg ?_) ?_; (· decide); with_reducible refine hK _ _ ?_)); clear hK K)
                go_wp2_with fail
                go_ret
                exact ⟨rfl, HB.out⟩
            · have g5 : ¬ c ≤ 4 := h5
              obtain rfl : v = false := by rw [hv]; simp; omega
              clear hv
              go_enter Try.func8, Try.ntmps8
              go_upto_region 1 with fail
              go_step
              iterate 39 (with_reducible refine wpList_step (fun K hK => ?_); go_simp; (first | (with_reducible refine hK _ _ ?_) | (refine Eq.mpr (if_neg ?_) ?_; (· decide); with_reducible refine hK _ _ ?_)); clear hK K)
              go_wp2_with fail
              go_ret
              exact ⟨rfl, HB.out⟩
          · have g4 : ¬ c ≥ 0 := h4
            obtain rfl : v = false := by rw [hv]; simp; omega
            clear hv
            go_enter Try.func8, Try.ntmps8
            go_upto_region 1 with fail
            go_step
            iterate 39 (with_reducible refine wpList_step (fun K hK => ?_); go_simp; (first | (with_reducible refine hK _ _ ?_) | (refine Eq.mpr (if_neg ?_) ?_; (· decide); with_reducible refine hK _ _ ?_)); clear hK K)
            go_wp2_with fail
            go_ret
            exact ⟨rfl, HB.out⟩
        · have g3 : ¬ b ≤ 4 := h3
          obtain rfl : v = false := by rw [hv]; simp; omega
          clear hv
          go_enter Try.func8, Try.ntmps8
          go_upto_region 1 with fail
          go_step
          iterate 39 (with_reducible refine wpList_step (fun K hK => ?_); go_simp; (first | (with_reducible refine hK _ _ ?_) | (refine Eq.mpr (if_neg ?_) ?_; (· decide); with_reducible refine hK _ _ ?_)); clear hK K)
          go_wp2_with fail
          go_ret
          exact ⟨rfl, HB.out⟩
      · have g2 : ¬ b ≥ 0 := h2
        obtain rfl : v = false := by rw [hv]; simp; omega
        clear hv
        go_enter Try.func8, Try.ntmps8
        go_upto_region 1 with fail
        go_step
        iterate 39 (with_reducible refine wpList_step (fun K hK => ?_); go_simp; (first | (with_reducible refine hK _ _ ?_) | (refine Eq.mpr (if_neg ?_) ?_; (· decide); with_reducible refine hK _ _ ?_)); clear hK K)
        go_wp2_with fail
        go_ret
        exact ⟨rfl, HB.out⟩
    · have g1 : ¬ a ≤ 8 := h1
      obtain rfl : v = false := by rw [hv]; simp; omega
      clear hv
      go_enter Try.func8, Try.ntmps8
      go_upto_region 1 with fail
      go_step
      iterate 39 (with_reducible refine wpList_step (fun K hK => ?_); go_simp; (first | (with_reducible refine hK _ _ ?_) | (refine Eq.mpr (if_neg ?_) ?_; (· decide); with_reducible refine hK _ _ ?_)); clear hK K)
      go_wp2_with fail
      go_ret
      exact ⟨rfl, HB.out⟩
  · have g0 : ¬ a ≥ 0 := h0
    obtain rfl : v = false := by rw [hv]; simp; omega
    clear hv
    go_enter Try.func8, Try.ntmps8
    go_upto_region 1 with fail
    go_step
    iterate 39 (with_reducible refine wpList_step (fun K hK => ?_); go_simp; (first | (with_reducible refine hK _ _ ?_) | (refine Eq.mpr (if_neg ?_) ?_; (· decide); with_reducible refine hK _ _ ?_)); clear hK K)
    go_wp2_with fail
    go_ret
    exact ⟨rfl, HB.out⟩
end Go.Proofs.Ytjgdjobhhdhfjaa
