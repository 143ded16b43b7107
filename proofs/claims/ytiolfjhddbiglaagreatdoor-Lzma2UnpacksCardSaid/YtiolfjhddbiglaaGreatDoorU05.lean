/-
  PkReps, LwCome, LwMatch, LwAgain, LwCopies, LwRw, PkBes, LwBes, LwLit: put together.
-/
import Derived.Test.YtiolfjhddbiglaaGreatDoorU01
import Derived.Laws.IdiomCopy
import Derived.Test.YtiolfjhddbiglaaGreatDoorU04
import Derived.Deep.RegionLaw
import Derived.Deep.RegionHeld3
import Derived.BigQuiet
set_option linter.unusedVariables false
set_option linter.unusedSimpArgs false
/-
  The program's elder distances: rows of them, moved by one.
-/
namespace Go.Proofs.YtiolfjhddbiglaaGreatDoor
open Go.RowKit
theorem info_u32 : (Tryz.prog.info? 63).map (·.size) = some 1 := by kernel_rfl
/-- rows of the distances, which begin at the cell o, moved by one -/
theorem copy_reps {W : World} {g o n m : Nat} {k : Nat} (cs : List Value) (hk : cs.length = Nat.min m n) (hc : ∀ j v, cs[j]? = some v → W.cell? ((⟨g, o, none⟩ : Addr).add j) = some v) (hd : ∀ j, j < cs.length → (W.cell? ⟨g, o + 1 + j, none⟩).isSome = true) (hf : ∀ j, W.frozen? ⟨g, j, none⟩ = false) (h1 : ∀ v ∈ cs, v.oneCell' = true) :
    (Builtin.copy_ #[189, 189] 3 #[.slice (some ⟨g, o + 1, none⟩) n 3, .slice (some ⟨g, o, none⟩) m k]).run Tryz.prog W = .ok (goInt cs.length) (W.setCells g (o + 1) cs) :=
  run_copy_cells (P := Tryz.prog) W 189 189 3 63 g (o + 1) n 3 ⟨g, o, none⟩ m k cs Tryz.underlying189 info_u32 hk hc hd (fun _ _ => hf _) h1
end Go.Proofs.YtiolfjhddbiglaaGreatDoor

/-
  The program's decoder of LZMA: a distance comes first.
-/
namespace Go.Proofs.YtiolfjhddbiglaaGreatDoor
open Go.RowKit
section
variable {K : Kon} {w w' : World} {Gw : Nat → Prop} {z : Lzs} {t : Pm Dc} {left : Nat}

set_option maxRecDepth 100000 in
set_option maxHeartbeats 4000000 in
theorem lcome_1 (h : Lw K w Gw z t left) :
    Calls Tryz.prog 154 #[.pointer (some ⟨K.g, 11, none⟩), .int .i64 1] w (MidPost K w Gw (.tuple #[]) (z.again 1) t left) := by
  have hcp : (Builtin.copy_ #[189, 189] 3 #[.slice (some ⟨K.g, 12, none⟩) 1 3, .slice (some ⟨K.g, 11, none⟩) 1 4]).run Tryz.prog w.drew = .ok (goInt 1) ((w.drew).setCell ⟨K.g, 12, none⟩ (.int .u32 (z.r0 : Int))) := by
    refine copy_reps (W := w.drew) (g := K.g) (o := 11) (n := 1) (m := 1) (k := 4) [.int .u32 (z.r0 : Int)] rfl (fun i v hv => ?_) (fun i hi => ?_) (fun i => h.f.fz i) (by simp [Value.oneCell'])
    · match i, hv with
      | 0, hv => injection hv with hv; rw [← hv]; exact h.f.c11
    · match i, hi with
      | 0, _ => show (w.cell? ⟨K.g, 12, none⟩).isSome = true; rw [h.f.c12]; rfl
  have H0 : Lw K (w.drew) Gw (z) t left := h.drewN 1
  have H1 : Lw K ((w.drew).setCell ⟨K.g, 12, none⟩ (.int .u32 (z.r0 : Int))) Gw (({ z with r1 := z.r0 } : Lzs)) t left := H0.put 12 (by decide) _ rfl rfl
  have HF : Lw K (((w.drew).setCell ⟨K.g, 12, none⟩ (.int .u32 (z.r0 : Int))).setCell ⟨K.g, 11, none⟩ (.int .u32 (z.r1 : Int))) Gw (z.again 1) t left := H1.put 11 (by decide) _ rfl rfl
  have HO : Only K.own w (((w.drew).setCell ⟨K.g, 12, none⟩ (.int .u32 (z.r0 : Int))).setCell ⟨K.g, 11, none⟩ (.int .u32 (z.r1 : Int))) := by
    have h0 : Only K.own w w.drew := (Only.refl _ w).drew
    have h1 := Only.own_put h0 12 (.int .u32 (z.r0 : Int))
    exact Only.own_put h1 11 (.int .u32 (z.r1 : Int))
  have H := Lib.hid (And.intro HF HO)
  have c11 := h.f.c11
  have c12 := h.f.c12
  have c13 := h.f.c13
  have c14 := h.f.c14
  have z11 := h.f.fz 11
  have z12 := h.f.fz 12
  have z13 := h.f.fz 13
  have z14 := h.f.fz 14
  clear h HF HO H0 H1
  go_enter Tryz.func154, Tryz.ntmps154
  go_wp2_with fail
  go_region
  all_goals go_wp2_with fail
  first | go_end0 | refine bodyPost_ret (results_none rfl _ _ _) rfl ?_
  exact ⟨rfl, H.out.1, H.out.2⟩

set_option maxRecDepth 100000 in
set_option maxHeartbeats 4000000 in
theorem lcome_2 (h : Lw K w Gw z t left) :
    Calls Tryz.prog 154 #[.pointer (some ⟨K.g, 11, none⟩), .int .i64 2] w (MidPost K w Gw (.tuple #[]) (z.again 2) t left) := by
  have hcp : (Builtin.copy_ #[189, 189] 3 #[.slice (some ⟨K.g, 12, none⟩) 2 3, .slice (some ⟨K.g, 11, none⟩) 2 4]).run Tryz.prog w.drew = .ok (goInt 2) (((w.drew).setCell ⟨K.g, 12, none⟩ (.int .u32 (z.r0 : Int))).setCell ⟨K.g, 13, none⟩ (.int .u32 (z.r1 : Int))) := by
    refine copy_reps (W := w.drew) (g := K.g) (o := 11) (n := 2) (m := 2) (k := 4) [.int .u32 (z.r0 : Int), .int .u32 (z.r1 : Int)] rfl (fun i v hv => ?_) (fun i hi => ?_) (fun i => h.f.fz i) (by simp [Value.oneCell'])
    · match i, hv with
      | 0, hv => injection hv with hv; rw [← hv]; exact h.f.c11
      | 1, hv => injection hv with hv; rw [← hv]; exact h.f.c12
    · match i, hi with
      | 0, _ => show (w.cell? ⟨K.g, 12, none⟩).isSome = true; rw [h.f.c12]; rfl
      | 1, _ => show (w.cell? ⟨K.g, 13, none⟩).isSome = true; rw [h.f.c13]; rfl
  have H0 : Lw K (w.drew) Gw (z) t left := h.drewN 1
  have H1 : Lw K ((w.drew).setCell ⟨K.g, 12, none⟩ (.int .u32 (z.r0 : Int))) Gw (({ z with r1 := z.r0 } : Lzs)) t left := H0.put 12 (by decide) _ rfl rfl
  have H2 : Lw K (((w.drew).setCell ⟨K.g, 12, none⟩ (.int .u32 (z.r0 : Int))).setCell ⟨K.g, 13, none⟩ (.int .u32 (z.r1 : Int))) Gw (({ ({ z with r1 := z.r0 } : Lzs) with r2 := z.r1 } : Lzs)) t left := H1.put 13 (by decide) _ rfl rfl
  have HF : Lw K ((((w.drew).setCell ⟨K.g, 12, none⟩ (.int .u32 (z.r0 : Int))).setCell ⟨K.g, 13, none⟩ (.int .u32 (z.r1 : Int))).setCell ⟨K.g, 11, none⟩ (.int .u32 (z.r2 : Int))) Gw (z.again 2) t left := H2.put 11 (by decide) _ rfl rfl
  have HO : Only K.own w ((((w.drew).setCell ⟨K.g, 12, none⟩ (.int .u32 (z.r0 : Int))).setCell ⟨K.g, 13, none⟩ (.int .u32 (z.r1 : Int))).setCell ⟨K.g, 11, none⟩ (.int .u32 (z.r2 : Int))) := by
    have h0 : Only K.own w w.drew := (Only.refl _ w).drew
    have h1 := Only.own_put h0 12 (.int .u32 (z.r0 : Int))
    have h2 := Only.own_put h1 13 (.int .u32 (z.r1 : Int))
    exact Only.own_put h2 11 (.int .u32 (z.r2 : Int))
  have H := Lib.hid (And.intro HF HO)
  have c11 := h.f.c11
  have c12 := h.f.c12
  have c13 := h.f.c13
  have c14 := h.f.c14
  have z11 := h.f.fz 11
  have z12 := h.f.fz 12
  have z13 := h.f.fz 13
  have z14 := h.f.fz 14
  clear h HF HO H0 H1 H2
  go_enter Tryz.func154, Tryz.ntmps154
  go_wp2_with fail
  go_region
  all_goals go_wp2_with fail
  first | go_end0 | refine bodyPost_ret (results_none rfl _ _ _) rfl ?_
  exact ⟨rfl, H.out.1, H.out.2⟩

set_option maxRecDepth 100000 in
set_option maxHeartbeats 4000000 in
theorem lcome_3 (h : Lw K w Gw z t left) :
    Calls Tryz.prog 154 #[.pointer (some ⟨K.g, 11, none⟩), .int .i64 3] w (MidPost K w Gw (.tuple #[]) (z.again 3) t left) := by
  have hcp : (Builtin.copy_ #[189, 189] 3 #[.slice (some ⟨K.g, 12, none⟩) 3 3, .slice (some ⟨K.g, 11, none⟩) 3 4]).run Tryz.prog w.drew = .ok (goInt 3) ((((w.drew).setCell ⟨K.g, 12, none⟩ (.int .u32 (z.r0 : Int))).setCell ⟨K.g, 13, none⟩ (.int .u32 (z.r1 : Int))).setCell ⟨K.g, 14, none⟩ (.int .u32 (z.r2 : Int))) := by
    refine copy_reps (W := w.drew) (g := K.g) (o := 11) (n := 3) (m := 3) (k := 4) [.int .u32 (z.r0 : Int), .int .u32 (z.r1 : Int), .int .u32 (z.r2 : Int)] rfl (fun i v hv => ?_) (fun i hi => ?_) (fun i => h.f.fz i) (by simp [Value.oneCell'])
    · match i, hv with
      | 0, hv => injection hv with hv; rw [← hv]; exact h.f.c11
      | 1, hv => injection hv with hv; rw [← hv]; exact h.f.c12
      | 2, hv => injection hv with hv; rw [← hv]; exact h.f.c13
    · match i, hi with
      | 0, _ => show (w.cell? ⟨K.g, 12, none⟩).isSome = true; rw [h.f.c12]; rfl
      | 1, _ => show (w.cell? ⟨K.g, 13, none⟩).isSome = true; rw [h.f.c13]; rfl
      | 2, _ => show (w.cell? ⟨K.g, 14, none⟩).isSome = true; rw [h.f.c14]; rfl
  have H0 : Lw K (w.drew) Gw (z) t left := h.drewN 1
  have H1 : Lw K ((w.drew).setCell ⟨K.g, 12, none⟩ (.int .u32 (z.r0 : Int))) Gw (({ z with r1 := z.r0 } : Lzs)) t left := H0.put 12 (by decide) _ rfl rfl
  have H2 : Lw K (((w.drew).setCell ⟨K.g, 12, none⟩ (.int .u32 (z.r0 : Int))).setCell ⟨K.g, 13, none⟩ (.int .u32 (z.r1 : Int))) Gw (({ ({ z with r1 := z.r0 } : Lzs) with r2 := z.r1 } : Lzs)) t left := H1.put 13 (by decide) _ rfl rfl
  have H3 : Lw K ((((w.drew).setCell ⟨K.g, 12, none⟩ (.int .u32 (z.r0 : Int))).setCell ⟨K.g, 13, none⟩ (.int .u32 (z.r1 : Int))).setCell ⟨K.g, 14, none⟩ (.int .u32 (z.r2 : Int))) Gw (({ ({ ({ z with r1 := z.r0 } : Lzs) with r2 := z.r1 } : Lzs) with r3 := z.r2 } : Lzs)) t left := H2.put 14 (by decide) _ rfl rfl
  have HF : Lw K (((((w.drew).setCell ⟨K.g, 12, none⟩ (.int .u32 (z.r0 : Int))).setCell ⟨K.g, 13, none⟩ (.int .u32 (z.r1 : Int))).setCell ⟨K.g, 14, none⟩ (.int .u32 (z.r2 : Int))).setCell ⟨K.g, 11, none⟩ (.int .u32 (z.r3 : Int))) Gw (z.again 3) t left := H3.put 11 (by decide) _ rfl rfl
  have HO : Only K.own w (((((w.drew).setCell ⟨K.g, 12, none⟩ (.int .u32 (z.r0 : Int))).setCell ⟨K.g, 13, none⟩ (.int .u32 (z.r1 : Int))).setCell ⟨K.g, 14, none⟩ (.int .u32 (z.r2 : Int))).setCell ⟨K.g, 11, none⟩ (.int .u32 (z.r3 : Int))) := by
    have h0 : Only K.own w w.drew := (Only.refl _ w).drew
    have h1 := Only.own_put h0 12 (.int .u32 (z.r0 : Int))
    have h2 := Only.own_put h1 13 (.int .u32 (z.r1 : Int))
    have h3 := Only.own_put h2 14 (.int .u32 (z.r2 : Int))
    exact Only.own_put h3 11 (.int .u32 (z.r3 : Int))
  have H := Lib.hid (And.intro HF HO)
  have c11 := h.f.c11
  have c12 := h.f.c12
  have c13 := h.f.c13
  have c14 := h.f.c14
  have z11 := h.f.fz 11
  have z12 := h.f.fz 12
  have z13 := h.f.fz 13
  have z14 := h.f.fz 14
  clear h HF HO H0 H1 H2 H3
  go_enter Tryz.func154, Tryz.ntmps154
  go_wp2_with fail
  go_region
  all_goals go_wp2_with fail
  first | go_end0 | refine bodyPost_ret (results_none rfl _ _ _) rfl ?_
  exact ⟨rfl, H.out.1, H.out.2⟩

set_option maxRecDepth 100000 in
set_option maxHeartbeats 4000000 in
theorem lpush_any {d : Nat} (h : Lw K w Gw z t left) :
    Calls Tryz.prog 153 #[.pointer (some ⟨K.g, 11, none⟩), .int .u32 (d : Int)] w (MidPost K w Gw (.tuple #[]) (({ z with r0 := d, r1 := z.r0, r2 := z.r1, r3 := z.r2 } : Lzs)) t left) := by
  have hcp : (Builtin.copy_ #[189, 189] 3 #[.slice (some ⟨K.g, 12, none⟩) 3 3, .slice (some ⟨K.g, 11, none⟩) 4 4]).run Tryz.prog w.drew = .ok (goInt 3) ((((w.drew).setCell ⟨K.g, 12, none⟩ (.int .u32 (z.r0 : Int))).setCell ⟨K.g, 13, none⟩ (.int .u32 (z.r1 : Int))).setCell ⟨K.g, 14, none⟩ (.int .u32 (z.r2 : Int))) := by
    refine copy_reps (W := w.drew) (g := K.g) (o := 11) (n := 3) (m := 4) (k := 4) [.int .u32 (z.r0 : Int), .int .u32 (z.r1 : Int), .int .u32 (z.r2 : Int)] rfl (fun i v hv => ?_) (fun i hi => ?_) (fun i => h.f.fz i) (by simp [Value.oneCell'])
    · match i, hv with
      | 0, hv => injection hv with hv; rw [← hv]; exact h.f.c11
      | 1, hv => injection hv with hv; rw [← hv]; exact h.f.c12
      | 2, hv => injection hv with hv; rw [← hv]; exact h.f.c13
    · match i, hi with
      | 0, _ => show (w.cell? ⟨K.g, 12, none⟩).isSome = true; rw [h.f.c12]; rfl
      | 1, _ => show (w.cell? ⟨K.g, 13, none⟩).isSome = true; rw [h.f.c13]; rfl
      | 2, _ => show (w.cell? ⟨K.g, 14, none⟩).isSome = true; rw [h.f.c14]; rfl
  have H0 : Lw K (w.drew) Gw (z) t left := h.drewN 1
  have H1 : Lw K ((w.drew).setCell ⟨K.g, 12, none⟩ (.int .u32 (z.r0 : Int))) Gw (({ z with r1 := z.r0 } : Lzs)) t left := H0.put 12 (by decide) _ rfl rfl
  have H2 : Lw K (((w.drew).setCell ⟨K.g, 12, none⟩ (.int .u32 (z.r0 : Int))).setCell ⟨K.g, 13, none⟩ (.int .u32 (z.r1 : Int))) Gw (({ ({ z with r1 := z.r0 } : Lzs) with r2 := z.r1 } : Lzs)) t left := H1.put 13 (by decide) _ rfl rfl
  have H3 : Lw K ((((w.drew).setCell ⟨K.g, 12, none⟩ (.int .u32 (z.r0 : Int))).setCell ⟨K.g, 13, none⟩ (.int .u32 (z.r1 : Int))).setCell ⟨K.g, 14, none⟩ (.int .u32 (z.r2 : Int))) Gw (({ ({ ({ z with r1 := z.r0 } : Lzs) with r2 := z.r1 } : Lzs) with r3 := z.r2 } : Lzs)) t left := H2.put 14 (by decide) _ rfl rfl
  have HF : Lw K (((((w.drew).setCell ⟨K.g, 12, none⟩ (.int .u32 (z.r0 : Int))).setCell ⟨K.g, 13, none⟩ (.int .u32 (z.r1 : Int))).setCell ⟨K.g, 14, none⟩ (.int .u32 (z.r2 : Int))).setCell ⟨K.g, 11, none⟩ (.int .u32 (d : Int))) Gw (({ z with r0 := d, r1 := z.r0, r2 := z.r1, r3 := z.r2 } : Lzs)) t left := H3.put 11 (by decide) _ rfl rfl
  have HO : Only K.own w (((((w.drew).setCell ⟨K.g, 12, none⟩ (.int .u32 (z.r0 : Int))).setCell ⟨K.g, 13, none⟩ (.int .u32 (z.r1 : Int))).setCell ⟨K.g, 14, none⟩ (.int .u32 (z.r2 : Int))).setCell ⟨K.g, 11, none⟩ (.int .u32 (d : Int))) := by
    have h0 : Only K.own w w.drew := (Only.refl _ w).drew
    have h1 := Only.own_put h0 12 (.int .u32 (z.r0 : Int))
    have h2 := Only.own_put h1 13 (.int .u32 (z.r1 : Int))
    have h3 := Only.own_put h2 14 (.int .u32 (z.r2 : Int))
    exact Only.own_put h3 11 (.int .u32 (d : Int))
  have H := Lib.hid (And.intro HF HO)
  have c11 := h.f.c11
  have c12 := h.f.c12
  have c13 := h.f.c13
  have c14 := h.f.c14
  have z11 := h.f.fz 11
  have z12 := h.f.fz 12
  have z13 := h.f.fz 13
  have z14 := h.f.fz 14
  clear h HF HO H0 H1 H2 H3
  go_enter Tryz.func153, Tryz.ntmps153
  go_wp2_with fail
  go_region
  all_goals go_wp2_with fail
  first | go_end0 | refine bodyPost_ret (results_none rfl _ _ _) rfl ?_
  exact ⟨rfl, H.out.1, H.out.2⟩

theorem lcome_any {j : Nat} (h1 : 1 ≤ j) (h3 : j ≤ 3) (h : Lw K w Gw z t left) :
    Calls Tryz.prog 154 #[.pointer (some ⟨K.g, 11, none⟩), .int .i64 (j : Int)] w (MidPost K w Gw (.tuple #[]) (z.again j) t left) := by
  match j, h1, h3 with
  | 1, _, _ => exact lcome_1 h
  | 2, _, _ => exact lcome_2 h
  | 3, _, _ => exact lcome_3 h
end
end Go.Proofs.YtiolfjhddbiglaaGreatDoor

/-
  The program's decoder of LZMA: a match with a new distance.
-/
namespace Go.Proofs.YtiolfjhddbiglaaGreatDoor
open Go.RowKit

/-- a new distance comes first -/
def Lzs.fresh (z : Lzs) (d : Nat) : Lzs := { z with r0 := d, r1 := z.r0, r2 := z.r1, r3 := z.r2, st := aft 7 10 z.st, ended := decide (d = 4294967295) }
def MatchPost (K : Kon) (w : World) (Gw : Nat → Prop) (z : Lzs) (B : Nat × Pm Dc) (v : Nat) (left : Nat) (e : Ending) (w' : World) : Prop :=
  ∃ l d : Nat, MidPost K w Gw (.int .i64 ((l + 2 : Nat) : Int)) (z.fresh d) (distP decM B.2 B.1 v).2 left e w' ∧ l < 272 ∧ d < 4294967296 ∧ ((distP decM B.2 B.1 v).2.x ≠ none → l = B.1 ∧ d = (distP decM B.2 B.1 v).1)

section
variable {K : Kon} {w w' : World} {Gw : Nat → Prop} {z : Lzs} {t : Pm Dc} {left : Nat}

theorem dist_same {B : Nat × Pm Dc} {l v : Nat} (h : B.2.x ≠ none → l = B.1) : (distP decM B.2 l v).2 = (distP decM B.2 B.1 v).2 ∧ ((distP decM B.2 B.1 v).2.x ≠ none → l = B.1) := by
  by_cases hd : B.2.x = none
  · rw [distP_none hd, distP_none hd]
    exact ⟨rfl, fun h2 => absurd hd h2⟩
  · rw [h hd]
    exact ⟨rfl, fun _ => rfl⟩

set_option maxRecDepth 100000 in
set_option maxHeartbeats 4000000 in
theorem lmatch_any {s : Nat} (u : Int) (v : Nat) (h : Lw K w Gw z t left) (hp : z.pb ≤ 4) (ho : z.out.length ≤ 1000000) (hs : s = z.out.length % 2 ^ z.pb) (hv : v < 4294967296) :
    Calls Tryz.prog 142 #[.pointer (some ⟨K.g, 0, none⟩)] w (MatchPost K w Gw z (lenP decM t 819 s u) v left) := by
  have KL := Lib.hid (llen_any (A := 819) (o := 578) (v := u) h hp ho (by omega) (by omega) rfl hs)
  obtain ⟨B, hB⟩ : ∃ B, B = lenP decM t 819 s u := ⟨_, rfl⟩
  rw [← hB] at KL ⊢
  have HV := Lib.hid hv
  have HS := Lib.hid (fun (w1 : World) (h1 : Lw K w1 Gw z B.2 left) => (h1.put 10 (by decide) (.int .i64 ((aft 7 10 z.st : Nat) : Int)) (z' := { z with st := aft 7 10 z.st }) rfl rfl))
  obtain ⟨st, hst⟩ : ∃ st, st = z.st := ⟨_, rfl⟩
  have HST := Lib.hid hst
  clear h hp ho hs hB hv hst
  go_enter Tryz.func142, Tryz.ntmps142
  go_wp2_with fail
  refine KL.out.mono ?_
  rintro e w1 ⟨l, ⟨rfl, hz1, ho1⟩, hl, hlv⟩
  have HO1 := Lib.hid (ho1.own_put 10 (.int .i64 ((aft 7 10 z.st : Nat) : Int)))
  have HZ1 := Lib.hid (HS.out w1 hz1)
  have HLV := Lib.hid (And.intro hl hlv)
  have c10 := hz1.f.c10
  rw [← HST.out] at c10
  have z10 := hz1.f.fz 10
  have KC := Lib.hid (pmat_any st w1)
  have e1 : IntKind.i64.wrap ((l : Int) + 2) = ((l + 2 : Nat) : Int) := by rw [show (l : Int) + 2 = ((l + 2 : Nat) : Int) by omega]; exact IntWalk.i64_in _ (by omega)
  have HE1 := Lib.hid e1
  clear hz1 ho1 hl hlv KL HS e1
  go_wp2_with fail
  refine KC.out.mono ?_
  rintro e w2 ⟨rfl, rfl⟩
  clear KC
  go_wp2_with fail
  have ez : (Value.int .i64 ((aft 7 10 st : Nat) : Int)) = .int .i64 ((aft 7 10 z.st : Nat) : Int) := by rw [HST.out]
  rw [show w1.setCell ⟨K.g, 10, none⟩ (.int .i64 ((aft 7 10 st : Nat) : Int)) = w1.setCell ⟨K.g, fat 10, none⟩ (.int .i64 ((aft 7 10 z.st : Nat) : Int)) by rw [ez]; rfl]
  generalize w1.setCell ⟨K.g, fat 10, none⟩ (.int .i64 ((aft 7 10 z.st : Nat) : Int)) = w3 at *
  clear c10 z10 ez
  have KD := Lib.hid (fun n => ldist_any (l := l) v (HZ1.out.drewN n) (by have := HLV.out.1; omega) HV.out)
  have KP := Lib.hid (fun (w5 : World) (d : Nat) (t' : Pm Dc) (h5 : Lw K w5 Gw { z with st := aft 7 10 z.st } t' left) => lpush_any (d := d) h5)
  go_wp2_with fail
  go_region_held3 (fun _ => True) (first | trivial | assumption | go_keep)
    (first
      | (go_at_call 182; refine (KD.out _).mono ?_; rintro e w4 ⟨d, ⟨rfl, hz4, ho4⟩, hd, hdv⟩; have KQ := Lib.hid (KP.out w4 d _ hz4); have HO4 := Lib.hid (Only.of_drewN ho4); have HD := Lib.hid (And.intro hd hdv); clear hz4 ho4 hd hdv KP)
      | (go_at_call 153; refine KQ.out.mono ?_; rintro e w6 ⟨rfl, hz6, ho6⟩; have HZ6 := Lib.hid hz6; have HO6 := Lib.hid (HO1.out.trans (HO4.out.trans ho6)); clear hz6 ho6 KQ))
  have c11 := HZ6.out.f.c11
  have z64 := HZ6.out.f.fz 1864
  have c64 := HZ6.out.f.ended
  have HN := Lib.hid (HZ6.out.put 17 (by decide) (.bool (decide (d = 4294967295))) (z' := z.fresh d) rfl rfl)
  have HNO := Lib.hid (HO6.out.own_put 17 (.bool (decide (d = 4294967295))))
  clear KD HZ1 HO1
  have q1 : ((d : Int) == 4294967295) = decide (d = 4294967295) := by rw [Bool.eq_iff_iff]; simp; omega
  obtain ⟨b, hb⟩ : ∃ b, b = decide (d = 4294967295) := ⟨_, rfl⟩
  rw [← hb] at q1 HN HNO
  have HB := Lib.hid hb
  have e1 := HE1.out
  clear hb HE1
  go_wp2_with fail
  go_ret
  refine ⟨l, d, ⟨rfl, ?_, HNO.out⟩, HLV.out.1, HD.out.1, ?_⟩
  · have := HN.out
    rw [(dist_same HLV.out.2).1] at this
    exact this
  · have h2 := dist_same (v := v) HLV.out.2
    intro hx
    have hl := h2.2 hx
    refine ⟨hl, ?_⟩
    have h3 := HD.out.2 (by rw [h2.1]; exact hx)
    rw [h3, hl]
end
end Go.Proofs.YtiolfjhddbiglaaGreatDoor

/-
  The program's decoder of LZMA: a packet by an elder distance.
-/
namespace Go.Proofs.YtiolfjhddbiglaaGreatDoor
open Go.RowKit

def AgainPost (K : Kon) (w : World) (Gw : Nat → Prop) (z : Lzs) (kd : Nat × Bool × Pm Dc) (s : Nat) (u : Int) (left : Nat) (e : Ending) (w' : World) : Prop :=
  (kd.1 = 6 ∧ MidPost K w Gw (.int .i64 ((1 : Nat) : Int)) { z with st := aft 9 11 z.st } kd.2.2 left e w') ∨
  (2 ≤ kd.1 ∧ kd.1 ≤ 5 ∧ ∃ l : Nat, MidPost K w Gw (.int .i64 ((l + 2 : Nat) : Int)) { z.again (kd.1 - 2) with st := aft 8 11 z.st } (lenP decM kd.2.2 1333 s u).2 left e w' ∧ l < 272 ∧ ((lenP decM kd.2.2 1333 s u).2.x ≠ none → l = (lenP decM kd.2.2 1333 s u).1))

section
variable {K : Kon} {w w' : World} {Gw : Nat → Prop} {z : Lzs} {t : Pm Dc} {left : Nat}

theorem elder_kd {e : Ending} (hs : z.st ≤ 11) (hok : PmOk okD (1847 + K.nl) 0 t) (h : ElderPost K w Gw z t left e w') :
    ∃ j : Nat, (kd4 decM (bitP decM t (216 + z.st) 0) z.st 0).1 = j + 2 ∧ 1 ≤ j ∧ j ≤ 3 ∧ MidPost K w Gw (.int .i64 (j : Int)) z (kd4 decM (bitP decM t (216 + z.st) 0) z.st 0).2.2 left e w' := by
  rcases h with ⟨h0, hm⟩ | ⟨h0, hm⟩
  · refine ⟨1, ?_, by omega, by omega, ?_⟩
    · unfold kd4
      rw [if_pos h0]
    · unfold kd4
      rw [if_pos h0]
      exact hm
  · have hb1 := (bitP_ok decM_ok (k := 0) (a := 216 + z.st) (w := 0) (okD_any hok) (by omega) (fun h => by cases h))
    have hb2 := (bitP_ok decM_ok (k := 0) (a := 228 + z.st) (w := 0) (okD_any hb1.2) (by omega) (fun h => by cases h)).1
    refine ⟨2 + (bitP decM (bitP decM t (216 + z.st) 0).2 (228 + z.st) 0).1, ?_, by omega, by omega, ?_⟩
    · unfold kd4
      rw [if_neg h0]
      show (if (bitP decM (bitP decM t (216 + z.st) 0).2 (228 + z.st) 0).1 = 0 then 4 else 5) = _
      split <;> omega
    · unfold kd4
      rw [if_neg h0]
      exact hm

set_option maxRecDepth 100000 in
set_option maxHeartbeats 8000000 in
theorem lagain_any {s : Nat} (u : Int) (h : Lw K w Gw z t left) (hst0 : z.st ≤ 11) (hp : z.pb ≤ 4) (ho : z.out.length ≤ 1000000) (hs : s = z.out.length % 2 ^ z.pb) :
    Calls Tryz.prog 144 #[.pointer (some ⟨K.g, 0, none⟩)] w (AgainPost K w Gw z (kd3 decM (bitP decM t (204 + z.st) 0) z.st s 0) s u left) := by
  have hs15 : s ≤ 15 := by rw [hs]; exact mod_pb hp
  have hb1 := (bitP_ok decM_ok (k := 0) (a := 204 + z.st) (w := 0) (okD_any h.mch.ok) (by omega) (fun h => by cases h))
  have KB := Lib.hid ((h.drewN 1).bit (a := 204 + z.st) (b := K.g) (i := 411 + z.st) 0 (Kon.ad_rep (by omega) (by omega) (by omega)) (by omega))
  have c10 := h.f.c10
  have c5 := h.f.c5
  obtain ⟨B, hB⟩ : ∃ B, B = bitP decM t (204 + z.st) 0 := ⟨_, rfl⟩
  rw [← hB] at KB hb1 ⊢
  have HOUT := Lib.hid (And.intro hst0 (And.intro hp (And.intro ho hs)))
  have HBO := Lib.hid hb1.2
  obtain ⟨st, hst⟩ : ∃ st, st = z.st := ⟨_, rfl⟩
  rw [← hst] at c10 KB
  have i1 : (st : Int) < 12 := by omega
  have i0 : (0 : Int) ≤ (st : Int) := by omega
  have j1 : (s : Int) < 16 := by omega
  have j0 : (0 : Int) ≤ (s : Int) := by omega
  have HST := Lib.hid hst
  by_cases hu : B.1 = 0
  · have hu2 : ((B.1 : Int) == 1) = false := by rw [hu]; rfl
    have KB2 := Lib.hid (fun (w1 : World) (h1 : Lw K w1 Gw z B.2 left) => h1.bit (a := 240 + 16 * z.st + s) (b := K.g) (i := 207 + z.st * 16 + s) 0 (Kon.ad_long (by omega) (by omega) (by omega)) (by omega))
    have hb2 := (bitP_ok decM_ok (k := 0) (a := 240 + 16 * z.st + s) (w := 0) (okD_any hb1.2) (by omega) (fun h => by cases h)).1
    have hkd : kd3 decM B z.st s 0 = (if (bitP decM B.2 (240 + 16 * z.st + s) 0).1 = 0 then 6 else 2, false, (bitP decM B.2 (240 + 16 * z.st + s) 0).2) := by unfold kd3; rw [if_pos hu]; rfl
    rw [hkd]
    obtain ⟨C, hC⟩ : ∃ C, C = bitP decM B.2 (240 + 16 * z.st + s) 0 := ⟨_, rfl⟩
    rw [← hC] at KB2 hb2 ⊢
    rw [← hst] at KB2
    have KP := Lib.hid (fun (w1 : World) (h1 : Lw K w1 Gw z B.2 left) => lplace_mid h1 hp ho)
    rw [← hs] at KP
    have hB1 : B.1 = 0 := hu
    clear h hst hs hB hst0 hs15 hp ho hkd hC hb1 hu
    by_cases hc : C.1 = 0
    · have hc2 : ((C.1 : Int) == 0) = true := by simp [hc]
      rw [if_pos hc]
      clear hc
      go_enter Tryz.func144, Tryz.ntmps144
      go_wp2_with fail
      go_still_tail 12, (by kernel_rfl)
      change wpList _ _ _ _ _ w.drew
      go_wp2_with fail
      refine KB.out.mono ?_
      rintro e w2 ⟨rfl, hz2, ho2⟩
      have HO2 := Lib.hid (Only.of_drewN ho2)
      have HZ2 := Lib.hid hz2
      clear hz2 ho2 KB c5 c10
      have KP2 := Lib.hid (KP.out _ (HZ2.out.drewN 1))
      have c5 := HZ2.out.f.c5
      have c10 := HZ2.out.f.c10
      rw [← HST.out] at c10
      clear KP
      go_wp2_with fail
      go_region_held3 (fun w' => w'.cell? ⟨K.g, 5, none⟩ = some (.pointer (some ⟨K.dg, 0, none⟩)) ∧ w'.cell? ⟨K.g, 10, none⟩ = some (.int .i64 (st : Int)))
        (first | assumption | go_keep | exact ⟨c5, c10⟩ | exact ⟨f5, f10⟩ | exact ⟨e5, e10⟩)
        (first
          | (go_at_call 135; refine KP2.out.mono ?_; rintro e w3 ⟨rfl, hz3, ho3⟩; have f5 := hz3.f.c5; have f10 := hz3.f.c10; rw [← HST.out] at f10; have HO3 := Lib.hid (HO2.out.trans (Only.of_drewN ho3)); have KC2 := Lib.hid (KB2.out w3 hz3); clear hz3 ho3 KP2)
          | (go_at_call 134; refine KC2.out.mono ?_; rintro e w4 ⟨rfl, hz4, ho4⟩; have e5 := hz4.f.c5; have e10 := hz4.f.c10; rw [← HST.out] at e10; have HZ4 := Lib.hid hz4; have HO4 := Lib.hid (HO3.out.trans ho4); clear hz4 ho4 KC2))
      have z10 := HZ4.out.f.fz 10
      have c10 := HZ4.out.f.c10
      rw [← HST.out] at c10
      have KC := Lib.hid (psing_any st w4)
      have HY := Lib.hid (HZ4.out.put 10 (by decide) (.int .i64 ((aft 9 11 st : Nat) : Int)) (z' := { z with st := aft 9 11 st }) rfl rfl)
      have HYO := Lib.hid (HO4.out.own_put 10 (.int .i64 ((aft 9 11 st : Nat) : Int)))
      go_wp2_with fail
      refine KC.out.mono ?_
      rintro e v2 ⟨rfl, rfl⟩
      clear KC
      go_wp2_with fail
      go_ret
      have hy := HY.out
      have hyo := HYO.out
      rw [HST.out] at hy hyo
      have hrw : Value.int .i64 ((aft 9 11 st : Nat) : Int) = .int .i64 ((aft 9 11 z.st : Nat) : Int) := by rw [HST.out]
      rw [hrw]
      exact .inl ⟨rfl, rfl, hy, hyo⟩
    · have hc2 : ((C.1 : Int) == 0) = false := by simp; omega
      rw [if_neg hc]
      clear hc
      go_enter Tryz.func144, Tryz.ntmps144
      go_wp2_with fail
      go_still_tail 12, (by kernel_rfl)
      change wpList _ _ _ _ _ w.drew
      go_wp2_with fail
      refine KB.out.mono ?_
      rintro e w2 ⟨rfl, hz2, ho2⟩
      have HO2 := Lib.hid (Only.of_drewN ho2)
      have HZ2 := Lib.hid hz2
      clear hz2 ho2 KB c5 c10
      have KP2 := Lib.hid (KP.out _ (HZ2.out.drewN 1))
      have c5 := HZ2.out.f.c5
      have c10 := HZ2.out.f.c10
      rw [← HST.out] at c10
      clear KP
      go_wp2_with fail
      go_region_held3 (fun w' => w'.cell? ⟨K.g, 5, none⟩ = some (.pointer (some ⟨K.dg, 0, none⟩)) ∧ w'.cell? ⟨K.g, 10, none⟩ = some (.int .i64 (st : Int)))
        (first | assumption | go_keep | exact ⟨c5, c10⟩ | exact ⟨f5, f10⟩ | exact ⟨e5, e10⟩)
        (first
          | (go_at_call 135; refine KP2.out.mono ?_; rintro e w3 ⟨rfl, hz3, ho3⟩; have f5 := hz3.f.c5; have f10 := hz3.f.c10; rw [← HST.out] at f10; have HO3 := Lib.hid (HO2.out.trans (Only.of_drewN ho3)); have KC2 := Lib.hid (KB2.out w3 hz3); clear hz3 ho3 KP2)
          | (go_at_call 134; refine KC2.out.mono ?_; rintro e w4 ⟨rfl, hz4, ho4⟩; have e5 := hz4.f.c5; have e10 := hz4.f.c10; rw [← HST.out] at e10; have HZ4 := Lib.hid hz4; have HO4 := Lib.hid (HO3.out.trans ho4); clear hz4 ho4 KC2))
      have hout : (z).out = z.out := rfl
      have KL := Lib.hid (llen_any (A := 1333) (o := 1092) (s := s) (v := u) HZ4.out (by exact HOUT.out.2.1) (by exact HOUT.out.2.2.1) (by omega) (by omega) rfl (by exact HOUT.out.2.2.2))
      clear hout
      go_wp2_with fail
      refine KL.out.mono ?_
      rintro e v1 ⟨l, ⟨rfl, hy1, hq1⟩, hl, hlv⟩
      clear KL
      have HQ1 := Lib.hid (HO4.out.trans hq1)
      have HLV := Lib.hid (And.intro hl hlv)
      have d10 := hy1.f.c10
      rw [show (z).st = st from HST.out.symm] at d10
      have z10 := hy1.f.fz 10
      have KC := Lib.hid (pag_any st v1)
      have HY := Lib.hid (hy1.put 10 (by decide) (.int .i64 ((aft 8 11 st : Nat) : Int)) (z' := { z with st := aft 8 11 st }) rfl rfl)
      have HYO := Lib.hid (HQ1.out.own_put 10 (.int .i64 ((aft 8 11 st : Nat) : Int)))
      have e1 : IntKind.i64.wrap ((l : Int) + 2) = ((l + 2 : Nat) : Int) := by rw [show (l : Int) + 2 = ((l + 2 : Nat) : Int) by omega]; exact IntWalk.i64_in _ (by omega)
      have HE1 := Lib.hid e1
      clear hy1 hq1 hl hlv e1
      go_wp2_with fail
      refine KC.out.mono ?_
      rintro e v2 ⟨rfl, rfl⟩
      clear KC
      have e1 := HE1.out
      go_wp2_with fail
      go_ret
      have hy := HY.out
      have hyo := HYO.out
      rw [HST.out] at hy hyo
      have hrw : Value.int .i64 ((aft 8 11 st : Nat) : Int) = .int .i64 ((aft 8 11 z.st : Nat) : Int) := by rw [HST.out]
      rw [hrw]
      exact .inr ⟨Nat.le_refl 2, (by show 2 ≤ 5; omega), l, ⟨rfl, hy, hyo⟩, HLV.out.1, HLV.out.2⟩
  · have hu1 : B.1 = 1 := by have := hb1.1; omega
    have hu2 : ((B.1 : Int) == 1) = true := by rw [hu1]; rfl
    have hkd : kd3 decM B z.st s 0 = kd4 decM (bitP decM B.2 (216 + z.st) 0) z.st 0 := by unfold kd3; rw [if_neg hu]; rfl
    rw [hkd]
    have KE := Lib.hid (fun (w1 : World) (h1 : Lw K w1 Gw z B.2 left) => lelder_any h1 hst0)
    obtain ⟨C, hC⟩ : ∃ C, C = kd4 decM (bitP decM B.2 (216 + z.st) 0) z.st 0 := ⟨_, rfl⟩
    rw [← hC]
    have HC := Lib.hid hC
    clear h hst hs hB hst0 hs15 hp ho hkd hC hb1 hu
    go_enter Tryz.func144, Tryz.ntmps144
    go_wp2_with fail
    go_still_tail 12, (by kernel_rfl)
    change wpList _ _ _ _ _ w.drew
    go_wp2_with fail
    refine KB.out.mono ?_
    rintro e w2 ⟨rfl, hz2, ho2⟩
    have HO2 := Lib.hid (Only.of_drewN ho2)
    have HZ2 := Lib.hid hz2
    clear hz2 ho2 KB c5 c10
    have KE2 := Lib.hid (fun n => KE.out (w2.drewN n) (HZ2.out.drewN n))
    have KF := Lib.hid (fun (w3 : World) (j : Nat) (t' : Pm Dc) (hj1 : 1 ≤ j) (hj3 : j ≤ 3) (h3 : Lw K w3 Gw z t' left) => lcome_any hj1 hj3 h3)
    clear KE
    go_wp2_with fail
    go_region_held3 (fun _ => True) (first | trivial | assumption | go_keep)
      (first
        | (go_at_call 183; refine (KE2.out _).mono ?_; intro e w3 he3; obtain ⟨j, hj, hj1, hj3, rfl, hz3, ho3⟩ := elder_kd HOUT.out.1 HBO.out he3; rw [← HC.out] at hj hz3; have KG := Lib.hid (KF.out w3 j _ hj1 hj3 hz3); have HO3 := Lib.hid (HO2.out.trans (Only.of_drewN ho3)); have HJ := Lib.hid (And.intro hj (And.intro hj1 hj3)); clear he3 hz3 ho3 hj hj1 hj3 KE2)
        | (go_at_call 154; refine KG.out.mono ?_; rintro e w4 ⟨rfl, hz4, ho4⟩; have HZ4 := Lib.hid hz4; have HO4 := Lib.hid (HO3.out.trans ho4); clear hz4 ho4 KG))
    clear KF
    have hout : (z.again j).out = z.out := rfl
    have KL := Lib.hid (llen_any (A := 1333) (o := 1092) (s := s) (v := u) HZ4.out (by exact HOUT.out.2.1) (by exact HOUT.out.2.2.1) (by omega) (by omega) rfl (by exact HOUT.out.2.2.2))
    clear hout
    go_wp2_with fail
    refine KL.out.mono ?_
    rintro e v1 ⟨l, ⟨rfl, hy1, hq1⟩, hl, hlv⟩
    clear KL
    have HQ1 := Lib.hid (HO4.out.trans hq1)
    have HLV := Lib.hid (And.intro hl hlv)
    have d10 := hy1.f.c10
    rw [show (z.again j).st = st from HST.out.symm] at d10
    have z10 := hy1.f.fz 10
    have KC := Lib.hid (pag_any st v1)
    have HY := Lib.hid (hy1.put 10 (by decide) (.int .i64 ((aft 8 11 st : Nat) : Int)) (z' := { z.again j with st := aft 8 11 st }) rfl rfl)
    have HYO := Lib.hid (HQ1.out.own_put 10 (.int .i64 ((aft 8 11 st : Nat) : Int)))
    have e1 : IntKind.i64.wrap ((l : Int) + 2) = ((l + 2 : Nat) : Int) := by rw [show (l : Int) + 2 = ((l + 2 : Nat) : Int) by omega]; exact IntWalk.i64_in _ (by omega)
    have HE1 := Lib.hid e1
    clear hy1 hq1 hl hlv e1
    go_wp2_with fail
    refine KC.out.mono ?_
    rintro e v2 ⟨rfl, rfl⟩
    clear KC
    have e1 := HE1.out
    go_wp2_with fail
    go_ret
    have hy := HY.out
    have hyo := HYO.out
    rw [HST.out] at hy hyo
    have hrw : Value.int .i64 ((aft 8 11 st : Nat) : Int) = .int .i64 ((aft 8 11 z.st : Nat) : Int) := by rw [HST.out]
    rw [hrw]
    have hj := HJ.out
    have hjj : C.1 - 2 = j := by omega
    refine .inr ⟨by omega, by omega, l, ⟨rfl, ?_, hyo⟩, HLV.out.1, HLV.out.2⟩
    rw [hjj]
    exact hy
end
end Go.Proofs.YtiolfjhddbiglaaGreatDoor

/-
  The program's decoder of LZMA: a packet that is no literal, behind its first bit.
-/
namespace Go.Proofs.YtiolfjhddbiglaaGreatDoor
open Go.RowKit

/-- the window is as long as it need be -/
def Fit (K : Kon) (z : Lzs) : Prop := 1 ≤ K.sz ∧ K.sz ≤ 1048576 ∧ (z.dict = K.sz ∨ (z.out.length ≤ K.sz ∧ K.sz ≤ z.dict))
theorem fit_has {K : Kon} {z : Lzs} (h : Fit K z) (d : Nat) : (⟨K.sz, z.out, false⟩ : Ws).has (d : Int) = z.has d := by
  obtain ⟨h1, _, h2⟩ := h
  unfold Ws.has Lzs.has
  rw [Bool.eq_iff_iff]
  simp
  omega
theorem fit_at {K : Kon} {z : Lzs} (h : Fit K z) (d : Nat) : (⟨K.sz, z.out, false⟩ : Ws).at_ (d : Int) = z.back d := by
  unfold Ws.at_ Lzs.back
  rw [fit_has h, Int.toNat_natCast]
theorem fit_count {K : Kon} {z : Lzs} (_ : Fit K z) : (⟨K.sz, z.out, false⟩ : Ws).count = min K.sz z.out.length := rfl

/-- how such a packet may end: r is what the document says of it -/
def Outcome (z1 : Lzs) (t1 : Pm Dc) (left1 : Nat) (r : Nat × Lzs × Pm Dc) : Prop :=
  t1 = r.2.2 ∧ ((t1.x = none ∧ left1 = 0) ∨
    (t1.x ≠ none ∧ r.2.1.bad = true ∧ z1.bad = true ∧ z1.ended = false ∧ left1 = 0) ∨
    (t1.x ≠ none ∧ z1.bad = false ∧ z1.ended = true ∧ r = (0, z1, t1) ∧ left1 = 0) ∨
    (t1.x ≠ none ∧ z1.bad = false ∧ z1.ended = false ∧ z1.has z1.r0 = true ∧ 1 ≤ left1 ∧ left1 ≤ 273 ∧ r = ((copyG left1 0 z1).1, (copyG left1 0 z1).2, t1)))
def CopiesPost (K : Kon) (w : World) (Gw : Nat → Prop) (z : Lzs) (N : Nat) (r : Nat × Lzs × Pm Dc) (e : Ending) (w' : World) : Prop :=
  ∃ z1 t1 left1, MidPost K w Gw (.tuple #[]) z1 t1 left1 e w' ∧ z1.out = z.out ∧ z1.dict = z.dict ∧ ZNear z1 (1847 + K.nl) N ∧ Outcome z1 t1 left1 r

theorem tailP_same {σ : Type} {M : Mach σ} {many : Nat} {z : Lzs} {t : Pm σ} : (tailP M many z t).2.2 = t := by
  unfold tailP
  split <;> rfl
theorem tail_ended {n : Nat} {z : Lzs} {t : Pm Dc} (hb : z.bad = false) (hd : t.x ≠ none) (he : z.ended = true) : tailP decM n z t = (0, z, t) := by
  have hm : decM.bad t.x = false := by
    show t.x.isNone = false
    cases hx : t.x with
    | none => exact absurd hx hd
    | some _ => rfl
  unfold tailP
  rw [hb, hm, he]
  simp
  cases z
  simp at hb he
  simp [hb, he]
theorem tail_live {n : Nat} {z : Lzs} {t : Pm Dc} (hb : z.bad = false) (hd : t.x ≠ none) (he : z.ended = false) : tailP decM n z t = ((copyG n 0 z).1, (copyG n 0 z).2, t) := by
  have hm : decM.bad t.x = false := by
    show t.x.isNone = false
    cases hx : t.x with
    | none => exact absurd hx hd
    | some _ => rfl
  unfold tailP
  rw [hb, hm, he]
  simp
theorem dead_bad {t : Pm Dc} (hd : t.x = none) : decM.bad t.x = true := by rw [hd]; rfl
theorem live_bad {t : Pm Dc} (hd : t.x ≠ none) : decM.bad t.x = false := by
  show t.x.isNone = false
  cases hx : t.x with
  | none => exact absurd hx hd
  | some _ => rfl
theorem out_dead {z1 : Lzs} {t1 : Pm Dc} {r : Nat × Lzs × Pm Dc} (h : t1 = r.2.2) (hd : t1.x = none) : Outcome z1 t1 0 r := ⟨h, .inl ⟨hd, rfl⟩⟩
theorem out_ended {z1 : Lzs} {t1 : Pm Dc} {n : Nat} {r : Nat × Lzs × Pm Dc} (hr : r = tailP decM n z1 t1) (hb : z1.bad = false) (hd : t1.x ≠ none) (he : z1.ended = true) : Outcome z1 t1 0 r := by
  rw [tail_ended hb hd he] at hr
  exact ⟨by rw [hr], .inr (.inr (.inl ⟨hd, hb, he, hr, rfl⟩))⟩
theorem out_live {z1 : Lzs} {t1 : Pm Dc} {n : Nat} {r : Nat × Lzs × Pm Dc} (hr : r = tailP decM n z1 t1) (hb : z1.bad = false) (hd : t1.x ≠ none) (he : z1.ended = false) (hh : z1.has z1.r0 = true) (h1 : 1 ≤ n) (h2 : n ≤ 273) : Outcome z1 t1 n r := by
  rw [tail_live hb hd he] at hr
  exact ⟨by rw [hr], .inr (.inr (.inr ⟨hd, hb, he, hh, h1, h2, hr⟩))⟩
theorem out_none {z1 : Lzs} {t1 : Pm Dc} {n : Nat} {r : Nat × Lzs × Pm Dc} (hr : r = tailP decM n z1 t1) (hb : z1.bad = false) (hd : t1.x ≠ none) (he : z1.ended = false) (hh : z1.has z1.r0 = false) (h1 : 1 ≤ n) : Outcome { z1 with bad := true } t1 0 r := by
  rw [tail_live hb hd he] at hr
  obtain ⟨m, rfl⟩ : ∃ m, n = m + 1 := ⟨n - 1, by omega⟩
  rw [copyG_stop (by rw [hh]; simp)] at hr
  exact ⟨by rw [hr], .inr (.inl ⟨hd, by rw [hr], rfl, he, rfl⟩)⟩

section
variable {K : Kon} {w w' : World} {Gw : Nat → Prop} {z : Lzs} {t : Pm Dc} {left : Nat}

theorem Lw.has (h : Lw K w Gw z t left) (hf : Fit K z) (d : Nat) : Calls Tryz.prog 145 #[.pointer (some ⟨K.wg, 0, none⟩), .int .i64 (d : Int)] w fun x w' => x = .returned (.bool (z.has d)) ∧ w = w' := by
  have := whas_any (d := (d : Int)) h.win
  rw [fit_has hf] at this
  exact this
theorem near_bad {L N : Nat} (h : ZNear z L N) (b : Bool) : ZNear { z with bad := b } L N := ⟨h.lc, h.lp, h.pb, h.dict, h.out, h.st, h.r0, h.r1, h.r2, h.r3, h.len⟩
theorem near_fresh {L N d : Nat} (h : ZNear z L N) (hd : d < 4294967296) : ZNear (z.fresh d) L N :=
  ⟨h.lc, h.lp, h.pb, h.dict, h.out, aft_le (by decide) (by decide), hd, h.r0, h.r1, h.r2, h.len⟩
theorem near_single {L N : Nat} (h : ZNear z L N) : ZNear { z with st := aft 9 11 z.st } L N :=
  ⟨h.lc, h.lp, h.pb, h.dict, h.out, aft_le (by decide) (by decide), h.r0, h.r1, h.r2, h.r3, h.len⟩
theorem near_again {L N j : Nat} (h : ZNear z L N) : ZNear { z.again j with st := aft 8 11 z.st } L N := by
  refine ⟨h.lc, h.lp, h.pb, h.dict, h.out, aft_le (by decide) (by decide), rep_lt h j, ?_, ?_, ?_, h.len⟩
  · show (if j = 0 then z.r1 else z.r0) < _
    split
    · exact h.r1
    · exact h.r0
  · show (if j ≤ 1 then z.r2 else z.r1) < _
    split
    · exact h.r2
    · exact h.r1
  · show (if j ≤ 2 then z.r3 else z.r2) < _
    split
    · exact h.r3
    · exact h.r2

/-! what the document says of the three kinds -/
theorem pk_match {b : Nat × Pm Dc} {em : Bool} {s l d : Nat} (h0 : b.1 = 0) (hb : z.bad = false) (hv : (distP decM (lenP decM b.2 819 s (-2)).2 (lenP decM b.2 819 s (-2)).1 0).2.x ≠ none → l = (lenP decM b.2 819 s (-2)).1 ∧ d = (distP decM (lenP decM b.2 819 s (-2)).2 (lenP decM b.2 819 s (-2)).1 0).1) :
    (distP decM (lenP decM b.2 819 s (-2)).2 (lenP decM b.2 819 s (-2)).1 0).2 = (packK decM (kd2 decM b em z.st s 0) z s pk0).2.2 ∧
    ((distP decM (lenP decM b.2 819 s (-2)).2 (lenP decM b.2 819 s (-2)).1 0).2.x ≠ none → packK decM (kd2 decM b em z.st s 0) z s pk0 = tailP decM (l + 2) (z.fresh d) (distP decM (lenP decM b.2 819 s (-2)).2 (lenP decM b.2 819 s (-2)).1 0).2) := by
  have hk : kd2 decM b em z.st s 0 = (1, false, b.2) := by unfold kd2; rw [if_pos h0]
  have hp : packK decM (kd2 decM b em z.st s 0) z s pk0 = packD decM (lenP decM b.2 819 s (-2)).1 (distP decM (lenP decM b.2 819 s (-2)).2 (lenP decM b.2 819 s (-2)).1 0) { z with bad := z.bad || false, r0 := 0, r1 := z.r0, r2 := z.r1, r3 := z.r2, st := aft 7 10 z.st } := by
    rw [hk]
    rfl
  rw [hp]
  generalize lenP decM b.2 819 s (-2) = B at *
  generalize distP decM B.2 B.1 0 = D at *
  unfold packD
  refine ⟨by rw [tailP_same], fun hx => ?_⟩
  obtain ⟨rfl, rfl⟩ := hv hx
  rw [live_bad hx, hb]
  congr 1
  unfold Lzs.fresh
  rw [Bool.not_false, Bool.and_true, Bool.or_false, hb]
theorem pk_single {b : Nat × Pm Dc} {s : Nat} (h0 : b.1 ≠ 0) (hb : z.bad = false) (h6 : (kd3 decM (bitP decM b.2 (204 + z.st) 0) z.st s 0).1 = 6) :
    packK decM (kd2 decM b false z.st s 0) z s pk0 = tailP decM 1 { z with st := aft 9 11 z.st } (kd3 decM (bitP decM b.2 (204 + z.st) 0) z.st s 0).2.2 := by
  have hk : kd2 decM b false z.st s 0 = kd3 decM (bitP decM b.2 (204 + z.st) 0) z.st s 0 := by unfold kd2; rw [if_neg h0, if_neg (by simp)]; rfl
  have hn : (kd3 decM (bitP decM b.2 (204 + z.st) 0) z.st s 0).2.1 = false := by
    unfold kd3
    split
    · rfl
    · unfold kd4
      split <;> rfl
  rw [hk]
  generalize kd3 decM (bitP decM b.2 (204 + z.st) 0) z.st s 0 = kd at *
  unfold packK
  rw [if_neg (by omega), if_neg (by omega), if_pos h6, hn, hb]
  first
    | (congr 1; done)
    | (congr 1; cases z; simp at hb; simp [hb])
theorem pk_again {b : Nat × Pm Dc} {s l : Nat} (h0 : b.1 ≠ 0) (hb : z.bad = false) (h2 : 2 ≤ (kd3 decM (bitP decM b.2 (204 + z.st) 0) z.st s 0).1) (h5 : (kd3 decM (bitP decM b.2 (204 + z.st) 0) z.st s 0).1 ≤ 5)
    (hv : (lenP decM (kd3 decM (bitP decM b.2 (204 + z.st) 0) z.st s 0).2.2 1333 s (-2)).2.x ≠ none → l = (lenP decM (kd3 decM (bitP decM b.2 (204 + z.st) 0) z.st s 0).2.2 1333 s (-2)).1) :
    (lenP decM (kd3 decM (bitP decM b.2 (204 + z.st) 0) z.st s 0).2.2 1333 s (-2)).2 = (packK decM (kd2 decM b false z.st s 0) z s pk0).2.2 ∧
    ((lenP decM (kd3 decM (bitP decM b.2 (204 + z.st) 0) z.st s 0).2.2 1333 s (-2)).2.x ≠ none → packK decM (kd2 decM b false z.st s 0) z s pk0 = tailP decM (l + 2) { z.again ((kd3 decM (bitP decM b.2 (204 + z.st) 0) z.st s 0).1 - 2) with st := aft 8 11 z.st } (lenP decM (kd3 decM (bitP decM b.2 (204 + z.st) 0) z.st s 0).2.2 1333 s (-2)).2) := by
  have hk : kd2 decM b false z.st s 0 = kd3 decM (bitP decM b.2 (204 + z.st) 0) z.st s 0 := by unfold kd2; rw [if_neg h0, if_neg (by simp)]; rfl
  have hn : (kd3 decM (bitP decM b.2 (204 + z.st) 0) z.st s 0).2.1 = false := by
    unfold kd3
    split
    · rfl
    · unfold kd4
      split <;> rfl
  rw [hk]
  generalize kd3 decM (bitP decM b.2 (204 + z.st) 0) z.st s 0 = kd at *
  have hp : packK decM kd z s pk0 = tailP decM ((lenP decM kd.2.2 1333 s (-2)).1 + 2) { z.again (kd.1 - 2) with st := aft 8 11 z.st } (lenP decM kd.2.2 1333 s (-2)).2 := by
    unfold packK
    rw [if_neg (by omega), if_neg (by omega), if_neg (by omega), hn, hb]
    unfold packR
    congr 1
    cases z
    simp at hb
    subst hb
    rfl
  rw [hp]
  exact ⟨by rw [tailP_same], fun hx => by rw [hv hx]⟩
theorem pk_empty {b : Nat × Pm Dc} {s : Nat} (h0 : b.1 ≠ 0) : b.2 = (packK decM (kd2 decM b true z.st s 0) z s pk0).2.2 ∧ (packK decM (kd2 decM b true z.st s 0) z s pk0).2.1.bad = true := by
  have hk : kd2 decM b true z.st s 0 = (6, true, b.2) := by unfold kd2; rw [if_neg h0, if_pos rfl]
  rw [hk]
  unfold packK
  rw [if_neg (by show ¬ 6 = 0; omega), if_neg (by show ¬ 6 = 1; omega), if_pos rfl]
  refine ⟨by rw [tailP_same], ?_⟩
  unfold tailP
  rw [if_pos (by simp)]
  simp

set_option maxRecDepth 100000 in
set_option maxHeartbeats 16000000 in
theorem lcopies_any {s N : Nat} (h : Lw K w Gw z t 0) (hz : ZNear z (1847 + K.nl) N) (hN : N ≤ 1000000) (hf : Fit K z) (hs : s = z.out.length % 2 ^ z.pb) (hb : z.bad = false) (he : z.ended = false) :
    Calls Tryz.prog 108 #[.pointer (some ⟨K.g, 0, none⟩)] w (CopiesPost K w Gw z N (packK decM (kd2 decM (bitP decM t (192 + z.st) 0) (decide (z.out.length = 0)) z.st s 0) z s pk0)) := by
  have hst0 := hz.st
  have hpb := hz.pb
  have hout : z.out.length ≤ 1000000 := Nat.le_trans hz.out hN
  have KB := Lib.hid ((h.drewN 1).bit (a := 192 + z.st) (b := K.g) (i := 399 + z.st) 0 (Kon.ad_rep (by omega) (by omega) (by omega)) (by omega))
  have c10 := h.f.c10
  have c5 := h.f.c5
  obtain ⟨B, hB⟩ : ∃ B, B = bitP decM t (192 + z.st) 0 := ⟨_, rfl⟩
  rw [← hB] at KB ⊢
  obtain ⟨st, hst⟩ : ∃ st, st = z.st := ⟨_, rfl⟩
  have HOUT := Lib.hid (And.intro hz (And.intro hN (And.intro hf (And.intro hs (And.intro hb (And.intro he (And.intro hst0 (And.intro hpb hout))))))))
  rw [← hst] at c10 KB
  have i1 : (st : Int) < 12 := by omega
  have i0 : (0 : Int) ≤ (st : Int) := by omega
  have HST := Lib.hid hst
  by_cases hu : B.1 = 0
  · have hu2 : ((B.1 : Int) == 0) = true := by simp [hu]
    have HU := Lib.hid hu
    clear h hst hs hB hst0 hpb hout hz hf hb he hu
    go_enter Tryz.func108, Tryz.ntmps108
    go_wp2_with fail
    go_still_tail 13, (by kernel_rfl)
    change wpList _ _ _ _ _ w.drew
    go_wp2_with fail
    refine KB.out.mono ?_
    rintro e w2 ⟨rfl, hz2, ho2⟩
    have HO2 := Lib.hid (Only.of_drewN ho2)
    have HZ2 := Lib.hid hz2
    clear hz2 ho2 KB c5 c10
    have KM := Lib.hid (lmatch_any (s := s) (-2) 0 HZ2.out HOUT.out.2.2.2.2.2.2.2.1 HOUT.out.2.2.2.2.2.2.2.2 HOUT.out.2.2.2.1 (by decide))
    go_wp2_with fail
    refine KM.out.mono ?_
    rintro e w3 ⟨l, d, ⟨rfl, hz3, ho3⟩, hl, hd, hlv⟩
    have HZ3 := Lib.hid hz3
    have HO3 := Lib.hid (HO2.out.trans ho3)
    obtain ⟨n, hn⟩ : ∃ n, n = l + 2 := ⟨_, rfl⟩
    have HR := pk_match (z := z) (s := s) (em := decide (z.out.length = 0)) (l := l) (d := d) HU.out HOUT.out.2.2.2.2.1 hlv
    rw [← hn] at HR
    rw [← hn]
    have HR := Lib.hid HR
    have HLV := Lib.hid (show 1 ≤ n ∧ n ≤ 273 by omega)
    have HDD := Lib.hid hd
    clear hz3 ho3 KM hl hd hlv hn
    have x5 := HZ3.out.f.c5
    have KQ := Lib.hid HZ3.out.isBad
    by_cases hd : ((distP decM (lenP decM B.2 819 s (-2)).2 (lenP decM B.2 819 s (-2)).1 0).2).x = none
    · rw [dead_bad hd] at KQ
      have HD := Lib.hid hd
      clear hd
      go_wp2_with fail
      refine KQ.out.mono ?_
      rintro e q1 ⟨rfl, rfl⟩
      clear KQ
      go_wp2_with fail
      first | go_end0 | refine bodyPost_ret (results_none rfl _ _ _) rfl ?_
      exact ⟨_, _, 0, ⟨rfl, HZ3.out, HO3.out⟩, rfl, rfl, near_fresh HOUT.out.1 HDD.out, out_dead (HR.out.1) HD.out⟩
    · rw [live_bad hd] at KQ
      have xe := HZ3.out.f.ended
      have HD := Lib.hid hd
      clear hd
      obtain ⟨en, hen⟩ : ∃ en, en = (z.fresh d).ended := ⟨_, rfl⟩
      rw [← hen] at xe
      have HEN := Lib.hid hen
      clear hen
      cases en with
      | true =>
        go_wp2_with fail
        refine KQ.out.mono ?_
        rintro e q1 ⟨rfl, rfl⟩
        clear KQ
        go_wp2_with fail
        first | go_end0 | refine bodyPost_ret (results_none rfl _ _ _) rfl ?_
        exact ⟨_, _, 0, ⟨rfl, HZ3.out, HO3.out⟩, rfl, rfl, near_fresh HOUT.out.1 HDD.out, out_ended (HR.out.2 HD.out) (HOUT.out.2.2.2.2.1) HD.out HEN.out.symm⟩
      | false =>
        have x6 := HZ3.out.f.c6
        have x11 := HZ3.out.f.c11
        have KH := Lib.hid (fun n => (HZ3.out.drewN n).has (by exact HOUT.out.2.2.1) (z.fresh d).r0)
        obtain ⟨hh, hhe⟩ : ∃ hh, hh = (z.fresh d).has (z.fresh d).r0 := ⟨_, rfl⟩
        rw [← hhe] at KH
        have HH := Lib.hid hhe
        obtain ⟨r0, hr0⟩ : ∃ r0, r0 = (z.fresh d).r0 := ⟨_, rfl⟩
        have hr032 : r0 < 4294967296 := by rw [hr0]; exact (near_fresh HOUT.out.1 HDD.out).r0
        rw [← hr0] at x11 KH
        have y0 : IntKind.i64.wrap (r0 : Int) = (r0 : Int) := IntWalk.i64_in _ (by omega)
        clear hr0 hr032 hhe
        cases hh with
        | true =>
          have x63 := HZ3.out.f.left
          have y63 := HZ3.out.f.fz 1863
          have HF := Lib.hid (fun dn => (HZ3.out.drewN dn).put 16 (by decide) (.int .i64 ((n : Nat) : Int)) (z' := z.fresh d) (left' := n) rfl rfl)
          have HFO := Lib.hid (fun dn => (HO3.out.drewN dn).own_put 16 (.int .i64 ((n : Nat) : Int)))
          go_wp2_with fail
          refine KQ.out.mono ?_
          rintro e q1 ⟨rfl, rfl⟩
          clear KQ
          go_wp2_with fail
          go_quiet ((go_at_call 145; exact quiet_same_at (KH.out _)))
          go_wp2_with fail
          first | go_end0 | refine bodyPost_ret (results_none rfl _ _ _) rfl ?_
          exact ⟨_, _, _, ⟨rfl, HF.out _, HFO.out _⟩, rfl, rfl, near_fresh HOUT.out.1 HDD.out, out_live (HR.out.2 HD.out) (HOUT.out.2.2.2.2.1) HD.out HEN.out.symm HH.out.symm (by have := HLV.out; omega) (by have := HLV.out; omega)⟩
        | false =>
          have x65 := HZ3.out.f.bad
          have y65 := HZ3.out.f.fz 1865
          have HF := Lib.hid (fun dn => (HZ3.out.drewN dn).put 18 (by decide) (.bool true) (z' := { z.fresh d with bad := true }) (left' := 0) rfl rfl)
          have HFO := Lib.hid (fun dn => (HO3.out.drewN dn).own_put 18 (.bool true))
          go_wp2_with fail
          refine KQ.out.mono ?_
          rintro e q1 ⟨rfl, rfl⟩
          clear KQ
          go_wp2_with fail
          go_quiet ((go_at_call 145; exact quiet_same_at (KH.out _)))
          go_wp2_with fail
          first | go_end0 | refine bodyPost_ret (results_none rfl _ _ _) rfl ?_
          exact ⟨_, _, 0, ⟨rfl, HF.out _, HFO.out _⟩, rfl, rfl, near_bad (near_fresh HOUT.out.1 HDD.out) true, out_none (HR.out.2 HD.out) (HOUT.out.2.2.2.2.1) HD.out HEN.out.symm HH.out.symm (by have := HLV.out; omega)⟩
  · have hu2 : ((B.1 : Int) == 0) = false := by simp; omega
    have HU := Lib.hid hu
    by_cases hem : z.out.length = 0
    · have em1 : decide (z.out.length = 0) = true := by simp [hem]
      rw [em1]
      have KN := Lib.hid (fun (w1 : World) (h1 : Lw K w1 Gw z B.2 0) => wcount_any h1.win)
      have hc : ((⟨K.sz, z.out, false⟩ : Ws).count : Int) = 0 := by rw [fit_count hf, hem]; simp
      rw [hc] at KN
      have HEM := Lib.hid hem
      clear h hst hs hB hst0 hpb hout hz hf hb he hu hem em1 hc
      go_enter Tryz.func108, Tryz.ntmps108
      go_wp2_with fail
      go_still_tail 13, (by kernel_rfl)
      change wpList _ _ _ _ _ w.drew
      go_wp2_with fail
      refine KB.out.mono ?_
      rintro e w2 ⟨rfl, hz2, ho2⟩
      have HO2 := Lib.hid (Only.of_drewN ho2)
      have HZ2 := Lib.hid hz2
      clear hz2 ho2 KB c5 c10
      have x6 := HZ2.out.f.c6
      have KN2 := Lib.hid (KN.out _ HZ2.out)
      go_wp2_with fail
      refine KN2.out.mono ?_
      rintro e w3 ⟨rfl, rfl⟩
      clear KN KN2 x6
      have x5 := HZ2.out.f.c5
      have KQ := Lib.hid HZ2.out.isBad
      by_cases hd : (B.2).x = none
      · rw [dead_bad hd] at KQ
        have HD := Lib.hid hd
        clear hd
        go_wp2_with fail
        refine KQ.out.mono ?_
        rintro e q1 ⟨rfl, rfl⟩
        clear KQ
        go_wp2_with fail
        first | go_end0 | refine bodyPost_ret (results_none rfl _ _ _) rfl ?_
        exact ⟨_, _, 0, ⟨rfl, HZ2.out, HO2.out⟩, rfl, rfl, HOUT.out.1, out_dead ((pk_empty (s := s) HU.out).1) HD.out⟩
      · rw [live_bad hd] at KQ
        have xe := HZ2.out.f.ended
        have HD := Lib.hid hd
        clear hd
        rw [HOUT.out.2.2.2.2.2.1] at xe
        have x6 := HZ2.out.f.c6
        have x11 := HZ2.out.f.c11
        have KH := Lib.hid (fun n => (HZ2.out.drewN n).has (by exact HOUT.out.2.2.1) (z).r0)
        obtain ⟨hh, hhe⟩ : ∃ hh, hh = (z).has (z).r0 := ⟨_, rfl⟩
        rw [← hhe] at KH
        have HH := Lib.hid hhe
        obtain ⟨r0, hr0⟩ : ∃ r0, r0 = (z).r0 := ⟨_, rfl⟩
        have hr032 : r0 < 4294967296 := by rw [hr0]; exact (HOUT.out.1).r0
        rw [← hr0] at x11 KH
        have y0 : IntKind.i64.wrap (r0 : Int) = (r0 : Int) := IntWalk.i64_in _ (by omega)
        clear hr0 hr032 hhe
        obtain rfl : hh = false := by
          rw [HH.out]
          unfold Lzs.has
          have := HEM.out
          simp
          omega
        have x65 := HZ2.out.f.bad
        have y65 := HZ2.out.f.fz 1865
        have HF := Lib.hid (fun dn => (HZ2.out.drewN dn).put 18 (by decide) (.bool true) (z' := { z with bad := true }) (left' := 0) rfl rfl)
        have HFO := Lib.hid (fun dn => (HO2.out.drewN dn).own_put 18 (.bool true))
        go_wp2_with fail
        refine KQ.out.mono ?_
        rintro e q1 ⟨rfl, rfl⟩
        clear KQ
        go_wp2_with fail
        go_quiet ((go_at_call 145; exact quiet_same_at (KH.out _)))
        go_wp2_with fail
        first | go_end0 | refine bodyPost_ret (results_none rfl _ _ _) rfl ?_
        exact ⟨_, _, 0, ⟨rfl, HF.out _, HFO.out _⟩, rfl, rfl, near_bad (HOUT.out.1) true, (pk_empty (s := s) HU.out).1, .inr (.inl ⟨HD.out, (pk_empty (s := s) HU.out).2, rfl, HOUT.out.2.2.2.2.2.1, rfl⟩)⟩
    · have em1 : decide (z.out.length = 0) = false := decide_eq_false hem
      rw [em1]
      have KN := Lib.hid (fun (w1 : World) (h1 : Lw K w1 Gw z B.2 0) => wcount_any h1.win)
      obtain ⟨cn, hcn⟩ : ∃ cn, cn = (⟨K.sz, z.out, false⟩ : Ws).count := ⟨_, rfl⟩
      rw [← hcn] at KN
      have hc : (cn : Int) > 0 := by rw [hcn, fit_count hf]; have := hf.1; omega
      clear h hst hs hB hst0 hpb hout hz hf hb he hu hem em1 hcn
      go_enter Tryz.func108, Tryz.ntmps108
      go_wp2_with fail
      go_still_tail 13, (by kernel_rfl)
      change wpList _ _ _ _ _ w.drew
      go_wp2_with fail
      refine KB.out.mono ?_
      rintro e w2 ⟨rfl, hz2, ho2⟩
      have HO2 := Lib.hid (Only.of_drewN ho2)
      have HZ2 := Lib.hid hz2
      clear hz2 ho2 KB c5 c10
      have x6 := HZ2.out.f.c6
      have KN2 := Lib.hid (KN.out _ HZ2.out)
      have KM := Lib.hid (lagain_any (s := s) (-2) HZ2.out HOUT.out.2.2.2.2.2.2.1 HOUT.out.2.2.2.2.2.2.2.1 HOUT.out.2.2.2.2.2.2.2.2 HOUT.out.2.2.2.1)
      go_wp2_with fail
      refine KN2.out.mono ?_
      rintro e w3 ⟨rfl, rfl⟩
      clear KN KN2 x6
      go_wp2_with fail
      refine KM.out.mono ?_
      clear KM
      rintro e w3 (⟨h6, rfl, hz3, ho3⟩ | ⟨h2, h5, l, ⟨rfl, hz3, ho3⟩, hl, hlv⟩)
      · have HZ3 := Lib.hid hz3
        have HO3 := Lib.hid (HO2.out.trans ho3)
        have HR := Lib.hid (pk_single (z := z) (s := s) HU.out HOUT.out.2.2.2.2.1 h6)
        clear hz3 ho3 h6
        have x5 := HZ3.out.f.c5
        have KQ := Lib.hid HZ3.out.isBad
        by_cases hd : ((kd3 decM (bitP decM B.2 (204 + z.st) 0) z.st s 0).2.2).x = none
        · rw [dead_bad hd] at KQ
          have HD := Lib.hid hd
          clear hd
          go_wp2_with fail
          refine KQ.out.mono ?_
          rintro e q1 ⟨rfl, rfl⟩
          clear KQ
          go_wp2_with fail
          first | go_end0 | refine bodyPost_ret (results_none rfl _ _ _) rfl ?_
          exact ⟨_, _, 0, ⟨rfl, HZ3.out, HO3.out⟩, rfl, rfl, near_single HOUT.out.1, out_dead (by rw [HR.out, tailP_same]) HD.out⟩
        · rw [live_bad hd] at KQ
          have xe := HZ3.out.f.ended
          have HD := Lib.hid hd
          clear hd
          obtain ⟨en, hen⟩ : ∃ en, en = (({ z with st := aft 9 11 z.st } : Lzs)).ended := ⟨_, rfl⟩
          rw [← hen] at xe
          have HEN := Lib.hid hen
          clear hen
          cases en with
          | true =>
            go_wp2_with fail
            refine KQ.out.mono ?_
            rintro e q1 ⟨rfl, rfl⟩
            clear KQ
            go_wp2_with fail
            first | go_end0 | refine bodyPost_ret (results_none rfl _ _ _) rfl ?_
            exact ⟨_, _, 0, ⟨rfl, HZ3.out, HO3.out⟩, rfl, rfl, near_single HOUT.out.1, out_ended (HR.out) (HOUT.out.2.2.2.2.1) HD.out HEN.out.symm⟩
          | false =>
            have x6 := HZ3.out.f.c6
            have x11 := HZ3.out.f.c11
            have KH := Lib.hid (fun n => (HZ3.out.drewN n).has (by exact HOUT.out.2.2.1) (({ z with st := aft 9 11 z.st } : Lzs)).r0)
            obtain ⟨hh, hhe⟩ : ∃ hh, hh = (({ z with st := aft 9 11 z.st } : Lzs)).has (({ z with st := aft 9 11 z.st } : Lzs)).r0 := ⟨_, rfl⟩
            rw [← hhe] at KH
            have HH := Lib.hid hhe
            obtain ⟨r0, hr0⟩ : ∃ r0, r0 = (({ z with st := aft 9 11 z.st } : Lzs)).r0 := ⟨_, rfl⟩
            have hr032 : r0 < 4294967296 := by rw [hr0]; exact (near_single HOUT.out.1).r0
            rw [← hr0] at x11 KH
            have y0 : IntKind.i64.wrap (r0 : Int) = (r0 : Int) := IntWalk.i64_in _ (by omega)
            clear hr0 hr032 hhe
            cases hh with
            | true =>
              have x63 := HZ3.out.f.left
              have y63 := HZ3.out.f.fz 1863
              have HF := Lib.hid (fun dn => (HZ3.out.drewN dn).put 16 (by decide) (.int .i64 ((1 : Nat) : Int)) (z' := ({ z with st := aft 9 11 z.st } : Lzs)) (left' := 1) rfl rfl)
              have HFO := Lib.hid (fun dn => (HO3.out.drewN dn).own_put 16 (.int .i64 ((1 : Nat) : Int)))
              go_wp2_with fail
              refine KQ.out.mono ?_
              rintro e q1 ⟨rfl, rfl⟩
              clear KQ
              go_wp2_with fail
              go_quiet ((go_at_call 145; exact quiet_same_at (KH.out _)))
              go_wp2_with fail
              first | go_end0 | refine bodyPost_ret (results_none rfl _ _ _) rfl ?_
              exact ⟨_, _, _, ⟨rfl, HF.out _, HFO.out _⟩, rfl, rfl, near_single HOUT.out.1, out_live (HR.out) (HOUT.out.2.2.2.2.1) HD.out HEN.out.symm HH.out.symm (by omega) (by omega)⟩
            | false =>
              have x65 := HZ3.out.f.bad
              have y65 := HZ3.out.f.fz 1865
              have HF := Lib.hid (fun dn => (HZ3.out.drewN dn).put 18 (by decide) (.bool true) (z' := { ({ z with st := aft 9 11 z.st } : Lzs) with bad := true }) (left' := 0) rfl rfl)
              have HFO := Lib.hid (fun dn => (HO3.out.drewN dn).own_put 18 (.bool true))
              go_wp2_with fail
              refine KQ.out.mono ?_
              rintro e q1 ⟨rfl, rfl⟩
              clear KQ
              go_wp2_with fail
              go_quiet ((go_at_call 145; exact quiet_same_at (KH.out _)))
              go_wp2_with fail
              first | go_end0 | refine bodyPost_ret (results_none rfl _ _ _) rfl ?_
              exact ⟨_, _, 0, ⟨rfl, HF.out _, HFO.out _⟩, rfl, rfl, near_bad (near_single HOUT.out.1) true, out_none (HR.out) (HOUT.out.2.2.2.2.1) HD.out HEN.out.symm HH.out.symm (by omega)⟩
      · have HZ3 := Lib.hid hz3
        have HO3 := Lib.hid (HO2.out.trans ho3)
        obtain ⟨n, hn⟩ : ∃ n, n = l + 2 := ⟨_, rfl⟩
        have HR := pk_again (z := z) (s := s) (l := l) HU.out HOUT.out.2.2.2.2.1 h2 h5 hlv
        rw [← hn] at HR
        rw [← hn]
        have HR := Lib.hid HR
        have HLV := Lib.hid (show 1 ≤ n ∧ n ≤ 273 by omega)
        clear hz3 ho3 h2 h5 hl hlv hn
        have x5 := HZ3.out.f.c5
        have KQ := Lib.hid HZ3.out.isBad
        by_cases hd : ((lenP decM (kd3 decM (bitP decM B.2 (204 + z.st) 0) z.st s 0).2.2 1333 s (-2)).2).x = none
        · rw [dead_bad hd] at KQ
          have HD := Lib.hid hd
          clear hd
          go_wp2_with fail
          refine KQ.out.mono ?_
          rintro e q1 ⟨rfl, rfl⟩
          clear KQ
          go_wp2_with fail
          first | go_end0 | refine bodyPost_ret (results_none rfl _ _ _) rfl ?_
          exact ⟨_, _, 0, ⟨rfl, HZ3.out, HO3.out⟩, rfl, rfl, near_again HOUT.out.1, out_dead (HR.out.1) HD.out⟩
        · rw [live_bad hd] at KQ
          have xe := HZ3.out.f.ended
          have HD := Lib.hid hd
          clear hd
          obtain ⟨en, hen⟩ : ∃ en, en = (({ z.again ((kd3 decM (bitP decM B.2 (204 + z.st) 0) z.st s 0).1 - 2) with st := aft 8 11 z.st } : Lzs)).ended := ⟨_, rfl⟩
          rw [← hen] at xe
          have HEN := Lib.hid hen
          clear hen
          cases en with
          | true =>
            go_wp2_with fail
            refine KQ.out.mono ?_
            rintro e q1 ⟨rfl, rfl⟩
            clear KQ
            go_wp2_with fail
            first | go_end0 | refine bodyPost_ret (results_none rfl _ _ _) rfl ?_
            exact ⟨_, _, 0, ⟨rfl, HZ3.out, HO3.out⟩, rfl, rfl, near_again HOUT.out.1, out_ended (HR.out.2 HD.out) (HOUT.out.2.2.2.2.1) HD.out HEN.out.symm⟩
          | false =>
            have x6 := HZ3.out.f.c6
            have x11 := HZ3.out.f.c11
            have KH := Lib.hid (fun n => (HZ3.out.drewN n).has (by exact HOUT.out.2.2.1) (({ z.again ((kd3 decM (bitP decM B.2 (204 + z.st) 0) z.st s 0).1 - 2) with st := aft 8 11 z.st } : Lzs)).r0)
            obtain ⟨hh, hhe⟩ : ∃ hh, hh = (({ z.again ((kd3 decM (bitP decM B.2 (204 + z.st) 0) z.st s 0).1 - 2) with st := aft 8 11 z.st } : Lzs)).has (({ z.again ((kd3 decM (bitP decM B.2 (204 + z.st) 0) z.st s 0).1 - 2) with st := aft 8 11 z.st } : Lzs)).r0 := ⟨_, rfl⟩
            rw [← hhe] at KH
            have HH := Lib.hid hhe
            obtain ⟨r0, hr0⟩ : ∃ r0, r0 = (({ z.again ((kd3 decM (bitP decM B.2 (204 + z.st) 0) z.st s 0).1 - 2) with st := aft 8 11 z.st } : Lzs)).r0 := ⟨_, rfl⟩
            have hr032 : r0 < 4294967296 := by rw [hr0]; exact (near_again HOUT.out.1).r0
            rw [← hr0] at x11 KH
            have y0 : IntKind.i64.wrap (r0 : Int) = (r0 : Int) := IntWalk.i64_in _ (by omega)
            clear hr0 hr032 hhe
            cases hh with
            | true =>
              have x63 := HZ3.out.f.left
              have y63 := HZ3.out.f.fz 1863
              have HF := Lib.hid (fun dn => (HZ3.out.drewN dn).put 16 (by decide) (.int .i64 ((n : Nat) : Int)) (z' := ({ z.again ((kd3 decM (bitP decM B.2 (204 + z.st) 0) z.st s 0).1 - 2) with st := aft 8 11 z.st } : Lzs)) (left' := n) rfl rfl)
              have HFO := Lib.hid (fun dn => (HO3.out.drewN dn).own_put 16 (.int .i64 ((n : Nat) : Int)))
              go_wp2_with fail
              refine KQ.out.mono ?_
              rintro e q1 ⟨rfl, rfl⟩
              clear KQ
              go_wp2_with fail
              go_quiet ((go_at_call 145; exact quiet_same_at (KH.out _)))
              go_wp2_with fail
              first | go_end0 | refine bodyPost_ret (results_none rfl _ _ _) rfl ?_
              exact ⟨_, _, _, ⟨rfl, HF.out _, HFO.out _⟩, rfl, rfl, near_again HOUT.out.1, out_live (HR.out.2 HD.out) (HOUT.out.2.2.2.2.1) HD.out HEN.out.symm HH.out.symm (by have := HLV.out; omega) (by have := HLV.out; omega)⟩
            | false =>
              have x65 := HZ3.out.f.bad
              have y65 := HZ3.out.f.fz 1865
              have HF := Lib.hid (fun dn => (HZ3.out.drewN dn).put 18 (by decide) (.bool true) (z' := { ({ z.again ((kd3 decM (bitP decM B.2 (204 + z.st) 0) z.st s 0).1 - 2) with st := aft 8 11 z.st } : Lzs) with bad := true }) (left' := 0) rfl rfl)
              have HFO := Lib.hid (fun dn => (HO3.out.drewN dn).own_put 18 (.bool true))
              go_wp2_with fail
              refine KQ.out.mono ?_
              rintro e q1 ⟨rfl, rfl⟩
              clear KQ
              go_wp2_with fail
              go_quiet ((go_at_call 145; exact quiet_same_at (KH.out _)))
              go_wp2_with fail
              first | go_end0 | refine bodyPost_ret (results_none rfl _ _ _) rfl ?_
              exact ⟨_, _, 0, ⟨rfl, HF.out _, HFO.out _⟩, rfl, rfl, near_bad (near_again HOUT.out.1) true, out_none (HR.out.2 HD.out) (HOUT.out.2.2.2.2.1) HD.out HEN.out.symm HH.out.symm (by have := HLV.out; omega)⟩
end
end Go.Proofs.YtiolfjhddbiglaaGreatDoor

/-
  The program's decoder of LZMA: a literal's row of probabilities.
-/
namespace Go.Proofs.YtiolfjhddbiglaaGreatDoor
open Go.RowKit

section
variable {K : Kon} {w w' : World} {Gw : Nat → Prop} {z : Lzs} {t : Pm Dc} {left : Nat}
theorem Lw.at_ (h : Lw K w Gw z t left) (hf : Fit K z) (d : Nat) (n : Nat) : Calls Tryz.prog 137 #[.pointer (some ⟨K.wg, 0, none⟩), .int .i64 (d : Int)] (w.drewN n) fun x w' => x = .returned (.int .u8 ((z.back d).toNat : Int)) ∧ ∃ k, (w.drewN n).drewN k = w' := by
  have := wat_any (d := (d : Int)) (h.drewN n).win hf.2.1
  rw [fit_at hf] at this
  exact this

theorem Lw.quiet (h : Lw K w Gw z t left) (hO : Only (fun _ => False) w w') : Lw K w' Gw z t left :=
  ⟨⟨h.mch.sc, h.mch.pd.only h.mch.sc hO (fun _ h => h.elim), (K.prb _ h.ap.gn).only h.mch.row hO (fun _ _ h => h), h.mch.ok⟩, h.win.only hO (fun _ _ h => h), h.ap⟩
/-- the row of a literal's probabilities -/
theorem lrow_call {a N : Nat} (hz : ZNear z (1847 + K.nl) N) (hN : N ≤ 1000000) (ha : litAt z = 1847 + a) (hc : K.nl ≤ K.nc ∧ K.nc ≤ 1000000) (W : World) :
    Calls Tryz.prog 136 #[.slice (some ⟨K.lb, 0, none⟩) K.nc K.nc, .agg #[.int .i64 (z.lc : Int), .int .i64 (z.lp : Int), .int .i64 (z.pb : Int), .int .i64 K.sd], .int .i64 (z.out.length : Int), .int .u8 ((z.back 0).toNat : Int)] W
      fun e w' => e = .returned (.slice (some ⟨K.lb, a, none⟩) 768 (K.nc - a)) ∧ Only (fun _ => False) W w' := by
  have hin := (hz.fine hN).small
  unfold litAt at ha hin
  exact prow_any hz.lc hz.lp (Nat.le_trans hz.out hN) (z.back 0).toNat_lt (by omega) (by omega) (by omega) W
end
end Go.Proofs.YtiolfjhddbiglaaGreatDoor

/-
  A literal behind a copy: its numbers.
-/
namespace Go.Proofs.YtiolfjhddbiglaaGreatDoor
open Go.RowKit

theorem u8_of_low (m : Nat) : IntKind.u8.wrap (m : Int) = (((UInt8.ofNat m).toNat : Nat) : Int) := by
  have h : (UInt8.ofNat m).toNat = m % 256 := by simp
  rw [h]
  simp [IntKind.wrap, IntKind.bits, IntKind.signed]
theorem u8_less (m : Nat) (h : 256 ≤ m) : IntKind.u8.wrap ((m : Int) - 256) = (((UInt8.ofNat m).toNat : Nat) : Int) := by
  rw [show (m : Int) - 256 = ((m - 256 : Nat) : Int) by omega, u8_of_low]
  have : UInt8.ofNat (m - 256) = UInt8.ofNat m := by
    apply UInt8.toNat_inj.1
    simp
    omega
  rw [this]
theorem and_one (x : Nat) (h : x < 9223372036854775808) : bits .and .i64 (x : Int) 1 = ((x % 2 : Nat) : Int) := by
  show IntKind.i64.wrap ((BitVec.ofInt 64 (x : Int) &&& BitVec.ofInt 64 ((1 : Nat) : Int)).toNat : Int) = _
  rw [BitVec.toNat_and, ofInt_w64 x (by omega), ofInt_w64 1 (by omega), Nat.and_one_is_mod]
  exact IntWalk.i64_in _ (by omega)
theorem bit_shr (v : UInt8) (k : Nat) : bits .and .i64 (wrap64 (v.toNat : Int) / 2 ^ k) 1 = ((bitOf v.toNat k : Nat) : Int) := by
  have hv := v.toNat_lt
  rw [shr_nat v.toNat k (by omega), and_one _ (by have := Nat.div_le_self v.toNat (2 ^ k); omega)]
  rfl
theorem bes_facts {y m idx p1 p2 : Nat} (hy : y ≤ 1) (hm : m < 256) (h1 : p1 = 1 + y) (h2 : p2 = p1 * 256) (hi : idx = p2 + m) :
    IntKind.i64.wrap (1 + (y : Int)) = (p1 : Int) ∧ IntKind.i64.wrap ((p1 : Int) * 256) = (p2 : Int) ∧ IntKind.i64.wrap ((p2 : Int) + (m : Int)) = (idx : Int) ∧ (0 : Int) ≤ (idx : Int) ∧ (idx : Int) < 768 := by
  refine ⟨?_, ?_, ?_, by omega, by omega⟩
  · rw [show 1 + (y : Int) = (p1 : Int) by omega]; exact IntWalk.i64_in _ (by omega)
  · rw [show (p1 : Int) * 256 = (p2 : Int) by omega]; exact IntWalk.i64_in _ (by omega)
  · rw [show (p2 : Int) + (m : Int) = (idx : Int) by omega]; exact IntWalk.i64_in _ (by omega)

theorem lt_256 {m j : Nat} (h : m < 2 ^ (j + 1)) (hj : j < 8) : m < 256 := Nat.lt_of_lt_of_le h (Nat.le_trans (Nat.pow_le_pow_right (by decide) hj) (by decide))
theorem bes_wraps {m b : Nat} (hm : m < 256) (hb : b ≤ 1) : IntKind.i64.wrap (2 * (m : Int)) = 2 * (m : Int) ∧ IntKind.i64.wrap (2 * (m : Int) + (b : Int)) = ((2 * m + b : Nat) : Int) := by
  refine ⟨IntWalk.i64_in _ (by omega), ?_⟩
  rw [show 2 * (m : Int) + (b : Int) = ((2 * m + b : Nat) : Int) by omega]
  exact IntWalk.i64_in _ (by omega)
theorem bes_seven {j : Nat} (hj : j < 8) : IntKind.i64.wrap (7 - (j : Int)) = ((7 - j : Nat) : Int) := by
  rw [show 7 - (j : Int) = ((7 - j : Nat) : Int) by omega]
  exact IntWalk.i64_in _ (by omega)
theorem bes_at {A a idx y m nl p1 p2 : Nat} (hA : A = 1847 + a ∧ a + 768 ≤ nl ∧ nl ≤ 100000000) (hy : y ≤ 1) (hm : m < 256) (h1 : p1 = 1 + y) (h2 : p2 = p1 * 256) (hi : idx = p2 + m) :
    1847 ≤ A + 256 * (1 + y) + m ∧ a + idx = A + 256 * (1 + y) + m - 1847 ∧ A + 256 * (1 + y) + m < 1847 + nl := by omega
theorem bes_at2 {A a m nl : Nat} (hA : A = 1847 + a ∧ a + 768 ≤ nl ∧ nl ≤ 100000000) (hm : m < 256) : 1847 ≤ A + m ∧ a + m = A + m - 1847 ∧ A + m < 1847 + nl := by omega
theorem bes_neq (b y : Nat) : ((b : Int) != (y : Int)) = !decide (b = y) := by
  by_cases h : b = y
  · subst h; simp
  · have : ¬ (b : Int) = (y : Int) := by omega
    simp [h, this]
theorem bes_end {m : Nat} (h : 256 ≤ m) (h2 : m < 512) : ¬ (m : Int) < 256 ∧ IntKind.i64.wrap ((m : Int) - 256) = (m : Int) - 256 := ⟨by omega, IntWalk.i64_in _ (by omega)⟩
theorem bes_m {m : Nat} (h : m < 256) : (m : Int) < 256 ∧ (0 : Int) ≤ (m : Int) ∧ (m : Int) < 768 := by omega
end Go.Proofs.YtiolfjhddbiglaaGreatDoor

/-
  The program's decoder of LZMA: a literal behind a copy.
-/
namespace Go.Proofs.YtiolfjhddbiglaaGreatDoor
open Go.RowKit

section
variable {K : Kon} {w w' : World} {Gw : Nat → Prop} {z : Lzs} {t : Pm Dc} {left : Nat}

/-- a literal's step, told -/
theorem lg_same {A j : Nat} {o v : UInt8} {G : Lg Dc} (h : G.same = true) : lgStep decM A (want (o.toNat : Int) j) (want (v.toNat : Int) j) G =
    ⟨2 * G.m + (bitP decM G.t (A + 256 * (1 + bitOf o.toNat j) + G.m) 0).1, decide ((bitP decM G.t (A + 256 * (1 + bitOf o.toNat j) + G.m) 0).1 = bitOf o.toNat j), (bitP decM G.t (A + 256 * (1 + bitOf o.toNat j) + G.m) 0).2⟩ := by
  unfold lgStep
  rw [if_pos h, want_nat, Int.toNat_natCast]
  rfl
theorem lg_other {A j : Nat} {o v : UInt8} {G : Lg Dc} (h : G.same = false) : lgStep decM A (want (o.toNat : Int) j) (want (v.toNat : Int) j) G =
    ⟨2 * G.m + (bitP decM G.t (A + G.m) 0).1, false, (bitP decM G.t (A + G.m) 0).2⟩ := by
  unfold lgStep
  rw [if_neg (by rw [h]; simp)]
  rfl

def BesPost (K : Kon) (w : World) (Gw : Nat → Prop) (z : Lzs) (r : Lg Dc) (left : Nat) (e : Ending) (w' : World) : Prop := MidPost K w Gw (.int .u8 (((UInt8.ofNat r.m).toNat : Nat) : Int)) z r.t left e w'

set_option maxRecDepth 100000 in
set_option maxHeartbeats 8000000 in
theorem lbes_any {a c A : Nat} {x : UInt8} (h : Lw K w Gw z t left) (hf : Fit K z) (hr0 : z.r0 < 4294967296) (hA : A = 1847 + a) (ha : a + 768 ≤ K.nl) (hnl : K.nl ≤ 100000000) :
    Calls Tryz.prog 139 #[.pointer (some ⟨K.g, 0, none⟩), .slice (some ⟨K.lb, a, none⟩) 768 c] w (BesPost K w Gw z (litG decM t A (z.back z.r0) x true 8) left) := by
  have c6 := h.f.c6
  have c11 := h.f.c11
  have KA := Lib.hid (fun n => h.at_ hf z.r0 n)
  have hG := Lib.hid (litG_ok decM_ok (k := 0) (a := A) (o := z.back z.r0) (v := x) (same := true) (t := t) (L := 1847 + K.nl) (okD_any h.mch.ok) (by omega))
  obtain ⟨r0, hr⟩ : ∃ r0, r0 = z.r0 := ⟨_, rfl⟩
  rw [← hr] at c11 KA hG ⊢
  have y0 : IntKind.i64.wrap (r0 : Int) = (r0 : Int) := IntWalk.i64_in _ (by omega)
  obtain ⟨v, hv⟩ : ∃ v : UInt8, v = z.back r0 := ⟨_, rfl⟩
  rw [← hv] at KA hG ⊢
  have HZ0 := Lib.hid h
  have HA := Lib.hid (And.intro hA (And.intro ha hnl))
  clear hr0 hr hv hf h hA ha hnl
  go_enter Tryz.func139, Tryz.ntmps139
  go_wp2_with fail
  go_quiet ((go_at_call 137; exact quiet_drew_at (KA.out _)))
  have HZ1 := Lib.hid (HZ0.out.drewN nq)
  have HO1 := Lib.hid ((Only.refl K.own w).drewN nq)
  generalize w.drewN nq = w1 at *
  clear c6 c11 KA HZ0 y0
  go_wp2_with fail
  go_loopw [6, 7, 8, 9, 22] (fun m _ _ _ i wr => ∃ (j : Nat) (G : Lg Dc), j ≤ 8 ∧ G = litG decM t A v x true j ∧ G.same = true ∧ i = .int .i64 (j : Int) ∧ m = .int .i64 (G.m : Int) ∧ Lw K wr Gw z G.t left ∧ Only K.own w wr) (fun _ _ _ _ i _ => 8 - (intOf i).toNat)
  case atStart => exact ⟨0, _, by omega, rfl, rfl, rfl, rfl, HZ1.out, HO1.out⟩
  case round =>
    clear HZ1 HO1
    obtain ⟨j, G, hj, hGj, hsame, rfl, rfl, hz, ho⟩ := hrel
    obtain ⟨t1, t2, t3⟩ := hG.out j hj
    rw [← hGj] at t1 t2 t3
    have HGJ := Lib.hid hGj
    have HO := Lib.hid ho
    have HZ := Lib.hid hz
    by_cases hlt : j < 8
    · have hlt' : (j : Int) < 8 := by omega
      have e7 := bes_seven hlt
      have E8 := Lib.hid (bit_shr v (7 - j))
      have hm256 := lt_256 t3 hlt
      have hy := bitOf_le v.toNat (7 - j)
      have hst := lg_same (A := A) (j := 7 - j) (o := v) (v := x) hsame
      have hst2 : lgStep decM A (want (v.toNat : Int) (7 - j)) (want (x.toNat : Int) (7 - j)) G = litG decM t A v x true (j + 1) := by rw [hGj]; rfl
      rw [hst2] at hst
      clear hst2
      obtain ⟨y, hyy⟩ : ∃ y, y = bitOf v.toNat (7 - j) := ⟨_, rfl⟩
      rw [← hyy] at E8 hy hst
      obtain ⟨p1, hp1⟩ : ∃ p1, p1 = 1 + y := ⟨_, rfl⟩
      obtain ⟨p2, hp2⟩ : ∃ p2, p2 = p1 * 256 := ⟨_, rfl⟩
      obtain ⟨idx, hidx⟩ : ∃ idx, idx = p2 + G.m := ⟨_, rfl⟩
      obtain ⟨q1, q2, q3, q4, q5⟩ := bes_facts hy hm256 hp1 hp2 hidx
      have hat := bes_at HA.out hy hm256 hp1 hp2 hidx
      have KB := Lib.hid ((hz.drewN 1).bit (a := A + 256 * (1 + y) + G.m) (b := K.lb) (i := a + idx) 0 (Kon.ad_lit hat.1 hat.2.1) hat.2.2)
      have hb1 := (bitP_ok decM_ok (k := 0) (a := A + 256 * (1 + y) + G.m) (w := 0) (okD_any hz.mch.ok) hat.2.2 (fun h => by cases h)).1
      have c5 := hz.f.c5
      obtain ⟨B, hB⟩ : ∃ B, B = bitP decM G.t (A + 256 * (1 + y) + G.m) 0 := ⟨_, rfl⟩
      rw [← hB] at KB hst hb1
      obtain ⟨e1, e2⟩ := bes_wraps hm256 hb1
      have HST := Lib.hid hst
      have HJ := Lib.hid hlt
      have HY := Lib.hid (And.intro hy hb1)
      have hneq := bes_neq B.1 y
      clear hst hB hidx hp1 hp2 hyy hat hsame t1 t2 t3 hm256 hz ho hb1 hy hGj hj
      generalize G.m = m at *
      obtain ⟨m2, hm2⟩ : ∃ m2, m2 = 2 * m + B.1 := ⟨_, rfl⟩
      rw [← hm2] at e2 HST
      have HM2 := Lib.hid hm2
      clear hm2
      go_upto_region 7 with fail
      rw [E8.out]
      clear E8
      go_wp2_with fail
      go_region_held3 (fun w' => w'.cell? ⟨K.g, 5, none⟩ = some (.pointer (some ⟨K.dg, 0, none⟩))) (first | assumption | go_keep | exact c5) (first | (go_at_call 134; refine KB.out.mono ?_; rintro e w3 ⟨rfl, hz3, ho3⟩; have d5 := hz3.f.c5; have HZ3 := Lib.hid hz3; have HO3 := Lib.hid (HO.out.trans (Only.of_drewN ho3)); clear hz3 ho3))
      clear c5 KB HZ HO
      obtain ⟨sm, hsm⟩ : ∃ sm, sm = decide (B.1 = y) := ⟨_, rfl⟩
      rw [← hsm] at hneq HST
      clear hsm
      cases sm with
      | true =>
        go_wp2_with fail
        go_roundw
        case rel => exact ⟨j + 1, litG decM t A v x true (j + 1), by have := HJ.out; omega, rfl, by rw [HST.out], by go_num, by rw [HST.out], by rw [HST.out]; exact HZ3.out, HO3.out⟩
        case measure => simp [intOf]; have := HJ.out; omega
      | false =>
        have HG2 := Lib.hid (show ∃ (j2 : Nat) (G2 : Lg Dc), j2 ≤ 8 ∧ G2 = litG decM t A v x true j2 ∧ (j2 < 8 → G2.same = false) ∧ G2.m = m2 ∧ Lw K w3 Gw z G2.t left from ⟨j + 1, _, by have := HJ.out; omega, rfl, fun _ => by rw [HST.out], by rw [HST.out], by rw [HST.out]; exact HZ3.out⟩)
        go_wp2_with fail
        clear HST HM2 HZ3 HGJ hneq d5 q1 q2 q3 q4 q5 e1 e2 e7 hlt hlt'
        go_loopw [6] (fun m wr => ∃ (j2 : Nat) (G2 : Lg Dc), j2 ≤ 8 ∧ G2 = litG decM t A v x true j2 ∧ (j2 < 8 → G2.same = false) ∧ m = .int .i64 (G2.m : Int) ∧ Lw K wr Gw z G2.t left ∧ Only K.own w wr) (fun m _ => 512 - (intOf m).toNat)
        case atStart =>
          obtain ⟨j2, G2, g1, g2, g3, g4, g5⟩ := HG2.out
          exact ⟨j2, G2, g1, g2, g3, by rw [g4], g5, HO3.out⟩
        case round =>
          clear HG2
          obtain ⟨j2, G2, hj2, hG2, hsm2, rfl, hz2, ho2⟩ := hrel
          obtain ⟨t1, t2, t3⟩ := hG.out j2 hj2
          rw [← hG2] at t1 t2 t3
          have HO4 := Lib.hid ho2
          have HZ4 := Lib.hid hz2
          by_cases hlt2 : j2 < 8
          · have hm256 := lt_256 t3 hlt2
            have hst := lg_other (A := A) (j := 7 - j2) (o := v) (v := x) (hsm2 hlt2)
            have hst2 : lgStep decM A (want (v.toNat : Int) (7 - j2)) (want (x.toNat : Int) (7 - j2)) G2 = litG decM t A v x true (j2 + 1) := by rw [hG2]; rfl
            rw [hst2] at hst
            clear hst2
            have hat := bes_at2 HA.out hm256
            have KB := Lib.hid ((hz2.drewN 1).bit (a := A + G2.m) (b := K.lb) (i := a + G2.m) 0 (Kon.ad_lit hat.1 hat.2.1) hat.2.2)
            have hb1 := (bitP_ok decM_ok (k := 0) (a := A + G2.m) (w := 0) (okD_any hz2.mch.ok) hat.2.2 (fun h => by cases h)).1
            have c5 := hz2.f.c5
            obtain ⟨B, hB⟩ : ∃ B, B = bitP decM G2.t (A + G2.m) 0 := ⟨_, rfl⟩
            rw [← hB] at KB hst hb1
            obtain ⟨e1, e2⟩ := bes_wraps hm256 hb1
            obtain ⟨q1, q2, q3⟩ := bes_m hm256
            have HST2 := Lib.hid hst
            have HJ2 := Lib.hid (And.intro hlt2 (And.intro hm256 (Nat.le_trans (Nat.one_le_two_pow (n := j2)) t2)))
            clear hst hB hat hsm2 t1 t2 t3 hm256 hz2 ho2 hb1 hG2 hj2 hlt2
            generalize G2.m = m at *
            obtain ⟨m2, hm2⟩ : ∃ m2, m2 = 2 * m + B.1 := ⟨_, rfl⟩
            rw [← hm2] at e2 HST2
            have HM2 := Lib.hid hm2
            clear hm2
            go_wp2_with fail
            go_region_held3 (fun w' => w'.cell? ⟨K.g, 5, none⟩ = some (.pointer (some ⟨K.dg, 0, none⟩))) (first | assumption | go_keep | exact c5) (first | (go_at_call 134; refine KB.out.mono ?_; rintro e w5 ⟨rfl, hz5, ho5⟩; have d5 := hz5.f.c5; have HZ5 := Lib.hid hz5; have HO5 := Lib.hid (HO4.out.trans (Only.of_drewN ho5)); clear hz5 ho5))
            go_wp2_with fail
            go_roundw
            case rel => exact ⟨j2 + 1, litG decM t A v x true (j2 + 1), by have := HJ2.out; omega, rfl, fun _ => by rw [HST2.out], by rw [HST2.out], by rw [HST2.out]; exact HZ5.out, HO5.out⟩
            case measure =>
              simp [intOf]
              have := HJ2.out
              have := HM2.out
              omega
          · obtain rfl : j2 = 8 := by omega
            obtain ⟨q1, e1⟩ := bes_end t2 t3
            have e2 := u8_less G2.m t2
            have HG8 := Lib.hid hG2
            clear t1 t2 t3 hsm2 hz2 ho2 hG2 hj2 hlt2
            generalize hmm : G2.m = m at *
            have HMM := Lib.hid hmm
            clear hmm
            go_wp2_with fail
            go_ret
            unfold BesPost
            rw [← HG8.out, HMM.out]
            exact ⟨rfl, HZ4.out, HO4.out⟩
    · obtain rfl : j = 8 := by omega
      have hlt' : ¬ ((8 : Nat) : Int) < 8 := by omega
      have HG2 := Lib.hid (show ∃ (j2 : Nat) (G2 : Lg Dc), j2 ≤ 8 ∧ G2 = litG decM t A v x true j2 ∧ (j2 < 8 → G2.same = false) ∧ G2.m = G.m ∧ Lw K wr Gw z G2.t left from ⟨8, _, by omega, hGj, fun h => absurd h (by omega), rfl, hz⟩)
      clear HGJ hsame t1 t2 t3 hz ho hj hGj hlt
      generalize G.m = m0 at *
      go_wp2_with fail
      go_loopw [6] (fun m wr => ∃ (j2 : Nat) (G2 : Lg Dc), j2 ≤ 8 ∧ G2 = litG decM t A v x true j2 ∧ (j2 < 8 → G2.same = false) ∧ m = .int .i64 (G2.m : Int) ∧ Lw K wr Gw z G2.t left ∧ Only K.own w wr) (fun m _ => 512 - (intOf m).toNat)
      case atStart =>
        obtain ⟨j2, G2, g1, g2, g3, g4, g5⟩ := HG2.out
        exact ⟨j2, G2, g1, g2, g3, by rw [g4], g5, HO.out⟩
      case round =>
        clear HG2
        obtain ⟨j2, G2, hj2, hG2, hsm2, rfl, hz2, ho2⟩ := hrel
        obtain ⟨t1, t2, t3⟩ := hG.out j2 hj2
        rw [← hG2] at t1 t2 t3
        have HO4 := Lib.hid ho2
        have HZ4 := Lib.hid hz2
        by_cases hlt2 : j2 < 8
        · have hm256 := lt_256 t3 hlt2
          have hst := lg_other (A := A) (j := 7 - j2) (o := v) (v := x) (hsm2 hlt2)
          have hst2 : lgStep decM A (want (v.toNat : Int) (7 - j2)) (want (x.toNat : Int) (7 - j2)) G2 = litG decM t A v x true (j2 + 1) := by rw [hG2]; rfl
          rw [hst2] at hst
          clear hst2
          have hat := bes_at2 HA.out hm256
          have KB := Lib.hid ((hz2.drewN 1).bit (a := A + G2.m) (b := K.lb) (i := a + G2.m) 0 (Kon.ad_lit hat.1 hat.2.1) hat.2.2)
          have hb1 := (bitP_ok decM_ok (k := 0) (a := A + G2.m) (w := 0) (okD_any hz2.mch.ok) hat.2.2 (fun h => by cases h)).1
          have c5 := hz2.f.c5
          obtain ⟨B, hB⟩ : ∃ B, B = bitP decM G2.t (A + G2.m) 0 := ⟨_, rfl⟩
          rw [← hB] at KB hst hb1
          obtain ⟨e1, e2⟩ := bes_wraps hm256 hb1
          obtain ⟨q1, q2, q3⟩ := bes_m hm256
          have HST2 := Lib.hid hst
          have HJ2 := Lib.hid (And.intro hlt2 (And.intro hm256 (Nat.le_trans (Nat.one_le_two_pow (n := j2)) t2)))
          clear hst hB hat hsm2 t1 t2 t3 hm256 hz2 ho2 hb1 hG2 hj2 hlt2
          generalize G2.m = m at *
          obtain ⟨m2, hm2⟩ : ∃ m2, m2 = 2 * m + B.1 := ⟨_, rfl⟩
          rw [← hm2] at e2 HST2
          have HM2 := Lib.hid hm2
          clear hm2
          go_wp2_with fail
          go_region_held3 (fun w' => w'.cell? ⟨K.g, 5, none⟩ = some (.pointer (some ⟨K.dg, 0, none⟩))) (first | assumption | go_keep | exact c5) (first | (go_at_call 134; refine KB.out.mono ?_; rintro e w5 ⟨rfl, hz5, ho5⟩; have d5 := hz5.f.c5; have HZ5 := Lib.hid hz5; have HO5 := Lib.hid (HO4.out.trans (Only.of_drewN ho5)); clear hz5 ho5))
          go_wp2_with fail
          go_roundw
          case rel => exact ⟨j2 + 1, litG decM t A v x true (j2 + 1), by have := HJ2.out; omega, rfl, fun _ => by rw [HST2.out], by rw [HST2.out], by rw [HST2.out]; exact HZ5.out, HO5.out⟩
          case measure =>
            simp [intOf]
            have := HJ2.out
            have := HM2.out
            omega
        · obtain rfl : j2 = 8 := by omega
          obtain ⟨q1, e1⟩ := bes_end t2 t3
          have e2 := u8_less G2.m t2
          have HG8 := Lib.hid hG2
          clear t1 t2 t3 hsm2 hz2 ho2 hG2 hj2 hlt2
          generalize hmm : G2.m = m at *
          have HMM := Lib.hid hmm
          clear hmm
          go_wp2_with fail
          go_ret
          unfold BesPost
          rw [← HG8.out, HMM.out]
          exact ⟨rfl, HZ4.out, HO4.out⟩
end
end Go.Proofs.YtiolfjhddbiglaaGreatDoor

/-
  The program's decoder of LZMA: a byte is put; a literal.
-/
namespace Go.Proofs.YtiolfjhddbiglaaGreatDoor
open Go.RowKit

section
variable {K : Kon} {w w' : World} {Gw Gw' : Nat → Prop} {z : Lzs} {t : Pm Dc} {left : Nat} {fs : List Value}

theorem Mch.field (h : Mch (Rk K fs) K.dg K.S K.bs (1847 + K.nl) w t) (ha : Apart K Gw) (k : Nat) (hk : k < 19) (v : Value) : Mch (Rk K (fs.set k v)) K.dg K.S K.bs (1847 + K.nl) (w.setCell ⟨K.g, fat k, none⟩ v) t := by
  have hO := (Only.refl (fun j => j = K.g) w).setCell (p := ⟨K.g, fat k, none⟩) (.inl rfl) v
  exact ⟨h.sc, h.pd.only h.sc hO (fun i hi => hi ▸ ha.gl), ⟨h.row.1.put k hk v, h.row.2.1.only hO (fun e => ha.gn e.symm), h.row.2.2⟩, h.ok⟩
theorem Mch.over (h : Mch (Rk K fs) K.dg K.S K.bs (1847 + K.nl) w t) (ha : Apart K Gw) (hO : Only Gw w w') : Mch (Rk K fs) K.dg K.S K.bs (1847 + K.nl) w' t :=
  ⟨h.sc, h.pd.only h.sc hO (fun i hi => (ha.wd i hi).2.2.2), (K.prb _ ha.gn).only h.row hO (fun i hi e => by rcases hi with rfl | rfl; exact (ha.wd _ e).1 rfl; exact (ha.wd _ e).2.1 rfl), h.ok⟩
theorem Apart.grow (ha : Apart K Gw) (h : Mch (Rk K fs) K.dg K.S K.bs (1847 + K.nl) w t) (hN : ∀ i, Gw' i → Gw i ∨ w.heap.size ≤ i) : Apart K Gw' := by
  refine ⟨ha.gl, ha.ll, ha.ml, ha.gn, ha.mg, ha.mb, ha.nc, fun i hi => ?_⟩
  rcases hN i hi with h1 | h1
  · exact ha.wd i h1
  · have h2 := h.pd.lt
    have h4 := h.row.1.lt
    have h5 := h.row.2.1.lt
    have h6 := ha.ml.2
    exact ⟨by omega, by omega, by omega, fun e => by have := h.pd.old h.sc e; omega, by omega⟩

set_option maxRecDepth 100000 in
set_option maxHeartbeats 2000000 in
/-- A byte that no packet told. -/
theorem lput_any {b : UInt8} (h : Lw K w Gw z t left) (hf : Fit K z) (ho : z.out.length ≤ 1000000) :
    Calls Tryz.prog 77 #[.pointer (some ⟨K.g, 0, none⟩), .int .u8 (b.toNat : Int)] w (PutPost K w Gw (.tuple #[]) (z.push b) t left) := by
  have c6 := h.f.c6
  have KW := Lib.hid (wput_any (b := b) h.win hf.2.1 (by show z.out.length ≤ _; omega))
  have HZ := Lib.hid h
  obtain ⟨n, hn⟩ : ∃ n, n = z.out.length := ⟨_, rfl⟩
  have e1 : IntKind.i64.wrap ((n : Int) + 1) = ((n + 1 : Nat) : Int) := by rw [show (n : Int) + 1 = ((n + 1 : Nat) : Int) by omega]; exact IntWalk.i64_in _ (by omega)
  have HN := Lib.hid hn
  clear h hf ho hn
  go_enter Tryz.func77, Tryz.ntmps77
  go_wp2_with fail
  refine KW.out.mono ?_
  rintro e w1 ⟨rfl, G1, hP1, hN1, hO1⟩
  have hM := HZ.out.mch.over HZ.out.ap hO1
  have d9 : w1.cell? ⟨K.g, 9, none⟩ = some (.int .i64 (n : Int)) := by rw [HN.out]; exact hM.row.1.cell 9 (by decide)
  have z9 : w1.frozen? ⟨K.g, 9, none⟩ = false := hM.row.1.free 9
  have ha1 := HZ.out.ap.grow HZ.out.mch hN1
  have hM2 := hM.field HZ.out.ap 9 (by decide) (.int .i64 ((n + 1 : Nat) : Int))
  have hO2 := (Only.refl (fun j => j = K.g) w1).setCell (p := ⟨K.g, fat 9, none⟩) (.inl rfl) (.int .i64 ((n + 1 : Nat) : Int))
  have hw : Lw K (w1.setCell ⟨K.g, fat 9, none⟩ (.int .i64 ((n + 1 : Nat) : Int))) G1 (z.push b) t left := by
    refine ⟨?_, ?_, ha1⟩
    · have e : (lwFs K z left).set 9 (.int .i64 ((n + 1 : Nat) : Int)) = lwFs K (z.push b) left := by
        have hl : (z.push b).out.length = n + 1 := by rw [HN.out]; show (z.out ++ [b]).length = _; simp
        unfold lwFs
        rw [hl]
        rfl
      rw [e] at hM2
      exact hM2
    · rw [open_put rfl] at hP1
      exact hP1.only hO2 (fun i hi e => (ha1.wd i hi).1 e)
  have HE := Lib.hid (And.intro hw (And.intro hN1 (show Only (K.all Gw) w (w1.setCell ⟨K.g, fat 9, none⟩ (.int .i64 ((n + 1 : Nat) : Int))) from (hO1.mono fun i hi => .inr hi).setCell (p := ⟨K.g, fat 9, none⟩) (.inl (.inl (.inr (.inr (.inl rfl))))) _)))
  clear hM ha1 hM2 hO2 hw hP1 hN1 hO1 KW c6
  go_wp2_with fail
  first | go_end0 | refine bodyPost_ret (results_none rfl _ _ _) rfl ?_
  exact ⟨rfl, G1, HE.out.1, HE.out.2.1, HE.out.2.2⟩

/-- by a tree, a literal's bits are as by the two -/
theorem lit_tree {A : Nat} {o v : UInt8} : ∀ j, (litG decM t A o v false j).m = (treeG decM t A 8 0 j).m ∧ (litG decM t A o v false j).t = (treeG decM t A 8 0 j).t ∧ (litG decM t A o v false j).same = false
  | 0 => ⟨rfl, rfl, rfl⟩
  | j + 1 => by
    obtain ⟨h1, h2, h3⟩ := lit_tree (A := A) (o := o) (v := v) j
    have e := lg_other (A := A) (j := 7 - j) (o := o) (v := v) h3
    have e2 : litG decM t A o v false (j + 1) = lgStep decM A (want (o.toNat : Int) (7 - j)) (want (v.toNat : Int) (7 - j)) (litG decM t A o v false j) := rfl
    rw [e2, e, h1, h2]
    exact ⟨rfl, rfl, rfl⟩

/-- what a literal leaves, behind its first bit -/
def LitEnd (K : Kon) (w : World) (Gw : Nat → Prop) (z : Lzs) (r : Nat × Pm Dc) (left : Nat) (e : Ending) (w' : World) : Prop :=
  (r.2.x = none ∧ MidPost K w Gw (.tuple #[.int .u8 0, .bool false]) { z with st := litSt z.st } r.2 left e w') ∨
  (r.2.x ≠ none ∧ PutPost K w Gw (.tuple #[.int .u8 ((UInt8.ofNat r.1).toNat : Int), .bool true]) (({ z with st := litSt z.st } : Lzs).push (UInt8.ofNat r.1)) r.2 left e w')

theorem lit_u8 (m : Nat) (h : 256 ≤ m) : IntKind.u8.wrap ((m - 256 : Nat) : Int) = (((UInt8.ofNat m).toNat : Nat) : Int) := by
  rw [show ((m - 256 : Nat) : Int) = (m : Int) - 256 by omega]
  exact u8_less m h

set_option maxRecDepth 100000 in
set_option maxHeartbeats 8000000 in
theorem llit_any {N : Nat} (h : Lw K w Gw z t left) (hz : ZNear z (1847 + K.nl) N) (hN : N ≤ 900000) (hf : Fit K z) :
    Calls Tryz.prog 107 #[.pointer (some ⟨K.g, 0, none⟩)] w (LitEnd K w Gw z (litP decM z t 0) left) := by
  have hin := (hz.fine (show N ≤ 1000000 by omega)).small
  obtain ⟨A, hA⟩ : ∃ A, A = litAt z := ⟨_, rfl⟩
  have hA0 : 1847 ≤ A := by rw [hA]; unfold litAt; exact Nat.le_add_right _ _
  obtain ⟨a, ha⟩ : ∃ a, a = A - 1847 := ⟨_, rfl⟩
  have hAa : A = 1847 + a := by rw [ha]; exact (Nat.add_sub_cancel' hA0).symm
  rw [← hA] at hin
  have hlim : a + 768 ≤ K.nl ∧ K.nl ≤ 100000000 := by
    have h1 := hin.1
    have h2 := hin.2
    clear hin hz hf h hA hA0 ha
    omega
  have KR := Lib.hid (fun W => lrow_call (K := K) (a := a) hz (show N ≤ 1000000 by omega) (by rw [← hA, hAa]) h.ap.nc W)
  have KA := Lib.hid (fun n => h.at_ hf 0 n)
  have HZ0 := Lib.hid h
  have HS := Lib.hid (fun (w' : World) (hW : Only (fun _ => False) w w') => show w'.cell? ⟨K.g, 0, none⟩ = some (.int .i64 (z.lc : Int)) ∧ w'.cell? ⟨K.g, 1, none⟩ = some (.int .i64 (z.lp : Int)) ∧ w'.cell? ⟨K.g, 2, none⟩ = some (.int .i64 (z.pb : Int)) ∧ w'.cell? ⟨K.g, 3, none⟩ = some (.int .i64 K.sd) ∧ w'.cell? ⟨K.g, 6, none⟩ = some (.pointer (some ⟨K.wg, 0, none⟩)) ∧ w'.cell? ⟨K.g, 9, none⟩ = some (.int .i64 (z.out.length : Int)) ∧ w'.cell? ⟨K.g, 1862, none⟩ = some (.slice (some ⟨K.lb, 0, none⟩) K.nc K.nc) from
    have hq := (h.quiet hW)
    ⟨hq.f.c0, hq.f.c1, hq.f.c2, hq.dec.cell 3 (by decide), hq.f.c6, hq.f.c9, hq.f.lits⟩)
  obtain ⟨c0, c1, c2, c3, c6, c9, cl⟩ := HS.out w (Only.refl _ _)
  have HZN := Lib.hid hz
  have hst11 := hz.st
  obtain ⟨st, hst⟩ : ∃ st, st = z.st := ⟨_, rfl⟩
  rw [← hst] at hst11
  have hdef : litP decM z t 0 = ((litG decM t A (z.back z.r0) 0 (decide (7 ≤ st)) 8).m, (litG decM t A (z.back z.r0) 0 (decide (7 ≤ st)) 8).t) := by rw [hA, hst]; rfl
  have hGo := (litG_ok decM_ok (k := 0) (a := A) (o := z.back z.r0) (v := 0) (same := decide (7 ≤ st)) (t := t) (L := 1847 + K.nl) (okD_any h.mch.ok) hin.2 8 (Nat.le_refl _)).2.1
  rw [hdef]
  have HST := Lib.hid hst
  have HF := Lib.hid hf
  have KP := Lib.hid (fun (w1 : World) (b : UInt8) (t1 : Pm Dc) (h1 : Lw K w1 Gw { z with st := litSt st } t1 left) => lput_any (b := b) h1 (show Fit K { z with st := litSt st } from hf) (Nat.le_trans hz.out (show N ≤ 1000000 by omega)))
  have HOUTN := Lib.hid hN
  by_cases h7 : st < 7
  · have g7 : (st : Int) < 7 := by omega
    have hs7 : decide (7 ≤ st) = false := decide_eq_false (by omega)
    have KPA := fun w => papart_any st w
    simp only [hs7] at KPA
    have KPA := Lib.hid KPA
    rw [hs7] at hGo ⊢
    obtain ⟨l1, l2, _⟩ := lit_tree (t := t) (A := A) (o := z.back z.r0) (v := 0) 8
    rw [l1] at hGo
    rw [l1, l2]
    have KT := Lib.hid (fun (w1 : World) (h1 : Lw K w1 Gw z t left) (cap : Nat) => h1.tree (a := A) (n := 8) (b := K.lb) (o := a) (len := 768) (cap := cap) 0 (fun m hm => Kon.ad_lit (by omega) (by omega)) (by show A + 256 ≤ _; have := hin.2; omega) (by decide) (by decide))
    obtain ⟨T, hT⟩ : ∃ T, T = treeP decM t A 8 0 := ⟨_, rfl⟩
    have hT1 : T.1 = (treeG decM t A 8 0 8).m - 256 := by rw [hT]; rfl
    have hT2 : T.2 = (treeG decM t A 8 0 8).t := by rw [hT]; rfl
    rw [← hT] at KT
    rw [← hT2]
    obtain ⟨m, hm⟩ : ∃ m, m = (treeG decM t A 8 0 8).m := ⟨_, rfl⟩
    rw [← hm] at hGo hT1 ⊢
    have hm256 : 256 ≤ m := hGo
    unfold TreePost at KT
    obtain ⟨T2, hT22⟩ : ∃ T2, T2 = T.2 := ⟨_, rfl⟩
    rw [← hT22] at KT ⊢
    have KS := Lib.hid (llit7_any st hst11)
    by_cases hd : T2.x = none
    · have hal : Alive T2 0 T.1 = 0 := by unfold Alive; rw [if_pos hd]
      rw [hal] at KT
      have HD := Lib.hid hd
      clear hT hT1 hT2 hT22 hm hGo hal l1 l2 hm256 hd hA hA0 ha hAa hin hlim hdef h hz hst hst11 hf hN h7 hs7
      go_enter Tryz.func107, Tryz.ntmps107
      go_wp2_with fail
      go_region_held3 (fun w' => w'.cell? ⟨K.g, 0, none⟩ = some (.int .i64 (z.lc : Int)) ∧ w'.cell? ⟨K.g, 1, none⟩ = some (.int .i64 (z.lp : Int)) ∧ w'.cell? ⟨K.g, 2, none⟩ = some (.int .i64 (z.pb : Int)) ∧ w'.cell? ⟨K.g, 3, none⟩ = some (.int .i64 K.sd) ∧ w'.cell? ⟨K.g, 6, none⟩ = some (.pointer (some ⟨K.wg, 0, none⟩)) ∧ w'.cell? ⟨K.g, 9, none⟩ = some (.int .i64 (z.out.length : Int)) ∧ w'.cell? ⟨K.g, 1862, none⟩ = some (.slice (some ⟨K.lb, 0, none⟩) K.nc K.nc))
        (first | assumption | go_keep | exact ⟨c0, c1, c2, c3, c6, c9, cl⟩ | exact HS.out _ HQ1.out)
        (first
          | (go_at_call 137; refine (KA.out _).mono ?_; rintro e wa ⟨rfl, na, rfl⟩)
          | (go_at_call 136; refine (KR.out _).mono ?_; rintro e w1 ⟨rfl, hq1⟩; have HQ1 := Lib.hid (show Only (fun _ => False) w w1 from Only.of_drewN hq1); clear hq1))
      have hz1 := HZ0.out.quiet HQ1.out
      have c10 := hz1.f.c10
      rw [← HST.out] at c10
      have c5 := hz1.f.c5
      have HO1 := Lib.hid (show Only K.own w w1 from HQ1.out.mono fun _ h => h.elim)
      have KT1 := Lib.hid (KT.out w1 hz1 (K.nc - a))
      clear KT hz1 KR KA HS HQ1 HZ0 c0 c1 c2 c3 c6 c9 cl
      go_wp2_with fail
      refine (KPA.out _).mono ?_
      rintro e w1' ⟨rfl, rfl⟩
      go_wp2_with fail
      refine KT1.out.mono ?_
      rintro e w2 ⟨rfl, hz2, ho2⟩
      have d10 := hz2.f.c10
      rw [← HST.out] at d10
      have x10 := hz2.f.fz 10
      have HO2 := Lib.hid (HO1.out.trans ho2)
      have HZ3 : Hid (Lw K (w2.setCell ⟨K.g, 10, none⟩ (.int .i64 ((litSt st : Nat) : Int))) Gw { z with st := litSt st } T2 left) := Lib.hid (hz2.put 10 (by decide) (.int .i64 ((litSt st : Nat) : Int)) (z' := { z with st := litSt st }) rfl rfl)
      have HO3 : Hid (Only K.own w (w2.setCell ⟨K.g, 10, none⟩ (.int .i64 ((litSt st : Nat) : Int)))) := Lib.hid (HO2.out.own_put 10 (.int .i64 ((litSt st : Nat) : Int)))
      clear hz2 ho2 KT1 c5 c10
      go_wp2_with fail
      refine (KS.out _).mono ?_
      rintro e w3 ⟨rfl, rfl⟩
      clear KS
      go_upto_region 7 with fail
      generalize w2.setCell ⟨K.g, 10, none⟩ (.int .i64 ((litSt st : Nat) : Int)) = w4 at *
      clear d10 x10
      have x5 := HZ3.out.f.c5
      have KQ := HZ3.out.isBad
      rw [dead_bad HD.out] at KQ
      have KQ := Lib.hid KQ
      go_wp2_with fail
      refine KQ.out.mono ?_
      rintro e w5 ⟨rfl, rfl⟩
      go_wp2_with fail
      go_ret2
      have hz3 := HZ3.out
      rw [HST.out] at hz3
      exact .inl ⟨HD.out, rfl, hz3, HO3.out⟩
    · have hal : Alive T2 0 T.1 = m - 256 := by rw [alive_is hd, hT1]
      rw [hal] at KT
      have HD := Lib.hid hd
      have e8 := lit_u8 m hm256
      have HE8 := Lib.hid e8
      obtain ⟨mm, hmm⟩ : ∃ mm, mm = m - 256 := ⟨_, rfl⟩
      rw [← hmm] at KT e8
      clear HE8 hmm hT hT1 hT2 hT22 hm hGo hal l1 l2 hm256 hd hA hA0 ha hAa hin hlim hdef h hz hst hst11 hf hN h7 hs7
      go_enter Tryz.func107, Tryz.ntmps107
      go_wp2_with fail
      go_region_held3 (fun w' => w'.cell? ⟨K.g, 0, none⟩ = some (.int .i64 (z.lc : Int)) ∧ w'.cell? ⟨K.g, 1, none⟩ = some (.int .i64 (z.lp : Int)) ∧ w'.cell? ⟨K.g, 2, none⟩ = some (.int .i64 (z.pb : Int)) ∧ w'.cell? ⟨K.g, 3, none⟩ = some (.int .i64 K.sd) ∧ w'.cell? ⟨K.g, 6, none⟩ = some (.pointer (some ⟨K.wg, 0, none⟩)) ∧ w'.cell? ⟨K.g, 9, none⟩ = some (.int .i64 (z.out.length : Int)) ∧ w'.cell? ⟨K.g, 1862, none⟩ = some (.slice (some ⟨K.lb, 0, none⟩) K.nc K.nc))
        (first | assumption | go_keep | exact ⟨c0, c1, c2, c3, c6, c9, cl⟩ | exact HS.out _ HQ1.out)
        (first
          | (go_at_call 137; refine (KA.out _).mono ?_; rintro e wa ⟨rfl, na, rfl⟩)
          | (go_at_call 136; refine (KR.out _).mono ?_; rintro e w1 ⟨rfl, hq1⟩; have HQ1 := Lib.hid (show Only (fun _ => False) w w1 from Only.of_drewN hq1); clear hq1))
      have hz1 := HZ0.out.quiet HQ1.out
      have c10 := hz1.f.c10
      rw [← HST.out] at c10
      have c5 := hz1.f.c5
      have HO1 := Lib.hid (show Only K.own w w1 from HQ1.out.mono fun _ h => h.elim)
      have KT1 := Lib.hid (KT.out w1 hz1 (K.nc - a))
      clear KT hz1 KR KA HS HQ1 HZ0 c0 c1 c2 c3 c6 c9 cl
      go_wp2_with fail
      refine (KPA.out _).mono ?_
      rintro e w1' ⟨rfl, rfl⟩
      go_wp2_with fail
      refine KT1.out.mono ?_
      rintro e w2 ⟨rfl, hz2, ho2⟩
      have d10 := hz2.f.c10
      rw [← HST.out] at d10
      have x10 := hz2.f.fz 10
      have HO2 := Lib.hid (HO1.out.trans ho2)
      have HZ3 : Hid (Lw K (w2.setCell ⟨K.g, 10, none⟩ (.int .i64 ((litSt st : Nat) : Int))) Gw { z with st := litSt st } T2 left) := Lib.hid (hz2.put 10 (by decide) (.int .i64 ((litSt st : Nat) : Int)) (z' := { z with st := litSt st }) rfl rfl)
      have HO3 : Hid (Only K.own w (w2.setCell ⟨K.g, 10, none⟩ (.int .i64 ((litSt st : Nat) : Int)))) := Lib.hid (HO2.out.own_put 10 (.int .i64 ((litSt st : Nat) : Int)))
      clear hz2 ho2 KT1 c5 c10
      go_wp2_with fail
      refine (KS.out _).mono ?_
      rintro e w3 ⟨rfl, rfl⟩
      clear KS
      go_upto_region 7 with fail
      generalize w2.setCell ⟨K.g, 10, none⟩ (.int .i64 ((litSt st : Nat) : Int)) = w4 at *
      clear d10 x10
      have x5 := HZ3.out.f.c5
      have KQ := HZ3.out.isBad
      rw [live_bad HD.out] at KQ
      have KQ := Lib.hid KQ
      have KP1 := Lib.hid (KP.out w4 (UInt8.ofNat m) T2 HZ3.out)
      go_wp2_with fail
      refine KQ.out.mono ?_
      rintro e w5 ⟨rfl, rfl⟩
      clear KQ KP
      go_wp2_with fail
      refine KP1.out.mono ?_
      rintro e w6 ⟨rfl, G1, hz6, hn6, ho6⟩
      rw [HST.out] at hz6
      have HE := Lib.hid (And.intro hz6 (And.intro (show ∀ i, G1 i → Gw i ∨ w.heap.size ≤ i from fun i hi => by
        rcases hn6 i hi with h | h
        · exact .inl h
        · exact .inr (Nat.le_trans HO3.out.size h)) ((HO3.out.mono fun i hi => .inl hi).trans ho6)))
      clear hz6 hn6 ho6 KP1
      go_wp2_with fail
      go_ret2
      exact .inr ⟨HD.out, rfl, G1, HE.out.1, HE.out.2.1, HE.out.2.2⟩
  · have g7 : ¬ (st : Int) < 7 := by omega
    have hs7 : decide (7 ≤ st) = true := decide_eq_true (by omega)
    have KPA := fun w => papart_any st w
    simp only [hs7] at KPA
    have KPA := Lib.hid KPA
    rw [hs7] at hGo ⊢
    have hr032 := hz.r0
    have KT := Lib.hid (fun (w1 : World) (h1 : Lw K w1 Gw z t left) (cap : Nat) => lbes_any (c := cap) (x := 0) h1 hf hr032 hAa hlim.1 hlim.2)
    obtain ⟨G, hG⟩ : ∃ G, G = litG decM t A (z.back z.r0) 0 true 8 := ⟨_, rfl⟩
    rw [← hG] at hGo KT ⊢
    obtain ⟨m, hm⟩ : ∃ m, m = G.m := ⟨_, rfl⟩
    obtain ⟨T2, hT2⟩ : ∃ T2, T2 = G.t := ⟨_, rfl⟩
    unfold BesPost at KT
    rw [← hm, ← hT2] at KT ⊢
    have hm256 : True := trivial
    have KS := Lib.hid (llit7_any st hst11)
    by_cases hd : T2.x = none
    · have HD := Lib.hid hd
      clear hG hGo hm hT2 hr032 hm256 hd hA hA0 ha hAa hin hlim hdef h hz hst hst11 hf hN h7 hs7
      go_enter Tryz.func107, Tryz.ntmps107
      go_wp2_with fail
      go_region_held3 (fun w' => w'.cell? ⟨K.g, 0, none⟩ = some (.int .i64 (z.lc : Int)) ∧ w'.cell? ⟨K.g, 1, none⟩ = some (.int .i64 (z.lp : Int)) ∧ w'.cell? ⟨K.g, 2, none⟩ = some (.int .i64 (z.pb : Int)) ∧ w'.cell? ⟨K.g, 3, none⟩ = some (.int .i64 K.sd) ∧ w'.cell? ⟨K.g, 6, none⟩ = some (.pointer (some ⟨K.wg, 0, none⟩)) ∧ w'.cell? ⟨K.g, 9, none⟩ = some (.int .i64 (z.out.length : Int)) ∧ w'.cell? ⟨K.g, 1862, none⟩ = some (.slice (some ⟨K.lb, 0, none⟩) K.nc K.nc))
        (first | assumption | go_keep | exact ⟨c0, c1, c2, c3, c6, c9, cl⟩ | exact HS.out _ HQ1.out)
        (first
          | (go_at_call 137; refine (KA.out _).mono ?_; rintro e wa ⟨rfl, na, rfl⟩)
          | (go_at_call 136; refine (KR.out _).mono ?_; rintro e w1 ⟨rfl, hq1⟩; have HQ1 := Lib.hid (show Only (fun _ => False) w w1 from Only.of_drewN hq1); clear hq1))
      have hz1 := HZ0.out.quiet HQ1.out
      have c10 := hz1.f.c10
      rw [← HST.out] at c10
      have c5 := hz1.f.c5
      have HO1 := Lib.hid (show Only K.own w w1 from HQ1.out.mono fun _ h => h.elim)
      have KT1 := Lib.hid (KT.out w1 hz1 (K.nc - a))
      clear KT hz1 KR KA HS HQ1 HZ0 c0 c1 c2 c3 c6 c9 cl
      go_wp2_with fail
      refine (KPA.out _).mono ?_
      rintro e w1' ⟨rfl, rfl⟩
      go_wp2_with fail
      refine KT1.out.mono ?_
      rintro e w2 ⟨rfl, hz2, ho2⟩
      have d10 := hz2.f.c10
      rw [← HST.out] at d10
      have x10 := hz2.f.fz 10
      have HO2 := Lib.hid (HO1.out.trans ho2)
      have HZ3 : Hid (Lw K (w2.setCell ⟨K.g, 10, none⟩ (.int .i64 ((litSt st : Nat) : Int))) Gw { z with st := litSt st } T2 left) := Lib.hid (hz2.put 10 (by decide) (.int .i64 ((litSt st : Nat) : Int)) (z' := { z with st := litSt st }) rfl rfl)
      have HO3 : Hid (Only K.own w (w2.setCell ⟨K.g, 10, none⟩ (.int .i64 ((litSt st : Nat) : Int)))) := Lib.hid (HO2.out.own_put 10 (.int .i64 ((litSt st : Nat) : Int)))
      clear hz2 ho2 KT1 c5 c10
      go_wp2_with fail
      refine (KS.out _).mono ?_
      rintro e w3 ⟨rfl, rfl⟩
      clear KS
      go_upto_region 7 with fail
      generalize w2.setCell ⟨K.g, 10, none⟩ (.int .i64 ((litSt st : Nat) : Int)) = w4 at *
      clear d10 x10
      have x5 := HZ3.out.f.c5
      have KQ := HZ3.out.isBad
      rw [dead_bad HD.out] at KQ
      have KQ := Lib.hid KQ
      go_wp2_with fail
      refine KQ.out.mono ?_
      rintro e w5 ⟨rfl, rfl⟩
      go_wp2_with fail
      go_ret2
      have hz3 := HZ3.out
      rw [HST.out] at hz3
      exact .inl ⟨HD.out, rfl, hz3, HO3.out⟩
    · have HD := Lib.hid hd
      clear hG hGo hm hT2 hr032 hm256 hd hA hA0 ha hAa hin hlim hdef h hz hst hst11 hf hN h7 hs7
      go_enter Tryz.func107, Tryz.ntmps107
      go_wp2_with fail
      go_region_held3 (fun w' => w'.cell? ⟨K.g, 0, none⟩ = some (.int .i64 (z.lc : Int)) ∧ w'.cell? ⟨K.g, 1, none⟩ = some (.int .i64 (z.lp : Int)) ∧ w'.cell? ⟨K.g, 2, none⟩ = some (.int .i64 (z.pb : Int)) ∧ w'.cell? ⟨K.g, 3, none⟩ = some (.int .i64 K.sd) ∧ w'.cell? ⟨K.g, 6, none⟩ = some (.pointer (some ⟨K.wg, 0, none⟩)) ∧ w'.cell? ⟨K.g, 9, none⟩ = some (.int .i64 (z.out.length : Int)) ∧ w'.cell? ⟨K.g, 1862, none⟩ = some (.slice (some ⟨K.lb, 0, none⟩) K.nc K.nc))
        (first | assumption | go_keep | exact ⟨c0, c1, c2, c3, c6, c9, cl⟩ | exact HS.out _ HQ1.out)
        (first
          | (go_at_call 137; refine (KA.out _).mono ?_; rintro e wa ⟨rfl, na, rfl⟩)
          | (go_at_call 136; refine (KR.out _).mono ?_; rintro e w1 ⟨rfl, hq1⟩; have HQ1 := Lib.hid (show Only (fun _ => False) w w1 from Only.of_drewN hq1); clear hq1))
      have hz1 := HZ0.out.quiet HQ1.out
      have c10 := hz1.f.c10
      rw [← HST.out] at c10
      have c5 := hz1.f.c5
      have HO1 := Lib.hid (show Only K.own w w1 from HQ1.out.mono fun _ h => h.elim)
      have KT1 := Lib.hid (KT.out w1 hz1 (K.nc - a))
      clear KT hz1 KR KA HS HQ1 HZ0 c0 c1 c2 c3 c6 c9 cl
      go_wp2_with fail
      refine (KPA.out _).mono ?_
      rintro e w1' ⟨rfl, rfl⟩
      go_wp2_with fail
      refine KT1.out.mono ?_
      rintro e w2 ⟨rfl, hz2, ho2⟩
      have d10 := hz2.f.c10
      rw [← HST.out] at d10
      have x10 := hz2.f.fz 10
      have HO2 := Lib.hid (HO1.out.trans ho2)
      have HZ3 : Hid (Lw K (w2.setCell ⟨K.g, 10, none⟩ (.int .i64 ((litSt st : Nat) : Int))) Gw { z with st := litSt st } T2 left) := Lib.hid (hz2.put 10 (by decide) (.int .i64 ((litSt st : Nat) : Int)) (z' := { z with st := litSt st }) rfl rfl)
      have HO3 : Hid (Only K.own w (w2.setCell ⟨K.g, 10, none⟩ (.int .i64 ((litSt st : Nat) : Int)))) := Lib.hid (HO2.out.own_put 10 (.int .i64 ((litSt st : Nat) : Int)))
      clear hz2 ho2 KT1 c5 c10
      go_wp2_with fail
      refine (KS.out _).mono ?_
      rintro e w3 ⟨rfl, rfl⟩
      clear KS
      go_upto_region 7 with fail
      generalize w2.setCell ⟨K.g, 10, none⟩ (.int .i64 ((litSt st : Nat) : Int)) = w4 at *
      clear d10 x10
      have x5 := HZ3.out.f.c5
      have KQ := HZ3.out.isBad
      rw [live_bad HD.out] at KQ
      have KQ := Lib.hid KQ
      have KP1 := Lib.hid (KP.out w4 (UInt8.ofNat m) T2 HZ3.out)
      go_wp2_with fail
      refine KQ.out.mono ?_
      rintro e w5 ⟨rfl, rfl⟩
      clear KQ KP
      go_wp2_with fail
      refine KP1.out.mono ?_
      rintro e w6 ⟨rfl, G1, hz6, hn6, ho6⟩
      rw [HST.out] at hz6
      have HE := Lib.hid (And.intro hz6 (And.intro (show ∀ i, G1 i → Gw i ∨ w.heap.size ≤ i from fun i hi => by
        rcases hn6 i hi with h | h
        · exact .inl h
        · exact .inr (Nat.le_trans HO3.out.size h)) ((HO3.out.mono fun i hi => .inl hi).trans ho6)))
      clear hz6 hn6 ho6 KP1
      go_wp2_with fail
      go_ret2
      exact .inr ⟨HD.out, rfl, G1, HE.out.1, HE.out.2.1, HE.out.2.2⟩
end
end Go.Proofs.YtiolfjhddbiglaaGreatDoor
