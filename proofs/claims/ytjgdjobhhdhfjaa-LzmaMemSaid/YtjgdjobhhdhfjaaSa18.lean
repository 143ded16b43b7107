/-
  LwCome, LwMatch: put together.
-/
import Derived.Test.YtjgdjobhhdhfjaaSa17
import Derived.Deep.RegionLaw
import Derived.Deep.RegionHeld3
set_option linter.unusedVariables false
set_option linter.unusedSimpArgs false
/-
  The program's decoder of LZMA: a distance comes first.
-/
namespace Go.Proofs.Ytjgdjobhhdhfjaa
open Go.RowKit
section
variable {K : Kon} {w w' : World} {Gw : Nat → Prop} {z : Lzs} {t : Pm Dc} {left : Nat}

set_option maxRecDepth 100000 in
set_option maxHeartbeats 4000000 in
theorem lcome_1 (h : Lw K w Gw z t left) :
    Calls Try.prog 112 #[.pointer (some ⟨K.g, 11, none⟩), .int .i64 1] w (MidPost K w Gw (.tuple #[]) (z.again 1) t left) := by
  have hcp : (Builtin.copy_ #[168, 168] 3 #[.slice (some ⟨K.g, 12, none⟩) 1 3, .slice (some ⟨K.g, 11, none⟩) 1 4]).run Try.prog w.drew = .ok (goInt 1) ((w.drew).setCell ⟨K.g, 12, none⟩ (.int .u32 (z.r0 : Int))) := by
    refine copy_reps (W := w.drew) (g := K.g) (o := 11) (n := 1) (m := 1) (k := 4) [.int .u32 (z.r0 : Int)] rfl (fun i v hv => ?_) (fun i hi => ?_) (fun i => h.f.fz i) (by simp [Value.oneCell'])
    · match i, hv with
      | 0, hv => injection hv with hv; rw [← hv]; exact h.f.c11
    · match i, hi with
      | 0, _ => show (w.cell? ⟨K.g, 12, none⟩).isSome = true; rw [h.f.c12]; rfl
  have H0 : Lw K (w.drew) Gw (z) t left := h.drewN 1
  have H1 : Lw K ((w.drew).setCell ⟨K.g, 12, none⟩ (.int .u32 (z.r0 : Int))) Gw (({ z with r1 := z.r0 } : Lzs)) t left := H0.put 12 (by decide) _ rfl rfl
  have HF : Lw K (((w.drew).setCell ⟨K.g, 12, none⟩ (.int .u32 (z.r0 : Int))).setCell ⟨K.g, 11, none⟩ (.int .u32 (z.r1 : Int))) Gw (z.again 1) t left := H1.put 11 (by decide) _ rfl rfl
  have HO : Only K.own w (((w.drew).setCell ⟨K.g, 12, none⟩ (.int .u32 (z.r0 : Int))).setCell ⟨K.g, 11, none⟩ (.int .u32 (z.r1 : Int))) := by
    have h0 : Only K.own w w.drew := (Only.refl _ w).drew
    have h1 := Only.own_put h0 12 (.int .u32 (z.r0 : Int))
    exact Only.own_put h1 11 (.int .u32 (z.r1 : Int))
  have H := Lib.hid (And.intro HF HO)
  have c11 := h.f.c11
  have c12 := h.f.c12
  have c13 := h.f.c13
  have c14 := h.f.c14
  have z11 := h.f.fz 11
  have z12 := h.f.fz 12
  have z13 := h.f.fz 13
  have z14 := h.f.fz 14
  clear h HF HO H0 H1
  go_enter Try.func112, Try.ntmps112
  go_wp2_with fail
  go_region
  all_goals go_wp2_with fail
  first | go_end0 | refine bodyPost_ret (results_none rfl _ _ _) rfl ?_
  exact ⟨rfl, H.out.1, H.out.2⟩

set_option maxRecDepth 100000 in
set_option maxHeartbeats 4000000 in
theorem lcome_2 (h : Lw K w Gw z t left) :
    Calls Try.prog 112 #[.pointer (some ⟨K.g, 11, none⟩), .int .i64 2] w (MidPost K w Gw (.tuple #[]) (z.again 2) t left) := by
  have hcp : (Builtin.copy_ #[168, 168] 3 #[.slice (some ⟨K.g, 12, none⟩) 2 3, .slice (some ⟨K.g, 11, none⟩) 2 4]).run Try.prog w.drew = .ok (goInt 2) (((w.drew).setCell ⟨K.g, 12, none⟩ (.int .u32 (z.r0 : Int))).setCell ⟨K.g, 13, none⟩ (.int .u32 (z.r1 : Int))) := by
    refine copy_reps (W := w.drew) (g := K.g) (o := 11) (n := 2) (m := 2) (k := 4) [.int .u32 (z.r0 : Int), .int .u32 (z.r1 : Int)] rfl (fun i v hv => ?_) (fun i hi => ?_) (fun i => h.f.fz i) (by simp [Value.oneCell'])
    · match i, hv with
      | 0, hv => injection hv with hv; rw [← hv]; exact h.f.c11
      | 1, hv => injection hv with hv; rw [← hv]; exact h.f.c12
    · match i, hi with
      | 0, _ => show (w.cell? ⟨K.g, 12, none⟩).isSome = true; rw [h.f.c12]; rfl
      | 1, _ => show (w.cell? ⟨K.g, 13, none⟩).isSome = true; rw [h.f.c13]; rfl
  have H0 : Lw K (w.drew) Gw (z) t left := h.drewN 1
  have H1 : Lw K ((w.drew).setCell ⟨K.g, 12, none⟩ (.int .u32 (z.r0 : Int))) Gw (({ z with r1 := z.r0 } : Lzs)) t left := H0.put 12 (by decide) _ rfl rfl
  have H2 : Lw K (((w.drew).setCell ⟨K.g, 12, none⟩ (.int .u32 (z.r0 : Int))).setCell ⟨K.g, 13, none⟩ (.int .u32 (z.r1 : Int))) Gw (({ ({ z with r1 := z.r0 } : Lzs) with r2 := z.r1 } : Lzs)) t left := H1.put 13 (by decide) _ rfl rfl
  have HF : Lw K ((((w.drew).setCell ⟨K.g, 12, none⟩ (.int .u32 (z.r0 : Int))).setCell ⟨K.g, 13, none⟩ (.int .u32 (z.r1 : Int))).setCell ⟨K.g, 11, none⟩ (.int .u32 (z.r2 : Int))) Gw (z.again 2) t left := H2.put 11 (by decide) _ rfl rfl
  have HO : Only K.own w ((((w.drew).setCell ⟨K.g, 12, none⟩ (.int .u32 (z.r0 : Int))).setCell ⟨K.g, 13, none⟩ (.int .u32 (z.r1 : Int))).setCell ⟨K.g, 11, none⟩ (.int .u32 (z.r2 : Int))) := by
    have h0 : Only K.own w w.drew := (Only.refl _ w).drew
    have h1 := Only.own_put h0 12 (.int .u32 (z.r0 : Int))
    have h2 := Only.own_put h1 13 (.int .u32 (z.r1 : Int))
    exact Only.own_put h2 11 (.int .u32 (z.r2 : Int))
  have H := Lib.hid (And.intro HF HO)
  have c11 := h.f.c11
  have c12 := h.f.c12
  have c13 := h.f.c13
  have c14 := h.f.c14
  have z11 := h.f.fz 11
  have z12 := h.f.fz 12
  have z13 := h.f.fz 13
  have z14 := h.f.fz 14
  clear h HF HO H0 H1 H2
  go_enter Try.func112, Try.ntmps112
  go_wp2_with fail
  go_region
  all_goals go_wp2_with fail
  first | go_end0 | refine bodyPost_ret (results_none rfl _ _ _) rfl ?_
  exact ⟨rfl, H.out.1, H.out.2⟩

set_option maxRecDepth 100000 in
set_option maxHeartbeats 4000000 in
theorem lcome_3 (h : Lw K w Gw z t left) :
    Calls Try.prog 112 #[.pointer (some ⟨K.g, 11, none⟩), .int .i64 3] w (MidPost K w Gw (.tuple #[]) (z.again 3) t left) := by
  have hcp : (Builtin.copy_ #[168, 168] 3 #[.slice (some ⟨K.g, 12, none⟩) 3 3, .slice (some ⟨K.g, 11, none⟩) 3 4]).run Try.prog w.drew = .ok (goInt 3) ((((w.drew).setCell ⟨K.g, 12, none⟩ (.int .u32 (z.r0 : Int))).setCell ⟨K.g, 13, none⟩ (.int .u32 (z.r1 : Int))).setCell ⟨K.g, 14, none⟩ (.int .u32 (z.r2 : Int))) := by
    refine copy_reps (W := w.drew) (g := K.g) (o := 11) (n := 3) (m := 3) (k := 4) [.int .u32 (z.r0 : Int), .int .u32 (z.r1 : Int), .int .u32 (z.r2 : Int)] rfl (fun i v hv => ?_) (fun i hi => ?_) (fun i => h.f.fz i) (by simp [Value.oneCell'])
    · match i, hv with
      | 0, hv => injection hv with hv; rw [← hv]; exact h.f.c11
      | 1, hv => injection hv with hv; rw [← hv]; exact h.f.c12
      | 2, hv => injection hv with hv; rw [← hv]; exact h.f.c13
    · match i, hi with
      | 0, _ => show (w.cell? ⟨K.g, 12, none⟩).isSome = true; rw [h.f.c12]; rfl
      | 1, _ => show (w.cell? ⟨K.g, 13, none⟩).isSome = true; rw [h.f.c13]; rfl
      | 2, _ => show (w.cell? ⟨K.g, 14, none⟩).isSome = true; rw [h.f.c14]; rfl
  have H0 : Lw K (w.drew) Gw (z) t left := h.drewN 1
  have H1 : Lw K ((w.drew).setCell ⟨K.g, 12, none⟩ (.int .u32 (z.r0 : Int))) Gw (({ z with r1 := z.r0 } : Lzs)) t left := H0.put 12 (by decide) _ rfl rfl
  have H2 : Lw K (((w.drew).setCell ⟨K.g, 12, none⟩ (.int .u32 (z.r0 : Int))).setCell ⟨K.g, 13, none⟩ (.int .u32 (z.r1 : Int))) Gw (({ ({ z with r1 := z.r0 } : Lzs) with r2 := z.r1 } : Lzs)) t left := H1.put 13 (by decide) _ rfl rfl
  have H3 : Lw K ((((w.drew).setCell ⟨K.g, 12, none⟩ (.int .u32 (z.r0 : Int))).setCell ⟨K.g, 13, none⟩ (.int .u32 (z.r1 : Int))).setCell ⟨K.g, 14, none⟩ (.int .u32 (z.r2 : Int))) Gw (({ ({ ({ z with r1 := z.r0 } : Lzs) with r2 := z.r1 } : Lzs) with r3 := z.r2 } : Lzs)) t left := H2.put 14 (by decide) _ rfl rfl
  have HF : Lw K (((((w.drew).setCell ⟨K.g, 12, none⟩ (.int .u32 (z.r0 : Int))).setCell ⟨K.g, 13, none⟩ (.int .u32 (z.r1 : Int))).setCell ⟨K.g, 14, none⟩ (.int .u32 (z.r2 : Int))).setCell ⟨K.g, 11, none⟩ (.int .u32 (z.r3 : Int))) Gw (z.again 3) t left := H3.put 11 (by decide) _ rfl rfl
  have HO : Only K.own w (((((w.drew).setCell ⟨K.g, 12, none⟩ (.int .u32 (z.r0 : Int))).setCell ⟨K.g, 13, none⟩ (.int .u32 (z.r1 : Int))).setCell ⟨K.g, 14, none⟩ (.int .u32 (z.r2 : Int))).setCell ⟨K.g, 11, none⟩ (.int .u32 (z.r3 : Int))) := by
    have h0 : Only K.own w w.drew := (Only.refl _ w).drew
    have h1 := Only.own_put h0 12 (.int .u32 (z.r0 : Int))
    have h2 := Only.own_put h1 13 (.int .u32 (z.r1 : Int))
    have h3 := Only.own_put h2 14 (.int .u32 (z.r2 : Int))
    exact Only.own_put h3 11 (.int .u32 (z.r3 : Int))
  have H := Lib.hid (And.intro HF HO)
  have c11 := h.f.c11
  have c12 := h.f.c12
  have c13 := h.f.c13
  have c14 := h.f.c14
  have z11 := h.f.fz 11
  have z12 := h.f.fz 12
  have z13 := h.f.fz 13
  have z14 := h.f.fz 14
  clear h HF HO H0 H1 H2 H3
  go_enter Try.func112, Try.ntmps112
  go_wp2_with fail
  go_region
  all_goals go_wp2_with fail
  first | go_end0 | refine bodyPost_ret (results_none rfl _ _ _) rfl ?_
  exact ⟨rfl, H.out.1, H.out.2⟩

set_option maxRecDepth 100000 in
set_option maxHeartbeats 4000000 in
theorem lpush_any {d : Nat} (h : Lw K w Gw z t left) :
    Calls Try.prog 109 #[.pointer (some ⟨K.g, 11, none⟩), .int .u32 (d : Int)] w (MidPost K w Gw (.tuple #[]) (({ z with r0 := d, r1 := z.r0, r2 := z.r1, r3 := z.r2 } : Lzs)) t left) := by
  have hcp : (Builtin.copy_ #[168, 168] 3 #[.slice (some ⟨K.g, 12, none⟩) 3 3, .slice (some ⟨K.g, 11, none⟩) 4 4]).run Try.prog w.drew = .ok (goInt 3) ((((w.drew).setCell ⟨K.g, 12, none⟩ (.int .u32 (z.r0 : Int))).setCell ⟨K.g, 13, none⟩ (.int .u32 (z.r1 : Int))).setCell ⟨K.g, 14, none⟩ (.int .u32 (z.r2 : Int))) := by
    refine copy_reps (W := w.drew) (g := K.g) (o := 11) (n := 3) (m := 4) (k := 4) [.int .u32 (z.r0 : Int), .int .u32 (z.r1 : Int), .int .u32 (z.r2 : Int)] rfl (fun i v hv => ?_) (fun i hi => ?_) (fun i => h.f.fz i) (by simp [Value.oneCell'])
    · match i, hv with
      | 0, hv => injection hv with hv; rw [← hv]; exact h.f.c11
      | 1, hv => injection hv with hv; rw [← hv]; exact h.f.c12
      | 2, hv => injection hv with hv; rw [← hv]; exact h.f.c13
    · match i, hi with
      | 0, _ => show (w.cell? ⟨K.g, 12, none⟩).isSome = true; rw [h.f.c12]; rfl
      | 1, _ => show (w.cell? ⟨K.g, 13, none⟩).isSome = true; rw [h.f.c13]; rfl
      | 2, _ => show (w.cell? ⟨K.g, 14, none⟩).isSome = true; rw [h.f.c14]; rfl
  have H0 : Lw K (w.drew) Gw (z) t left := h.drewN 1
  have H1 : Lw K ((w.drew).setCell ⟨K.g, 12, none⟩ (.int .u32 (z.r0 : Int))) Gw (({ z with r1 := z.r0 } : Lzs)) t left := H0.put 12 (by decide) _ rfl rfl
  have H2 : Lw K (((w.drew).setCell ⟨K.g, 12, none⟩ (.int .u32 (z.r0 : Int))).setCell ⟨K.g, 13, none⟩ (.int .u32 (z.r1 : Int))) Gw (({ ({ z with r1 := z.r0 } : Lzs) with r2 := z.r1 } : Lzs)) t left := H1.put 13 (by decide) _ rfl rfl
  have H3 : Lw K ((((w.drew).setCell ⟨K.g, 12, none⟩ (.int .u32 (z.r0 : Int))).setCell ⟨K.g, 13, none⟩ (.int .u32 (z.r1 : Int))).setCell ⟨K.g, 14, none⟩ (.int .u32 (z.r2 : Int))) Gw (({ ({ ({ z with r1 := z.r0 } : Lzs) with r2 := z.r1 } : Lzs) with r3 := z.r2 } : Lzs)) t left := H2.put 14 (by decide) _ rfl rfl
  have HF : Lw K (((((w.drew).setCell ⟨K.g, 12, none⟩ (.int .u32 (z.r0 : Int))).setCell ⟨K.g, 13, none⟩ (.int .u32 (z.r1 : Int))).setCell ⟨K.g, 14, none⟩ (.int .u32 (z.r2 : Int))).setCell ⟨K.g, 11, none⟩ (.int .u32 (d : Int))) Gw (({ z with r0 := d, r1 := z.r0, r2 := z.r1, r3 := z.r2 } : Lzs)) t left := H3.put 11 (by decide) _ rfl rfl
  have HO : Only K.own w (((((w.drew).setCell ⟨K.g, 12, none⟩ (.int .u32 (z.r0 : Int))).setCell ⟨K.g, 13, none⟩ (.int .u32 (z.r1 : Int))).setCell ⟨K.g, 14, none⟩ (.int .u32 (z.r2 : Int))).setCell ⟨K.g, 11, none⟩ (.int .u32 (d : Int))) := by
    have h0 : Only K.own w w.drew := (Only.refl _ w).drew
    have h1 := Only.own_put h0 12 (.int .u32 (z.r0 : Int))
    have h2 := Only.own_put h1 13 (.int .u32 (z.r1 : Int))
    have h3 := Only.own_put h2 14 (.int .u32 (z.r2 : Int))
    exact Only.own_put h3 11 (.int .u32 (d : Int))
  have H := Lib.hid (And.intro HF HO)
  have c11 := h.f.c11
  have c12 := h.f.c12
  have c13 := h.f.c13
  have c14 := h.f.c14
  have z11 := h.f.fz 11
  have z12 := h.f.fz 12
  have z13 := h.f.fz 13
  have z14 := h.f.fz 14
  clear h HF HO H0 H1 H2 H3
  go_enter Try.func109, Try.ntmps109
  go_wp2_with fail
  go_region
  all_goals go_wp2_with fail
  first | go_end0 | refine bodyPost_ret (results_none rfl _ _ _) rfl ?_
  exact ⟨rfl, H.out.1, H.out.2⟩

theorem lcome_any {j : Nat} (h1 : 1 ≤ j) (h3 : j ≤ 3) (h : Lw K w Gw z t left) :
    Calls Try.prog 112 #[.pointer (some ⟨K.g, 11, none⟩), .int .i64 (j : Int)] w (MidPost K w Gw (.tuple #[]) (z.again j) t left) := by
  match j, h1, h3 with
  | 1, _, _ => exact lcome_1 h
  | 2, _, _ => exact lcome_2 h
  | 3, _, _ => exact lcome_3 h
end
end Go.Proofs.Ytjgdjobhhdhfjaa

/-
  The program's decoder of LZMA: a match with a new distance.
-/
namespace Go.Proofs.Ytjgdjobhhdhfjaa
open Go.RowKit

/-- a new distance comes first -/
def Lzs.fresh (z : Lzs) (d : Nat) : Lzs := { z with r0 := d, r1 := z.r0, r2 := z.r1, r3 := z.r2, st := aft 7 10 z.st, ended := decide (d = 4294967295) }
def MatchPost (K : Kon) (w : World) (Gw : Nat → Prop) (z : Lzs) (B : Nat × Pm Dc) (v : Nat) (left : Nat) (e : Ending) (w' : World) : Prop :=
  ∃ l d : Nat, MidPost K w Gw (.int .i64 ((l + 2 : Nat) : Int)) (z.fresh d) (distP decM B.2 B.1 v).2 left e w' ∧ l < 272 ∧ d < 4294967296 ∧ ((distP decM B.2 B.1 v).2.x ≠ none → l = B.1 ∧ d = (distP decM B.2 B.1 v).1)

section
variable {K : Kon} {w w' : World} {Gw : Nat → Prop} {z : Lzs} {t : Pm Dc} {left : Nat}

theorem dist_same {B : Nat × Pm Dc} {l v : Nat} (h : B.2.x ≠ none → l = B.1) : (distP decM B.2 l v).2 = (distP decM B.2 B.1 v).2 ∧ ((distP decM B.2 B.1 v).2.x ≠ none → l = B.1) := by
  by_cases hd : B.2.x = none
  · rw [distP_none hd, distP_none hd]
    exact ⟨rfl, fun h2 => absurd hd h2⟩
  · rw [h hd]
    exact ⟨rfl, fun _ => rfl⟩

set_option maxRecDepth 100000 in
set_option maxHeartbeats 4000000 in
theorem lmatch_any {s : Nat} (u : Int) (v : Nat) (h : Lw K w Gw z t left) (hp : z.pb ≤ 4) (ho : z.out.length ≤ 1000000) (hs : s = z.out.length % 2 ^ z.pb) (hv : v < 4294967296) :
    Calls Try.prog 83 #[.pointer (some ⟨K.g, 0, none⟩)] w (MatchPost K w Gw z (lenP decM t 819 s u) v left) := by
  have KL := Lib.hid (llen_any (A := 819) (o := 578) (v := u) h hp ho (by omega) (by omega) rfl hs)
  obtain ⟨B, hB⟩ : ∃ B, B = lenP decM t 819 s u := ⟨_, rfl⟩
  rw [← hB] at KL ⊢
  have HV := Lib.hid hv
  have HS := Lib.hid (fun (w1 : World) (h1 : Lw K w1 Gw z B.2 left) => (h1.put 10 (by decide) (.int .i64 ((aft 7 10 z.st : Nat) : Int)) (z' := { z with st := aft 7 10 z.st }) rfl rfl))
  obtain ⟨st, hst⟩ : ∃ st, st = z.st := ⟨_, rfl⟩
  have HST := Lib.hid hst
  clear h hp ho hs hB hv hst
  go_enter Try.func83, Try.ntmps83
  go_wp2_with fail
  refine KL.out.mono ?_
  rintro e w1 ⟨l, ⟨rfl, hz1, ho1⟩, hl, hlv⟩
  have HO1 := Lib.hid (ho1.own_put 10 (.int .i64 ((aft 7 10 z.st : Nat) : Int)))
  have HZ1 := Lib.hid (HS.out w1 hz1)
  have HLV := Lib.hid (And.intro hl hlv)
  have c10 := hz1.f.c10
  rw [← HST.out] at c10
  have z10 := hz1.f.fz 10
  have KC := Lib.hid (pmat_any st w1)
  have e1 : IntKind.i64.wrap ((l : Int) + 2) = ((l + 2 : Nat) : Int) := by rw [show (l : Int) + 2 = ((l + 2 : Nat) : Int) by omega]; exact IntWalk.i64_in _ (by omega)
  have HE1 := Lib.hid e1
  clear hz1 ho1 hl hlv KL HS e1
  go_wp2_with fail
  refine KC.out.mono ?_
  rintro e w2 ⟨rfl, rfl⟩
  clear KC
  go_wp2_with fail
  have ez : (Value.int .i64 ((aft 7 10 st : Nat) : Int)) = .int .i64 ((aft 7 10 z.st : Nat) : Int) := by rw [HST.out]
  rw [show w1.setCell ⟨K.g, 10, none⟩ (.int .i64 ((aft 7 10 st : Nat) : Int)) = w1.setCell ⟨K.g, fat 10, none⟩ (.int .i64 ((aft 7 10 z.st : Nat) : Int)) by rw [ez]; rfl]
  generalize w1.setCell ⟨K.g, fat 10, none⟩ (.int .i64 ((aft 7 10 z.st : Nat) : Int)) = w3 at *
  clear c10 z10 ez
  have KD := Lib.hid (fun n => ldist_any (l := l) v (HZ1.out.drewN n) (by have := HLV.out.1; omega) HV.out)
  have KP := Lib.hid (fun (w5 : World) (d : Nat) (t' : Pm Dc) (h5 : Lw K w5 Gw { z with st := aft 7 10 z.st } t' left) => lpush_any (d := d) h5)
  go_wp2_with fail
  go_region_held3 (fun _ => True) (first | trivial | assumption | go_keep)
    (first
      | (go_at_call 121; refine (KD.out _).mono ?_; rintro e w4 ⟨d, ⟨rfl, hz4, ho4⟩, hd, hdv⟩; have KQ := Lib.hid (KP.out w4 d _ hz4); have HO4 := Lib.hid (Only.of_drewN ho4); have HD := Lib.hid (And.intro hd hdv); clear hz4 ho4 hd hdv KP)
      | (go_at_call 109; refine KQ.out.mono ?_; rintro e w6 ⟨rfl, hz6, ho6⟩; have HZ6 := Lib.hid hz6; have HO6 := Lib.hid (HO1.out.trans (HO4.out.trans ho6)); clear hz6 ho6 KQ))
  have c11 := HZ6.out.f.c11
  have z64 := HZ6.out.f.fz 1864
  have c64 := HZ6.out.f.ended
  have HN := Lib.hid (HZ6.out.put 17 (by decide) (.bool (decide (d = 4294967295))) (z' := z.fresh d) rfl rfl)
  have HNO := Lib.hid (HO6.out.own_put 17 (.bool (decide (d = 4294967295))))
  clear KD HZ1 HO1
  have q1 : ((d : Int) == 4294967295) = decide (d = 4294967295) := by rw [Bool.eq_iff_iff]; simp; omega
  obtain ⟨b, hb⟩ : ∃ b, b = decide (d = 4294967295) := ⟨_, rfl⟩
  rw [← hb] at q1 HN HNO
  have HB := Lib.hid hb
  have e1 := HE1.out
  clear hb HE1
  go_wp2_with fail
  go_ret
  refine ⟨l, d, ⟨rfl, ?_, HNO.out⟩, HLV.out.1, HD.out.1, ?_⟩
  · have := HN.out
    rw [(dist_same HLV.out.2).1] at this
    exact this
  · have h2 := dist_same (v := v) HLV.out.2
    intro hx
    have hl := h2.2 hx
    refine ⟨hl, ?_⟩
    have h3 := HD.out.2 (by rw [h2.1]; exact hx)
    rw [h3, hl]
end
end Go.Proofs.Ytjgdjobhhdhfjaa
