/-
  CwCome, CwMove, CwKind: put together.
-/
import Derived.Test.YtjgdjobhhdhfjaaGreatQa15
import Derived.Test.YtjgdjobhhdhfjaaGreatQa08
import Derived.Deep.RegionLaw
import Derived.Test.YtjgdjobhhdhfjaaGreatQa17
import Derived.Test.YtjgdjobhhdhfjaaGreatQa16
set_option linter.unusedVariables false
set_option linter.unusedSimpArgs false
/-
  The program's coder of LZMA: a distance comes first.
-/
namespace Go.Proofs.YtjgdjobhhdhfjaaGreat
open Go.RowKit
section
variable {K : Koc} {w w' : World} {Ge : Option Nat} {A : Option Addr} {c : Nat} {z : Lzs} {k : Nat} {t : Pm En}

set_option maxRecDepth 100000 in
set_option maxHeartbeats 4000000 in
theorem ccome_1 (h : Cw K w Ge A c z k t) :
    Calls Tryz.prog 100 #[.pointer (some ⟨K.g, 7, none⟩), .int .i64 1] w (CMid K w Ge (.tuple #[]) A c (z.again 1) k t) := by
  have hcp : (Builtin.copy_ #[178, 178] 3 #[.slice (some ⟨K.g, 8, none⟩) 1 3, .slice (some ⟨K.g, 7, none⟩) 1 4]).run Tryz.prog w.drew = .ok (goInt 1) ((w.drew).setCell ⟨K.g, 8, none⟩ (.int .u32 (z.r0 : Int))) := by
    refine copy_reps (W := w.drew) (g := K.g) (o := 7) (n := 1) (m := 1) (k := 4) [.int .u32 (z.r0 : Int)] rfl (fun i v hv => ?_) (fun i hi => ?_) (fun i => h.f.fz i) (by simp [Value.oneCell'])
    · match i, hv with
      | 0, hv => injection hv with hv; rw [← hv]; exact h.f.c7
    · match i, hi with
      | 0, _ => show (w.cell? ⟨K.g, 8, none⟩).isSome = true; rw [h.f.c8]; rfl
  have H0 : Cw K (w.drew) Ge A c (z) k t := h.drewN 1
  have H1 : Cw K ((w.drew).setCell ⟨K.g, 8, none⟩ (.int .u32 (z.r0 : Int))) Ge A c (({ z with r1 := z.r0 } : Lzs)) k t := H0.put 8 (by decide) _ rfl rfl
  have HF : Cw K (((w.drew).setCell ⟨K.g, 8, none⟩ (.int .u32 (z.r0 : Int))).setCell ⟨K.g, 7, none⟩ (.int .u32 (z.r1 : Int))) Ge A c (z.again 1) k t := H1.put 7 (by decide) _ rfl rfl
  have HO : Only (K.own Ge) w (((w.drew).setCell ⟨K.g, 8, none⟩ (.int .u32 (z.r0 : Int))).setCell ⟨K.g, 7, none⟩ (.int .u32 (z.r1 : Int))) := by
    have h0 : Only (K.own Ge) w w.drew := (Only.refl _ w).drew
    have h1 := Only.cwn_put h0 8 (.int .u32 (z.r0 : Int))
    exact Only.cwn_put h1 7 (.int .u32 (z.r1 : Int))
  have H := Lib.hid (And.intro HF HO)
  have c7 := h.f.c7
  have c8 := h.f.c8
  have c9 := h.f.c9
  have c10 := h.f.c10
  have z7 := h.f.fz 7
  have z8 := h.f.fz 8
  have z9 := h.f.fz 9
  have z10 := h.f.fz 10
  clear h HF HO H0 H1
  go_enter Tryz.func100, Tryz.ntmps100
  go_wp2_with fail
  go_region
  all_goals go_wp2_with fail
  first | go_end0 | refine bodyPost_ret (results_none rfl _ _ _) rfl ?_
  exact ⟨rfl, Ge, H.out.1, Nwr.refl _ _, H.out.2⟩

set_option maxRecDepth 100000 in
set_option maxHeartbeats 4000000 in
theorem ccome_2 (h : Cw K w Ge A c z k t) :
    Calls Tryz.prog 100 #[.pointer (some ⟨K.g, 7, none⟩), .int .i64 2] w (CMid K w Ge (.tuple #[]) A c (z.again 2) k t) := by
  have hcp : (Builtin.copy_ #[178, 178] 3 #[.slice (some ⟨K.g, 8, none⟩) 2 3, .slice (some ⟨K.g, 7, none⟩) 2 4]).run Tryz.prog w.drew = .ok (goInt 2) (((w.drew).setCell ⟨K.g, 8, none⟩ (.int .u32 (z.r0 : Int))).setCell ⟨K.g, 9, none⟩ (.int .u32 (z.r1 : Int))) := by
    refine copy_reps (W := w.drew) (g := K.g) (o := 7) (n := 2) (m := 2) (k := 4) [.int .u32 (z.r0 : Int), .int .u32 (z.r1 : Int)] rfl (fun i v hv => ?_) (fun i hi => ?_) (fun i => h.f.fz i) (by simp [Value.oneCell'])
    · match i, hv with
      | 0, hv => injection hv with hv; rw [← hv]; exact h.f.c7
      | 1, hv => injection hv with hv; rw [← hv]; exact h.f.c8
    · match i, hi with
      | 0, _ => show (w.cell? ⟨K.g, 8, none⟩).isSome = true; rw [h.f.c8]; rfl
      | 1, _ => show (w.cell? ⟨K.g, 9, none⟩).isSome = true; rw [h.f.c9]; rfl
  have H0 : Cw K (w.drew) Ge A c (z) k t := h.drewN 1
  have H1 : Cw K ((w.drew).setCell ⟨K.g, 8, none⟩ (.int .u32 (z.r0 : Int))) Ge A c (({ z with r1 := z.r0 } : Lzs)) k t := H0.put 8 (by decide) _ rfl rfl
  have H2 : Cw K (((w.drew).setCell ⟨K.g, 8, none⟩ (.int .u32 (z.r0 : Int))).setCell ⟨K.g, 9, none⟩ (.int .u32 (z.r1 : Int))) Ge A c (({ ({ z with r1 := z.r0 } : Lzs) with r2 := z.r1 } : Lzs)) k t := H1.put 9 (by decide) _ rfl rfl
  have HF : Cw K ((((w.drew).setCell ⟨K.g, 8, none⟩ (.int .u32 (z.r0 : Int))).setCell ⟨K.g, 9, none⟩ (.int .u32 (z.r1 : Int))).setCell ⟨K.g, 7, none⟩ (.int .u32 (z.r2 : Int))) Ge A c (z.again 2) k t := H2.put 7 (by decide) _ rfl rfl
  have HO : Only (K.own Ge) w ((((w.drew).setCell ⟨K.g, 8, none⟩ (.int .u32 (z.r0 : Int))).setCell ⟨K.g, 9, none⟩ (.int .u32 (z.r1 : Int))).setCell ⟨K.g, 7, none⟩ (.int .u32 (z.r2 : Int))) := by
    have h0 : Only (K.own Ge) w w.drew := (Only.refl _ w).drew
    have h1 := Only.cwn_put h0 8 (.int .u32 (z.r0 : Int))
    have h2 := Only.cwn_put h1 9 (.int .u32 (z.r1 : Int))
    exact Only.cwn_put h2 7 (.int .u32 (z.r2 : Int))
  have H := Lib.hid (And.intro HF HO)
  have c7 := h.f.c7
  have c8 := h.f.c8
  have c9 := h.f.c9
  have c10 := h.f.c10
  have z7 := h.f.fz 7
  have z8 := h.f.fz 8
  have z9 := h.f.fz 9
  have z10 := h.f.fz 10
  clear h HF HO H0 H1 H2
  go_enter Tryz.func100, Tryz.ntmps100
  go_wp2_with fail
  go_region
  all_goals go_wp2_with fail
  first | go_end0 | refine bodyPost_ret (results_none rfl _ _ _) rfl ?_
  exact ⟨rfl, Ge, H.out.1, Nwr.refl _ _, H.out.2⟩

set_option maxRecDepth 100000 in
set_option maxHeartbeats 4000000 in
theorem ccome_3 (h : Cw K w Ge A c z k t) :
    Calls Tryz.prog 100 #[.pointer (some ⟨K.g, 7, none⟩), .int .i64 3] w (CMid K w Ge (.tuple #[]) A c (z.again 3) k t) := by
  have hcp : (Builtin.copy_ #[178, 178] 3 #[.slice (some ⟨K.g, 8, none⟩) 3 3, .slice (some ⟨K.g, 7, none⟩) 3 4]).run Tryz.prog w.drew = .ok (goInt 3) ((((w.drew).setCell ⟨K.g, 8, none⟩ (.int .u32 (z.r0 : Int))).setCell ⟨K.g, 9, none⟩ (.int .u32 (z.r1 : Int))).setCell ⟨K.g, 10, none⟩ (.int .u32 (z.r2 : Int))) := by
    refine copy_reps (W := w.drew) (g := K.g) (o := 7) (n := 3) (m := 3) (k := 4) [.int .u32 (z.r0 : Int), .int .u32 (z.r1 : Int), .int .u32 (z.r2 : Int)] rfl (fun i v hv => ?_) (fun i hi => ?_) (fun i => h.f.fz i) (by simp [Value.oneCell'])
    · match i, hv with
      | 0, hv => injection hv with hv; rw [← hv]; exact h.f.c7
      | 1, hv => injection hv with hv; rw [← hv]; exact h.f.c8
      | 2, hv => injection hv with hv; rw [← hv]; exact h.f.c9
    · match i, hi with
      | 0, _ => show (w.cell? ⟨K.g, 8, none⟩).isSome = true; rw [h.f.c8]; rfl
      | 1, _ => show (w.cell? ⟨K.g, 9, none⟩).isSome = true; rw [h.f.c9]; rfl
      | 2, _ => show (w.cell? ⟨K.g, 10, none⟩).isSome = true; rw [h.f.c10]; rfl
  have H0 : Cw K (w.drew) Ge A c (z) k t := h.drewN 1
  have H1 : Cw K ((w.drew).setCell ⟨K.g, 8, none⟩ (.int .u32 (z.r0 : Int))) Ge A c (({ z with r1 := z.r0 } : Lzs)) k t := H0.put 8 (by decide) _ rfl rfl
  have H2 : Cw K (((w.drew).setCell ⟨K.g, 8, none⟩ (.int .u32 (z.r0 : Int))).setCell ⟨K.g, 9, none⟩ (.int .u32 (z.r1 : Int))) Ge A c (({ ({ z with r1 := z.r0 } : Lzs) with r2 := z.r1 } : Lzs)) k t := H1.put 9 (by decide) _ rfl rfl
  have H3 : Cw K ((((w.drew).setCell ⟨K.g, 8, none⟩ (.int .u32 (z.r0 : Int))).setCell ⟨K.g, 9, none⟩ (.int .u32 (z.r1 : Int))).setCell ⟨K.g, 10, none⟩ (.int .u32 (z.r2 : Int))) Ge A c (({ ({ ({ z with r1 := z.r0 } : Lzs) with r2 := z.r1 } : Lzs) with r3 := z.r2 } : Lzs)) k t := H2.put 10 (by decide) _ rfl rfl
  have HF : Cw K (((((w.drew).setCell ⟨K.g, 8, none⟩ (.int .u32 (z.r0 : Int))).setCell ⟨K.g, 9, none⟩ (.int .u32 (z.r1 : Int))).setCell ⟨K.g, 10, none⟩ (.int .u32 (z.r2 : Int))).setCell ⟨K.g, 7, none⟩ (.int .u32 (z.r3 : Int))) Ge A c (z.again 3) k t := H3.put 7 (by decide) _ rfl rfl
  have HO : Only (K.own Ge) w (((((w.drew).setCell ⟨K.g, 8, none⟩ (.int .u32 (z.r0 : Int))).setCell ⟨K.g, 9, none⟩ (.int .u32 (z.r1 : Int))).setCell ⟨K.g, 10, none⟩ (.int .u32 (z.r2 : Int))).setCell ⟨K.g, 7, none⟩ (.int .u32 (z.r3 : Int))) := by
    have h0 : Only (K.own Ge) w w.drew := (Only.refl _ w).drew
    have h1 := Only.cwn_put h0 8 (.int .u32 (z.r0 : Int))
    have h2 := Only.cwn_put h1 9 (.int .u32 (z.r1 : Int))
    have h3 := Only.cwn_put h2 10 (.int .u32 (z.r2 : Int))
    exact Only.cwn_put h3 7 (.int .u32 (z.r3 : Int))
  have H := Lib.hid (And.intro HF HO)
  have c7 := h.f.c7
  have c8 := h.f.c8
  have c9 := h.f.c9
  have c10 := h.f.c10
  have z7 := h.f.fz 7
  have z8 := h.f.fz 8
  have z9 := h.f.fz 9
  have z10 := h.f.fz 10
  clear h HF HO H0 H1 H2 H3
  go_enter Tryz.func100, Tryz.ntmps100
  go_wp2_with fail
  go_region
  all_goals go_wp2_with fail
  first | go_end0 | refine bodyPost_ret (results_none rfl _ _ _) rfl ?_
  exact ⟨rfl, Ge, H.out.1, Nwr.refl _ _, H.out.2⟩

set_option maxRecDepth 100000 in
set_option maxHeartbeats 4000000 in
theorem cpush_any {d : Nat} (h : Cw K w Ge A c z k t) :
    Calls Tryz.prog 97 #[.pointer (some ⟨K.g, 7, none⟩), .int .u32 (d : Int)] w (CMid K w Ge (.tuple #[]) A c (({ z with r0 := d, r1 := z.r0, r2 := z.r1, r3 := z.r2 } : Lzs)) k t) := by
  have hcp : (Builtin.copy_ #[178, 178] 3 #[.slice (some ⟨K.g, 8, none⟩) 3 3, .slice (some ⟨K.g, 7, none⟩) 4 4]).run Tryz.prog w.drew = .ok (goInt 3) ((((w.drew).setCell ⟨K.g, 8, none⟩ (.int .u32 (z.r0 : Int))).setCell ⟨K.g, 9, none⟩ (.int .u32 (z.r1 : Int))).setCell ⟨K.g, 10, none⟩ (.int .u32 (z.r2 : Int))) := by
    refine copy_reps (W := w.drew) (g := K.g) (o := 7) (n := 3) (m := 4) (k := 4) [.int .u32 (z.r0 : Int), .int .u32 (z.r1 : Int), .int .u32 (z.r2 : Int)] rfl (fun i v hv => ?_) (fun i hi => ?_) (fun i => h.f.fz i) (by simp [Value.oneCell'])
    · match i, hv with
      | 0, hv => injection hv with hv; rw [← hv]; exact h.f.c7
      | 1, hv => injection hv with hv; rw [← hv]; exact h.f.c8
      | 2, hv => injection hv with hv; rw [← hv]; exact h.f.c9
    · match i, hi with
      | 0, _ => show (w.cell? ⟨K.g, 8, none⟩).isSome = true; rw [h.f.c8]; rfl
      | 1, _ => show (w.cell? ⟨K.g, 9, none⟩).isSome = true; rw [h.f.c9]; rfl
      | 2, _ => show (w.cell? ⟨K.g, 10, none⟩).isSome = true; rw [h.f.c10]; rfl
  have H0 : Cw K (w.drew) Ge A c (z) k t := h.drewN 1
  have H1 : Cw K ((w.drew).setCell ⟨K.g, 8, none⟩ (.int .u32 (z.r0 : Int))) Ge A c (({ z with r1 := z.r0 } : Lzs)) k t := H0.put 8 (by decide) _ rfl rfl
  have H2 : Cw K (((w.drew).setCell ⟨K.g, 8, none⟩ (.int .u32 (z.r0 : Int))).setCell ⟨K.g, 9, none⟩ (.int .u32 (z.r1 : Int))) Ge A c (({ ({ z with r1 := z.r0 } : Lzs) with r2 := z.r1 } : Lzs)) k t := H1.put 9 (by decide) _ rfl rfl
  have H3 : Cw K ((((w.drew).setCell ⟨K.g, 8, none⟩ (.int .u32 (z.r0 : Int))).setCell ⟨K.g, 9, none⟩ (.int .u32 (z.r1 : Int))).setCell ⟨K.g, 10, none⟩ (.int .u32 (z.r2 : Int))) Ge A c (({ ({ ({ z with r1 := z.r0 } : Lzs) with r2 := z.r1 } : Lzs) with r3 := z.r2 } : Lzs)) k t := H2.put 10 (by decide) _ rfl rfl
  have HF : Cw K (((((w.drew).setCell ⟨K.g, 8, none⟩ (.int .u32 (z.r0 : Int))).setCell ⟨K.g, 9, none⟩ (.int .u32 (z.r1 : Int))).setCell ⟨K.g, 10, none⟩ (.int .u32 (z.r2 : Int))).setCell ⟨K.g, 7, none⟩ (.int .u32 (d : Int))) Ge A c (({ z with r0 := d, r1 := z.r0, r2 := z.r1, r3 := z.r2 } : Lzs)) k t := H3.put 7 (by decide) _ rfl rfl
  have HO : Only (K.own Ge) w (((((w.drew).setCell ⟨K.g, 8, none⟩ (.int .u32 (z.r0 : Int))).setCell ⟨K.g, 9, none⟩ (.int .u32 (z.r1 : Int))).setCell ⟨K.g, 10, none⟩ (.int .u32 (z.r2 : Int))).setCell ⟨K.g, 7, none⟩ (.int .u32 (d : Int))) := by
    have h0 : Only (K.own Ge) w w.drew := (Only.refl _ w).drew
    have h1 := Only.cwn_put h0 8 (.int .u32 (z.r0 : Int))
    have h2 := Only.cwn_put h1 9 (.int .u32 (z.r1 : Int))
    have h3 := Only.cwn_put h2 10 (.int .u32 (z.r2 : Int))
    exact Only.cwn_put h3 7 (.int .u32 (d : Int))
  have H := Lib.hid (And.intro HF HO)
  have c7 := h.f.c7
  have c8 := h.f.c8
  have c9 := h.f.c9
  have c10 := h.f.c10
  have z7 := h.f.fz 7
  have z8 := h.f.fz 8
  have z9 := h.f.fz 9
  have z10 := h.f.fz 10
  clear h HF HO H0 H1 H2 H3
  go_enter Tryz.func97, Tryz.ntmps97
  go_wp2_with fail
  go_region
  all_goals go_wp2_with fail
  first | go_end0 | refine bodyPost_ret (results_none rfl _ _ _) rfl ?_
  exact ⟨rfl, Ge, H.out.1, Nwr.refl _ _, H.out.2⟩

theorem ccome_any {j : Nat} (h1 : 1 ≤ j) (h3 : j ≤ 3) (h : Cw K w Ge A c z k t) :
    Calls Tryz.prog 100 #[.pointer (some ⟨K.g, 7, none⟩), .int .i64 (j : Int)] w (CMid K w Ge (.tuple #[]) A c (z.again j) k t) := by
  match j, h1, h3 with
  | 1, _, _ => exact ccome_1 h
  | 2, _, _ => exact ccome_2 h
  | 3, _, _ => exact ccome_3 h
set_option maxRecDepth 100000 in
set_option maxHeartbeats 4000000 in
theorem ccome_0 (h : Cw K w Ge A c z k t) :
    Calls Tryz.prog 100 #[.pointer (some ⟨K.g, 7, none⟩), .int .i64 0] w (CMid K w Ge (.tuple #[]) A c (z.again 0) k t) := by
  have hcp : (Builtin.copy_ #[178, 178] 3 #[.slice (some ⟨K.g, 8, none⟩) 0 3, .slice (some ⟨K.g, 7, none⟩) 0 4]).run Tryz.prog w.drew = .ok (goInt 0) w.drew := by
    refine copy_reps (W := w.drew) (g := K.g) (o := 7) (n := 0) (m := 0) (k := 4) [] rfl (fun i v hv => by cases hv) (fun i hi => absurd hi (Nat.not_lt_zero i)) (fun i => h.f.fz i) (by simp)
  have H0 : Cw K (w.drew) Ge A c (z) k t := h.drewN 1
  have HF : Cw K ((w.drew).setCell ⟨K.g, 7, none⟩ (.int .u32 (z.r0 : Int))) Ge A c (z.again 0) k t := H0.put 7 (by decide) _ rfl rfl
  have HO : Only (K.own Ge) w ((w.drew).setCell ⟨K.g, 7, none⟩ (.int .u32 (z.r0 : Int))) := by
    have h0 : Only (K.own Ge) w w.drew := (Only.refl _ w).drew
    exact Only.cwn_put h0 7 (.int .u32 (z.r0 : Int))
  have H := Lib.hid (And.intro HF HO)
  have c7 := h.f.c7
  have c8 := h.f.c8
  have z7 := h.f.fz 7
  have z8 := h.f.fz 8
  clear h HF HO H0
  go_enter Tryz.func100, Tryz.ntmps100
  go_wp2_with fail
  go_region
  all_goals go_wp2_with fail
  first | go_end0 | refine bodyPost_ret (results_none rfl _ _ _) rfl ?_
  exact ⟨rfl, Ge, H.out.1, Nwr.refl _ _, H.out.2⟩
theorem ccome_all {j : Nat} (h3 : j ≤ 3) (h : Cw K w Ge A c z k t) :
    Calls Tryz.prog 100 #[.pointer (some ⟨K.g, 7, none⟩), .int .i64 (j : Int)] w (CMid K w Ge (.tuple #[]) A c (z.again j) k t) := by
  match j, h3 with
  | 0, _ => exact ccome_0 h
  | j + 1, h3 => exact ccome_any (by omega) h3 h
end
end Go.Proofs.YtjgdjobhhdhfjaaGreat

/-
  The program's coder of LZMA: a match, a length by an elder distance, copied bytes.
-/
namespace Go.Proofs.YtjgdjobhhdhfjaaGreat
open Go.RowKit

section
variable {K : Koc} {w w' : World} {Ge Ge' : Option Nat} {A' : Option Addr} {c : Nat} {z : Lzs} {k : Nat} {t : Pm En}

set_option maxRecDepth 100000 in
set_option maxHeartbeats 8000000 in
/-- The coder codes a length and a new distance. -/
theorem cmatch_any {n d s : Nat} (h : Cw K w Ge A' c z (k + 22) t) (hp : z.pb ≤ 4) (ho : z.out.length ≤ 1000000) (hs : s = z.out.length % 2 ^ z.pb) (hn : 2 ≤ n) (hn2 : n ≤ 273) (hd : d < 4294967296) :
    Calls Tryz.prog 47 #[.pointer (some ⟨K.g, 0, none⟩), .int .i64 (n : Int), .int .u32 (d : Int)] w (CMid K w Ge (.tuple #[]) A' c { z with r0 := d, r1 := z.r0, r2 := z.r1, r3 := z.r2, st := aft 7 10 z.st } k (distP encM (lenP encM t 819 s ((n - 2 : Nat) : Int)).2 (n - 2) d).2) := by
  obtain ⟨l, hl⟩ : ∃ l, l = n - 2 := ⟨_, rfl⟩
  rw [← hl]
  have e1 : IntKind.i64.wrap ((n : Int) - 2) = (l : Int) := by rw [show (n : Int) - 2 = (l : Int) by omega]; exact IntWalk.i64_in _ (by omega)
  have KL := Lib.hid (clenc_any (k := k + 12) (A := 819) (o := 574) (v := l) h hp ho (by decide) (by decide) (by decide) hs (by omega))
  obtain ⟨T, hT⟩ : ∃ T, T = (lenP encM t 819 s (l : Int)).2 := ⟨_, rfl⟩
  rw [← hT] at KL ⊢
  obtain ⟨st, hst⟩ : ∃ st, st = z.st := ⟨_, rfl⟩
  have HST := Lib.hid hst
  have HD := Lib.hid hd
  clear h hp ho hs hn hn2 hl hT hst hd
  go_enter Tryz.func47, Tryz.ntmps47
  go_wp2_with fail
  refine KL.out.mono ?_
  rintro e w1 ⟨rfl, G1, hz1, hn1, ho1⟩
  have c6 := hz1.f.c6
  rw [← HST.out] at c6
  have z6 := hz1.f.fz 6
  have KC := Lib.hid (pmat_any st w1)
  have HZ2 : Hid (Cw K (w1.setCell ⟨K.g, 6, none⟩ (.int .i64 ((aft 7 10 st : Nat) : Int))) G1 A' c { z with st := aft 7 10 st } (k + 12) T) := Lib.hid (hz1.put 6 (by decide) (.int .i64 ((aft 7 10 st : Nat) : Int)) (z' := { z with st := aft 7 10 st }) rfl rfl)
  have HN2 := Lib.hid hn1
  have HO2 : Hid (Only (K.own Ge) w (w1.setCell ⟨K.g, 6, none⟩ (.int .i64 ((aft 7 10 st : Nat) : Int)))) := Lib.hid (ho1.cwn_put 6 _)
  clear hz1 hn1 ho1 KL
  go_wp2_with fail
  refine KC.out.mono ?_
  rintro e w2 ⟨rfl, rfl⟩
  clear KC
  go_upto_region 3 with fail
  generalize w1.setCell ⟨K.g, 6, none⟩ (.int .i64 ((aft 7 10 st : Nat) : Int)) = w3 at *
  clear c6 z6
  have KD := Lib.hid (cdist_any (l := l) HZ2.out HD.out)
  go_wp2_with fail
  refine KD.out.mono ?_
  rintro e w4 ⟨rfl, G4, hz4, hn4, ho4⟩
  have KP := Lib.hid (cpush_any (d := d) hz4)
  have HN4 := Lib.hid (HN2.out.trans hn4 HO2.out.size)
  have HO4 := Lib.hid (cset_trans HO2.out HN2.out ho4)
  clear hz4 hn4 ho4 KD HZ2 HN2 HO2
  go_wp2_with fail
  refine KP.out.mono ?_
  rintro e w5 ⟨rfl, G5, hz5, hn5, ho5⟩
  have HZ5 := Lib.hid hz5
  have HN5 := Lib.hid (HN4.out.trans hn5 HO4.out.size)
  have HO5 := Lib.hid (cset_trans HO4.out HN4.out ho5)
  clear hz5 hn5 ho5 KP HN4 HO4
  go_wp2_with fail
  first | go_end0 | refine bodyPost_ret (results_none rfl _ _ _) rfl ?_
  have := HZ5.out
  rw [HST.out] at this
  exact ⟨rfl, G5, this, HN5.out, HO5.out⟩

set_option maxRecDepth 100000 in
set_option maxHeartbeats 8000000 in
/-- The coder codes a length; an elder distance comes first. -/
theorem cagain_any {n j s : Nat} (h : Cw K w Ge A' c z (k + 10) t) (hp : z.pb ≤ 4) (ho : z.out.length ≤ 1000000) (hs : s = z.out.length % 2 ^ z.pb) (hn : 2 ≤ n) (hn2 : n ≤ 273) (hj : j ≤ 3) :
    Calls Tryz.prog 50 #[.pointer (some ⟨K.g, 0, none⟩), .int .i64 (j : Int), .int .i64 (n : Int)] w (CMid K w Ge (.tuple #[]) A' c { z.again j with st := aft 8 11 z.st } k (lenP encM t 1333 s ((n - 2 : Nat) : Int)).2) := by
  obtain ⟨l, hl⟩ : ∃ l, l = n - 2 := ⟨_, rfl⟩
  rw [← hl]
  have e1 : IntKind.i64.wrap ((n : Int) - 2) = (l : Int) := by rw [show (n : Int) - 2 = (l : Int) by omega]; exact IntWalk.i64_in _ (by omega)
  have KL := Lib.hid (clenc_any (k := k) (A := 1333) (o := 1088) (v := l) h hp ho (by decide) (by decide) (by decide) hs (by omega))
  obtain ⟨T, hT⟩ : ∃ T, T = (lenP encM t 1333 s (l : Int)).2 := ⟨_, rfl⟩
  rw [← hT] at KL ⊢
  obtain ⟨st, hst⟩ : ∃ st, st = z.st := ⟨_, rfl⟩
  have HST := Lib.hid hst
  have HJ := Lib.hid hj
  clear h hp ho hs hn hn2 hl hT hst hj
  go_enter Tryz.func50, Tryz.ntmps50
  go_wp2_with fail
  refine KL.out.mono ?_
  rintro e w1 ⟨rfl, G1, hz1, hn1, ho1⟩
  have c6 := hz1.f.c6
  rw [← HST.out] at c6
  have z6 := hz1.f.fz 6
  have KC := Lib.hid (pag_any st w1)
  have HZ2 : Hid (Cw K (w1.setCell ⟨K.g, 6, none⟩ (.int .i64 ((aft 8 11 st : Nat) : Int))) G1 A' c { z with st := aft 8 11 st } k T) := Lib.hid (hz1.put 6 (by decide) (.int .i64 ((aft 8 11 st : Nat) : Int)) (z' := { z with st := aft 8 11 st }) rfl rfl)
  have HN2 := Lib.hid hn1
  have HO2 : Hid (Only (K.own Ge) w (w1.setCell ⟨K.g, 6, none⟩ (.int .i64 ((aft 8 11 st : Nat) : Int)))) := Lib.hid (ho1.cwn_put 6 _)
  clear hz1 hn1 ho1 KL
  go_wp2_with fail
  refine KC.out.mono ?_
  rintro e w2 ⟨rfl, rfl⟩
  clear KC
  go_upto_region 2 with fail
  generalize w1.setCell ⟨K.g, 6, none⟩ (.int .i64 ((aft 8 11 st : Nat) : Int)) = w3 at *
  clear c6 z6
  have KP := Lib.hid (ccome_all HJ.out HZ2.out)
  go_wp2_with fail
  refine KP.out.mono ?_
  rintro e w5 ⟨rfl, G5, hz5, hn5, ho5⟩
  have HZ5 := Lib.hid hz5
  have HN5 := Lib.hid (HN2.out.trans hn5 HO2.out.size)
  have HO5 := Lib.hid (cset_trans HO2.out HN2.out ho5)
  clear hz5 hn5 ho5 KP HN2 HO2
  go_wp2_with fail
  first | go_end0 | refine bodyPost_ret (results_none rfl _ _ _) rfl ?_
  have hz := HZ5.out
  rw [HST.out] at hz
  exact ⟨rfl, G5, hz, HN5.out, HO5.out⟩

theorem copyN_succ : ∀ (j : Nat) (z : Lzs), copyN (j + 1) z = (copyN j z).push ((copyN j z).back (copyN j z).r0)
  | 0, _ => rfl
  | j + 1, z => by
    show copyN (j + 1) (z.push (z.back z.r0)) = _
    rw [copyN_succ j (z.push (z.back z.r0))]
    rfl
theorem copyN_r0 : ∀ (j : Nat) (z : Lzs), (copyN j z).r0 = z.r0
  | 0, _ => rfl
  | j + 1, z => copyN_r0 j (z.push (z.back z.r0))

set_option maxRecDepth 100000 in
set_option maxHeartbeats 8000000 in
/-- So many bytes at the first distance are told. -/
theorem ccopies_any {n : Nat} (h : Cw K w Ge A' c z k t) (hn : n ≤ 1000) (ho : z.out.length ≤ 900000) (hr0 : z.r0 < 4294967296) :
    Calls Tryz.prog 48 #[.pointer (some ⟨K.g, 0, none⟩), .int .i64 (n : Int)] w (CPut K w Ge (tb A' z.out.length c) (.tuple #[]) (copyN n z) k t) := by
  obtain ⟨i, hi, hz0, hz1, hz2⟩ := info_parts info_u8
  have HH := Lib.hid (And.intro hn (And.intro ho hr0))
  have HZ := Lib.hid h
  have HNT := Lib.hid (Nwr.refl w (tb A' z.out.length c))
  clear h hn ho hr0
  go_enter Tryz.func48, Tryz.ntmps48
  go_wp2_with fail
  go_loopw [5] (fun i wr => ∃ (j : Nat) (A1 : Option Addr) (c1 : Nat), j ≤ n ∧ i = .int .i64 (j : Int) ∧ Cw K wr Ge A1 c1 (copyN j z) k t ∧ Nwr w (tb A' z.out.length c) (tb A1 (copyN j z).out.length c1) ∧ Only (K.all Ge (tb A' z.out.length c)) w wr) (fun i _ => n - (intOf i).toNat)
  case atStart => exact ⟨0, A', c, Nat.zero_le _, rfl, HZ.out, HNT.out, Only.refl _ _⟩
  case round =>
    clear HZ HNT
    obtain ⟨j, A1, c1, hj, rfl, hz, hnt, ho⟩ := hrel
    obtain ⟨hn, hout, hr0⟩ := HH.out
    by_cases hlt : j < n
    · obtain ⟨k1, k2, k3, k4⟩ := copyN_keep j z
      have hsucc := copyN_succ j z
      have hr1 := copyN_r0 j z
      obtain ⟨y, hy⟩ : ∃ y, y = copyN j z := ⟨_, rfl⟩
      rw [← hy] at hz hnt k3 hsucc hr1
      have hyr : y.r0 < 4294967296 := by rw [hr1]; exact hr0
      have hyl : y.out.length ≤ 901000 := by omega
      have KA := Lib.hid (fun n => cat_any (hz.drewN n) hyr (by omega))
      obtain ⟨b, hb⟩ : ∃ b, b = y.back y.r0 := ⟨_, rfl⟩
      rw [← hb] at KA hsucc
      have c5 := hz.f.c5
      have c7 := hz.f.c7
      have i1 : (j : Int) < (n : Int) := by omega
      have HSU := Lib.hid hsucc
      have HO := Lib.hid ho
      have HN := Lib.hid hnt
      have HPU := Lib.hid (fun (w1 w3 : World) (A2 : Option Addr) (c2 : Nat) (h1 : Only (fun _ => False) wr w1) => Cw.pushed (w1 := w1) (w3 := w3) (A2 := A2) (c2 := c2) (x := b) hz h1)
      have HL := Lib.hid (show y.out.length ≤ 901000 by omega)
      have HOW := Lib.hid (fun (m : Nat) (o : Obj) => World.ownsRow.alloc (show (wr.drewN m).ownsRow 0 5 1 (.slice A1 y.out.length c1) y.out.length (bv y.out) from hz.told) o)
      have HNW := Lib.hid (fun (m : Nat) (u : Value) => (sl_one (wr.drewN m) 5 u).news)
      have c5a : ∀ (m : Nat) (o : Obj), ((wr.drewN m).alloc o).cell? ⟨K.g, 5, none⟩ = some (.slice A1 y.out.length c1) := fun m o => (hz.quiet (((Only.refl _ wr).drewN m).alloc o)).f.c5
      have c7a : ∀ (m : Nat) (o : Obj), ((wr.drewN m).alloc o).cell? ⟨K.g, 7, none⟩ = some (.int .u32 (y.r0 : Int)) := fun m o => (hz.quiet (((Only.refl _ wr).drewN m).alloc o)).f.c7
      have z5 := hz.f.fz 5
      clear hz hnt ho k1 k2 k3 k4 hsucc hr1 hyr hyl hb hy hout hr0
      go_wp2_with fail
      go_region_law (first
        | (go_simp; go_at_call 89; refine (KA.out _).mono ?_; rintro e wa ⟨rfl, na, rfl⟩)
        | (refine step_append_lies _ rfl (.tmp 11) (.tmp 19) 22 rfl 0 5 i _ 1 1 Tryz.underlying22 hi hz0 hz1 hz2 rfl (by omega) _ y.out.length (bv y.out) rfl (HOW.out _ _) _ 1 1 [.int .u8 (b.toNat : Int)] rfl rfl (HNW.out _ _) (one_one _ _) (by omega) (by have := HL.out; unfold maxLen; omega) (by have := HL.out; omega) (Nat.zero_le _) _ rfl ?_; intro q' c' w3 hod hgd hqd hql3; obtain ⟨d5, f5, d7, hp⟩ := HPU.out _ w3 (some ⟨q', 0, none⟩) c' (((Only.refl (fun _ => False) wr).drewN _).alloc _) hod hgd (hqd.imp (fun h => h.symm) (fun h => congrArg some h)); have HP := Lib.hid hp; clear hod hgd hqd hp))
      all_goals
        have HZ3 := Lib.hid HP.out.1
        have HN3 := Lib.hid (HN.out.trans HP.out.2.1 HO.out.size)
        have HO3 := Lib.hid (HO.out.trans' HP.out.2.2 (fun i hi => by
          rcases hi with hi | hi
          · exact .inl (.inl hi)
          · rcases HN.out i hi with e | e
            · exact .inl (.inr e)
            · exact .inr e))
        clear KA HPU HOW HNW c5 c7 c5a c7a z5 HP d5 f5 d7
        go_wp2_with fail
        go_roundw
        case rel => exact ⟨j + 1, _, _, by omega, by go_num, by rw [HSU.out]; exact HZ3.out, by rw [HSU.out]; exact HN3.out, HO3.out⟩
        case measure => simp [intOf]; omega
    · obtain rfl : j = n := by omega
      have HZ := Lib.hid hz
      have HN := Lib.hid hnt
      have HO := Lib.hid ho
      clear hz hnt ho hn hout hr0
      go_wp2_with fail
      first | go_end0 | refine bodyPost_ret (results_none rfl _ _ _) rfl ?_
      exact ⟨rfl, Ge, A1, c1, HZ.out, Nwr.refl _ _, HN.out, HO.out⟩
end
end Go.Proofs.YtjgdjobhhdhfjaaGreat

/-
  The program's coder of LZMA: which packet it is.
-/
namespace Go.Proofs.YtjgdjobhhdhfjaaGreat
open Go.RowKit

section
variable {K : Koc} {w w' : World} {Ge Ge' : Option Nat} {A' : Option Addr} {c : Nat} {z : Lzs} {k : Nat} {t : Pm En}

theorem kindE_0 {s : Nat} {em : Bool} : (kindP encM t em z.st s 0).2.2 = (bitP encM t (16 * z.st + s) 0).2 := by
  unfold kindP kd1
  rfl

set_option maxRecDepth 100000 in
set_option maxHeartbeats 8000000 in
theorem ckind_0 {s : Nat} (h : Cw K w Ge A' c z (k + 5) t) (hst : z.st ≤ 11) (hp : z.pb ≤ 4) (ho : z.out.length ≤ 1000000) (hs : s = z.out.length % 2 ^ z.pb) :
    Calls Tryz.prog 45 #[.pointer (some ⟨K.g, 0, none⟩), .int .i64 0] w (CMid K w Ge (.tuple #[]) A' c z k (kindP encM t (decide (z.out.length = 0)) z.st s 0).2.2) := by
  rw [kindE_0]
  have hs15 : s ≤ 15 := by rw [hs]; exact mod_pb hp
  have KP := fun n => cplace_q h hp ho n
  rw [← hs] at KP
  have KP := Lib.hid KP
  have HAD := Lib.hid (And.intro (show K.ad (16 * z.st + s) = (K.g, 11 + z.st * 16 + s) from K.lay.low (by omega) (by omega)) (And.intro (show K.ad (240 + 16 * z.st + s) = (K.g, 203 + z.st * 16 + s) from K.lay.long (by omega) (by omega) (by omega)) (And.intro (show K.ad (192 + z.st) = (K.g, 395 + z.st) from K.lay.rep (by omega) (by omega) (by omega)) (And.intro (show K.ad (204 + z.st) = (K.g, 407 + z.st) from K.lay.rep (by omega) (by omega) (by omega)) (And.intro (show K.ad (216 + z.st) = (K.g, 419 + z.st) from K.lay.rep (by omega) (by omega) (by omega)) (show K.ad (228 + z.st) = (K.g, 431 + z.st) from K.lay.rep (by omega) (by omega) (by omega)))))))
  have HL := Lib.hid (And.intro hst hs15)
  have HZ0 := Lib.hid h
  have HN0 := Lib.hid (Nwr.refl w Ge)
  have HO0 := Lib.hid (Only.refl (K.own Ge) w)
  have i1 : (z.st : Int) < 12 := by omega
  have i0 : (0 : Int) ≤ (z.st : Int) := by omega
  have j1 : (s : Int) < 16 := by omega
  have j0 : (0 : Int) ≤ (s : Int) := by omega
  have c6 := h.f.c6
  clear h hs hp ho hs15 hst
  go_enter Tryz.func45, Tryz.ntmps45
  go_wp2_with fail
  go_region_held3 (fun _ => True) (first | trivial | assumption | go_keep) (first | (go_at_call 85; refine (KP.out _).mono ?_; rintro e w1 ⟨rfl, hq⟩; have HQ := Lib.hid hq; clear hq))
  have HZ1 := Lib.hid (HZ0.out.quiet HQ.out)
  have HN1 := HN0
  have HO1 := Lib.hid (show Only (K.own Ge) w w1 from HQ.out.mono fun _ h => h.elim)
  have c6 := HZ1.out.f.c6
  clear HQ KP HZ0 HN0 HO0
  go_wp2_with fail
  go_region
  all_goals go_wp2_with fail
  go_region
  have HZ1 : Hid (Cw K w1.drew.drew Ge A' c z (k + 5) t) := Lib.hid (HZ1.out.drewN 2)
  have HO1 : Hid (Only (K.own Ge) w w1.drew.drew) := Lib.hid (HO1.out.drewN 2)
  clear c6
  generalize w1.drew.drew = w1x at *
  have c4 := HZ1.out.f.c4
  have KC := Lib.hid (HZ1.out.bit0 (k := k + 4) (a := 16 * z.st + s) (b := K.g) (i := 11 + z.st * 16 + s) HAD.out.1 (by have := HL.out; omega))
  go_wp2_with fail
  refine KC.out.mono ?_
  rintro e w2 ⟨rfl, G2, hz2, hn2, ho2⟩
  have HZ2 := Lib.hid hz2
  have HN2 := Lib.hid (HN1.out.trans hn2 HO1.out.size)
  have HO2 := Lib.hid (cset_trans HO1.out HN1.out (ho2))
  have f4 := hz2.f.c4
  clear hz2 hn2 ho2
  clear KC c4 f4
  clear HZ1 HN1 HO1
  go_wp2_with fail
  first | go_end0 | refine bodyPost_ret (results_none rfl _ _ _) rfl ?_
  exact ⟨rfl, G2, HZ2.out.less (by omega), HN2.out, HO2.out⟩

theorem kindE_1 {s : Nat} {em : Bool} : (kindP encM t em z.st s 1).2.2 = (bitP encM (bitP encM t (16 * z.st + s) 1).2 (192 + z.st) 0).2 := by
  unfold kindP kd1 kd2
  rfl

set_option maxRecDepth 100000 in
set_option maxHeartbeats 8000000 in
theorem ckind_1 {s : Nat} (h : Cw K w Ge A' c z (k + 5) t) (hst : z.st ≤ 11) (hp : z.pb ≤ 4) (ho : z.out.length ≤ 1000000) (hs : s = z.out.length % 2 ^ z.pb) :
    Calls Tryz.prog 45 #[.pointer (some ⟨K.g, 0, none⟩), .int .i64 1] w (CMid K w Ge (.tuple #[]) A' c z k (kindP encM t (decide (z.out.length = 0)) z.st s 1).2.2) := by
  rw [kindE_1]
  have hs15 : s ≤ 15 := by rw [hs]; exact mod_pb hp
  have KP := fun n => cplace_q h hp ho n
  rw [← hs] at KP
  have KP := Lib.hid KP
  have HAD := Lib.hid (And.intro (show K.ad (16 * z.st + s) = (K.g, 11 + z.st * 16 + s) from K.lay.low (by omega) (by omega)) (And.intro (show K.ad (240 + 16 * z.st + s) = (K.g, 203 + z.st * 16 + s) from K.lay.long (by omega) (by omega) (by omega)) (And.intro (show K.ad (192 + z.st) = (K.g, 395 + z.st) from K.lay.rep (by omega) (by omega) (by omega)) (And.intro (show K.ad (204 + z.st) = (K.g, 407 + z.st) from K.lay.rep (by omega) (by omega) (by omega)) (And.intro (show K.ad (216 + z.st) = (K.g, 419 + z.st) from K.lay.rep (by omega) (by omega) (by omega)) (show K.ad (228 + z.st) = (K.g, 431 + z.st) from K.lay.rep (by omega) (by omega) (by omega)))))))
  have HL := Lib.hid (And.intro hst hs15)
  have HZ0 := Lib.hid h
  have HN0 := Lib.hid (Nwr.refl w Ge)
  have HO0 := Lib.hid (Only.refl (K.own Ge) w)
  have i1 : (z.st : Int) < 12 := by omega
  have i0 : (0 : Int) ≤ (z.st : Int) := by omega
  have j1 : (s : Int) < 16 := by omega
  have j0 : (0 : Int) ≤ (s : Int) := by omega
  have c6 := h.f.c6
  clear h hs hp ho hs15 hst
  go_enter Tryz.func45, Tryz.ntmps45
  go_wp2_with fail
  go_region_held3 (fun _ => True) (first | trivial | assumption | go_keep) (first | (go_at_call 85; refine (KP.out _).mono ?_; rintro e w1 ⟨rfl, hq⟩; have HQ := Lib.hid hq; clear hq))
  have HZ1 := Lib.hid (HZ0.out.quiet HQ.out)
  have HN1 := HN0
  have HO1 := Lib.hid (show Only (K.own Ge) w w1 from HQ.out.mono fun _ h => h.elim)
  have c6 := HZ1.out.f.c6
  clear HQ KP HZ0 HN0 HO0
  go_wp2_with fail
  go_region
  all_goals go_wp2_with fail
  go_region
  have HZ1 : Hid (Cw K w1.drew.drew Ge A' c z (k + 5) t) := Lib.hid (HZ1.out.drewN 2)
  have HO1 : Hid (Only (K.own Ge) w w1.drew.drew) := Lib.hid (HO1.out.drewN 2)
  clear c6
  generalize w1.drew.drew = w1x at *
  have c4 := HZ1.out.f.c4
  have KC := Lib.hid ((HZ1.out.ones (k := k + 4) (n := 1) (al := [16 * z.st + s]) (cs := #[.pointer (some ⟨K.g, 11 + z.st * 16 + s, none⟩)]) (T := 146) rfl (by decide) (by intro a ha; simp at ha; have := HL.out; omega) (by simp [HAD.out.1])))
  go_wp2_with fail
  refine KC.out.mono ?_
  rintro e w2 ⟨rfl, G2, hz2, hn2, ho2⟩
  have HZ2 := Lib.hid hz2
  have HN2 := Lib.hid (HN1.out.trans hn2 HO1.out.size)
  have HO2 := Lib.hid (cset_trans HO1.out HN1.out (ho2))
  have f4 := hz2.f.c4
  clear hz2 hn2 ho2
  clear KC c4 f4
  clear HZ1 HN1 HO1
  have c4 := HZ2.out.f.c4
  have KC := Lib.hid (HZ2.out.bit0 (k := k + 3) (a := 192 + z.st) (b := K.g) (i := 395 + z.st) HAD.out.2.2.1 (by have := HL.out; omega))
  go_wp2_with fail
  refine KC.out.mono ?_
  rintro e w3 ⟨rfl, G3, hz3, hn3, ho3⟩
  have HZ3 := Lib.hid hz3
  have HN3 := Lib.hid (HN2.out.trans hn3 HO2.out.size)
  have HO3 := Lib.hid (cset_trans HO2.out HN2.out (ho3))
  have f4 := hz3.f.c4
  clear hz3 hn3 ho3
  clear KC c4 f4
  clear HZ2 HN2 HO2
  go_wp2_with fail
  first | go_end0 | refine bodyPost_ret (results_none rfl _ _ _) rfl ?_
  exact ⟨rfl, G3, HZ3.out.less (by omega), HN3.out, HO3.out⟩

theorem kindE_7 {s : Nat} {em : Bool} : (kindP encM t em z.st s 7).2.2 = (bitP encM (bitP encM t (16 * z.st + s) 1).2 (192 + z.st) 0).2 := by
  unfold kindP kd1 kd2
  rfl

set_option maxRecDepth 100000 in
set_option maxHeartbeats 8000000 in
theorem ckind_7 {s : Nat} (h : Cw K w Ge A' c z (k + 5) t) (hst : z.st ≤ 11) (hp : z.pb ≤ 4) (ho : z.out.length ≤ 1000000) (hs : s = z.out.length % 2 ^ z.pb) :
    Calls Tryz.prog 45 #[.pointer (some ⟨K.g, 0, none⟩), .int .i64 7] w (CMid K w Ge (.tuple #[]) A' c z k (kindP encM t (decide (z.out.length = 0)) z.st s 7).2.2) := by
  rw [kindE_7]
  have hs15 : s ≤ 15 := by rw [hs]; exact mod_pb hp
  have KP := fun n => cplace_q h hp ho n
  rw [← hs] at KP
  have KP := Lib.hid KP
  have HAD := Lib.hid (And.intro (show K.ad (16 * z.st + s) = (K.g, 11 + z.st * 16 + s) from K.lay.low (by omega) (by omega)) (And.intro (show K.ad (240 + 16 * z.st + s) = (K.g, 203 + z.st * 16 + s) from K.lay.long (by omega) (by omega) (by omega)) (And.intro (show K.ad (192 + z.st) = (K.g, 395 + z.st) from K.lay.rep (by omega) (by omega) (by omega)) (And.intro (show K.ad (204 + z.st) = (K.g, 407 + z.st) from K.lay.rep (by omega) (by omega) (by omega)) (And.intro (show K.ad (216 + z.st) = (K.g, 419 + z.st) from K.lay.rep (by omega) (by omega) (by omega)) (show K.ad (228 + z.st) = (K.g, 431 + z.st) from K.lay.rep (by omega) (by omega) (by omega)))))))
  have HL := Lib.hid (And.intro hst hs15)
  have HZ0 := Lib.hid h
  have HN0 := Lib.hid (Nwr.refl w Ge)
  have HO0 := Lib.hid (Only.refl (K.own Ge) w)
  have i1 : (z.st : Int) < 12 := by omega
  have i0 : (0 : Int) ≤ (z.st : Int) := by omega
  have j1 : (s : Int) < 16 := by omega
  have j0 : (0 : Int) ≤ (s : Int) := by omega
  have c6 := h.f.c6
  clear h hs hp ho hs15 hst
  go_enter Tryz.func45, Tryz.ntmps45
  go_wp2_with fail
  go_region_held3 (fun _ => True) (first | trivial | assumption | go_keep) (first | (go_at_call 85; refine (KP.out _).mono ?_; rintro e w1 ⟨rfl, hq⟩; have HQ := Lib.hid hq; clear hq))
  have HZ1 := Lib.hid (HZ0.out.quiet HQ.out)
  have HN1 := HN0
  have HO1 := Lib.hid (show Only (K.own Ge) w w1 from HQ.out.mono fun _ h => h.elim)
  have c6 := HZ1.out.f.c6
  clear HQ KP HZ0 HN0 HO0
  go_wp2_with fail
  go_region
  all_goals go_wp2_with fail
  go_region
  have HZ1 : Hid (Cw K w1.drew.drew Ge A' c z (k + 5) t) := Lib.hid (HZ1.out.drewN 2)
  have HO1 : Hid (Only (K.own Ge) w w1.drew.drew) := Lib.hid (HO1.out.drewN 2)
  clear c6
  generalize w1.drew.drew = w1x at *
  have c4 := HZ1.out.f.c4
  have KC := Lib.hid ((HZ1.out.ones (k := k + 4) (n := 1) (al := [16 * z.st + s]) (cs := #[.pointer (some ⟨K.g, 11 + z.st * 16 + s, none⟩)]) (T := 146) rfl (by decide) (by intro a ha; simp at ha; have := HL.out; omega) (by simp [HAD.out.1])))
  go_wp2_with fail
  refine KC.out.mono ?_
  rintro e w2 ⟨rfl, G2, hz2, hn2, ho2⟩
  have HZ2 := Lib.hid hz2
  have HN2 := Lib.hid (HN1.out.trans hn2 HO1.out.size)
  have HO2 := Lib.hid (cset_trans HO1.out HN1.out (ho2))
  have f4 := hz2.f.c4
  clear hz2 hn2 ho2
  clear KC c4 f4
  clear HZ1 HN1 HO1
  have c4 := HZ2.out.f.c4
  have KC := Lib.hid (HZ2.out.bit0 (k := k + 3) (a := 192 + z.st) (b := K.g) (i := 395 + z.st) HAD.out.2.2.1 (by have := HL.out; omega))
  go_wp2_with fail
  refine KC.out.mono ?_
  rintro e w3 ⟨rfl, G3, hz3, hn3, ho3⟩
  have HZ3 := Lib.hid hz3
  have HN3 := Lib.hid (HN2.out.trans hn3 HO2.out.size)
  have HO3 := Lib.hid (cset_trans HO2.out HN2.out (ho3))
  have f4 := hz3.f.c4
  clear hz3 hn3 ho3
  clear KC c4 f4
  clear HZ2 HN2 HO2
  go_wp2_with fail
  first | go_end0 | refine bodyPost_ret (results_none rfl _ _ _) rfl ?_
  exact ⟨rfl, G3, HZ3.out.less (by omega), HN3.out, HO3.out⟩

theorem kindE_6 {s : Nat} {em : Bool} (hem : em = false) : (kindP encM t em z.st s 6).2.2 = (bitP encM (bitP encM (bitP encM (bitP encM t (16 * z.st + s) 1).2 (192 + z.st) 1).2 (204 + z.st) 0).2 (240 + 16 * z.st + s) 0).2 := by
  subst hem
  unfold kindP kd1 kd2 kd3 kdL
  rfl

set_option maxRecDepth 100000 in
set_option maxHeartbeats 8000000 in
theorem ckind_6 {s : Nat} (h : Cw K w Ge A' c z (k + 5) t) (hst : z.st ≤ 11) (hp : z.pb ≤ 4) (ho : z.out.length ≤ 1000000) (hem : z.out.length ≠ 0) (hs : s = z.out.length % 2 ^ z.pb) :
    Calls Tryz.prog 45 #[.pointer (some ⟨K.g, 0, none⟩), .int .i64 6] w (CMid K w Ge (.tuple #[]) A' c z k (kindP encM t (decide (z.out.length = 0)) z.st s 6).2.2) := by
  rw [kindE_6 (decide_eq_false hem)]
  have hs15 : s ≤ 15 := by rw [hs]; exact mod_pb hp
  have KP := fun n => cplace_q h hp ho n
  rw [← hs] at KP
  have KP := Lib.hid KP
  have HAD := Lib.hid (And.intro (show K.ad (16 * z.st + s) = (K.g, 11 + z.st * 16 + s) from K.lay.low (by omega) (by omega)) (And.intro (show K.ad (240 + 16 * z.st + s) = (K.g, 203 + z.st * 16 + s) from K.lay.long (by omega) (by omega) (by omega)) (And.intro (show K.ad (192 + z.st) = (K.g, 395 + z.st) from K.lay.rep (by omega) (by omega) (by omega)) (And.intro (show K.ad (204 + z.st) = (K.g, 407 + z.st) from K.lay.rep (by omega) (by omega) (by omega)) (And.intro (show K.ad (216 + z.st) = (K.g, 419 + z.st) from K.lay.rep (by omega) (by omega) (by omega)) (show K.ad (228 + z.st) = (K.g, 431 + z.st) from K.lay.rep (by omega) (by omega) (by omega)))))))
  have HL := Lib.hid (And.intro hst hs15)
  have HZ0 := Lib.hid h
  have HN0 := Lib.hid (Nwr.refl w Ge)
  have HO0 := Lib.hid (Only.refl (K.own Ge) w)
  have i1 : (z.st : Int) < 12 := by omega
  have i0 : (0 : Int) ≤ (z.st : Int) := by omega
  have j1 : (s : Int) < 16 := by omega
  have j0 : (0 : Int) ≤ (s : Int) := by omega
  have c6 := h.f.c6
  clear h hs hp ho hs15 hst hem
  go_enter Tryz.func45, Tryz.ntmps45
  go_wp2_with fail
  go_region_held3 (fun _ => True) (first | trivial | assumption | go_keep) (first | (go_at_call 85; refine (KP.out _).mono ?_; rintro e w1 ⟨rfl, hq⟩; have HQ := Lib.hid hq; clear hq))
  have HZ1 := Lib.hid (HZ0.out.quiet HQ.out)
  have HN1 := HN0
  have HO1 := Lib.hid (show Only (K.own Ge) w w1 from HQ.out.mono fun _ h => h.elim)
  have c6 := HZ1.out.f.c6
  clear HQ KP HZ0 HN0 HO0
  go_wp2_with fail
  go_region
  all_goals go_wp2_with fail
  go_region
  have HZ1 : Hid (Cw K w1.drew.drew Ge A' c z (k + 5) t) := Lib.hid (HZ1.out.drewN 2)
  have HO1 : Hid (Only (K.own Ge) w w1.drew.drew) := Lib.hid (HO1.out.drewN 2)
  clear c6
  generalize w1.drew.drew = w1x at *
  have c4 := HZ1.out.f.c4
  have KC := Lib.hid ((HZ1.out.ones (k := k + 3) (n := 2) (al := [16 * z.st + s, 192 + z.st]) (cs := #[.pointer (some ⟨K.g, 11 + z.st * 16 + s, none⟩), .pointer (some ⟨K.g, 395 + z.st, none⟩)]) (T := 146) rfl (by decide) (by intro a ha; simp at ha; have := HL.out; omega) (by simp [HAD.out.1, HAD.out.2.2.1])))
  go_wp2_with fail
  refine KC.out.mono ?_
  rintro e w2 ⟨rfl, G2, hz2, hn2, ho2⟩
  have HZ2 := Lib.hid hz2
  have HN2 := Lib.hid (HN1.out.trans hn2 HO1.out.size)
  have HO2 := Lib.hid (cset_trans HO1.out HN1.out (ho2))
  have f4 := hz2.f.c4
  clear hz2 hn2 ho2
  clear KC c4 f4
  clear HZ1 HN1 HO1
  have c4 := HZ2.out.f.c4
  have KC := Lib.hid (HZ2.out.bit0 (k := k + 2) (a := 204 + z.st) (b := K.g) (i := 407 + z.st) HAD.out.2.2.2.1 (by have := HL.out; omega))
  go_wp2_with fail
  refine KC.out.mono ?_
  rintro e w3 ⟨rfl, G3, hz3, hn3, ho3⟩
  have HZ3 := Lib.hid hz3
  have HN3 := Lib.hid (HN2.out.trans hn3 HO2.out.size)
  have HO3 := Lib.hid (cset_trans HO2.out HN2.out (ho3))
  have f4 := hz3.f.c4
  clear hz3 hn3 ho3
  clear KC c4 f4
  clear HZ2 HN2 HO2
  have c4 := HZ3.out.f.c4
  have KC := Lib.hid (HZ3.out.bit0 (k := k + 1) (a := 240 + 16 * z.st + s) (b := K.g) (i := 203 + z.st * 16 + s) HAD.out.2.1 (by have := HL.out; omega))
  go_wp2_with fail
  refine KC.out.mono ?_
  rintro e w4 ⟨rfl, G4, hz4, hn4, ho4⟩
  have HZ4 := Lib.hid hz4
  have HN4 := Lib.hid (HN3.out.trans hn4 HO3.out.size)
  have HO4 := Lib.hid (cset_trans HO3.out HN3.out (ho4))
  have f4 := hz4.f.c4
  clear hz4 hn4 ho4
  clear KC c4 f4
  clear HZ3 HN3 HO3
  go_wp2_with fail
  first | go_end0 | refine bodyPost_ret (results_none rfl _ _ _) rfl ?_
  exact ⟨rfl, G4, HZ4.out.less (by omega), HN4.out, HO4.out⟩

theorem kindE_2 {s : Nat} {em : Bool} (hem : em = false) : (kindP encM t em z.st s 2).2.2 = (bitP encM (bitP encM (bitP encM (bitP encM t (16 * z.st + s) 1).2 (192 + z.st) 1).2 (204 + z.st) 0).2 (240 + 16 * z.st + s) 1).2 := by
  subst hem
  unfold kindP kd1 kd2 kd3 kdL
  rfl

set_option maxRecDepth 100000 in
set_option maxHeartbeats 8000000 in
theorem ckind_2 {s : Nat} (h : Cw K w Ge A' c z (k + 5) t) (hst : z.st ≤ 11) (hp : z.pb ≤ 4) (ho : z.out.length ≤ 1000000) (hem : z.out.length ≠ 0) (hs : s = z.out.length % 2 ^ z.pb) :
    Calls Tryz.prog 45 #[.pointer (some ⟨K.g, 0, none⟩), .int .i64 2] w (CMid K w Ge (.tuple #[]) A' c z k (kindP encM t (decide (z.out.length = 0)) z.st s 2).2.2) := by
  rw [kindE_2 (decide_eq_false hem)]
  have hs15 : s ≤ 15 := by rw [hs]; exact mod_pb hp
  have KP := fun n => cplace_q h hp ho n
  rw [← hs] at KP
  have KP := Lib.hid KP
  have HAD := Lib.hid (And.intro (show K.ad (16 * z.st + s) = (K.g, 11 + z.st * 16 + s) from K.lay.low (by omega) (by omega)) (And.intro (show K.ad (240 + 16 * z.st + s) = (K.g, 203 + z.st * 16 + s) from K.lay.long (by omega) (by omega) (by omega)) (And.intro (show K.ad (192 + z.st) = (K.g, 395 + z.st) from K.lay.rep (by omega) (by omega) (by omega)) (And.intro (show K.ad (204 + z.st) = (K.g, 407 + z.st) from K.lay.rep (by omega) (by omega) (by omega)) (And.intro (show K.ad (216 + z.st) = (K.g, 419 + z.st) from K.lay.rep (by omega) (by omega) (by omega)) (show K.ad (228 + z.st) = (K.g, 431 + z.st) from K.lay.rep (by omega) (by omega) (by omega)))))))
  have HL := Lib.hid (And.intro hst hs15)
  have HZ0 := Lib.hid h
  have HN0 := Lib.hid (Nwr.refl w Ge)
  have HO0 := Lib.hid (Only.refl (K.own Ge) w)
  have i1 : (z.st : Int) < 12 := by omega
  have i0 : (0 : Int) ≤ (z.st : Int) := by omega
  have j1 : (s : Int) < 16 := by omega
  have j0 : (0 : Int) ≤ (s : Int) := by omega
  have c6 := h.f.c6
  clear h hs hp ho hs15 hst hem
  go_enter Tryz.func45, Tryz.ntmps45
  go_wp2_with fail
  go_region_held3 (fun _ => True) (first | trivial | assumption | go_keep) (first | (go_at_call 85; refine (KP.out _).mono ?_; rintro e w1 ⟨rfl, hq⟩; have HQ := Lib.hid hq; clear hq))
  have HZ1 := Lib.hid (HZ0.out.quiet HQ.out)
  have HN1 := HN0
  have HO1 := Lib.hid (show Only (K.own Ge) w w1 from HQ.out.mono fun _ h => h.elim)
  have c6 := HZ1.out.f.c6
  clear HQ KP HZ0 HN0 HO0
  go_wp2_with fail
  go_region
  all_goals go_wp2_with fail
  go_region
  have HZ1 : Hid (Cw K w1.drew.drew Ge A' c z (k + 5) t) := Lib.hid (HZ1.out.drewN 2)
  have HO1 : Hid (Only (K.own Ge) w w1.drew.drew) := Lib.hid (HO1.out.drewN 2)
  clear c6
  generalize w1.drew.drew = w1x at *
  have c4 := HZ1.out.f.c4
  have KC := Lib.hid ((HZ1.out.ones (k := k + 3) (n := 2) (al := [16 * z.st + s, 192 + z.st]) (cs := #[.pointer (some ⟨K.g, 11 + z.st * 16 + s, none⟩), .pointer (some ⟨K.g, 395 + z.st, none⟩)]) (T := 146) rfl (by decide) (by intro a ha; simp at ha; have := HL.out; omega) (by simp [HAD.out.1, HAD.out.2.2.1])))
  go_wp2_with fail
  refine KC.out.mono ?_
  rintro e w2 ⟨rfl, G2, hz2, hn2, ho2⟩
  have HZ2 := Lib.hid hz2
  have HN2 := Lib.hid (HN1.out.trans hn2 HO1.out.size)
  have HO2 := Lib.hid (cset_trans HO1.out HN1.out (ho2))
  have f4 := hz2.f.c4
  clear hz2 hn2 ho2
  clear KC c4 f4
  clear HZ1 HN1 HO1
  have c4 := HZ2.out.f.c4
  have KC := Lib.hid (HZ2.out.bit0 (k := k + 2) (a := 204 + z.st) (b := K.g) (i := 407 + z.st) HAD.out.2.2.2.1 (by have := HL.out; omega))
  go_wp2_with fail
  refine KC.out.mono ?_
  rintro e w3 ⟨rfl, G3, hz3, hn3, ho3⟩
  have HZ3 := Lib.hid hz3
  have HN3 := Lib.hid (HN2.out.trans hn3 HO2.out.size)
  have HO3 := Lib.hid (cset_trans HO2.out HN2.out (ho3))
  have f4 := hz3.f.c4
  clear hz3 hn3 ho3
  clear KC c4 f4
  clear HZ2 HN2 HO2
  have c4 := HZ3.out.f.c4
  have KC := Lib.hid (HZ3.out.bit1 (k := k + 1) (a := 240 + 16 * z.st + s) (b := K.g) (i := 203 + z.st * 16 + s) HAD.out.2.1 (by have := HL.out; omega))
  go_wp2_with fail
  refine KC.out.mono ?_
  rintro e w4 ⟨rfl, G4, hz4, hn4, ho4⟩
  have HZ4 := Lib.hid hz4
  have HN4 := Lib.hid (HN3.out.trans hn4 HO3.out.size)
  have HO4 := Lib.hid (cset_trans HO3.out HN3.out (ho4))
  have f4 := hz4.f.c4
  clear hz4 hn4 ho4
  clear KC c4 f4
  clear HZ3 HN3 HO3
  go_wp2_with fail
  first | go_end0 | refine bodyPost_ret (results_none rfl _ _ _) rfl ?_
  exact ⟨rfl, G4, HZ4.out.less (by omega), HN4.out, HO4.out⟩

theorem kindE_3 {s : Nat} {em : Bool} (hem : em = false) : (kindP encM t em z.st s 3).2.2 = (bitP encM (bitP encM (bitP encM (bitP encM t (16 * z.st + s) 1).2 (192 + z.st) 1).2 (204 + z.st) 1).2 (216 + z.st) 0).2 := by
  subst hem
  unfold kindP kd1 kd2 kd3 kd4
  rfl

set_option maxRecDepth 100000 in
set_option maxHeartbeats 8000000 in
theorem ckind_3 {s : Nat} (h : Cw K w Ge A' c z (k + 5) t) (hst : z.st ≤ 11) (hp : z.pb ≤ 4) (ho : z.out.length ≤ 1000000) (hem : z.out.length ≠ 0) (hs : s = z.out.length % 2 ^ z.pb) :
    Calls Tryz.prog 45 #[.pointer (some ⟨K.g, 0, none⟩), .int .i64 3] w (CMid K w Ge (.tuple #[]) A' c z k (kindP encM t (decide (z.out.length = 0)) z.st s 3).2.2) := by
  rw [kindE_3 (decide_eq_false hem)]
  have hs15 : s ≤ 15 := by rw [hs]; exact mod_pb hp
  have KP := fun n => cplace_q h hp ho n
  rw [← hs] at KP
  have KP := Lib.hid KP
  have HAD := Lib.hid (And.intro (show K.ad (16 * z.st + s) = (K.g, 11 + z.st * 16 + s) from K.lay.low (by omega) (by omega)) (And.intro (show K.ad (240 + 16 * z.st + s) = (K.g, 203 + z.st * 16 + s) from K.lay.long (by omega) (by omega) (by omega)) (And.intro (show K.ad (192 + z.st) = (K.g, 395 + z.st) from K.lay.rep (by omega) (by omega) (by omega)) (And.intro (show K.ad (204 + z.st) = (K.g, 407 + z.st) from K.lay.rep (by omega) (by omega) (by omega)) (And.intro (show K.ad (216 + z.st) = (K.g, 419 + z.st) from K.lay.rep (by omega) (by omega) (by omega)) (show K.ad (228 + z.st) = (K.g, 431 + z.st) from K.lay.rep (by omega) (by omega) (by omega)))))))
  have HL := Lib.hid (And.intro hst hs15)
  have HZ0 := Lib.hid h
  have HN0 := Lib.hid (Nwr.refl w Ge)
  have HO0 := Lib.hid (Only.refl (K.own Ge) w)
  have i1 : (z.st : Int) < 12 := by omega
  have i0 : (0 : Int) ≤ (z.st : Int) := by omega
  have j1 : (s : Int) < 16 := by omega
  have j0 : (0 : Int) ≤ (s : Int) := by omega
  have c6 := h.f.c6
  clear h hs hp ho hs15 hst hem
  go_enter Tryz.func45, Tryz.ntmps45
  go_wp2_with fail
  go_region_held3 (fun _ => True) (first | trivial | assumption | go_keep) (first | (go_at_call 85; refine (KP.out _).mono ?_; rintro e w1 ⟨rfl, hq⟩; have HQ := Lib.hid hq; clear hq))
  have HZ1 := Lib.hid (HZ0.out.quiet HQ.out)
  have HN1 := HN0
  have HO1 := Lib.hid (show Only (K.own Ge) w w1 from HQ.out.mono fun _ h => h.elim)
  have c6 := HZ1.out.f.c6
  clear HQ KP HZ0 HN0 HO0
  go_wp2_with fail
  go_region
  all_goals go_wp2_with fail
  go_region
  have HZ1 : Hid (Cw K w1.drew.drew Ge A' c z (k + 5) t) := Lib.hid (HZ1.out.drewN 2)
  have HO1 : Hid (Only (K.own Ge) w w1.drew.drew) := Lib.hid (HO1.out.drewN 2)
  clear c6
  generalize w1.drew.drew = w1x at *
  have c4 := HZ1.out.f.c4
  have KC := Lib.hid ((HZ1.out.ones (k := k + 2) (n := 3) (al := [16 * z.st + s, 192 + z.st, 204 + z.st]) (cs := #[.pointer (some ⟨K.g, 11 + z.st * 16 + s, none⟩), .pointer (some ⟨K.g, 395 + z.st, none⟩), .pointer (some ⟨K.g, 407 + z.st, none⟩)]) (T := 146) rfl (by decide) (by intro a ha; simp at ha; have := HL.out; omega) (by simp [HAD.out.1, HAD.out.2.2.1, HAD.out.2.2.2.1])))
  go_wp2_with fail
  refine KC.out.mono ?_
  rintro e w2 ⟨rfl, G2, hz2, hn2, ho2⟩
  have HZ2 := Lib.hid hz2
  have HN2 := Lib.hid (HN1.out.trans hn2 HO1.out.size)
  have HO2 := Lib.hid (cset_trans HO1.out HN1.out (ho2))
  have f4 := hz2.f.c4
  clear hz2 hn2 ho2
  clear KC c4 f4
  clear HZ1 HN1 HO1
  have c4 := HZ2.out.f.c4
  have KC := Lib.hid (HZ2.out.bit0 (k := k + 1) (a := 216 + z.st) (b := K.g) (i := 419 + z.st) HAD.out.2.2.2.2.1 (by have := HL.out; omega))
  go_wp2_with fail
  refine KC.out.mono ?_
  rintro e w3 ⟨rfl, G3, hz3, hn3, ho3⟩
  have HZ3 := Lib.hid hz3
  have HN3 := Lib.hid (HN2.out.trans hn3 HO2.out.size)
  have HO3 := Lib.hid (cset_trans HO2.out HN2.out (ho3))
  have f4 := hz3.f.c4
  clear hz3 hn3 ho3
  clear KC c4 f4
  clear HZ2 HN2 HO2
  go_wp2_with fail
  first | go_end0 | refine bodyPost_ret (results_none rfl _ _ _) rfl ?_
  exact ⟨rfl, G3, HZ3.out.less (by omega), HN3.out, HO3.out⟩

theorem kindE_4 {s : Nat} {em : Bool} (hem : em = false) : (kindP encM t em z.st s 4).2.2 = (bitP encM (bitP encM (bitP encM (bitP encM (bitP encM t (16 * z.st + s) 1).2 (192 + z.st) 1).2 (204 + z.st) 1).2 (216 + z.st) 1).2 (228 + z.st) 0).2 := by
  subst hem
  unfold kindP kd1 kd2 kd3 kd4 kd5
  rfl

set_option maxRecDepth 100000 in
set_option maxHeartbeats 8000000 in
theorem ckind_4 {s : Nat} (h : Cw K w Ge A' c z (k + 5) t) (hst : z.st ≤ 11) (hp : z.pb ≤ 4) (ho : z.out.length ≤ 1000000) (hem : z.out.length ≠ 0) (hs : s = z.out.length % 2 ^ z.pb) :
    Calls Tryz.prog 45 #[.pointer (some ⟨K.g, 0, none⟩), .int .i64 4] w (CMid K w Ge (.tuple #[]) A' c z k (kindP encM t (decide (z.out.length = 0)) z.st s 4).2.2) := by
  rw [kindE_4 (decide_eq_false hem)]
  have hs15 : s ≤ 15 := by rw [hs]; exact mod_pb hp
  have KP := fun n => cplace_q h hp ho n
  rw [← hs] at KP
  have KP := Lib.hid KP
  have HAD := Lib.hid (And.intro (show K.ad (16 * z.st + s) = (K.g, 11 + z.st * 16 + s) from K.lay.low (by omega) (by omega)) (And.intro (show K.ad (240 + 16 * z.st + s) = (K.g, 203 + z.st * 16 + s) from K.lay.long (by omega) (by omega) (by omega)) (And.intro (show K.ad (192 + z.st) = (K.g, 395 + z.st) from K.lay.rep (by omega) (by omega) (by omega)) (And.intro (show K.ad (204 + z.st) = (K.g, 407 + z.st) from K.lay.rep (by omega) (by omega) (by omega)) (And.intro (show K.ad (216 + z.st) = (K.g, 419 + z.st) from K.lay.rep (by omega) (by omega) (by omega)) (show K.ad (228 + z.st) = (K.g, 431 + z.st) from K.lay.rep (by omega) (by omega) (by omega)))))))
  have HL := Lib.hid (And.intro hst hs15)
  have HZ0 := Lib.hid h
  have HN0 := Lib.hid (Nwr.refl w Ge)
  have HO0 := Lib.hid (Only.refl (K.own Ge) w)
  have i1 : (z.st : Int) < 12 := by omega
  have i0 : (0 : Int) ≤ (z.st : Int) := by omega
  have j1 : (s : Int) < 16 := by omega
  have j0 : (0 : Int) ≤ (s : Int) := by omega
  have c6 := h.f.c6
  clear h hs hp ho hs15 hst hem
  go_enter Tryz.func45, Tryz.ntmps45
  go_wp2_with fail
  go_region_held3 (fun _ => True) (first | trivial | assumption | go_keep) (first | (go_at_call 85; refine (KP.out _).mono ?_; rintro e w1 ⟨rfl, hq⟩; have HQ := Lib.hid hq; clear hq))
  have HZ1 := Lib.hid (HZ0.out.quiet HQ.out)
  have HN1 := HN0
  have HO1 := Lib.hid (show Only (K.own Ge) w w1 from HQ.out.mono fun _ h => h.elim)
  have c6 := HZ1.out.f.c6
  clear HQ KP HZ0 HN0 HO0
  go_wp2_with fail
  go_region
  all_goals go_wp2_with fail
  go_region
  have HZ1 : Hid (Cw K w1.drew.drew Ge A' c z (k + 5) t) := Lib.hid (HZ1.out.drewN 2)
  have HO1 : Hid (Only (K.own Ge) w w1.drew.drew) := Lib.hid (HO1.out.drewN 2)
  clear c6
  generalize w1.drew.drew = w1x at *
  have c4 := HZ1.out.f.c4
  have KC := Lib.hid ((HZ1.out.ones (k := k + 1) (n := 4) (al := [16 * z.st + s, 192 + z.st, 204 + z.st, 216 + z.st]) (cs := #[.pointer (some ⟨K.g, 11 + z.st * 16 + s, none⟩), .pointer (some ⟨K.g, 395 + z.st, none⟩), .pointer (some ⟨K.g, 407 + z.st, none⟩), .pointer (some ⟨K.g, 419 + z.st, none⟩)]) (T := 146) rfl (by decide) (by intro a ha; simp at ha; have := HL.out; omega) (by simp [HAD.out.1, HAD.out.2.2.1, HAD.out.2.2.2.1, HAD.out.2.2.2.2.1])))
  go_wp2_with fail
  refine KC.out.mono ?_
  rintro e w2 ⟨rfl, G2, hz2, hn2, ho2⟩
  have HZ2 := Lib.hid hz2
  have HN2 := Lib.hid (HN1.out.trans hn2 HO1.out.size)
  have HO2 := Lib.hid (cset_trans HO1.out HN1.out (ho2))
  have f4 := hz2.f.c4
  clear hz2 hn2 ho2
  clear KC c4 f4
  clear HZ1 HN1 HO1
  have c4 := HZ2.out.f.c4
  have KC := Lib.hid (HZ2.out.bit0 (k := k + 0) (a := 228 + z.st) (b := K.g) (i := 431 + z.st) HAD.out.2.2.2.2.2 (by have := HL.out; omega))
  go_wp2_with fail
  refine KC.out.mono ?_
  rintro e w3 ⟨rfl, G3, hz3, hn3, ho3⟩
  have HZ3 := Lib.hid hz3
  have HN3 := Lib.hid (HN2.out.trans hn3 HO2.out.size)
  have HO3 := Lib.hid (cset_trans HO2.out HN2.out (ho3))
  have f4 := hz3.f.c4
  clear hz3 hn3 ho3
  clear KC c4 f4
  clear HZ2 HN2 HO2
  go_wp2_with fail
  first | go_end0 | refine bodyPost_ret (results_none rfl _ _ _) rfl ?_
  exact ⟨rfl, G3, HZ3.out.less (by omega), HN3.out, HO3.out⟩

theorem kindE_5 {s : Nat} {em : Bool} (hem : em = false) : (kindP encM t em z.st s 5).2.2 = (bitP encM (bitP encM (bitP encM (bitP encM (bitP encM t (16 * z.st + s) 1).2 (192 + z.st) 1).2 (204 + z.st) 1).2 (216 + z.st) 1).2 (228 + z.st) 1).2 := by
  subst hem
  unfold kindP kd1 kd2 kd3 kd4 kd5
  rfl

set_option maxRecDepth 100000 in
set_option maxHeartbeats 8000000 in
theorem ckind_5 {s : Nat} (h : Cw K w Ge A' c z (k + 5) t) (hst : z.st ≤ 11) (hp : z.pb ≤ 4) (ho : z.out.length ≤ 1000000) (hem : z.out.length ≠ 0) (hs : s = z.out.length % 2 ^ z.pb) :
    Calls Tryz.prog 45 #[.pointer (some ⟨K.g, 0, none⟩), .int .i64 5] w (CMid K w Ge (.tuple #[]) A' c z k (kindP encM t (decide (z.out.length = 0)) z.st s 5).2.2) := by
  rw [kindE_5 (decide_eq_false hem)]
  have hs15 : s ≤ 15 := by rw [hs]; exact mod_pb hp
  have KP := fun n => cplace_q h hp ho n
  rw [← hs] at KP
  have KP := Lib.hid KP
  have HAD := Lib.hid (And.intro (show K.ad (16 * z.st + s) = (K.g, 11 + z.st * 16 + s) from K.lay.low (by omega) (by omega)) (And.intro (show K.ad (240 + 16 * z.st + s) = (K.g, 203 + z.st * 16 + s) from K.lay.long (by omega) (by omega) (by omega)) (And.intro (show K.ad (192 + z.st) = (K.g, 395 + z.st) from K.lay.rep (by omega) (by omega) (by omega)) (And.intro (show K.ad (204 + z.st) = (K.g, 407 + z.st) from K.lay.rep (by omega) (by omega) (by omega)) (And.intro (show K.ad (216 + z.st) = (K.g, 419 + z.st) from K.lay.rep (by omega) (by omega) (by omega)) (show K.ad (228 + z.st) = (K.g, 431 + z.st) from K.lay.rep (by omega) (by omega) (by omega)))))))
  have HL := Lib.hid (And.intro hst hs15)
  have HZ0 := Lib.hid h
  have HN0 := Lib.hid (Nwr.refl w Ge)
  have HO0 := Lib.hid (Only.refl (K.own Ge) w)
  have i1 : (z.st : Int) < 12 := by omega
  have i0 : (0 : Int) ≤ (z.st : Int) := by omega
  have j1 : (s : Int) < 16 := by omega
  have j0 : (0 : Int) ≤ (s : Int) := by omega
  have c6 := h.f.c6
  clear h hs hp ho hs15 hst hem
  go_enter Tryz.func45, Tryz.ntmps45
  go_wp2_with fail
  go_region_held3 (fun _ => True) (first | trivial | assumption | go_keep) (first | (go_at_call 85; refine (KP.out _).mono ?_; rintro e w1 ⟨rfl, hq⟩; have HQ := Lib.hid hq; clear hq))
  have HZ1 := Lib.hid (HZ0.out.quiet HQ.out)
  have HN1 := HN0
  have HO1 := Lib.hid (show Only (K.own Ge) w w1 from HQ.out.mono fun _ h => h.elim)
  have c6 := HZ1.out.f.c6
  clear HQ KP HZ0 HN0 HO0
  go_wp2_with fail
  go_region
  all_goals go_wp2_with fail
  go_region
  have HZ1 : Hid (Cw K w1.drew.drew Ge A' c z (k + 5) t) := Lib.hid (HZ1.out.drewN 2)
  have HO1 : Hid (Only (K.own Ge) w w1.drew.drew) := Lib.hid (HO1.out.drewN 2)
  clear c6
  generalize w1.drew.drew = w1x at *
  have c4 := HZ1.out.f.c4
  have KC := Lib.hid ((HZ1.out.ones (k := k + 0) (n := 5) (al := [16 * z.st + s, 192 + z.st, 204 + z.st, 216 + z.st, 228 + z.st]) (cs := #[.pointer (some ⟨K.g, 11 + z.st * 16 + s, none⟩), .pointer (some ⟨K.g, 395 + z.st, none⟩), .pointer (some ⟨K.g, 407 + z.st, none⟩), .pointer (some ⟨K.g, 419 + z.st, none⟩), .pointer (some ⟨K.g, 431 + z.st, none⟩)]) (T := 146) rfl (by decide) (by intro a ha; simp at ha; have := HL.out; omega) (by simp [HAD.out.1, HAD.out.2.2.1, HAD.out.2.2.2.1, HAD.out.2.2.2.2.1, HAD.out.2.2.2.2.2])))
  go_wp2_with fail
  refine KC.out.mono ?_
  rintro e w2 ⟨rfl, G2, hz2, hn2, ho2⟩
  have HZ2 := Lib.hid hz2
  have HN2 := Lib.hid (HN1.out.trans hn2 HO1.out.size)
  have HO2 := Lib.hid (cset_trans HO1.out HN1.out (ho2))
  have f4 := hz2.f.c4
  clear hz2 hn2 ho2
  clear KC c4 f4
  clear HZ1 HN1 HO1
  go_wp2_with fail
  first | go_end0 | refine bodyPost_ret (results_none rfl _ _ _) rfl ?_
  exact ⟨rfl, G2, HZ2.out.less (by omega), HN2.out, HO2.out⟩
end
end Go.Proofs.YtjgdjobhhdhfjaaGreat
