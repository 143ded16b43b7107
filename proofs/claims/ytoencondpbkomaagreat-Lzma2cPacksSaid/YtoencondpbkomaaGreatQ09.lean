/-
  CwCome, CwPackE, CwMove: put together.
-/
import Derived.Test.YtoencondpbkomaaGreatQ05
import Derived.Test.YtoencondpbkomaaGreatQ08
import Derived.Deep.RegionLaw
import Derived.Test.YtoencondpbkomaaGreatQ06
import Derived.Test.YtoencondpbkomaaGreatQ07
set_option linter.unusedVariables false
set_option linter.unusedSimpArgs false
/-
  The program's coder of LZMA: a distance comes first.
-/
namespace Go.Proofs.YtoencondpbkomaaGreat
open Go.RowKit
section
variable {K : Koc} {w w' : World} {Ge : Option Nat} {A : Option Addr} {c : Nat} {z : Lzs} {k : Nat} {t : Pm En}

set_option maxRecDepth 100000 in
set_option maxHeartbeats 4000000 in
theorem ccome_1 (h : Cw K w Ge A c z k t) :
    Calls Tryz.prog 79 #[.pointer (some ⟨K.g, 7, none⟩), .int .i64 1] w (CMid K w Ge (.tuple #[]) A c (z.again 1) k t) := by
  have hcp : (Builtin.copy_ #[116, 116] 3 #[.slice (some ⟨K.g, 8, none⟩) 1 3, .slice (some ⟨K.g, 7, none⟩) 1 4]).run Tryz.prog w.drew = .ok (goInt 1) ((w.drew).setCell ⟨K.g, 8, none⟩ (.int .u32 (z.r0 : Int))) := by
    refine copy_reps (W := w.drew) (g := K.g) (o := 7) (n := 1) (m := 1) (k := 4) [.int .u32 (z.r0 : Int)] rfl (fun i v hv => ?_) (fun i hi => ?_) (fun i => h.f.fz i) (by simp [Value.oneCell'])
    · match i, hv with
      | 0, hv => injection hv with hv; rw [← hv]; exact h.f.c7
    · match i, hi with
      | 0, _ => show (w.cell? ⟨K.g, 8, none⟩).isSome = true; rw [h.f.c8]; rfl
  have H0 : Cw K (w.drew) Ge A c (z) k t := h.drewN 1
  have H1 : Cw K ((w.drew).setCell ⟨K.g, 8, none⟩ (.int .u32 (z.r0 : Int))) Ge A c (({ z with r1 := z.r0 } : Lzs)) k t := H0.put 8 (by decide) _ rfl rfl
  have HF : Cw K (((w.drew).setCell ⟨K.g, 8, none⟩ (.int .u32 (z.r0 : Int))).setCell ⟨K.g, 7, none⟩ (.int .u32 (z.r1 : Int))) Ge A c (z.again 1) k t := H1.put 7 (by decide) _ rfl rfl
  have HO : Only (K.own Ge) w (((w.drew).setCell ⟨K.g, 8, none⟩ (.int .u32 (z.r0 : Int))).setCell ⟨K.g, 7, none⟩ (.int .u32 (z.r1 : Int))) := by
    have h0 : Only (K.own Ge) w w.drew := (Only.refl _ w).drew
    have h1 := Only.cwn_put h0 8 (.int .u32 (z.r0 : Int))
    exact Only.cwn_put h1 7 (.int .u32 (z.r1 : Int))
  have H := Lib.hid (And.intro HF HO)
  have c7 := h.f.c7
  have c8 := h.f.c8
  have c9 := h.f.c9
  have c10 := h.f.c10
  have z7 := h.f.fz 7
  have z8 := h.f.fz 8
  have z9 := h.f.fz 9
  have z10 := h.f.fz 10
  clear h HF HO H0 H1
  go_enter Tryz.func79, Tryz.ntmps79
  go_wp2_with fail
  go_region
  all_goals go_wp2_with fail
  first | go_end0 | refine bodyPost_ret (results_none rfl _ _ _) rfl ?_
  exact ⟨rfl, Ge, H.out.1, Nwr.refl _ _, H.out.2⟩

set_option maxRecDepth 100000 in
set_option maxHeartbeats 4000000 in
theorem ccome_2 (h : Cw K w Ge A c z k t) :
    Calls Tryz.prog 79 #[.pointer (some ⟨K.g, 7, none⟩), .int .i64 2] w (CMid K w Ge (.tuple #[]) A c (z.again 2) k t) := by
  have hcp : (Builtin.copy_ #[116, 116] 3 #[.slice (some ⟨K.g, 8, none⟩) 2 3, .slice (some ⟨K.g, 7, none⟩) 2 4]).run Tryz.prog w.drew = .ok (goInt 2) (((w.drew).setCell ⟨K.g, 8, none⟩ (.int .u32 (z.r0 : Int))).setCell ⟨K.g, 9, none⟩ (.int .u32 (z.r1 : Int))) := by
    refine copy_reps (W := w.drew) (g := K.g) (o := 7) (n := 2) (m := 2) (k := 4) [.int .u32 (z.r0 : Int), .int .u32 (z.r1 : Int)] rfl (fun i v hv => ?_) (fun i hi => ?_) (fun i => h.f.fz i) (by simp [Value.oneCell'])
    · match i, hv with
      | 0, hv => injection hv with hv; rw [← hv]; exact h.f.c7
      | 1, hv => injection hv with hv; rw [← hv]; exact h.f.c8
    · match i, hi with
      | 0, _ => show (w.cell? ⟨K.g, 8, none⟩).isSome = true; rw [h.f.c8]; rfl
      | 1, _ => show (w.cell? ⟨K.g, 9, none⟩).isSome = true; rw [h.f.c9]; rfl
  have H0 : Cw K (w.drew) Ge A c (z) k t := h.drewN 1
  have H1 : Cw K ((w.drew).setCell ⟨K.g, 8, none⟩ (.int .u32 (z.r0 : Int))) Ge A c (({ z with r1 := z.r0 } : Lzs)) k t := H0.put 8 (by decide) _ rfl rfl
  have H2 : Cw K (((w.drew).setCell ⟨K.g, 8, none⟩ (.int .u32 (z.r0 : Int))).setCell ⟨K.g, 9, none⟩ (.int .u32 (z.r1 : Int))) Ge A c (({ ({ z with r1 := z.r0 } : Lzs) with r2 := z.r1 } : Lzs)) k t := H1.put 9 (by decide) _ rfl rfl
  have HF : Cw K ((((w.drew).setCell ⟨K.g, 8, none⟩ (.int .u32 (z.r0 : Int))).setCell ⟨K.g, 9, none⟩ (.int .u32 (z.r1 : Int))).setCell ⟨K.g, 7, none⟩ (.int .u32 (z.r2 : Int))) Ge A c (z.again 2) k t := H2.put 7 (by decide) _ rfl rfl
  have HO : Only (K.own Ge) w ((((w.drew).setCell ⟨K.g, 8, none⟩ (.int .u32 (z.r0 : Int))).setCell ⟨K.g, 9, none⟩ (.int .u32 (z.r1 : Int))).setCell ⟨K.g, 7, none⟩ (.int .u32 (z.r2 : Int))) := by
    have h0 : Only (K.own Ge) w w.drew := (Only.refl _ w).drew
    have h1 := Only.cwn_put h0 8 (.int .u32 (z.r0 : Int))
    have h2 := Only.cwn_put h1 9 (.int .u32 (z.r1 : Int))
    exact Only.cwn_put h2 7 (.int .u32 (z.r2 : Int))
  have H := Lib.hid (And.intro HF HO)
  have c7 := h.f.c7
  have c8 := h.f.c8
  have c9 := h.f.c9
  have c10 := h.f.c10
  have z7 := h.f.fz 7
  have z8 := h.f.fz 8
  have z9 := h.f.fz 9
  have z10 := h.f.fz 10
  clear h HF HO H0 H1 H2
  go_enter Tryz.func79, Tryz.ntmps79
  go_wp2_with fail
  go_region
  all_goals go_wp2_with fail
  first | go_end0 | refine bodyPost_ret (results_none rfl _ _ _) rfl ?_
  exact ⟨rfl, Ge, H.out.1, Nwr.refl _ _, H.out.2⟩

set_option maxRecDepth 100000 in
set_option maxHeartbeats 4000000 in
theorem ccome_3 (h : Cw K w Ge A c z k t) :
    Calls Tryz.prog 79 #[.pointer (some ⟨K.g, 7, none⟩), .int .i64 3] w (CMid K w Ge (.tuple #[]) A c (z.again 3) k t) := by
  have hcp : (Builtin.copy_ #[116, 116] 3 #[.slice (some ⟨K.g, 8, none⟩) 3 3, .slice (some ⟨K.g, 7, none⟩) 3 4]).run Tryz.prog w.drew = .ok (goInt 3) ((((w.drew).setCell ⟨K.g, 8, none⟩ (.int .u32 (z.r0 : Int))).setCell ⟨K.g, 9, none⟩ (.int .u32 (z.r1 : Int))).setCell ⟨K.g, 10, none⟩ (.int .u32 (z.r2 : Int))) := by
    refine copy_reps (W := w.drew) (g := K.g) (o := 7) (n := 3) (m := 3) (k := 4) [.int .u32 (z.r0 : Int), .int .u32 (z.r1 : Int), .int .u32 (z.r2 : Int)] rfl (fun i v hv => ?_) (fun i hi => ?_) (fun i => h.f.fz i) (by simp [Value.oneCell'])
    · match i, hv with
      | 0, hv => injection hv with hv; rw [← hv]; exact h.f.c7
      | 1, hv => injection hv with hv; rw [← hv]; exact h.f.c8
      | 2, hv => injection hv with hv; rw [← hv]; exact h.f.c9
    · match i, hi with
      | 0, _ => show (w.cell? ⟨K.g, 8, none⟩).isSome = true; rw [h.f.c8]; rfl
      | 1, _ => show (w.cell? ⟨K.g, 9, none⟩).isSome = true; rw [h.f.c9]; rfl
      | 2, _ => show (w.cell? ⟨K.g, 10, none⟩).isSome = true; rw [h.f.c10]; rfl
  have H0 : Cw K (w.drew) Ge A c (z) k t := h.drewN 1
  have H1 : Cw K ((w.drew).setCell ⟨K.g, 8, none⟩ (.int .u32 (z.r0 : Int))) Ge A c (({ z with r1 := z.r0 } : Lzs)) k t := H0.put 8 (by decide) _ rfl rfl
  have H2 : Cw K (((w.drew).setCell ⟨K.g, 8, none⟩ (.int .u32 (z.r0 : Int))).setCell ⟨K.g, 9, none⟩ (.int .u32 (z.r1 : Int))) Ge A c (({ ({ z with r1 := z.r0 } : Lzs) with r2 := z.r1 } : Lzs)) k t := H1.put 9 (by decide) _ rfl rfl
  have H3 : Cw K ((((w.drew).setCell ⟨K.g, 8, none⟩ (.int .u32 (z.r0 : Int))).setCell ⟨K.g, 9, none⟩ (.int .u32 (z.r1 : Int))).setCell ⟨K.g, 10, none⟩ (.int .u32 (z.r2 : Int))) Ge A c (({ ({ ({ z with r1 := z.r0 } : Lzs) with r2 := z.r1 } : Lzs) with r3 := z.r2 } : Lzs)) k t := H2.put 10 (by decide) _ rfl rfl
  have HF : Cw K (((((w.drew).setCell ⟨K.g, 8, none⟩ (.int .u32 (z.r0 : Int))).setCell ⟨K.g, 9, none⟩ (.int .u32 (z.r1 : Int))).setCell ⟨K.g, 10, none⟩ (.int .u32 (z.r2 : Int))).setCell ⟨K.g, 7, none⟩ (.int .u32 (z.r3 : Int))) Ge A c (z.again 3) k t := H3.put 7 (by decide) _ rfl rfl
  have HO : Only (K.own Ge) w (((((w.drew).setCell ⟨K.g, 8, none⟩ (.int .u32 (z.r0 : Int))).setCell ⟨K.g, 9, none⟩ (.int .u32 (z.r1 : Int))).setCell ⟨K.g, 10, none⟩ (.int .u32 (z.r2 : Int))).setCell ⟨K.g, 7, none⟩ (.int .u32 (z.r3 : Int))) := by
    have h0 : Only (K.own Ge) w w.drew := (Only.refl _ w).drew
    have h1 := Only.cwn_put h0 8 (.int .u32 (z.r0 : Int))
    have h2 := Only.cwn_put h1 9 (.int .u32 (z.r1 : Int))
    have h3 := Only.cwn_put h2 10 (.int .u32 (z.r2 : Int))
    exact Only.cwn_put h3 7 (.int .u32 (z.r3 : Int))
  have H := Lib.hid (And.intro HF HO)
  have c7 := h.f.c7
  have c8 := h.f.c8
  have c9 := h.f.c9
  have c10 := h.f.c10
  have z7 := h.f.fz 7
  have z8 := h.f.fz 8
  have z9 := h.f.fz 9
  have z10 := h.f.fz 10
  clear h HF HO H0 H1 H2 H3
  go_enter Tryz.func79, Tryz.ntmps79
  go_wp2_with fail
  go_region
  all_goals go_wp2_with fail
  first | go_end0 | refine bodyPost_ret (results_none rfl _ _ _) rfl ?_
  exact ⟨rfl, Ge, H.out.1, Nwr.refl _ _, H.out.2⟩

set_option maxRecDepth 100000 in
set_option maxHeartbeats 4000000 in
theorem cpush_any {d : Nat} (h : Cw K w Ge A c z k t) :
    Calls Tryz.prog 78 #[.pointer (some ⟨K.g, 7, none⟩), .int .u32 (d : Int)] w (CMid K w Ge (.tuple #[]) A c (({ z with r0 := d, r1 := z.r0, r2 := z.r1, r3 := z.r2 } : Lzs)) k t) := by
  have hcp : (Builtin.copy_ #[116, 116] 3 #[.slice (some ⟨K.g, 8, none⟩) 3 3, .slice (some ⟨K.g, 7, none⟩) 4 4]).run Tryz.prog w.drew = .ok (goInt 3) ((((w.drew).setCell ⟨K.g, 8, none⟩ (.int .u32 (z.r0 : Int))).setCell ⟨K.g, 9, none⟩ (.int .u32 (z.r1 : Int))).setCell ⟨K.g, 10, none⟩ (.int .u32 (z.r2 : Int))) := by
    refine copy_reps (W := w.drew) (g := K.g) (o := 7) (n := 3) (m := 4) (k := 4) [.int .u32 (z.r0 : Int), .int .u32 (z.r1 : Int), .int .u32 (z.r2 : Int)] rfl (fun i v hv => ?_) (fun i hi => ?_) (fun i => h.f.fz i) (by simp [Value.oneCell'])
    · match i, hv with
      | 0, hv => injection hv with hv; rw [← hv]; exact h.f.c7
      | 1, hv => injection hv with hv; rw [← hv]; exact h.f.c8
      | 2, hv => injection hv with hv; rw [← hv]; exact h.f.c9
    · match i, hi with
      | 0, _ => show (w.cell? ⟨K.g, 8, none⟩).isSome = true; rw [h.f.c8]; rfl
      | 1, _ => show (w.cell? ⟨K.g, 9, none⟩).isSome = true; rw [h.f.c9]; rfl
      | 2, _ => show (w.cell? ⟨K.g, 10, none⟩).isSome = true; rw [h.f.c10]; rfl
  have H0 : Cw K (w.drew) Ge A c (z) k t := h.drewN 1
  have H1 : Cw K ((w.drew).setCell ⟨K.g, 8, none⟩ (.int .u32 (z.r0 : Int))) Ge A c (({ z with r1 := z.r0 } : Lzs)) k t := H0.put 8 (by decide) _ rfl rfl
  have H2 : Cw K (((w.drew).setCell ⟨K.g, 8, none⟩ (.int .u32 (z.r0 : Int))).setCell ⟨K.g, 9, none⟩ (.int .u32 (z.r1 : Int))) Ge A c (({ ({ z with r1 := z.r0 } : Lzs) with r2 := z.r1 } : Lzs)) k t := H1.put 9 (by decide) _ rfl rfl
  have H3 : Cw K ((((w.drew).setCell ⟨K.g, 8, none⟩ (.int .u32 (z.r0 : Int))).setCell ⟨K.g, 9, none⟩ (.int .u32 (z.r1 : Int))).setCell ⟨K.g, 10, none⟩ (.int .u32 (z.r2 : Int))) Ge A c (({ ({ ({ z with r1 := z.r0 } : Lzs) with r2 := z.r1 } : Lzs) with r3 := z.r2 } : Lzs)) k t := H2.put 10 (by decide) _ rfl rfl
  have HF : Cw K (((((w.drew).setCell ⟨K.g, 8, none⟩ (.int .u32 (z.r0 : Int))).setCell ⟨K.g, 9, none⟩ (.int .u32 (z.r1 : Int))).setCell ⟨K.g, 10, none⟩ (.int .u32 (z.r2 : Int))).setCell ⟨K.g, 7, none⟩ (.int .u32 (d : Int))) Ge A c (({ z with r0 := d, r1 := z.r0, r2 := z.r1, r3 := z.r2 } : Lzs)) k t := H3.put 7 (by decide) _ rfl rfl
  have HO : Only (K.own Ge) w (((((w.drew).setCell ⟨K.g, 8, none⟩ (.int .u32 (z.r0 : Int))).setCell ⟨K.g, 9, none⟩ (.int .u32 (z.r1 : Int))).setCell ⟨K.g, 10, none⟩ (.int .u32 (z.r2 : Int))).setCell ⟨K.g, 7, none⟩ (.int .u32 (d : Int))) := by
    have h0 : Only (K.own Ge) w w.drew := (Only.refl _ w).drew
    have h1 := Only.cwn_put h0 8 (.int .u32 (z.r0 : Int))
    have h2 := Only.cwn_put h1 9 (.int .u32 (z.r1 : Int))
    have h3 := Only.cwn_put h2 10 (.int .u32 (z.r2 : Int))
    exact Only.cwn_put h3 7 (.int .u32 (d : Int))
  have H := Lib.hid (And.intro HF HO)
  have c7 := h.f.c7
  have c8 := h.f.c8
  have c9 := h.f.c9
  have c10 := h.f.c10
  have z7 := h.f.fz 7
  have z8 := h.f.fz 8
  have z9 := h.f.fz 9
  have z10 := h.f.fz 10
  clear h HF HO H0 H1 H2 H3
  go_enter Tryz.func78, Tryz.ntmps78
  go_wp2_with fail
  go_region
  all_goals go_wp2_with fail
  first | go_end0 | refine bodyPost_ret (results_none rfl _ _ _) rfl ?_
  exact ⟨rfl, Ge, H.out.1, Nwr.refl _ _, H.out.2⟩

theorem ccome_any {j : Nat} (h1 : 1 ≤ j) (h3 : j ≤ 3) (h : Cw K w Ge A c z k t) :
    Calls Tryz.prog 79 #[.pointer (some ⟨K.g, 7, none⟩), .int .i64 (j : Int)] w (CMid K w Ge (.tuple #[]) A c (z.again j) k t) := by
  match j, h1, h3 with
  | 1, _, _ => exact ccome_1 h
  | 2, _, _ => exact ccome_2 h
  | 3, _, _ => exact ccome_3 h
set_option maxRecDepth 100000 in
set_option maxHeartbeats 4000000 in
theorem ccome_0 (h : Cw K w Ge A c z k t) :
    Calls Tryz.prog 79 #[.pointer (some ⟨K.g, 7, none⟩), .int .i64 0] w (CMid K w Ge (.tuple #[]) A c (z.again 0) k t) := by
  have hcp : (Builtin.copy_ #[116, 116] 3 #[.slice (some ⟨K.g, 8, none⟩) 0 3, .slice (some ⟨K.g, 7, none⟩) 0 4]).run Tryz.prog w.drew = .ok (goInt 0) w.drew := by
    refine copy_reps (W := w.drew) (g := K.g) (o := 7) (n := 0) (m := 0) (k := 4) [] rfl (fun i v hv => by cases hv) (fun i hi => absurd hi (Nat.not_lt_zero i)) (fun i => h.f.fz i) (by simp)
  have H0 : Cw K (w.drew) Ge A c (z) k t := h.drewN 1
  have HF : Cw K ((w.drew).setCell ⟨K.g, 7, none⟩ (.int .u32 (z.r0 : Int))) Ge A c (z.again 0) k t := H0.put 7 (by decide) _ rfl rfl
  have HO : Only (K.own Ge) w ((w.drew).setCell ⟨K.g, 7, none⟩ (.int .u32 (z.r0 : Int))) := by
    have h0 : Only (K.own Ge) w w.drew := (Only.refl _ w).drew
    exact Only.cwn_put h0 7 (.int .u32 (z.r0 : Int))
  have H := Lib.hid (And.intro HF HO)
  have c7 := h.f.c7
  have c8 := h.f.c8
  have z7 := h.f.fz 7
  have z8 := h.f.fz 8
  clear h HF HO H0
  go_enter Tryz.func79, Tryz.ntmps79
  go_wp2_with fail
  go_region
  all_goals go_wp2_with fail
  first | go_end0 | refine bodyPost_ret (results_none rfl _ _ _) rfl ?_
  exact ⟨rfl, Ge, H.out.1, Nwr.refl _ _, H.out.2⟩
theorem ccome_all {j : Nat} (h3 : j ≤ 3) (h : Cw K w Ge A c z k t) :
    Calls Tryz.prog 79 #[.pointer (some ⟨K.g, 7, none⟩), .int .i64 (j : Int)] w (CMid K w Ge (.tuple #[]) A c (z.again j) k t) := by
  match j, h3 with
  | 0, _ => exact ccome_0 h
  | j + 1, h3 => exact ccome_any (by omega) h3 h
end
end Go.Proofs.YtoencondpbkomaaGreat

/-
  The packets of LZMA as a coder leaves them, kind by kind: numbers.
-/
namespace Go.Proofs.YtoencondpbkomaaGreat

theorem litG_tell {t : Pm En} {A : Nat} {o v : UInt8} {same : Bool} : ∀ j, j ≤ 8 → (litG encM t A o v same j).m = 2 ^ j + v.toNat / 2 ^ (8 - j)
  | 0, _ => by
    have := v.toNat_lt
    show 1 = 1 + v.toNat / 256
    omega
  | j + 1, hj => by
    have ih := litG_tell (t := t) (A := A) (o := o) (v := v) (same := same) j (by omega)
    have hb : (litG encM t A o v same (j + 1)).m = 2 * (litG encM t A o v same j).m + bitOf v.toNat (7 - j) := by
      show (lgStep encM A (want (o.toNat : Int) (7 - j)) (want (v.toNat : Int) (7 - j)) (litG encM t A o v same j)).m = _
      unfold lgStep
      split
      · show 2 * _ + (bitP encM _ _ (want (v.toNat : Int) (7 - j))).1 = _
        rw [want_nat]
        rfl
      · show 2 * _ + (bitP encM _ _ (want (v.toNat : Int) (7 - j))).1 = _
        rw [want_nat]
        rfl
    rw [hb, ih, Nat.pow_succ, show 8 - (j + 1) = 7 - j by omega]
    have e : v.toNat / 2 ^ (8 - j) = v.toNat / 2 ^ (7 - j) / 2 := by rw [Nat.div_div_eq_div_mul, ← Nat.pow_succ, show (7 - j).succ = 8 - j by omega]
    unfold bitOf
    rw [e]
    generalize v.toNat / 2 ^ (7 - j) = y
    generalize 2 ^ j = P
    omega
theorem litP_tell {z : Lzs} {t : Pm En} {v : UInt8} : UInt8.ofNat (litP encM z t v).1 = v := by
  have h := litG_tell (t := t) (A := litAt z) (o := z.back z.r0) (v := v) (same := decide (7 ≤ z.st)) 8 (by decide)
  have e : (litP encM z t v).1 = 256 + v.toNat := by
    show (litG encM t (litAt z) (z.back z.r0) v (decide (7 ≤ z.st)) 8).m = _
    rw [h]
    simp
  rw [e]
  apply UInt8.toNat_inj.1
  have := v.toNat_lt
  simp
theorem lenP_tell {t : Pm En} {A s v : Nat} (hv : v < 272) : (lenP encM t A s (v : Int)).1 = v := by
  by_cases h8 : v < 8
  · have e : min ((v : Int).tdiv 8) 1 = 0 := by rw [Int.tdiv_eq_ediv_of_nonneg (by omega)]; omega
    unfold lenP lenA
    rw [e, if_pos (show (bitP encM t A 0).1 = 0 from rfl)]
    exact treeP_tell encM_ok rfl h8
  · have e : min ((v : Int).tdiv 8) 1 = 1 := by rw [Int.tdiv_eq_ediv_of_nonneg (by omega)]; omega
    unfold lenP lenA
    rw [e, if_neg (show ¬ (bitP encM t A 1).1 = 0 from by rw [enc_tell]; decide)]
    unfold lenB
    by_cases h16 : v < 16
    · have e2 : min ((v : Int).tdiv 16) 1 = 0 := by rw [Int.tdiv_eq_ediv_of_nonneg (by omega)]; omega
      rw [e2, if_pos (show (bitP encM (bitP encM t A 1).2 (A + 1) 0).1 = 0 from rfl), show (v : Int) - 8 = ((v - 8 : Nat) : Int) by omega]
      show 8 + (treeP encM _ _ 3 ((v - 8 : Nat) : Int)).1 = v
      rw [treeP_tell encM_ok rfl (show v - 8 < 2 ^ 3 by show v - 8 < 8; omega)]
      omega
    · have e2 : min ((v : Int).tdiv 16) 1 = 1 := by rw [Int.tdiv_eq_ediv_of_nonneg (by omega)]; omega
      rw [e2, if_neg (show ¬ (bitP encM (bitP encM t A 1).2 (A + 1) 1).1 = 0 from by rw [enc_tell]; decide), show (v : Int) - 16 = ((v - 16 : Nat) : Int) by omega]
      show 16 + (treeP encM _ _ 8 ((v - 16 : Nat) : Int)).1 = v
      rw [treeP_tell encM_ok rfl (show v - 16 < 2 ^ 8 by show v - 16 < 256; omega)]
      omega

/-- bytes at the first distance, so many, whether they are there or not -/
def copyN : Nat → Lzs → Lzs
  | 0, z => z
  | f + 1, z => copyN f (z.push (z.back z.r0))
theorem has_pushE {z : Lzs} {b : UInt8} {d : Nat} (h : z.has d = true) : (z.push b).has d = true := by
  unfold Lzs.has at h ⊢
  obtain ⟨h1, h2⟩ := of_decide_eq_true h
  refine decide_eq_true ⟨?_, h2⟩
  show d < (z.out ++ [b]).length
  simp
  omega
theorem copyG_is : ∀ (f n : Nat) {z : Lzs}, z.has z.r0 = true → copyG f n z = (n + f, copyN f z)
  | 0, _, _, _ => rfl
  | f + 1, n, z, h => by
    rw [copyG_go h, copyG_is f (n + 1) (z := z.push (z.back z.r0)) (has_pushE h), show n + 1 + f = n + (f + 1) by omega]
    rfl
theorem copyN_keep : ∀ (f : Nat) (z : Lzs), (copyN f z).bad = z.bad ∧ (copyN f z).ended = z.ended ∧ (copyN f z).out.length = z.out.length + f ∧ (copyN f z).lc = z.lc ∧ (copyN f z).lp = z.lp ∧ (copyN f z).pb = z.pb ∧ (copyN f z).dict = z.dict
  | 0, _ => ⟨rfl, rfl, rfl, rfl, rfl, rfl, rfl⟩
  | f + 1, z => by
    obtain ⟨h1, h2, h3, h4, h5, h6, h7⟩ := copyN_keep f (z.push (z.back z.r0))
    refine ⟨h1, h2, ?_, h4, h5, h6, h7⟩
    show (copyN f (z.push (z.back z.r0))).out.length = _
    rw [h3]
    show (z.out ++ [_]).length + f = _
    simp
    omega
theorem tail_is {many : Nat} {z : Lzs} {t : Pm En} (hb : z.bad = false) (he : z.ended = false) (h : z.has z.r0 = true) : (tailP encM many z t).2 = (copyN many z, t) := by
  unfold tailP
  rw [hb, he]
  show (if (false || false || false) = true then _ else _ : Nat × Lzs × Pm En).2 = _
  rw [if_neg (by decide), copyG_is many 0 h]

section
variable {z : Lzs} {t : Pm En} {d s : Nat} {len : Int} {b : UInt8}
/-- the kind's bits -/
def kdE (z : Lzs) (t : Pm En) (kd : Int) : Pm En := (kindP encM t (decide (z.out.length = 0)) z.st (z.out.length % 2 ^ z.pb) kd).2.2
theorem pack_split (hb : z.bad = false) (kd : Int) (h0 : 0 ≤ kd) (h7 : kd ≤ 7) (hem : z.out.length = 0 → kd = 0 ∨ kd = 1 ∨ kd = 7) :
    packP encM z t ⟨kd, d, len, b⟩ = packK encM ((if kd = 7 then 1 else kd.toNat), false, kdE z t kd) z (z.out.length % 2 ^ z.pb) ⟨kd, d, len, b⟩ := by
  obtain ⟨h1, h2⟩ := kindP_tell encM_ok rfl (t := t) (s := z.out.length % 2 ^ z.pb) (st := z.st) (em := decide (z.out.length = 0)) h0 h7 (fun h => hem (of_decide_eq_true h))
  unfold packP kdE
  dsimp only
  generalize kindP encM t (decide (z.out.length = 0)) z.st (z.out.length % 2 ^ z.pb) kd = kb at *
  obtain ⟨kv, kbad, tk⟩ := kb
  dsimp only at h1 h2 ⊢
  subst h2
  have : kv = (if kd = 7 then 1 else kd.toNat) := by
    split
    · rename_i h; rw [if_pos h] at h1; omega
    · rename_i h; rw [if_neg h] at h1; omega
  rw [this]
theorem with_bad (z : Lzs) (h : z.bad = false) : { z with bad := z.bad || false } = z := by
  cases z; simp at h ⊢
theorem packE_lit (hb : z.bad = false) : (packP encM z t ⟨0, d, len, b⟩).2 = (({ z with st := litSt z.st } : Lzs).push b, (litP encM z (kdE z t 0) b).2) := by
  rw [pack_split hb 0 (by decide) (by decide) (fun _ => .inl rfl)]
  unfold packK
  dsimp only
  rw [if_pos (by decide), with_bad z hb]
  unfold packL
  rw [if_neg (show ¬ encM.bad (litP encM z (kdE z t 0) b).2.x = true by show ¬ false = true; decide), litP_tell]
theorem packE_match (hb : z.bad = false) (he : z.ended = false) {n : Nat} (hn : 2 ≤ n) (hn2 : n ≤ 273) (hd : z.has d = true) (hdi : z.dict < 4294967296) (hL : ∃ k L, 1847 ≤ L ∧ PmOk okE L (k + 12) (lenP encM (kdE z t 1) 819 (z.out.length % 2 ^ z.pb) ((n - 2 : Nat) : Int)).2) :
    (packP encM z t ⟨1, d, n, b⟩).2 = (copyN n { z with r0 := d, r1 := z.r0, r2 := z.r1, r3 := z.r2, st := aft 7 10 z.st }, (distP encM (lenP encM (kdE z t 1) 819 (z.out.length % 2 ^ z.pb) ((n - 2 : Nat) : Int)).2 (n - 2) d).2) := by
  obtain ⟨k, L, hL0, hok⟩ := hL
  rw [pack_split hb 1 (by decide) (by decide) (fun _ => .inr (.inl rfl))]
  unfold packK
  dsimp only
  rw [if_neg (by decide), if_pos (by decide), if_neg (by decide), if_neg (by decide), with_bad z hb, show (n : Int) - 2 = ((n - 2 : Nat) : Int) by omega]
  unfold packM
  rw [lenP_tell (show n - 2 < 272 by omega)]
  generalize (lenP encM (kdE z t 1) 819 (z.out.length % 2 ^ z.pb) ((n - 2 : Nat) : Int)).2 = u at *
  have hlt := (of_decide_eq_true hd).2
  have ht := distP_tell (l := n - 2) (v := d) hok hL0 (by omega)
  generalize distP encM u (n - 2) d = D at *
  obtain ⟨d', t'⟩ := D
  dsimp only at ht
  subst ht
  unfold packD
  dsimp only
  have e : (decide (d' = 4294967295) && !encM.bad t'.x) = z.ended := by rw [he, decide_eq_false (by omega)]; rfl
  rw [e, show n - 2 + 2 = n by omega]
  exact tail_is hb he hd
theorem packE_end (hb : z.bad = false) (hL : ∃ k L, 1847 ≤ L ∧ PmOk okE L (k + 12) (lenP encM (kdE z t 7) 819 (z.out.length % 2 ^ z.pb) 0).2) :
    (packP encM z t ⟨7, d, len, b⟩).2 = ({ z with r0 := 4294967295, r1 := z.r0, r2 := z.r1, r3 := z.r2, st := aft 7 10 z.st, ended := true }, (distP encM (lenP encM (kdE z t 7) 819 (z.out.length % 2 ^ z.pb) 0).2 0 4294967295).2) := by
  obtain ⟨k, L, hL0, hok⟩ := hL
  rw [pack_split hb 7 (by decide) (by decide) (fun _ => .inr (.inr rfl))]
  unfold packK
  dsimp only
  rw [if_pos rfl, if_neg (by decide), if_pos rfl, if_pos rfl, if_pos rfl, with_bad z hb]
  unfold packM
  have hl0 := lenP_tell (t := kdE z t 7) (A := 819) (s := z.out.length % 2 ^ z.pb) (v := 0) (by decide)
  rw [show ((0 : Nat) : Int) = 0 from rfl] at hl0
  rw [hl0]
  generalize (lenP encM (kdE z t 7) 819 (z.out.length % 2 ^ z.pb) 0).2 = u at *
  have ht := distP_tell (l := 0) (v := 4294967295) hok hL0 (by decide)
  generalize distP encM u 0 4294967295 = D at *
  obtain ⟨d', t'⟩ := D
  dsimp only at ht
  subst ht
  unfold packD
  dsimp only
  rw [show (decide ((4294967295 : Nat) = 4294967295) && !encM.bad t'.x) = true from rfl]
  unfold tailP
  have hc : (z.bad || encM.bad t'.x || true) = true := by simp
  dsimp only
  rw [if_pos hc]
  have : (z.bad || encM.bad t'.x) = z.bad := by rw [hb]; rfl
  rw [this]
theorem packE_single (hb : z.bad = false) (he : z.ended = false) (h : z.has z.r0 = true) : (packP encM z t ⟨6, d, len, b⟩).2 = (copyN 1 { z with st := aft 9 11 z.st }, kdE z t 6) := by
  have hne : ¬ z.out.length = 0 := by have := (of_decide_eq_true h).1; omega
  rw [pack_split hb 6 (by decide) (by decide) (fun h => absurd h hne)]
  unfold packK
  dsimp only
  rw [if_neg (show ¬ (6 : Int) = 7 by decide), if_neg (by decide), if_neg (by decide), if_pos (by decide)]
  have e : ({ z with bad := z.bad || false, st := aft 9 11 z.st } : Lzs) = { z with st := aft 9 11 z.st } := by rw [hb]; cases z; simp at hb ⊢
  rw [e]
  exact tail_is hb he h
theorem packE_again (hb : z.bad = false) (he : z.ended = false) {j n : Nat} (hj : j ≤ 3) (hn : 2 ≤ n) (hn2 : n ≤ 273) (h : z.has (z.rep j) = true) :
    (packP encM z t ⟨(j + 2 : Nat), d, n, b⟩).2 = (copyN n { z.again j with st := aft 8 11 z.st }, (lenP encM (kdE z t ((j + 2 : Nat) : Int)) 1333 (z.out.length % 2 ^ z.pb) ((n - 2 : Nat) : Int)).2) := by
  have hne : ¬ z.out.length = 0 := by have := (of_decide_eq_true h).1; omega
  rw [pack_split hb ((j + 2 : Nat) : Int) (by omega) (by omega) (fun h => absurd h hne)]
  unfold packK
  dsimp only
  rw [if_neg (show ¬ ((j + 2 : Nat) : Int) = 7 by omega), Int.toNat_natCast, if_neg (by omega), if_neg (by omega), if_neg (by omega), with_bad z hb, show (n : Int) - 2 = ((n - 2 : Nat) : Int) by omega]
  unfold packR
  rw [lenP_tell (show n - 2 < 272 by omega), show n - 2 + 2 = n by omega, show j + 2 - 2 = j by omega]
  exact tail_is (z := { z.again j with st := aft 8 11 z.st }) hb he h
end
end Go.Proofs.YtoencondpbkomaaGreat

/-
  The program's coder of LZMA: a match, a length by an elder distance, copied bytes.
-/
namespace Go.Proofs.YtoencondpbkomaaGreat
open Go.RowKit

section
variable {K : Koc} {w w' : World} {Ge Ge' : Option Nat} {A' : Option Addr} {c : Nat} {z : Lzs} {k : Nat} {t : Pm En}

set_option maxRecDepth 100000 in
set_option maxHeartbeats 8000000 in
/-- The coder codes a length and a new distance. -/
theorem cmatch_any {n d s : Nat} (h : Cw K w Ge A' c z (k + 22) t) (hp : z.pb ≤ 4) (ho : z.out.length ≤ 1000000) (hs : s = z.out.length % 2 ^ z.pb) (hn : 2 ≤ n) (hn2 : n ≤ 273) (hd : d < 4294967296) :
    Calls Tryz.prog 66 #[.pointer (some ⟨K.g, 0, none⟩), .int .i64 (n : Int), .int .u32 (d : Int)] w (CMid K w Ge (.tuple #[]) A' c { z with r0 := d, r1 := z.r0, r2 := z.r1, r3 := z.r2, st := aft 7 10 z.st } k (distP encM (lenP encM t 819 s ((n - 2 : Nat) : Int)).2 (n - 2) d).2) := by
  obtain ⟨l, hl⟩ : ∃ l, l = n - 2 := ⟨_, rfl⟩
  rw [← hl]
  have e1 : IntKind.i64.wrap ((n : Int) - 2) = (l : Int) := by rw [show (n : Int) - 2 = (l : Int) by omega]; exact IntWalk.i64_in _ (by omega)
  have KL := Lib.hid (clenc_any (k := k + 12) (A := 819) (o := 574) (v := l) h hp ho (by decide) (by decide) (by decide) hs (by omega))
  obtain ⟨T, hT⟩ : ∃ T, T = (lenP encM t 819 s (l : Int)).2 := ⟨_, rfl⟩
  rw [← hT] at KL ⊢
  obtain ⟨st, hst⟩ : ∃ st, st = z.st := ⟨_, rfl⟩
  have HST := Lib.hid hst
  have HD := Lib.hid hd
  clear h hp ho hs hn hn2 hl hT hst hd
  go_enter Tryz.func66, Tryz.ntmps66
  go_wp2_with fail
  refine KL.out.mono ?_
  rintro e w1 ⟨rfl, G1, hz1, hn1, ho1⟩
  have c6 := hz1.f.c6
  rw [← HST.out] at c6
  have z6 := hz1.f.fz 6
  have KC := Lib.hid (pmat_any st w1)
  have HZ2 : Hid (Cw K (w1.setCell ⟨K.g, 6, none⟩ (.int .i64 ((aft 7 10 st : Nat) : Int))) G1 A' c { z with st := aft 7 10 st } (k + 12) T) := Lib.hid (hz1.put 6 (by decide) (.int .i64 ((aft 7 10 st : Nat) : Int)) (z' := { z with st := aft 7 10 st }) rfl rfl)
  have HN2 := Lib.hid hn1
  have HO2 : Hid (Only (K.own Ge) w (w1.setCell ⟨K.g, 6, none⟩ (.int .i64 ((aft 7 10 st : Nat) : Int)))) := Lib.hid (ho1.cwn_put 6 _)
  clear hz1 hn1 ho1 KL
  go_wp2_with fail
  refine KC.out.mono ?_
  rintro e w2 ⟨rfl, rfl⟩
  clear KC
  go_upto_region 3 with fail
  generalize w1.setCell ⟨K.g, 6, none⟩ (.int .i64 ((aft 7 10 st : Nat) : Int)) = w3 at *
  clear c6 z6
  have KD := Lib.hid (cdist_any (l := l) HZ2.out HD.out)
  go_wp2_with fail
  refine KD.out.mono ?_
  rintro e w4 ⟨rfl, G4, hz4, hn4, ho4⟩
  have KP := Lib.hid (cpush_any (d := d) hz4)
  have HN4 := Lib.hid (HN2.out.trans hn4 HO2.out.size)
  have HO4 := Lib.hid (cset_trans HO2.out HN2.out ho4)
  clear hz4 hn4 ho4 KD HZ2 HN2 HO2
  go_wp2_with fail
  refine KP.out.mono ?_
  rintro e w5 ⟨rfl, G5, hz5, hn5, ho5⟩
  have HZ5 := Lib.hid hz5
  have HN5 := Lib.hid (HN4.out.trans hn5 HO4.out.size)
  have HO5 := Lib.hid (cset_trans HO4.out HN4.out ho5)
  clear hz5 hn5 ho5 KP HN4 HO4
  go_wp2_with fail
  first | go_end0 | refine bodyPost_ret (results_none rfl _ _ _) rfl ?_
  have := HZ5.out
  rw [HST.out] at this
  exact ⟨rfl, G5, this, HN5.out, HO5.out⟩

set_option maxRecDepth 100000 in
set_option maxHeartbeats 8000000 in
/-- The coder codes a length; an elder distance comes first. -/
theorem cagain_any {n j s : Nat} (h : Cw K w Ge A' c z (k + 10) t) (hp : z.pb ≤ 4) (ho : z.out.length ≤ 1000000) (hs : s = z.out.length % 2 ^ z.pb) (hn : 2 ≤ n) (hn2 : n ≤ 273) (hj : j ≤ 3) :
    Calls Tryz.prog 69 #[.pointer (some ⟨K.g, 0, none⟩), .int .i64 (j : Int), .int .i64 (n : Int)] w (CMid K w Ge (.tuple #[]) A' c { z.again j with st := aft 8 11 z.st } k (lenP encM t 1333 s ((n - 2 : Nat) : Int)).2) := by
  obtain ⟨l, hl⟩ : ∃ l, l = n - 2 := ⟨_, rfl⟩
  rw [← hl]
  have e1 : IntKind.i64.wrap ((n : Int) - 2) = (l : Int) := by rw [show (n : Int) - 2 = (l : Int) by omega]; exact IntWalk.i64_in _ (by omega)
  have KL := Lib.hid (clenc_any (k := k) (A := 1333) (o := 1088) (v := l) h hp ho (by decide) (by decide) (by decide) hs (by omega))
  obtain ⟨T, hT⟩ : ∃ T, T = (lenP encM t 1333 s (l : Int)).2 := ⟨_, rfl⟩
  rw [← hT] at KL ⊢
  obtain ⟨st, hst⟩ : ∃ st, st = z.st := ⟨_, rfl⟩
  have HST := Lib.hid hst
  have HJ := Lib.hid hj
  clear h hp ho hs hn hn2 hl hT hst hj
  go_enter Tryz.func69, Tryz.ntmps69
  go_wp2_with fail
  refine KL.out.mono ?_
  rintro e w1 ⟨rfl, G1, hz1, hn1, ho1⟩
  have c6 := hz1.f.c6
  rw [← HST.out] at c6
  have z6 := hz1.f.fz 6
  have KC := Lib.hid (pag_any st w1)
  have HZ2 : Hid (Cw K (w1.setCell ⟨K.g, 6, none⟩ (.int .i64 ((aft 8 11 st : Nat) : Int))) G1 A' c { z with st := aft 8 11 st } k T) := Lib.hid (hz1.put 6 (by decide) (.int .i64 ((aft 8 11 st : Nat) : Int)) (z' := { z with st := aft 8 11 st }) rfl rfl)
  have HN2 := Lib.hid hn1
  have HO2 : Hid (Only (K.own Ge) w (w1.setCell ⟨K.g, 6, none⟩ (.int .i64 ((aft 8 11 st : Nat) : Int)))) := Lib.hid (ho1.cwn_put 6 _)
  clear hz1 hn1 ho1 KL
  go_wp2_with fail
  refine KC.out.mono ?_
  rintro e w2 ⟨rfl, rfl⟩
  clear KC
  go_upto_region 2 with fail
  generalize w1.setCell ⟨K.g, 6, none⟩ (.int .i64 ((aft 8 11 st : Nat) : Int)) = w3 at *
  clear c6 z6
  have KP := Lib.hid (ccome_all HJ.out HZ2.out)
  go_wp2_with fail
  refine KP.out.mono ?_
  rintro e w5 ⟨rfl, G5, hz5, hn5, ho5⟩
  have HZ5 := Lib.hid hz5
  have HN5 := Lib.hid (HN2.out.trans hn5 HO2.out.size)
  have HO5 := Lib.hid (cset_trans HO2.out HN2.out ho5)
  clear hz5 hn5 ho5 KP HN2 HO2
  go_wp2_with fail
  first | go_end0 | refine bodyPost_ret (results_none rfl _ _ _) rfl ?_
  have hz := HZ5.out
  rw [HST.out] at hz
  exact ⟨rfl, G5, hz, HN5.out, HO5.out⟩

theorem copyN_succ : ∀ (j : Nat) (z : Lzs), copyN (j + 1) z = (copyN j z).push ((copyN j z).back (copyN j z).r0)
  | 0, _ => rfl
  | j + 1, z => by
    show copyN (j + 1) (z.push (z.back z.r0)) = _
    rw [copyN_succ j (z.push (z.back z.r0))]
    rfl
theorem copyN_r0 : ∀ (j : Nat) (z : Lzs), (copyN j z).r0 = z.r0
  | 0, _ => rfl
  | j + 1, z => copyN_r0 j (z.push (z.back z.r0))

set_option maxRecDepth 100000 in
set_option maxHeartbeats 8000000 in
/-- So many bytes at the first distance are told. -/
theorem ccopies_any {n : Nat} (h : Cw K w Ge A' c z k t) (hn : n ≤ 1000) (ho : z.out.length ≤ 900000) (hr0 : z.r0 < 4294967296) :
    Calls Tryz.prog 67 #[.pointer (some ⟨K.g, 0, none⟩), .int .i64 (n : Int)] w (CPut K w Ge (tb A' z.out.length c) (.tuple #[]) (copyN n z) k t) := by
  obtain ⟨i, hi, hz0, hz1, hz2⟩ := info_parts info_u8
  have HH := Lib.hid (And.intro hn (And.intro ho hr0))
  have HZ := Lib.hid h
  have HNT := Lib.hid (Nwr.refl w (tb A' z.out.length c))
  clear h hn ho hr0
  go_enter Tryz.func67, Tryz.ntmps67
  go_wp2_with fail
  go_loopw [5] (fun i wr => ∃ (j : Nat) (A1 : Option Addr) (c1 : Nat), j ≤ n ∧ i = .int .i64 (j : Int) ∧ Cw K wr Ge A1 c1 (copyN j z) k t ∧ Nwr w (tb A' z.out.length c) (tb A1 (copyN j z).out.length c1) ∧ Only (K.all Ge (tb A' z.out.length c)) w wr) (fun i _ => n - (intOf i).toNat)
  case atStart => exact ⟨0, A', c, Nat.zero_le _, rfl, HZ.out, HNT.out, Only.refl _ _⟩
  case round =>
    clear HZ HNT
    obtain ⟨j, A1, c1, hj, rfl, hz, hnt, ho⟩ := hrel
    obtain ⟨hn, hout, hr0⟩ := HH.out
    by_cases hlt : j < n
    · obtain ⟨k1, k2, k3, k4⟩ := copyN_keep j z
      have hsucc := copyN_succ j z
      have hr1 := copyN_r0 j z
      obtain ⟨y, hy⟩ : ∃ y, y = copyN j z := ⟨_, rfl⟩
      rw [← hy] at hz hnt k3 hsucc hr1
      have hyr : y.r0 < 4294967296 := by rw [hr1]; exact hr0
      have hyl : y.out.length ≤ 901000 := by omega
      have KA := Lib.hid (fun n => cat_any (hz.drewN n) hyr (by omega))
      obtain ⟨b, hb⟩ : ∃ b, b = y.back y.r0 := ⟨_, rfl⟩
      rw [← hb] at KA hsucc
      have c5 := hz.f.c5
      have c7 := hz.f.c7
      have i1 : (j : Int) < (n : Int) := by omega
      have HSU := Lib.hid hsucc
      have HO := Lib.hid ho
      have HN := Lib.hid hnt
      have HPU := Lib.hid (fun (w1 w3 : World) (A2 : Option Addr) (c2 : Nat) (h1 : Only (fun _ => False) wr w1) => Cw.pushed (w1 := w1) (w3 := w3) (A2 := A2) (c2 := c2) (x := b) hz h1)
      have HL := Lib.hid (show y.out.length ≤ 901000 by omega)
      have HOW := Lib.hid (fun (m : Nat) (o : Obj) => World.ownsRow.alloc (show (wr.drewN m).ownsRow 0 5 1 (.slice A1 y.out.length c1) y.out.length (bv y.out) from hz.told) o)
      have HNW := Lib.hid (fun (m : Nat) (u : Value) => (sl_one (wr.drewN m) 5 u).news)
      have c5a : ∀ (m : Nat) (o : Obj), ((wr.drewN m).alloc o).cell? ⟨K.g, 5, none⟩ = some (.slice A1 y.out.length c1) := fun m o => (hz.quiet (((Only.refl _ wr).drewN m).alloc o)).f.c5
      have c7a : ∀ (m : Nat) (o : Obj), ((wr.drewN m).alloc o).cell? ⟨K.g, 7, none⟩ = some (.int .u32 (y.r0 : Int)) := fun m o => (hz.quiet (((Only.refl _ wr).drewN m).alloc o)).f.c7
      have z5 := hz.f.fz 5
      clear hz hnt ho k1 k2 k3 k4 hsucc hr1 hyr hyl hb hy hout hr0
      go_wp2_with fail
      go_region_law (first
        | (go_simp; go_at_call 87; refine (KA.out _).mono ?_; rintro e wa ⟨rfl, na, rfl⟩)
        | (refine step_append_lies _ rfl (.tmp 11) (.tmp 19) 22 rfl 0 5 i _ 1 1 Tryz.underlying22 hi hz0 hz1 hz2 rfl (by omega) _ y.out.length (bv y.out) rfl (HOW.out _ _) _ 1 1 [.int .u8 (b.toNat : Int)] rfl rfl (HNW.out _ _) (one_one _ _) (by omega) (by have := HL.out; unfold maxLen; omega) (by have := HL.out; omega) (Nat.zero_le _) _ rfl ?_; intro q' c' w3 hod hgd hqd hql3; obtain ⟨d5, f5, d7, hp⟩ := HPU.out _ w3 (some ⟨q', 0, none⟩) c' (((Only.refl (fun _ => False) wr).drewN _).alloc _) hod hgd (hqd.imp (fun h => h.symm) (fun h => congrArg some h)); have HP := Lib.hid hp; clear hod hgd hqd hp))
      all_goals
        have HZ3 := Lib.hid HP.out.1
        have HN3 := Lib.hid (HN.out.trans HP.out.2.1 HO.out.size)
        have HO3 := Lib.hid (HO.out.trans' HP.out.2.2 (fun i hi => by
          rcases hi with hi | hi
          · exact .inl (.inl hi)
          · rcases HN.out i hi with e | e
            · exact .inl (.inr e)
            · exact .inr e))
        clear KA HPU HOW HNW c5 c7 c5a c7a z5 HP d5 f5 d7
        go_wp2_with fail
        go_roundw
        case rel => exact ⟨j + 1, _, _, by omega, by go_num, by rw [HSU.out]; exact HZ3.out, by rw [HSU.out]; exact HN3.out, HO3.out⟩
        case measure => simp [intOf]; omega
    · obtain rfl : j = n := by omega
      have HZ := Lib.hid hz
      have HN := Lib.hid hnt
      have HO := Lib.hid ho
      clear hz hnt ho hn hout hr0
      go_wp2_with fail
      first | go_end0 | refine bodyPost_ret (results_none rfl _ _ _) rfl ?_
      exact ⟨rfl, Ge, A1, c1, HZ.out, Nwr.refl _ _, HN.out, HO.out⟩
end
end Go.Proofs.YtoencondpbkomaaGreat
