/-
  PsReps, PsPk, PsPkt, AppFour, CdList, PsFl: put together.
-/
import Derived.Test.YtoencondpbkomaaGreatQ15
import Derived.Test.YtoencondpbkomaaGreatQ08
import Derived.Test.YtoencondpbkomaaGreatQ01
import Derived.Deep.RegionLaw
import Derived.Test.YtoencondpbkomaaGreatQ06
set_option linter.unusedVariables false
set_option linter.unusedSimpArgs false
/-
  The program's finder: its elder distances are moved.
-/
namespace Go.Proofs.YtoencondpbkomaaGreat
open Go.RowKit
def Ps.bring (s : Ps) : Nat → Ps
  | 0 => s
  | 1 => ⟨s.i, s.r1, s.r0, s.r2, s.r3⟩
  | 2 => ⟨s.i, s.r2, s.r0, s.r1, s.r3⟩
  | _ => ⟨s.i, s.r3, s.r0, s.r1, s.r2⟩
def Ps.come (s : Ps) (d : Nat) : Ps := ⟨s.i, d, s.r0, s.r1, s.r2⟩
def RepPost (w : World) (g : Nat) (A : Option Addr) (n c dict : Nat) (s : Ps) (lv av : Value) (x : Ending) (w' : World) : Prop :=
  x = .returned (.tuple #[]) ∧ Only (fun i => i = g) w w' ∧ Blk w' g 120 (fCells A n c dict s lv av)
section
variable {w : World} {g : Nat} {A : Option Addr} {n c dict : Nat} {s : Ps} {lv av : Value}
set_option maxRecDepth 100000 in
set_option maxHeartbeats 4000000 in
theorem praise_0 (h : Blk w g 120 (fCells A n c dict s lv av)) :
    Calls Tryz.prog 79 #[.pointer (some ⟨g, 3, none⟩), .int .i64 0] w (RepPost w g A n c dict (s.bring 0) lv av) := by
  have c3 : w.cell? ⟨g, 3, none⟩ = some (.int .u32 (s.r0 : Int)) := h.cell 3
  have c4 : w.cell? ⟨g, 4, none⟩ = some (.int .u32 (s.r1 : Int)) := h.cell 4
  have c5 : w.cell? ⟨g, 5, none⟩ = some (.int .u32 (s.r2 : Int)) := h.cell 5
  have c6 : w.cell? ⟨g, 6, none⟩ = some (.int .u32 (s.r3 : Int)) := h.cell 6
  have hcp : (Builtin.copy_ #[116, 116] 3 #[.slice (some ⟨g, 4, none⟩) 0 3, .slice (some ⟨g, 3, none⟩) 0 4]).run Tryz.prog w.drew = .ok (goInt 0) (w.drew) := by
    refine copy_reps (W := w.drew) (g := g) (o := 3) (n := 0) (m := 0) (k := 4) [] rfl (fun i v hv => ?_) (fun i hi => ?_) (fun i => h.free i) (by simp [Value.oneCell'])
    · cases hv
    · exact absurd hi (Nat.not_lt_zero i)
  have hB : Blk ((w.drew).setCell ⟨g, 3, none⟩ (.int .u32 (s.r0 : Int))) g 120 (fCells A n c dict (s.bring 0) lv av) := ((h.drewN 1).put 3 (.int .u32 (s.r0 : Int)))
  have hO : Only (fun i => i = g) w ((w.drew).setCell ⟨g, 3, none⟩ (.int .u32 (s.r0 : Int))) := ((Only.refl (fun i => i = g) w).drew).setCell (p := ⟨g, 3, none⟩) (.inl rfl) (.int .u32 (s.r0 : Int))
  have H := Lib.hid (And.intro hO hB)
  have z3 := h.free 3
  have z4 := h.free 4
  have z5 := h.free 5
  have z6 := h.free 6
  clear h hB hO
  go_enter Tryz.func79, Tryz.ntmps79
  go_wp2_with fail
  go_region
  all_goals go_wp2_with fail
  first | go_end0 | refine bodyPost_ret (results_none rfl _ _ _) rfl ?_
  exact ⟨rfl, H.out.1, H.out.2⟩
set_option maxRecDepth 100000 in
set_option maxHeartbeats 4000000 in
theorem praise_1 (h : Blk w g 120 (fCells A n c dict s lv av)) :
    Calls Tryz.prog 79 #[.pointer (some ⟨g, 3, none⟩), .int .i64 1] w (RepPost w g A n c dict (s.bring 1) lv av) := by
  have c3 : w.cell? ⟨g, 3, none⟩ = some (.int .u32 (s.r0 : Int)) := h.cell 3
  have c4 : w.cell? ⟨g, 4, none⟩ = some (.int .u32 (s.r1 : Int)) := h.cell 4
  have c5 : w.cell? ⟨g, 5, none⟩ = some (.int .u32 (s.r2 : Int)) := h.cell 5
  have c6 : w.cell? ⟨g, 6, none⟩ = some (.int .u32 (s.r3 : Int)) := h.cell 6
  have hcp : (Builtin.copy_ #[116, 116] 3 #[.slice (some ⟨g, 4, none⟩) 1 3, .slice (some ⟨g, 3, none⟩) 1 4]).run Tryz.prog w.drew = .ok (goInt 1) ((w.drew).setCell ⟨g, 4, none⟩ (.int .u32 (s.r0 : Int))) := by
    refine copy_reps (W := w.drew) (g := g) (o := 3) (n := 1) (m := 1) (k := 4) [.int .u32 (s.r0 : Int)] rfl (fun i v hv => ?_) (fun i hi => ?_) (fun i => h.free i) (by simp [Value.oneCell'])
    · match i, hv with
      | 0, hv => injection hv with hv; rw [← hv]; exact c3
    · match i, hi with
      | 0, _ => show (w.cell? ⟨g, 4, none⟩).isSome = true; rw [c4]; rfl
  have hB : Blk (((w.drew).setCell ⟨g, 4, none⟩ (.int .u32 (s.r0 : Int))).setCell ⟨g, 3, none⟩ (.int .u32 (s.r1 : Int))) g 120 (fCells A n c dict (s.bring 1) lv av) := (((h.drewN 1).put 4 (.int .u32 (s.r0 : Int))).put 3 (.int .u32 (s.r1 : Int)))
  have hO : Only (fun i => i = g) w (((w.drew).setCell ⟨g, 4, none⟩ (.int .u32 (s.r0 : Int))).setCell ⟨g, 3, none⟩ (.int .u32 (s.r1 : Int))) := (((Only.refl (fun i => i = g) w).drew).setCell (p := ⟨g, 4, none⟩) (.inl rfl) (.int .u32 (s.r0 : Int))).setCell (p := ⟨g, 3, none⟩) (.inl rfl) (.int .u32 (s.r1 : Int))
  have H := Lib.hid (And.intro hO hB)
  have z3 := h.free 3
  have z4 := h.free 4
  have z5 := h.free 5
  have z6 := h.free 6
  clear h hB hO
  go_enter Tryz.func79, Tryz.ntmps79
  go_wp2_with fail
  go_region
  all_goals go_wp2_with fail
  first | go_end0 | refine bodyPost_ret (results_none rfl _ _ _) rfl ?_
  exact ⟨rfl, H.out.1, H.out.2⟩
set_option maxRecDepth 100000 in
set_option maxHeartbeats 4000000 in
theorem praise_2 (h : Blk w g 120 (fCells A n c dict s lv av)) :
    Calls Tryz.prog 79 #[.pointer (some ⟨g, 3, none⟩), .int .i64 2] w (RepPost w g A n c dict (s.bring 2) lv av) := by
  have c3 : w.cell? ⟨g, 3, none⟩ = some (.int .u32 (s.r0 : Int)) := h.cell 3
  have c4 : w.cell? ⟨g, 4, none⟩ = some (.int .u32 (s.r1 : Int)) := h.cell 4
  have c5 : w.cell? ⟨g, 5, none⟩ = some (.int .u32 (s.r2 : Int)) := h.cell 5
  have c6 : w.cell? ⟨g, 6, none⟩ = some (.int .u32 (s.r3 : Int)) := h.cell 6
  have hcp : (Builtin.copy_ #[116, 116] 3 #[.slice (some ⟨g, 4, none⟩) 2 3, .slice (some ⟨g, 3, none⟩) 2 4]).run Tryz.prog w.drew = .ok (goInt 2) (((w.drew).setCell ⟨g, 4, none⟩ (.int .u32 (s.r0 : Int))).setCell ⟨g, 5, none⟩ (.int .u32 (s.r1 : Int))) := by
    refine copy_reps (W := w.drew) (g := g) (o := 3) (n := 2) (m := 2) (k := 4) [.int .u32 (s.r0 : Int), .int .u32 (s.r1 : Int)] rfl (fun i v hv => ?_) (fun i hi => ?_) (fun i => h.free i) (by simp [Value.oneCell'])
    · match i, hv with
      | 0, hv => injection hv with hv; rw [← hv]; exact c3
      | 1, hv => injection hv with hv; rw [← hv]; exact c4
    · match i, hi with
      | 0, _ => show (w.cell? ⟨g, 4, none⟩).isSome = true; rw [c4]; rfl
      | 1, _ => show (w.cell? ⟨g, 5, none⟩).isSome = true; rw [c5]; rfl
  have hB : Blk ((((w.drew).setCell ⟨g, 4, none⟩ (.int .u32 (s.r0 : Int))).setCell ⟨g, 5, none⟩ (.int .u32 (s.r1 : Int))).setCell ⟨g, 3, none⟩ (.int .u32 (s.r2 : Int))) g 120 (fCells A n c dict (s.bring 2) lv av) := ((((h.drewN 1).put 4 (.int .u32 (s.r0 : Int))).put 5 (.int .u32 (s.r1 : Int))).put 3 (.int .u32 (s.r2 : Int)))
  have hO : Only (fun i => i = g) w ((((w.drew).setCell ⟨g, 4, none⟩ (.int .u32 (s.r0 : Int))).setCell ⟨g, 5, none⟩ (.int .u32 (s.r1 : Int))).setCell ⟨g, 3, none⟩ (.int .u32 (s.r2 : Int))) := ((((Only.refl (fun i => i = g) w).drew).setCell (p := ⟨g, 4, none⟩) (.inl rfl) (.int .u32 (s.r0 : Int))).setCell (p := ⟨g, 5, none⟩) (.inl rfl) (.int .u32 (s.r1 : Int))).setCell (p := ⟨g, 3, none⟩) (.inl rfl) (.int .u32 (s.r2 : Int))
  have H := Lib.hid (And.intro hO hB)
  have z3 := h.free 3
  have z4 := h.free 4
  have z5 := h.free 5
  have z6 := h.free 6
  clear h hB hO
  go_enter Tryz.func79, Tryz.ntmps79
  go_wp2_with fail
  go_region
  all_goals go_wp2_with fail
  first | go_end0 | refine bodyPost_ret (results_none rfl _ _ _) rfl ?_
  exact ⟨rfl, H.out.1, H.out.2⟩
set_option maxRecDepth 100000 in
set_option maxHeartbeats 4000000 in
theorem praise_3 (h : Blk w g 120 (fCells A n c dict s lv av)) :
    Calls Tryz.prog 79 #[.pointer (some ⟨g, 3, none⟩), .int .i64 3] w (RepPost w g A n c dict (s.bring 3) lv av) := by
  have c3 : w.cell? ⟨g, 3, none⟩ = some (.int .u32 (s.r0 : Int)) := h.cell 3
  have c4 : w.cell? ⟨g, 4, none⟩ = some (.int .u32 (s.r1 : Int)) := h.cell 4
  have c5 : w.cell? ⟨g, 5, none⟩ = some (.int .u32 (s.r2 : Int)) := h.cell 5
  have c6 : w.cell? ⟨g, 6, none⟩ = some (.int .u32 (s.r3 : Int)) := h.cell 6
  have hcp : (Builtin.copy_ #[116, 116] 3 #[.slice (some ⟨g, 4, none⟩) 3 3, .slice (some ⟨g, 3, none⟩) 3 4]).run Tryz.prog w.drew = .ok (goInt 3) ((((w.drew).setCell ⟨g, 4, none⟩ (.int .u32 (s.r0 : Int))).setCell ⟨g, 5, none⟩ (.int .u32 (s.r1 : Int))).setCell ⟨g, 6, none⟩ (.int .u32 (s.r2 : Int))) := by
    refine copy_reps (W := w.drew) (g := g) (o := 3) (n := 3) (m := 3) (k := 4) [.int .u32 (s.r0 : Int), .int .u32 (s.r1 : Int), .int .u32 (s.r2 : Int)] rfl (fun i v hv => ?_) (fun i hi => ?_) (fun i => h.free i) (by simp [Value.oneCell'])
    · match i, hv with
      | 0, hv => injection hv with hv; rw [← hv]; exact c3
      | 1, hv => injection hv with hv; rw [← hv]; exact c4
      | 2, hv => injection hv with hv; rw [← hv]; exact c5
    · match i, hi with
      | 0, _ => show (w.cell? ⟨g, 4, none⟩).isSome = true; rw [c4]; rfl
      | 1, _ => show (w.cell? ⟨g, 5, none⟩).isSome = true; rw [c5]; rfl
      | 2, _ => show (w.cell? ⟨g, 6, none⟩).isSome = true; rw [c6]; rfl
  have hB : Blk (((((w.drew).setCell ⟨g, 4, none⟩ (.int .u32 (s.r0 : Int))).setCell ⟨g, 5, none⟩ (.int .u32 (s.r1 : Int))).setCell ⟨g, 6, none⟩ (.int .u32 (s.r2 : Int))).setCell ⟨g, 3, none⟩ (.int .u32 (s.r3 : Int))) g 120 (fCells A n c dict (s.bring 3) lv av) := (((((h.drewN 1).put 4 (.int .u32 (s.r0 : Int))).put 5 (.int .u32 (s.r1 : Int))).put 6 (.int .u32 (s.r2 : Int))).put 3 (.int .u32 (s.r3 : Int)))
  have hO : Only (fun i => i = g) w (((((w.drew).setCell ⟨g, 4, none⟩ (.int .u32 (s.r0 : Int))).setCell ⟨g, 5, none⟩ (.int .u32 (s.r1 : Int))).setCell ⟨g, 6, none⟩ (.int .u32 (s.r2 : Int))).setCell ⟨g, 3, none⟩ (.int .u32 (s.r3 : Int))) := (((((Only.refl (fun i => i = g) w).drew).setCell (p := ⟨g, 4, none⟩) (.inl rfl) (.int .u32 (s.r0 : Int))).setCell (p := ⟨g, 5, none⟩) (.inl rfl) (.int .u32 (s.r1 : Int))).setCell (p := ⟨g, 6, none⟩) (.inl rfl) (.int .u32 (s.r2 : Int))).setCell (p := ⟨g, 3, none⟩) (.inl rfl) (.int .u32 (s.r3 : Int))
  have H := Lib.hid (And.intro hO hB)
  have z3 := h.free 3
  have z4 := h.free 4
  have z5 := h.free 5
  have z6 := h.free 6
  clear h hB hO
  go_enter Tryz.func79, Tryz.ntmps79
  go_wp2_with fail
  go_region
  all_goals go_wp2_with fail
  first | go_end0 | refine bodyPost_ret (results_none rfl _ _ _) rfl ?_
  exact ⟨rfl, H.out.1, H.out.2⟩
set_option maxRecDepth 100000 in
set_option maxHeartbeats 4000000 in
theorem ppush_any {d : Nat} (h : Blk w g 120 (fCells A n c dict s lv av)) :
    Calls Tryz.prog 78 #[.pointer (some ⟨g, 3, none⟩), .int .u32 (d : Int)] w (RepPost w g A n c dict (s.come d) lv av) := by
  have c3 : w.cell? ⟨g, 3, none⟩ = some (.int .u32 (s.r0 : Int)) := h.cell 3
  have c4 : w.cell? ⟨g, 4, none⟩ = some (.int .u32 (s.r1 : Int)) := h.cell 4
  have c5 : w.cell? ⟨g, 5, none⟩ = some (.int .u32 (s.r2 : Int)) := h.cell 5
  have c6 : w.cell? ⟨g, 6, none⟩ = some (.int .u32 (s.r3 : Int)) := h.cell 6
  have hcp : (Builtin.copy_ #[116, 116] 3 #[.slice (some ⟨g, 4, none⟩) 3 3, .slice (some ⟨g, 3, none⟩) 4 4]).run Tryz.prog w.drew = .ok (goInt 3) ((((w.drew).setCell ⟨g, 4, none⟩ (.int .u32 (s.r0 : Int))).setCell ⟨g, 5, none⟩ (.int .u32 (s.r1 : Int))).setCell ⟨g, 6, none⟩ (.int .u32 (s.r2 : Int))) := by
    refine copy_reps (W := w.drew) (g := g) (o := 3) (n := 3) (m := 4) (k := 4) [.int .u32 (s.r0 : Int), .int .u32 (s.r1 : Int), .int .u32 (s.r2 : Int)] rfl (fun i v hv => ?_) (fun i hi => ?_) (fun i => h.free i) (by simp [Value.oneCell'])
    · match i, hv with
      | 0, hv => injection hv with hv; rw [← hv]; exact c3
      | 1, hv => injection hv with hv; rw [← hv]; exact c4
      | 2, hv => injection hv with hv; rw [← hv]; exact c5
    · match i, hi with
      | 0, _ => show (w.cell? ⟨g, 4, none⟩).isSome = true; rw [c4]; rfl
      | 1, _ => show (w.cell? ⟨g, 5, none⟩).isSome = true; rw [c5]; rfl
      | 2, _ => show (w.cell? ⟨g, 6, none⟩).isSome = true; rw [c6]; rfl
  have hB : Blk (((((w.drew).setCell ⟨g, 4, none⟩ (.int .u32 (s.r0 : Int))).setCell ⟨g, 5, none⟩ (.int .u32 (s.r1 : Int))).setCell ⟨g, 6, none⟩ (.int .u32 (s.r2 : Int))).setCell ⟨g, 3, none⟩ (.int .u32 (d : Int))) g 120 (fCells A n c dict (s.come d) lv av) := (((((h.drewN 1).put 4 (.int .u32 (s.r0 : Int))).put 5 (.int .u32 (s.r1 : Int))).put 6 (.int .u32 (s.r2 : Int))).put 3 (.int .u32 (d : Int)))
  have hO : Only (fun i => i = g) w (((((w.drew).setCell ⟨g, 4, none⟩ (.int .u32 (s.r0 : Int))).setCell ⟨g, 5, none⟩ (.int .u32 (s.r1 : Int))).setCell ⟨g, 6, none⟩ (.int .u32 (s.r2 : Int))).setCell ⟨g, 3, none⟩ (.int .u32 (d : Int))) := (((((Only.refl (fun i => i = g) w).drew).setCell (p := ⟨g, 4, none⟩) (.inl rfl) (.int .u32 (s.r0 : Int))).setCell (p := ⟨g, 5, none⟩) (.inl rfl) (.int .u32 (s.r1 : Int))).setCell (p := ⟨g, 6, none⟩) (.inl rfl) (.int .u32 (s.r2 : Int))).setCell (p := ⟨g, 3, none⟩) (.inl rfl) (.int .u32 (d : Int))
  have H := Lib.hid (And.intro hO hB)
  have z3 := h.free 3
  have z4 := h.free 4
  have z5 := h.free 5
  have z6 := h.free 6
  clear h hB hO
  go_enter Tryz.func78, Tryz.ntmps78
  go_wp2_with fail
  go_region
  all_goals go_wp2_with fail
  first | go_end0 | refine bodyPost_ret (results_none rfl _ _ _) rfl ?_
  exact ⟨rfl, H.out.1, H.out.2⟩
theorem praise_any {j : Nat} (hj : j < 4) (h : Blk w g 120 (fCells A n c dict s lv av)) :
    Calls Tryz.prog 79 #[.pointer (some ⟨g, 3, none⟩), .int .i64 (j : Int)] w (RepPost w g A n c dict (s.bring j) lv av) := by
  match j, hj with
  | 0, _ => exact praise_0 h
  | 1, _ => exact praise_1 h
  | 2, _ => exact praise_2 h
  | 3, _ => exact praise_3 h
end
section
variable {w w' : World} {g : Nat} {G : Nat → Prop} {A : Option Addr} {n c dict : Nat} {b : List UInt8} {s s' : Ps} {cnt : Nat}
/-- the finder whose first cells turn -/
theorem Fd.turn (h : Fd w g G A n c dict b s cnt) : ∃ lv av, Fq w g A n c dict b s lv av ∧ G g ∧ ∀ (w' : World) (s' : Ps), Only (fun i => i = g) w w' → Blk w' g 120 (fCells A n c dict s' lv av) → s'.i ≤ n → s'.Lit → Fd w' g G A n c dict b s' cnt := by
  rcases h with ⟨h, hc⟩ | ⟨sz, ql, qa, ca, cs, h⟩
  · refine ⟨_, _, h.fq, h.gg, fun w' s' hO hB hi hl => .inl ⟨⟨⟨hB, h.fq.sl.only hO (fun h0 q o e e2 => h.ap h0 q o e (by rw [e2]; exact h.gg)), h.fq.n1, hi, h.fq.d1, h.fq.d2, hl⟩, h.gg, fun i hi => Nat.lt_of_lt_of_le (h.lt i hi) hO.size, h.ap⟩, hc⟩⟩
  · refine ⟨_, _, h.fq, h.gg, fun w' s' hO hB hi hl => .inr ⟨sz, ql, qa, ca, cs, ⟨⟨hB, h.fq.sl.only hO (fun h0 q o e e2 => h.ap h0 q o e (by rw [e2]; exact h.gg)), h.fq.n1, hi, h.fq.d1, h.fq.d2, hl⟩, ⟨h.md.lb.only hO h.n1, h.md.lz, h.md.lv, own_only h.md.ar hO h.n2, h.md.s1, h.md.s2, h.md.ne⟩, h.gg, h.gl, h.ga, fun i hi => Nat.lt_of_lt_of_le (h.lt i hi) hO.size, h.ap, h.n1, h.n2⟩⟩⟩
end
end Go.Proofs.YtoencondpbkomaaGreat

/-
  The program's finder: the packet at a place.
-/
namespace Go.Proofs.YtoencondpbkomaaGreat
open Go.RowKit

def zeroPk : Array Value := #[.int .i64 0, .int .u8 0, .int .i64 0, .int .u32 0]
section
variable {w w' wx : World} {g q : Nat} {G : Nat → Prop} {A : Option Addr} {n c dict : Nat} {b : List UInt8} {s s' : Ps} {cnt : Nat}
theorem Fd.keep {S : Nat → Prop} (h : Fd w g G A n c dict b s cnt) (hO : Only S w w') (hS : ∀ i, G i → ¬ S i) (hA : 0 < n → ∀ p o, A = some ⟨p, o, none⟩ → ¬ S p) : Fd w' g G A n c dict b s cnt := by
  rcases h with ⟨h, hc⟩ | ⟨sz, ql, qa, ca, cs, h⟩
  · exact .inl ⟨⟨⟨h.fq.f.only hO (hS g h.gg), h.fq.sl.only hO hA, h.fq.n1, h.fq.i1, h.fq.d1, h.fq.d2, h.fq.lit⟩, h.gg, fun i hi => Nat.lt_of_lt_of_le (h.lt i hi) hO.size, h.ap⟩, hc⟩
  · exact .inr ⟨sz, ql, qa, ca, cs, ⟨⟨h.fq.f.only hO (hS g h.gg), h.fq.sl.only hO hA, h.fq.n1, h.fq.i1, h.fq.d1, h.fq.d2, h.fq.lit⟩, ⟨h.md.lb.only hO (hS ql h.gl), h.md.lz, h.md.lv, own_only h.md.ar hO (hS qa h.ga), h.md.s1, h.md.s2, h.md.ne⟩, h.gg, h.gl, h.ga, fun i hi => Nat.lt_of_lt_of_le (h.lt i hi) hO.size, h.ap, h.n1, h.n2⟩⟩
theorem Fd.alen (h : Fd w g G A n c dict b s cnt) : 0 < n → ∀ p o, A = some ⟨p, o, none⟩ → p < w.heap.size := fun h0 p o e => by
  obtain ⟨_, _, hq⟩ := h.fq
  obtain ⟨b', o', e', hlt, _⟩ := hq.sl.2 h0
  rw [e] at e'
  injection e' with e'
  injection e' with e'
  omega
/-- within the packet's call -/
def Pmid (w : World) (q g : Nat) (G : Nat → Prop) (A : Option Addr) (n c dict : Nat) (b : List UInt8) (s : Ps) (wx : World) : Prop :=
  ∃ (G' : Nat → Prop) (cnt : Nat), Fd wx g G' A n c dict b s cnt ∧ cnt ≤ s.i ∧ (∀ i, G' i → G i ∨ w.heap.size ≤ i) ∧ Only G w wx ∧ Blk wx q 59 zeroPk ∧ ¬ G' q ∧ (0 < n → ∀ p o, A = some ⟨p, o, none⟩ → p ≠ q) ∧ w.heap.size ≤ q
theorem Pmid.start (h : Fd w g G A n c dict b s cnt) (hc : cnt ≤ s.i) : Pmid w w.heap.size g G A n c dict b s (w.alloc (.cells zeroPk 59)) := by
  refine ⟨G, cnt, h.keep (S := fun _ => False) ((Only.refl _ w).alloc _) (fun _ _ h => h) (fun _ _ _ _ h => h), hc, fun i hi => .inl hi, (Only.refl _ w).alloc _, Blk.fresh w _ _, fun hq => ?_, fun h0 p o e => ?_, Nat.le_refl _⟩
  · have := h.lt _ hq
    omega
  · have := h.alen h0 p o e
    omega
theorem Pmid.drewN (h : Pmid w q g G A n c dict b s wx) (k : Nat) : Pmid w q g G A n c dict b s (wx.drewN k) := by
  obtain ⟨G', cnt, h1, h2, h3, h4, h5, h6⟩ := h
  exact ⟨G', cnt, h1.drewN k, h2, h3, h4.drewN k, h5.drewN k, h6⟩
theorem Pmid.post (h : Pmid w q g G A n c dict b s wx) : ∃ (G' : Nat → Prop) (cnt : Nat), Fd wx g G' A n c dict b s cnt ∧ cnt ≤ s.i ∧ ∀ w', FdPost wx g G' A n c dict b s w' → Pmid w q g G A n c dict b s w' := by
  obtain ⟨G', cnt, h1, h2, h3, h4, h5, h6, h7, h8⟩ := h
  refine ⟨G', cnt, h1, h2, fun w' hp => ?_⟩
  obtain ⟨G2, c2, k1, k2, k3, k4⟩ := hp
  have hs := h4.size
  have hql := h5.lt
  refine ⟨G2, c2, k1, k2, nw_trans h3 k3 hs, only_nw h4 h3 k4, h5.only k4 h6, fun hq => ?_, h7, h8⟩
  rcases k3 q hq with h' | h'
  · exact h6 h'
  · omega
theorem Pmid.turn (h : Pmid w q g G A n c dict b s wx) : ∃ lv av, Fq wx g A n c dict b s lv av ∧ ∀ (w' : World) (s' : Ps), Only (fun i => i = g) wx w' → Blk w' g 120 (fCells A n c dict s' lv av) → s'.i = s.i → s'.Lit → Pmid w q g G A n c dict b s' w' := by
  obtain ⟨G', cnt, h1, h2, h3, h4, h5, h6, h7, h8⟩ := h
  obtain ⟨lv, av, hq, hg, ht⟩ := h1.turn
  have hqg : ¬ q = g := fun e => h6 (e ▸ hg)
  refine ⟨lv, av, hq, fun w' s' hO hB hi hl => ⟨G', cnt, ht w' s' hO hB (by rw [hi]; exact hq.i1) hl, by omega, h3, h4.trans' hO (fun i e => by rw [e]; exact h3 g hg), h5.only hO hqg, h6, h7, h8⟩⟩
/-- the packet is put into its place -/
theorem Pmid.store (h : Pmid w q g G A n c dict b s wx) (v0 v1 v2 v3 : Value) :
    FdPost w g G A n c dict b s ((((wx.setCell ⟨q, 0, none⟩ v0).setCell ⟨q, 1, none⟩ v1).setCell ⟨q, 2, none⟩ v2).setCell ⟨q, 3, none⟩ v3) ∧
    Blk ((((wx.setCell ⟨q, 0, none⟩ v0).setCell ⟨q, 1, none⟩ v1).setCell ⟨q, 2, none⟩ v2).setCell ⟨q, 3, none⟩ v3) q 59 #[v0, v1, v2, v3] := by
  obtain ⟨G', cnt, h1, h2, h3, h4, h5, h6, h7, h8⟩ := h
  have hO : Only (fun i => i = q) wx ((((wx.setCell ⟨q, 0, none⟩ v0).setCell ⟨q, 1, none⟩ v1).setCell ⟨q, 2, none⟩ v2).setCell ⟨q, 3, none⟩ v3) :=
    ((((Only.refl (fun i => i = q) wx).setCell (p := ⟨q, 0, none⟩) (.inl rfl) v0).setCell (p := ⟨q, 1, none⟩) (.inl rfl) v1).setCell (p := ⟨q, 2, none⟩) (.inl rfl) v2).setCell (p := ⟨q, 3, none⟩) (.inl rfl) v3
  exact ⟨⟨G', cnt, h1.keep hO (fun i hi e => h6 (e ▸ hi)) h7, h2, h3, h4.trans' hO (fun i e => by rw [e]; exact .inr h8)⟩, (((h5.put 0 v0).put 1 v1).put 2 v2).put 3 v3⟩
theorem Pmid.blk (h : Pmid w q g G A n c dict b s wx) : Blk wx q 59 zeroPk := by
  obtain ⟨G', cnt, h1, h2, h3, h4, h5, h6, h7, h8⟩ := h
  exact h5
theorem FdPost.drewN (h : FdPost w g G A n c dict b s w') (k : Nat) : FdPost w g G A n c dict b s (w'.drewN k) := by
  obtain ⟨G', cnt, h1, h2, h3, h4⟩ := h
  exact ⟨G', cnt, h1.drewN k, h2, h3, h4.drewN k⟩
/-- what the packet's call owes -/
def PktPost (w : World) (g : Nat) (G : Nat → Prop) (A : Option Addr) (n c dict : Nat) (b : List UInt8) (s : Ps) (x : Ending) (w' : World) : Prop :=
  ∃ (p : Pq) (s' s1 : Ps) (k : Nat), stepF b dict n s = (p, s') ∧ s' = { s1 with i := s.i + k } ∧ s1.i = s.i ∧ x = .returned (.tuple #[.agg #[.int .i64 p.k, .int .u8 p.a, .int .i64 p.n, .int .u32 p.v], .int .i64 (k : Int)]) ∧ FdPost w g G A n c dict b s1 w'
theorem bring_lit (h : s.Lit) (k : Nat) : (s.bring k).Lit := by
  match k with
  | 0 => exact h
  | 1 => exact ⟨h.r1, h.r0, h.r2, h.r3⟩
  | 2 => exact ⟨h.r2, h.r0, h.r1, h.r3⟩
  | n + 3 => exact ⟨h.r3, h.r0, h.r1, h.r2⟩
theorem bring_i (s : Ps) (k : Nat) : (s.bring k).i = s.i := by
  match k with
  | 0 => rfl
  | 1 => rfl
  | 2 => rfl
  | n + 3 => rfl
theorem bring_raise (s : Ps) (m k : Nat) : s.raise m k = { s.bring k with i := s.i + m } := by
  match k with
  | 0 => rfl
  | 1 => rfl
  | 2 => rfl
  | n + 3 => rfl
end
end Go.Proofs.YtoencondpbkomaaGreat

/-
  The program's finder: the packet at a place: the walk.
-/
namespace Go.Proofs.YtoencondpbkomaaGreat
open Go.RowKit
section
variable {w : World} {g : Nat} {G : Nat → Prop} {A : Option Addr} {n c dict : Nat} {b : List UInt8} {s : Ps} {cnt : Nat}
theorem eld2_lt : (eld2 b dict n s).1 < 4 ∧ (eld2 b dict n s).2 ≤ 273 := by
  rw [eld2_is]
  have := eld_lt (b := b) (dict := dict) (e := n) (s := s)
  have := eld_le (b := b) (dict := dict) (e := n) (s := s)
  split
  · exact ⟨by omega, by omega⟩
  · exact ⟨by decide, by decide⟩
theorem worth_le {l : Nat} : (worth b dict n s l).2 ≤ 273 ∧ (0 < l → 0 < (worth b dict n s l).2 → (worth b dict n s l).1 < s.i) := by
  have := lon_le (b := b) (dict := dict) (e := n) (s := s)
  unfold worth
  split
  · refine ⟨by omega, fun _ h => ?_⟩
    have := lon_lt (b := b) (dict := dict) (e := n) (s := s) h
    omega
  · exact ⟨by decide, fun _ h => absurd h (by decide)⟩
set_option maxRecDepth 100000 in
set_option maxHeartbeats 16000000 in
theorem ppacket_any (h : Fd w g G A n c dict b s cnt) (hc : cnt ≤ s.i) (hi : s.i < n) :
    Calls Tryz.prog 62 #[.pointer (some ⟨g, 0, none⟩)] w (PktPost w g G A n c dict b s) := by
  obtain ⟨lv0, av0, hq0⟩ := h.fq
  have HB := Lib.hid (show n ≤ 1000000000 ∧ s.i < n ∧ s.Lit from ⟨hq0.n1, hi, hq0.lit⟩)
  obtain ⟨w1, hw1⟩ : ∃ w1, w1 = w.alloc (.cells #[.int .i64 0, .int .u8 0, .int .i64 0, .int .u32 0] 59) := ⟨_, rfl⟩
  have hpm : Pmid w w.heap.size g G A n c dict b s w1 := by rw [hw1]; exact Pmid.start h hc
  obtain ⟨q, hq⟩ : ∃ q, q = w.heap.size := ⟨_, rfl⟩
  rw [← hq] at hpm
  have HQ := Lib.hid hq
  have HPM := Lib.hid hpm
  obtain ⟨lv1, av1, hq1, _⟩ := hpm.turn
  have KE := Lib.hid (pelder_any hq1)
  have HST := Lib.hid (step_prog (b := b) (dict := dict) (e := n) (s := s))
  have heb := eld2_lt (b := b) (dict := dict) (n := n) (s := s)
  obtain ⟨a, ha⟩ : ∃ a, a = eld2 b dict n s := ⟨_, rfl⟩
  rw [← ha] at KE HST heb
  obtain ⟨a1, a2⟩ := a
  have HA := Lib.hid (show a1 < 4 ∧ a2 ≤ 273 from heb)
  have HW1 := Lib.hid hw1
  have hwl := worth_le (b := b) (dict := dict) (n := n) (s := s) (l := a2 + 2)
  obtain ⟨m, hm⟩ : ∃ m, m = worth b dict n s (a2 + 2) := ⟨_, rfl⟩
  have HM := Lib.hid hm
  have HST := Lib.hid (show stepF b dict n s = stepH (a1, a2) m (cpN b dict n s.i s.r0) (b.getD s.i 0) s by rw [hm]; exact HST.out)
  rw [← hm] at hwl
  obtain ⟨m1, m2⟩ := m
  have HWL := Lib.hid (show m2 ≤ 273 ∧ (0 < m2 → m1 < s.i) from ⟨hwl.1, hwl.2 (by omega)⟩)
  clear h hc hi hq0 hpm hq1 ha hw1 hq hwl hm heb
  go_enter Tryz.func62, Tryz.ntmps62
  go_upto_region 1 with fail
  rw [← HW1.out, ← HQ.out]
  clear HW1
  go_wp2_with fail
  refine KE.out.mono ?_
  rintro x w2 ⟨rfl, k1, rfl⟩
  have hpm := HPM.out.drewN k1
  clear HPM KE
  generalize w1.drewN k1 = w2 at *
  obtain ⟨G2, cnt2, hf2, hc2, hnext⟩ := hpm.post
  have KL := Lib.hid (plongest_any (l := a2 + 2) hf2 hc2 (by omega) (by have := HA.out; omega))
  rw [← HM.out] at KL
  have e1 : IntKind.i64.wrap ((a2 : Int) + 2) = ((a2 + 2 : Nat) : Int) := by rw [IntWalk.i64_in _ (by have := HA.out; omega)]; omega
  have e1' : wrap64 ((a2 : Int) + 2) = ((a2 + 2 : Nat) : Int) := by rw [IntWalk.wrap64_in _ (by have := HA.out; omega)]; omega
  have HNX := Lib.hid hnext
  clear hpm hf2 hc2 hnext HM
  go_wp2_with fail
  refine KL.out.mono ?_
  rintro x w3 ⟨rfl, hp3⟩
  have HPM := Lib.hid (HNX.out w3 hp3)
  clear hp3 KL HNX e1 e1'
  have HST0 := HST
  clear HST
  by_cases hb1 : 2 < m2
  · have HC := Lib.hid (show 2 < m2 ∨ (m2 = 2 ∧ m1 < 128) from .inl hb1)
    have i1 : (2 : Int) < (m2 : Int) := by omega
    clear hb1
    obtain ⟨lv, av, hfq, hturn⟩ := HPM.out.turn
    have KP := Lib.hid (ppush_any (d := m1) hfq.f)
    have HTN := Lib.hid (fun (w4 : World) (hO : Only (fun i => i = g) w3 w4) (hB : Blk w4 g 120 (fCells A n c dict (s.come m1) lv av)) => hturn w4 (s.come m1) hO hB rfl ⟨by show m1 < _; have := HWL.out; have := HB.out; omega, HB.out.2.2.r0, HB.out.2.2.r1, HB.out.2.2.r2⟩)
    have e2 : IntKind.u32.wrap (m1 : Int) = (m1 : Int) := by have := HWL.out; have := HB.out; simp [IntKind.wrap, IntKind.bits, IntKind.signed]; omega
    clear hfq hturn HPM
    go_wp2_with fail
    refine KP.out.mono ?_
    rintro x w4 ⟨rfl, hO4, hB4⟩
    have HP4 := Lib.hid (HTN.out w4 hO4 hB4)
    clear KP HTN hO4 hB4
    have HST := Lib.hid (HP4.out.store (.int .i64 1) (.int .u8 0) (.int .i64 (m2 : Int)) (.int .u32 (m1 : Int)))
    have hbk := HP4.out.blk
    have u0c : w4.cell? ⟨q, 0, none⟩ = some (.int .i64 0) := hbk.cell 0
    have u0f := hbk.free 0
    have u1c : w4.cell? ⟨q, 1, none⟩ = some (.int .u8 0) := hbk.cell 1
    have u1f := hbk.free 1
    have u2c : w4.cell? ⟨q, 2, none⟩ = some (.int .i64 0) := hbk.cell 2
    have u2f := hbk.free 2
    have u3c : w4.cell? ⟨q, 3, none⟩ = some (.int .u32 0) := hbk.cell 3
    have u3f := hbk.free 3
    clear hbk
    go_wp2_with fail
    obtain ⟨hfp, hk⟩ := HST.out
    generalize (((w4.setCell ⟨q, 0, none⟩ (.int .i64 1)).setCell ⟨q, 1, none⟩ (.int .u8 0)).setCell ⟨q, 2, none⟩ (.int .i64 (m2 : Int))).setCell ⟨q, 3, none⟩ (.int .u32 (m1 : Int)) = w7 at *
    have k0 : w7.cell? ⟨q, 0, none⟩ = some (.int .i64 1) := hk.cell 0
    have k1 : w7.cell? ⟨q, 1, none⟩ = some (.int .u8 0) := hk.cell 1
    have k2 : w7.cell? ⟨q, 2, none⟩ = some (.int .i64 (m2 : Int)) := hk.cell 2
    have k3 : w7.cell? ⟨q, 3, none⟩ = some (.int .u32 (m1 : Int)) := hk.cell 3
    refine bodyPost_ret (v := .tuple #[.agg #[.int .i64 1, .int .u8 0, .int .i64 (m2 : Int), .int .u32 (m1 : Int)], .int .i64 (m2 : Int)]) (by simp [results, Tryz.results62, go_sem, k0, k1, k2, k3]) rfl ⟨_, _, s.come m1, m2, (show stepF b dict n s = (⟨1, 0, (m2 : Int), (m1 : Int)⟩, s.push m2 m1) by rw [HST0.out]; unfold stepH; rw [if_pos HC.out]), rfl, by first | rfl | exact bring_i s a1, rfl, hfp⟩
  by_cases hb2 : m2 = 2
  · by_cases hb3 : m1 < 128
    · have HC := Lib.hid (show 2 < m2 ∨ (m2 = 2 ∧ m1 < 128) from .inr ⟨hb2, hb3⟩)
      have i1 : ¬ (2 : Int) < (m2 : Int) := by omega
      have i2 : ((m2 : Int) == 2) = true := by simp [hb2]
      have i3 : (m1 : Int) < 128 := by omega
      clear hb1 hb2 hb3
      obtain ⟨lv, av, hfq, hturn⟩ := HPM.out.turn
      have KP := Lib.hid (ppush_any (d := m1) hfq.f)
      have HTN := Lib.hid (fun (w4 : World) (hO : Only (fun i => i = g) w3 w4) (hB : Blk w4 g 120 (fCells A n c dict (s.come m1) lv av)) => hturn w4 (s.come m1) hO hB rfl ⟨by show m1 < _; have := HWL.out; have := HB.out; omega, HB.out.2.2.r0, HB.out.2.2.r1, HB.out.2.2.r2⟩)
      have e2 : IntKind.u32.wrap (m1 : Int) = (m1 : Int) := by have := HWL.out; have := HB.out; simp [IntKind.wrap, IntKind.bits, IntKind.signed]; omega
      clear hfq hturn HPM
      go_wp2_with fail
      refine KP.out.mono ?_
      rintro x w4 ⟨rfl, hO4, hB4⟩
      have HP4 := Lib.hid (HTN.out w4 hO4 hB4)
      clear KP HTN hO4 hB4
      have HST := Lib.hid (HP4.out.store (.int .i64 1) (.int .u8 0) (.int .i64 (m2 : Int)) (.int .u32 (m1 : Int)))
      have hbk := HP4.out.blk
      have u0c : w4.cell? ⟨q, 0, none⟩ = some (.int .i64 0) := hbk.cell 0
      have u0f := hbk.free 0
      have u1c : w4.cell? ⟨q, 1, none⟩ = some (.int .u8 0) := hbk.cell 1
      have u1f := hbk.free 1
      have u2c : w4.cell? ⟨q, 2, none⟩ = some (.int .i64 0) := hbk.cell 2
      have u2f := hbk.free 2
      have u3c : w4.cell? ⟨q, 3, none⟩ = some (.int .u32 0) := hbk.cell 3
      have u3f := hbk.free 3
      clear hbk
      go_wp2_with fail
      obtain ⟨hfp, hk⟩ := HST.out
      generalize (((w4.setCell ⟨q, 0, none⟩ (.int .i64 1)).setCell ⟨q, 1, none⟩ (.int .u8 0)).setCell ⟨q, 2, none⟩ (.int .i64 (m2 : Int))).setCell ⟨q, 3, none⟩ (.int .u32 (m1 : Int)) = w7 at *
      have k0 : w7.cell? ⟨q, 0, none⟩ = some (.int .i64 1) := hk.cell 0
      have k1 : w7.cell? ⟨q, 1, none⟩ = some (.int .u8 0) := hk.cell 1
      have k2 : w7.cell? ⟨q, 2, none⟩ = some (.int .i64 (m2 : Int)) := hk.cell 2
      have k3 : w7.cell? ⟨q, 3, none⟩ = some (.int .u32 (m1 : Int)) := hk.cell 3
      refine bodyPost_ret (v := .tuple #[.agg #[.int .i64 1, .int .u8 0, .int .i64 (m2 : Int), .int .u32 (m1 : Int)], .int .i64 (m2 : Int)]) (by simp [results, Tryz.results62, go_sem, k0, k1, k2, k3]) rfl ⟨_, _, s.come m1, m2, (show stepF b dict n s = (⟨1, 0, (m2 : Int), (m1 : Int)⟩, s.push m2 m1) by rw [HST0.out]; unfold stepH; rw [if_pos HC.out]), rfl, by first | rfl | exact bring_i s a1, rfl, hfp⟩
    · have HC := Lib.hid (show ¬ (2 < m2 ∨ (m2 = 2 ∧ m1 < 128)) by omega)
      have i1 : ¬ (2 : Int) < (m2 : Int) := by omega
      have i2 : ((m2 : Int) == 2) = true := by simp [hb2]
      have i3 : ¬ (m1 : Int) < 128 := by omega
      clear hb1 hb2 hb3
      by_cases hb4 : 0 < a2
      · have i4 : (0 : Int) < (a2 : Int) := by omega
        obtain ⟨lv, av, hfq, hturn⟩ := HPM.out.turn
        have KP := Lib.hid (praise_any (j := a1) HA.out.1 hfq.f)
        have HTN := Lib.hid (fun (w4 : World) (hO : Only (fun i => i = g) w3 w4) (hB : Blk w4 g 120 (fCells A n c dict (s.bring a1) lv av)) => hturn w4 (s.bring a1) hO hB (bring_i s a1) (bring_lit HB.out.2.2 a1))
        have e2 : IntKind.i64.wrap (2 + (a1 : Int)) = 2 + (a1 : Int) := IntWalk.i64_in _ (by have := HA.out; omega)
        have e2' : wrap64 (2 + (a1 : Int)) = 2 + (a1 : Int) := IntWalk.wrap64_in _ (by have := HA.out; omega)
        have HC4 := Lib.hid hb4
        clear hfq hturn HPM hb4
        go_wp2_with fail
        refine KP.out.mono ?_
        rintro x w4 ⟨rfl, hO4, hB4⟩
        have HP4 := Lib.hid (HTN.out w4 hO4 hB4)
        clear KP HTN hO4 hB4
        have HST := Lib.hid (HP4.out.store (.int .i64 (2 + (a1 : Int))) (.int .u8 0) (.int .i64 (a2 : Int)) (.int .u32 0))
        have hbk := HP4.out.blk
        have u0c : w4.cell? ⟨q, 0, none⟩ = some (.int .i64 0) := hbk.cell 0
        have u0f := hbk.free 0
        have u1c : w4.cell? ⟨q, 1, none⟩ = some (.int .u8 0) := hbk.cell 1
        have u1f := hbk.free 1
        have u2c : w4.cell? ⟨q, 2, none⟩ = some (.int .i64 0) := hbk.cell 2
        have u2f := hbk.free 2
        have u3c : w4.cell? ⟨q, 3, none⟩ = some (.int .u32 0) := hbk.cell 3
        have u3f := hbk.free 3
        clear hbk
        go_wp2_with fail
        obtain ⟨hfp, hk⟩ := HST.out
        generalize (((w4.setCell ⟨q, 0, none⟩ (.int .i64 (2 + (a1 : Int)))).setCell ⟨q, 1, none⟩ (.int .u8 0)).setCell ⟨q, 2, none⟩ (.int .i64 (a2 : Int))).setCell ⟨q, 3, none⟩ (.int .u32 0) = w7 at *
        have k0 : w7.cell? ⟨q, 0, none⟩ = some (.int .i64 (2 + (a1 : Int))) := hk.cell 0
        have k1 : w7.cell? ⟨q, 1, none⟩ = some (.int .u8 0) := hk.cell 1
        have k2 : w7.cell? ⟨q, 2, none⟩ = some (.int .i64 (a2 : Int)) := hk.cell 2
        have k3 : w7.cell? ⟨q, 3, none⟩ = some (.int .u32 0) := hk.cell 3
        refine bodyPost_ret (v := .tuple #[.agg #[.int .i64 (2 + (a1 : Int)), .int .u8 0, .int .i64 (a2 : Int), .int .u32 0], .int .i64 (a2 : Int)]) (by simp [results, Tryz.results62, go_sem, k0, k1, k2, k3]) rfl ⟨_, _, s.bring a1, a2, (show stepF b dict n s = (⟨2 + (a1 : Int), 0, (a2 : Int), 0⟩, s.raise a2 a1) by rw [HST0.out]; unfold stepH; rw [if_neg HC.out, if_pos (show 0 < a2 from HC4.out)]), (bring_raise s a2 a1), by first | rfl | exact bring_i s a1, rfl, hfp⟩
      · have i4 : ¬ (0 : Int) < (a2 : Int) := by omega
        obtain ⟨lv, av, hfq, _⟩ := HPM.out.turn
        have c3 := hfq.c3
        have e2 : IntKind.i64.wrap (s.r0 : Int) = (s.r0 : Int) := IntWalk.i64_in _ (by have := HB.out.2.2.r0; omega)
        have KC := Lib.hid (pcopied_any (d := s.r0) hfq HB.out.2.2.r0)
        obtain ⟨cp, hcp⟩ : ∃ cp, cp = cpN b dict n s.i s.r0 := ⟨_, rfl⟩
        rw [← hcp] at KC HST0
        have HC4 := Lib.hid hb4
        clear hfq hb4 hcp
        by_cases hb5 : 0 < cp
        · have i5 : (0 : Int) < (cp : Int) := by omega
          have HC5 := Lib.hid hb5
          clear hb5
          go_wp2_with fail
          refine KC.out.mono ?_
          rintro x w4 ⟨rfl, k4, rfl⟩
          have HP4 := Lib.hid (HPM.out.drewN k4)
          clear KC HPM c3
          generalize w3.drewN k4 = w4 at *
          have HST := Lib.hid (HP4.out.store (.int .i64 6) (.int .u8 0) (.int .i64 0) (.int .u32 0))
          have hbk := HP4.out.blk
          have u0c : w4.cell? ⟨q, 0, none⟩ = some (.int .i64 0) := hbk.cell 0
          have u0f := hbk.free 0
          have u1c : w4.cell? ⟨q, 1, none⟩ = some (.int .u8 0) := hbk.cell 1
          have u1f := hbk.free 1
          have u2c : w4.cell? ⟨q, 2, none⟩ = some (.int .i64 0) := hbk.cell 2
          have u2f := hbk.free 2
          have u3c : w4.cell? ⟨q, 3, none⟩ = some (.int .u32 0) := hbk.cell 3
          have u3f := hbk.free 3
          clear hbk
          go_wp2_with fail
          obtain ⟨hfp, hk⟩ := HST.out
          generalize (((w4.setCell ⟨q, 0, none⟩ (.int .i64 6)).setCell ⟨q, 1, none⟩ (.int .u8 0)).setCell ⟨q, 2, none⟩ (.int .i64 0)).setCell ⟨q, 3, none⟩ (.int .u32 0) = w7 at *
          have k0 : w7.cell? ⟨q, 0, none⟩ = some (.int .i64 6) := hk.cell 0
          have k1 : w7.cell? ⟨q, 1, none⟩ = some (.int .u8 0) := hk.cell 1
          have k2 : w7.cell? ⟨q, 2, none⟩ = some (.int .i64 0) := hk.cell 2
          have k3 : w7.cell? ⟨q, 3, none⟩ = some (.int .u32 0) := hk.cell 3
          refine bodyPost_ret (v := .tuple #[.agg #[.int .i64 6, .int .u8 0, .int .i64 0, .int .u32 0], .int .i64 (1 : Int)]) (by simp [results, Tryz.results62, go_sem, k0, k1, k2, k3]) rfl ⟨_, _, s, 1, (show stepF b dict n s = (⟨6, 0, 0, 0⟩, s.on) by rw [HST0.out]; unfold stepH; rw [if_neg HC.out, if_neg (show ¬ 0 < a2 from HC4.out), if_pos HC5.out]), rfl, by first | rfl | exact bring_i s a1, rfl, hfp⟩
        · have i5 : ¬ (0 : Int) < (cp : Int) := by omega
          have HC5 := Lib.hid hb5
          clear hb5
          go_wp2_with fail
          refine KC.out.mono ?_
          rintro x w4 ⟨rfl, k4, rfl⟩
          have HP4 := Lib.hid (HPM.out.drewN k4)
          clear KC HPM c3
          generalize w3.drewN k4 = w4 at *
          obtain ⟨lv, av, hfq, _⟩ := HP4.out.turn
          obtain ⟨ba, oa, rfl, hba, hca⟩ := hfq.sl.2 (by have := HB.out; omega)
          have hbl := hfq.len
          have k1' : w4.cell? ⟨ba, oa + s.i, none⟩ = some (.int .u8 ((b.getD s.i 0).toNat : Int)) := by rw [hca s.i HB.out.2.1, bv_get b _ (by have := HB.out; omega)]
          have c0 := hfq.c0
          have c1 := hfq.c1
          have b1 : (0 : Int) ≤ (s.i : Int) := by omega
          have b2 : (s.i : Int) < (n : Int) := by have := HB.out; omega
          generalize hy : b.getD s.i 0 = y at *
          have HY := Lib.hid hy
          clear hfq hca hba hbl hy
          have HST := Lib.hid (HP4.out.store (.int .i64 0) (.int .u8 (y.toNat : Int)) (.int .i64 0) (.int .u32 0))
          have hbk := HP4.out.blk
          have u0c : w4.cell? ⟨q, 0, none⟩ = some (.int .i64 0) := hbk.cell 0
          have u0f := hbk.free 0
          have u1c : w4.cell? ⟨q, 1, none⟩ = some (.int .u8 0) := hbk.cell 1
          have u1f := hbk.free 1
          have u2c : w4.cell? ⟨q, 2, none⟩ = some (.int .i64 0) := hbk.cell 2
          have u2f := hbk.free 2
          have u3c : w4.cell? ⟨q, 3, none⟩ = some (.int .u32 0) := hbk.cell 3
          have u3f := hbk.free 3
          clear hbk
          go_wp2_with fail
          go_region
          all_goals
            go_wp2_with fail
            obtain ⟨hfp, hk⟩ := HST.out
            generalize (((w4.setCell ⟨q, 0, none⟩ (.int .i64 0)).setCell ⟨q, 1, none⟩ (.int .u8 (y.toNat : Int))).setCell ⟨q, 2, none⟩ (.int .i64 0)).setCell ⟨q, 3, none⟩ (.int .u32 0) = w7 at *
            have k0 : w7.cell? ⟨q, 0, none⟩ = some (.int .i64 0) := hk.cell 0
            have k1 : w7.cell? ⟨q, 1, none⟩ = some (.int .u8 (y.toNat : Int)) := hk.cell 1
            have k2 : w7.cell? ⟨q, 2, none⟩ = some (.int .i64 0) := hk.cell 2
            have k3 : w7.cell? ⟨q, 3, none⟩ = some (.int .u32 0) := hk.cell 3
            refine bodyPost_ret (v := .tuple #[.agg #[.int .i64 0, .int .u8 (y.toNat : Int), .int .i64 0, .int .u32 0], .int .i64 (1 : Int)]) (by simp [results, Tryz.results62, go_sem, k0, k1, k2, k3]) rfl ⟨_, _, s, 1, (show stepF b dict n s = (⟨0, (y.toNat : Int), 0, 0⟩, s.on) by rw [HST0.out]; unfold stepH; rw [if_neg HC.out, if_neg (show ¬ 0 < a2 from HC4.out), if_neg HC5.out]), rfl, by first | rfl | exact bring_i s a1, rfl, hfp.drewN 1⟩
  · have HC := Lib.hid (show ¬ (2 < m2 ∨ (m2 = 2 ∧ m1 < 128)) by omega)
    have i1 : ¬ (2 : Int) < (m2 : Int) := by omega
    have i2 : ((m2 : Int) == 2) = false := by simp; omega
    clear hb1 hb2
    by_cases hb4 : 0 < a2
    · have i4 : (0 : Int) < (a2 : Int) := by omega
      obtain ⟨lv, av, hfq, hturn⟩ := HPM.out.turn
      have KP := Lib.hid (praise_any (j := a1) HA.out.1 hfq.f)
      have HTN := Lib.hid (fun (w4 : World) (hO : Only (fun i => i = g) w3 w4) (hB : Blk w4 g 120 (fCells A n c dict (s.bring a1) lv av)) => hturn w4 (s.bring a1) hO hB (bring_i s a1) (bring_lit HB.out.2.2 a1))
      have e2 : IntKind.i64.wrap (2 + (a1 : Int)) = 2 + (a1 : Int) := IntWalk.i64_in _ (by have := HA.out; omega)
      have e2' : wrap64 (2 + (a1 : Int)) = 2 + (a1 : Int) := IntWalk.wrap64_in _ (by have := HA.out; omega)
      have HC4 := Lib.hid hb4
      clear hfq hturn HPM hb4
      go_wp2_with fail
      refine KP.out.mono ?_
      rintro x w4 ⟨rfl, hO4, hB4⟩
      have HP4 := Lib.hid (HTN.out w4 hO4 hB4)
      clear KP HTN hO4 hB4
      have HST := Lib.hid (HP4.out.store (.int .i64 (2 + (a1 : Int))) (.int .u8 0) (.int .i64 (a2 : Int)) (.int .u32 0))
      have hbk := HP4.out.blk
      have u0c : w4.cell? ⟨q, 0, none⟩ = some (.int .i64 0) := hbk.cell 0
      have u0f := hbk.free 0
      have u1c : w4.cell? ⟨q, 1, none⟩ = some (.int .u8 0) := hbk.cell 1
      have u1f := hbk.free 1
      have u2c : w4.cell? ⟨q, 2, none⟩ = some (.int .i64 0) := hbk.cell 2
      have u2f := hbk.free 2
      have u3c : w4.cell? ⟨q, 3, none⟩ = some (.int .u32 0) := hbk.cell 3
      have u3f := hbk.free 3
      clear hbk
      go_wp2_with fail
      obtain ⟨hfp, hk⟩ := HST.out
      generalize (((w4.setCell ⟨q, 0, none⟩ (.int .i64 (2 + (a1 : Int)))).setCell ⟨q, 1, none⟩ (.int .u8 0)).setCell ⟨q, 2, none⟩ (.int .i64 (a2 : Int))).setCell ⟨q, 3, none⟩ (.int .u32 0) = w7 at *
      have k0 : w7.cell? ⟨q, 0, none⟩ = some (.int .i64 (2 + (a1 : Int))) := hk.cell 0
      have k1 : w7.cell? ⟨q, 1, none⟩ = some (.int .u8 0) := hk.cell 1
      have k2 : w7.cell? ⟨q, 2, none⟩ = some (.int .i64 (a2 : Int)) := hk.cell 2
      have k3 : w7.cell? ⟨q, 3, none⟩ = some (.int .u32 0) := hk.cell 3
      refine bodyPost_ret (v := .tuple #[.agg #[.int .i64 (2 + (a1 : Int)), .int .u8 0, .int .i64 (a2 : Int), .int .u32 0], .int .i64 (a2 : Int)]) (by simp [results, Tryz.results62, go_sem, k0, k1, k2, k3]) rfl ⟨_, _, s.bring a1, a2, (show stepF b dict n s = (⟨2 + (a1 : Int), 0, (a2 : Int), 0⟩, s.raise a2 a1) by rw [HST0.out]; unfold stepH; rw [if_neg HC.out, if_pos (show 0 < a2 from HC4.out)]), (bring_raise s a2 a1), by first | rfl | exact bring_i s a1, rfl, hfp⟩
    · have i4 : ¬ (0 : Int) < (a2 : Int) := by omega
      obtain ⟨lv, av, hfq, _⟩ := HPM.out.turn
      have c3 := hfq.c3
      have e2 : IntKind.i64.wrap (s.r0 : Int) = (s.r0 : Int) := IntWalk.i64_in _ (by have := HB.out.2.2.r0; omega)
      have KC := Lib.hid (pcopied_any (d := s.r0) hfq HB.out.2.2.r0)
      obtain ⟨cp, hcp⟩ : ∃ cp, cp = cpN b dict n s.i s.r0 := ⟨_, rfl⟩
      rw [← hcp] at KC HST0
      have HC4 := Lib.hid hb4
      clear hfq hb4 hcp
      by_cases hb5 : 0 < cp
      · have i5 : (0 : Int) < (cp : Int) := by omega
        have HC5 := Lib.hid hb5
        clear hb5
        go_wp2_with fail
        refine KC.out.mono ?_
        rintro x w4 ⟨rfl, k4, rfl⟩
        have HP4 := Lib.hid (HPM.out.drewN k4)
        clear KC HPM c3
        generalize w3.drewN k4 = w4 at *
        have HST := Lib.hid (HP4.out.store (.int .i64 6) (.int .u8 0) (.int .i64 0) (.int .u32 0))
        have hbk := HP4.out.blk
        have u0c : w4.cell? ⟨q, 0, none⟩ = some (.int .i64 0) := hbk.cell 0
        have u0f := hbk.free 0
        have u1c : w4.cell? ⟨q, 1, none⟩ = some (.int .u8 0) := hbk.cell 1
        have u1f := hbk.free 1
        have u2c : w4.cell? ⟨q, 2, none⟩ = some (.int .i64 0) := hbk.cell 2
        have u2f := hbk.free 2
        have u3c : w4.cell? ⟨q, 3, none⟩ = some (.int .u32 0) := hbk.cell 3
        have u3f := hbk.free 3
        clear hbk
        go_wp2_with fail
        obtain ⟨hfp, hk⟩ := HST.out
        generalize (((w4.setCell ⟨q, 0, none⟩ (.int .i64 6)).setCell ⟨q, 1, none⟩ (.int .u8 0)).setCell ⟨q, 2, none⟩ (.int .i64 0)).setCell ⟨q, 3, none⟩ (.int .u32 0) = w7 at *
        have k0 : w7.cell? ⟨q, 0, none⟩ = some (.int .i64 6) := hk.cell 0
        have k1 : w7.cell? ⟨q, 1, none⟩ = some (.int .u8 0) := hk.cell 1
        have k2 : w7.cell? ⟨q, 2, none⟩ = some (.int .i64 0) := hk.cell 2
        have k3 : w7.cell? ⟨q, 3, none⟩ = some (.int .u32 0) := hk.cell 3
        refine bodyPost_ret (v := .tuple #[.agg #[.int .i64 6, .int .u8 0, .int .i64 0, .int .u32 0], .int .i64 (1 : Int)]) (by simp [results, Tryz.results62, go_sem, k0, k1, k2, k3]) rfl ⟨_, _, s, 1, (show stepF b dict n s = (⟨6, 0, 0, 0⟩, s.on) by rw [HST0.out]; unfold stepH; rw [if_neg HC.out, if_neg (show ¬ 0 < a2 from HC4.out), if_pos HC5.out]), rfl, by first | rfl | exact bring_i s a1, rfl, hfp⟩
      · have i5 : ¬ (0 : Int) < (cp : Int) := by omega
        have HC5 := Lib.hid hb5
        clear hb5
        go_wp2_with fail
        refine KC.out.mono ?_
        rintro x w4 ⟨rfl, k4, rfl⟩
        have HP4 := Lib.hid (HPM.out.drewN k4)
        clear KC HPM c3
        generalize w3.drewN k4 = w4 at *
        obtain ⟨lv, av, hfq, _⟩ := HP4.out.turn
        obtain ⟨ba, oa, rfl, hba, hca⟩ := hfq.sl.2 (by have := HB.out; omega)
        have hbl := hfq.len
        have k1' : w4.cell? ⟨ba, oa + s.i, none⟩ = some (.int .u8 ((b.getD s.i 0).toNat : Int)) := by rw [hca s.i HB.out.2.1, bv_get b _ (by have := HB.out; omega)]
        have c0 := hfq.c0
        have c1 := hfq.c1
        have b1 : (0 : Int) ≤ (s.i : Int) := by omega
        have b2 : (s.i : Int) < (n : Int) := by have := HB.out; omega
        generalize hy : b.getD s.i 0 = y at *
        have HY := Lib.hid hy
        clear hfq hca hba hbl hy
        have HST := Lib.hid (HP4.out.store (.int .i64 0) (.int .u8 (y.toNat : Int)) (.int .i64 0) (.int .u32 0))
        have hbk := HP4.out.blk
        have u0c : w4.cell? ⟨q, 0, none⟩ = some (.int .i64 0) := hbk.cell 0
        have u0f := hbk.free 0
        have u1c : w4.cell? ⟨q, 1, none⟩ = some (.int .u8 0) := hbk.cell 1
        have u1f := hbk.free 1
        have u2c : w4.cell? ⟨q, 2, none⟩ = some (.int .i64 0) := hbk.cell 2
        have u2f := hbk.free 2
        have u3c : w4.cell? ⟨q, 3, none⟩ = some (.int .u32 0) := hbk.cell 3
        have u3f := hbk.free 3
        clear hbk
        go_wp2_with fail
        go_region
        all_goals
          go_wp2_with fail
          obtain ⟨hfp, hk⟩ := HST.out
          generalize (((w4.setCell ⟨q, 0, none⟩ (.int .i64 0)).setCell ⟨q, 1, none⟩ (.int .u8 (y.toNat : Int))).setCell ⟨q, 2, none⟩ (.int .i64 0)).setCell ⟨q, 3, none⟩ (.int .u32 0) = w7 at *
          have k0 : w7.cell? ⟨q, 0, none⟩ = some (.int .i64 0) := hk.cell 0
          have k1 : w7.cell? ⟨q, 1, none⟩ = some (.int .u8 (y.toNat : Int)) := hk.cell 1
          have k2 : w7.cell? ⟨q, 2, none⟩ = some (.int .i64 0) := hk.cell 2
          have k3 : w7.cell? ⟨q, 3, none⟩ = some (.int .u32 0) := hk.cell 3
          refine bodyPost_ret (v := .tuple #[.agg #[.int .i64 0, .int .u8 (y.toNat : Int), .int .i64 0, .int .u32 0], .int .i64 (1 : Int)]) (by simp [results, Tryz.results62, go_sem, k0, k1, k2, k3]) rfl ⟨_, _, s, 1, (show stepF b dict n s = (⟨0, (y.toNat : Int), 0, 0⟩, s.on) by rw [HST0.out]; unfold stepH; rw [if_neg HC.out, if_neg (show ¬ 0 < a2 from HC4.out), if_neg HC5.out]), rfl, by first | rfl | exact bring_i s a1, rfl, hfp.drewN 1⟩
end
end Go.Proofs.YtoencondpbkomaaGreat

/-
  One struct of four cells is appended onto a row of the call's own.
-/
namespace Go.Proofs.YtoencondpbkomaaGreat
open Go.RowKit

section
variable {P : Program} {w : World}
end
end Go.Proofs.YtoencondpbkomaaGreat

/-
  A row of packets of the call's own, as a list.
-/
namespace Go.Proofs.YtoencondpbkomaaGreat
open Go.RowKit

def pkV (q : Pq) : List Value := [.int .i64 q.k, .int .u8 q.a, .int .i64 q.n, .int .u32 q.v]
theorem pkV_len : ∀ (L : List Pq), (L.flatMap pkV).length = L.length * 4
  | [] => rfl
  | q :: L => by rw [List.flatMap_cons, List.length_append, pkV_len L]; show 4 + _ = (L.length + 1) * 4; omega
theorem pkV_get : ∀ (L : List Pq) (i k : Nat), i < L.length → k < 4 → (L.flatMap pkV)[i * 4 + k]? = (pkV (L.getD i ⟨0, 0, 0, 0⟩))[k]?
  | q :: L, 0, k, _, hk => by
    rw [List.flatMap_cons, Nat.zero_mul, Nat.zero_add, List.getElem?_append_left (by show k < 4; exact hk)]
    rfl
  | q :: L, i + 1, k, hi, hk => by
    rw [List.flatMap_cons, List.getElem?_append_right (by show 4 ≤ _; omega), show (i + 1) * 4 + k - (pkV q).length = i * 4 + k by show (i + 1) * 4 + k - 4 = _; omega, pkV_get L i k (by simp at hi; omega) hk]
    rfl
theorem pkts_row {w : World} {base : Nat} {e : TypeId} {A : Option Addr} {n c : Nat} {L : List Pq} (h : w.ownsRow base e 4 (.slice A n c) n (L.flatMap pkV)) : L.length = n ∧ Pkts w A n (fun i => L.getD i ⟨0, 0, 0, 0⟩) := by
  have hl : L.length = n := by
    have := h.1
    rw [pkV_len] at this
    omega
  refine ⟨hl, fun hn => ?_⟩
  rcases h.2 with ⟨_, h0⟩ | ⟨g, cap, cur, hv, _, hh, _, _, _, ht⟩
  · omega
  · injection hv with e1 _ _
    refine ⟨g, 0, e1, (Array.getElem?_eq_some_iff.1 hh).1, fun i hi => ?_⟩
    have key : ∀ k, k < 4 → w.cell? ⟨g, 0 + i * 4 + k, none⟩ = (pkV (L.getD i ⟨0, 0, 0, 0⟩))[k]? := by
      intro k hk
      have hb : i * 4 + k < n * 4 := by omega
      have h1 := pkV_get L i k (by omega) hk
      rw [← ht, List.getElem?_take_of_lt hb] at h1
      rw [← h1]
      simp [World.cell?, hh, Nat.zero_add]
    exact ⟨key 0 (by omega), key 1 (by omega), key 2 (by omega), key 3 (by omega)⟩
end Go.Proofs.YtoencondpbkomaaGreat

/-
  The program's Find: what holds from packet to packet.
-/
namespace Go.Proofs.YtoencondpbkomaaGreat
open Go.RowKit

theorem info_ppk : (Tryz.prog.info? 59).map (fun i => (i.zero, i.size, i.bytes)) = some (some (.agg #[.int .i64 0, .int .u8 0, .int .i64 0, .int .u32 0]), 4, 32) := by kernel_rfl
theorem ppkV_one (q : Pq) : ∀ u ∈ pkV q, u.oneCell' = true := by simp [pkV, Value.oneCell']
theorem ppk_news (w : World) (q : Pq) (t : TypeId) : ∀ j u, (pkV q)[j]? = some u → (w.alloc (.cells #[.int .i64 q.k, .int .u8 q.a, .int .i64 q.n, .int .u32 q.v] t)).cell? ((⟨w.heap.size, 0, none⟩ : Addr).add j) = some u :=
  World.news_of_block (cs := #[.int .i64 q.k, .int .u8 q.a, .int .i64 q.n, .int .u32 q.v]) (heap_alloc_new w _)
theorem pown4_below {w w' : World} {base : Nat} {e : TypeId} {v : Value} {n : Nat} {xs : List Value} (h : w.ownsRow base e 4 v n xs) (hb : Below w.heap.size w w') : w'.ownsRow base e 4 v n xs :=
  h.kept (row := none) ⟨hb.os, hb.tape, hb.output, hb.size, fun k hk _ => hb.block k hk⟩ (by cases v.ownBlock <;> simp)
theorem pown4_only {S : Nat → Prop} {w w' : World} {base : Nat} {e : TypeId} {A : Option Addr} {n c : Nat} {xs : List Value} (h : w.ownsRow base e 4 (.slice A n c) n xs) (hO : Only S w w') (hS : ∀ k, (Value.slice A n c).ownBlock = some k → ¬ S k) : w'.ownsRow base e 4 (.slice A n c) n xs := by
  refine ⟨h.1, ?_⟩
  rcases h.2 with h' | ⟨g, cap, cur, hv, hb, hh, h3⟩
  · exact .inl h'
  · refine .inr ⟨g, cap, cur, hv, hb, ?_, h3⟩
    have hlt : g < w.heap.size := (Array.getElem?_eq_some_iff.1 hh).1
    injection hv with e1 e2 e3
    rw [hO.block g hlt (hS g (by rw [e1]; rfl))]
    exact hh
theorem pk_snoc' {w : World} {base : Nat} {e : TypeId} {A : Option Addr} {c : Nat} {L : List Pq} {q : Pq} (h : w.ownsRow base e 4 (.slice A (L.length + 1) c) (L.length + 1) (L.flatMap pkV ++ pkV q)) :
    w.ownsRow base e 4 (.slice A (L ++ [q]).length c) (L ++ [q]).length ((L ++ [q]).flatMap pkV) := by
  have e1 : (L ++ [q]).length = L.length + 1 := by simp
  rw [e1]
  simpa using h
def zero4 : Array Value := #[.int .u32 0, .int .u32 0, .int .u32 0, .int .u32 0]
structure Fl (w wr : World) (g q1 : Nat) (G : Nat → Prop) (A : Option Addr) (n c D : Nat) (b : List UInt8) (s : Ps) (cnt : Nat) (L : List Pq) (R : Option Addr) (cl : Nat) : Prop where
  fd : Fd wr g G A n c D b s cnt
  cn : cnt ≤ s.i
  gi : ∀ i, G i → g ≤ i
  bel : Below w.heap.size w wr
  row : wr.ownsRow w.heap.size 59 4 (.slice R L.length cl) L.length (L.flatMap pkV)
  ra : ∀ k, (Value.slice R L.length cl).ownBlock = some k → ¬ G k ∧ k ≠ q1
  qb : Blk wr q1 49 zero4
  ql : q1 < g
  qw : w.heap.size ≤ q1
  al : 0 < n → ∀ p o, A = some ⟨p, o, none⟩ → p < w.heap.size
section
variable {w wr w' : World} {g q1 : Nat} {G : Nat → Prop} {A : Option Addr} {n c D : Nat} {b : List UInt8} {s s1 : Ps} {cnt : Nat} {L : List Pq} {R : Option Addr} {cl : Nat}
theorem Fl.rlt (h : Fl w wr g q1 G A n c D b s cnt L R cl) (k : Nat) (e : (Value.slice R L.length cl).ownBlock = some k) : w.heap.size ≤ k ∧ k < wr.heap.size := World.ownsRow.lt h.row k e
theorem Fl.gg (h : Fl w wr g q1 G A n c D b s cnt L R cl) : G g := by obtain ⟨_, _, _, hg, _⟩ := h.fd.turn; exact hg
theorem Fl.pkt (h : Fl w wr g q1 G A n c D b s cnt L R cl) (hp : FdPost wr g G A n c D b s1 w') : ∃ G' cnt', Fl w w' g q1 G' A n c D b s1 cnt' L R cl := by
  obtain ⟨G2, c2, k1, k2, k3, k4⟩ := hp
  have hs := h.bel.size
  have hg := h.fd.lt g h.gg
  have hgw : w.heap.size ≤ g := by have := h.qw; have := h.ql; omega
  have hq : ¬ G q1 := fun e => by have := h.gi _ e; have := h.ql; omega
  refine ⟨G2, c2, k1, k2, fun i hi => ?_, h.bel.trans (k4.below hs (fun i hi => by have := h.gi i hi; omega)), pown4_only h.row k4 (fun k e => (h.ra k e).1), fun k e => ⟨fun hk => ?_, (h.ra k e).2⟩, h.qb.only k4 hq, h.ql, h.qw, h.al⟩
  · rcases k3 i hi with h' | h'
    · exact h.gi i h'
    · omega
  · rcases k3 k hk with h' | h'
    · exact (h.ra k e).1 h'
    · have := h.rlt k e
      omega
theorem Fl.same (h : Fl w wr g q1 G A n c D b s cnt L R cl) (hO : Only (fun _ => False) wr w') : Fl w w' g q1 G A n c D b s cnt L R cl :=
  ⟨h.fd.keep hO (fun _ _ h => h) (fun _ _ _ _ h => h), h.cn, h.gi, h.bel.trans (hO.below h.bel.size (fun _ h => h.elim)), pown4_only h.row hO (fun _ _ h => h), h.ra, h.qb.only hO (fun h => h), h.ql, h.qw, h.al⟩
theorem Fl.app (h : Fl w wr g q1 G A n c D b s cnt L R cl) {p : Pq} {x cap : Nat} (ho : w'.ownsRow w.heap.size 59 4 (.slice (some ⟨x, 0, none⟩) (L.length + 1) cap) (L.length + 1) (L.flatMap pkV ++ pkV p)) (hg : wr.grownBy w' (Value.slice R L.length cl).ownBlock) (hl : (Value.slice R L.length cl).ownBlock = some x ∨ x = wr.heap.size) :
    Fl w w' g q1 G A n c D b s cnt (L ++ [p]) (some ⟨x, 0, none⟩) cap := by
  have hq := h.qb.lt
  have hO : Only (fun i => (Value.slice R L.length cl).ownBlock = some i) wr w' := ⟨hg.os, hg.tape, hg.output, hg.size, fun i hi hn => hg.block i hi (fun e => hn e.symm)⟩
  refine ⟨h.fd.keep hO (fun i hi e => (h.ra i e).1 hi) (fun h0 p o e e2 => ?_), h.cn, h.gi, h.bel.grown hg h.bel.size (fun k e => (h.rlt k e).1), pk_snoc' ho, fun k e => ?_, h.qb.only hO (fun e => (h.ra q1 e).2 rfl), h.ql, h.qw, h.al⟩
  · obtain ⟨_, _, hfq⟩ := h.fd.fq
    obtain ⟨b', o', e', hlt, _⟩ := hfq.sl.2 h0
    have h1 := h.rlt p e2
    have h2 := h.al h0 p o e
    omega
  · have ek : x = k := by injection e
    subst ek
    rcases hl with hl | hl
    · exact h.ra x hl
    · refine ⟨fun hx => ?_, by omega⟩
      have := h.fd.lt x hx
      omega
theorem Fl.at_ (h : Fl w wr g q1 G A n c D b s1 cnt L R cl) (k : Nat) (hi : s1.i + k ≤ n) : wr.cell? ⟨g, 1, none⟩ = some (.int .i64 (s1.i : Int)) ∧ wr.frozen? ⟨g, 1, none⟩ = false ∧ Fl w (wr.setCell ⟨g, 1, none⟩ (.int .i64 ((s1.i + k : Nat) : Int))) g q1 G A n c D b { s1 with i := s1.i + k } cnt L R cl := by
  obtain ⟨lv, av, hq, hg, ht⟩ := h.fd.turn
  have hgw : w.heap.size ≤ g := by have := h.qw; have := h.ql; omega
  have hO := (Only.refl (fun i => i = g) wr).setCell (p := ⟨g, 1, none⟩) (.inl rfl) (.int .i64 ((s1.i + k : Nat) : Int))
  refine ⟨hq.c1, hq.f.free 1, ht _ { s1 with i := s1.i + k } hO (hq.f.put 1 _) hi ⟨hq.lit.r0, hq.lit.r1, hq.lit.r2, hq.lit.r3⟩, by have := h.cn; show cnt ≤ s1.i + k; omega, h.gi, h.bel.trans (hO.below h.bel.size (by rintro i rfl; exact hgw)), pown4_only h.row hO (fun k e e2 => (h.ra k e).1 (by rw [e2]; exact hg)), h.ra, h.qb.only hO (fun e => by have := h.ql; omega), h.ql, h.qw, h.al⟩
end
end Go.Proofs.YtoencondpbkomaaGreat
