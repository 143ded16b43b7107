/-
  PsReps, PsPk: put together.
-/
import Derived.Test.YtdhhibfppcpieaaQ22
import Derived.Test.YtdhhibfppcpieaaQ13
set_option linter.unusedVariables false
set_option linter.unusedSimpArgs false
/-
  The program's finder: its elder distances are moved.
-/
namespace Go.Proofs.Ytdhhibfppcpieaa
open Go.RowKit
def Ps.bring (s : Ps) : Nat → Ps
  | 0 => s
  | 1 => ⟨s.i, s.r1, s.r0, s.r2, s.r3⟩
  | 2 => ⟨s.i, s.r2, s.r0, s.r1, s.r3⟩
  | _ => ⟨s.i, s.r3, s.r0, s.r1, s.r2⟩
def Ps.come (s : Ps) (d : Nat) : Ps := ⟨s.i, d, s.r0, s.r1, s.r2⟩
def RepPost (w : World) (g : Nat) (A : Option Addr) (n c dict : Nat) (s : Ps) (lv av : Value) (x : Ending) (w' : World) : Prop :=
  x = .returned (.tuple #[]) ∧ Only (fun i => i = g) w w' ∧ Blk w' g 51 (fCells A n c dict s lv av)
section
variable {w : World} {g : Nat} {A : Option Addr} {n c dict : Nat} {s : Ps} {lv av : Value}
set_option maxRecDepth 100000 in
set_option maxHeartbeats 4000000 in
theorem praise_0 (h : Blk w g 51 (fCells A n c dict s lv av)) :
    Calls Try.prog 25 #[.pointer (some ⟨g, 3, none⟩), .int .i64 0] w (RepPost w g A n c dict (s.bring 0) lv av) := by
  have c3 : w.cell? ⟨g, 3, none⟩ = some (.int .u32 (s.r0 : Int)) := h.cell 3
  have c4 : w.cell? ⟨g, 4, none⟩ = some (.int .u32 (s.r1 : Int)) := h.cell 4
  have c5 : w.cell? ⟨g, 5, none⟩ = some (.int .u32 (s.r2 : Int)) := h.cell 5
  have c6 : w.cell? ⟨g, 6, none⟩ = some (.int .u32 (s.r3 : Int)) := h.cell 6
  have hcp : (Builtin.copy_ #[46, 46] 3 #[.slice (some ⟨g, 4, none⟩) 0 3, .slice (some ⟨g, 3, none⟩) 0 4]).run Try.prog w.drew = .ok (goInt 0) (w.drew) := by
    refine copy_reps (W := w.drew) (g := g) (o := 3) (n := 0) (m := 0) (k := 4) [] rfl (fun i v hv => ?_) (fun i hi => ?_) (fun i => h.free i) (by simp [Value.oneCell'])
    · cases hv
    · exact absurd hi (Nat.not_lt_zero i)
  have hB : Blk ((w.drew).setCell ⟨g, 3, none⟩ (.int .u32 (s.r0 : Int))) g 51 (fCells A n c dict (s.bring 0) lv av) := ((h.drewN 1).put 3 (.int .u32 (s.r0 : Int)))
  have hO : Only (fun i => i = g) w ((w.drew).setCell ⟨g, 3, none⟩ (.int .u32 (s.r0 : Int))) := ((Only.refl (fun i => i = g) w).drew).setCell (p := ⟨g, 3, none⟩) (.inl rfl) (.int .u32 (s.r0 : Int))
  have H := Lib.hid (And.intro hO hB)
  have z3 := h.free 3
  have z4 := h.free 4
  have z5 := h.free 5
  have z6 := h.free 6
  clear h hB hO
  go_enter Try.func25, Try.ntmps25
  go_wp2_with fail
  go_region
  all_goals go_wp2_with fail
  first | go_end0 | refine bodyPost_ret (results_none rfl _ _ _) rfl ?_
  exact ⟨rfl, H.out.1, H.out.2⟩
set_option maxRecDepth 100000 in
set_option maxHeartbeats 4000000 in
theorem praise_1 (h : Blk w g 51 (fCells A n c dict s lv av)) :
    Calls Try.prog 25 #[.pointer (some ⟨g, 3, none⟩), .int .i64 1] w (RepPost w g A n c dict (s.bring 1) lv av) := by
  have c3 : w.cell? ⟨g, 3, none⟩ = some (.int .u32 (s.r0 : Int)) := h.cell 3
  have c4 : w.cell? ⟨g, 4, none⟩ = some (.int .u32 (s.r1 : Int)) := h.cell 4
  have c5 : w.cell? ⟨g, 5, none⟩ = some (.int .u32 (s.r2 : Int)) := h.cell 5
  have c6 : w.cell? ⟨g, 6, none⟩ = some (.int .u32 (s.r3 : Int)) := h.cell 6
  have hcp : (Builtin.copy_ #[46, 46] 3 #[.slice (some ⟨g, 4, none⟩) 1 3, .slice (some ⟨g, 3, none⟩) 1 4]).run Try.prog w.drew = .ok (goInt 1) ((w.drew).setCell ⟨g, 4, none⟩ (.int .u32 (s.r0 : Int))) := by
    refine copy_reps (W := w.drew) (g := g) (o := 3) (n := 1) (m := 1) (k := 4) [.int .u32 (s.r0 : Int)] rfl (fun i v hv => ?_) (fun i hi => ?_) (fun i => h.free i) (by simp [Value.oneCell'])
    · match i, hv with
      | 0, hv => injection hv with hv; rw [← hv]; exact c3
    · match i, hi with
      | 0, _ => show (w.cell? ⟨g, 4, none⟩).isSome = true; rw [c4]; rfl
  have hB : Blk (((w.drew).setCell ⟨g, 4, none⟩ (.int .u32 (s.r0 : Int))).setCell ⟨g, 3, none⟩ (.int .u32 (s.r1 : Int))) g 51 (fCells A n c dict (s.bring 1) lv av) := (((h.drewN 1).put 4 (.int .u32 (s.r0 : Int))).put 3 (.int .u32 (s.r1 : Int)))
  have hO : Only (fun i => i = g) w (((w.drew).setCell ⟨g, 4, none⟩ (.int .u32 (s.r0 : Int))).setCell ⟨g, 3, none⟩ (.int .u32 (s.r1 : Int))) := (((Only.refl (fun i => i = g) w).drew).setCell (p := ⟨g, 4, none⟩) (.inl rfl) (.int .u32 (s.r0 : Int))).setCell (p := ⟨g, 3, none⟩) (.inl rfl) (.int .u32 (s.r1 : Int))
  have H := Lib.hid (And.intro hO hB)
  have z3 := h.free 3
  have z4 := h.free 4
  have z5 := h.free 5
  have z6 := h.free 6
  clear h hB hO
  go_enter Try.func25, Try.ntmps25
  go_wp2_with fail
  go_region
  all_goals go_wp2_with fail
  first | go_end0 | refine bodyPost_ret (results_none rfl _ _ _) rfl ?_
  exact ⟨rfl, H.out.1, H.out.2⟩
set_option maxRecDepth 100000 in
set_option maxHeartbeats 4000000 in
theorem praise_2 (h : Blk w g 51 (fCells A n c dict s lv av)) :
    Calls Try.prog 25 #[.pointer (some ⟨g, 3, none⟩), .int .i64 2] w (RepPost w g A n c dict (s.bring 2) lv av) := by
  have c3 : w.cell? ⟨g, 3, none⟩ = some (.int .u32 (s.r0 : Int)) := h.cell 3
  have c4 : w.cell? ⟨g, 4, none⟩ = some (.int .u32 (s.r1 : Int)) := h.cell 4
  have c5 : w.cell? ⟨g, 5, none⟩ = some (.int .u32 (s.r2 : Int)) := h.cell 5
  have c6 : w.cell? ⟨g, 6, none⟩ = some (.int .u32 (s.r3 : Int)) := h.cell 6
  have hcp : (Builtin.copy_ #[46, 46] 3 #[.slice (some ⟨g, 4, none⟩) 2 3, .slice (some ⟨g, 3, none⟩) 2 4]).run Try.prog w.drew = .ok (goInt 2) (((w.drew).setCell ⟨g, 4, none⟩ (.int .u32 (s.r0 : Int))).setCell ⟨g, 5, none⟩ (.int .u32 (s.r1 : Int))) := by
    refine copy_reps (W := w.drew) (g := g) (o := 3) (n := 2) (m := 2) (k := 4) [.int .u32 (s.r0 : Int), .int .u32 (s.r1 : Int)] rfl (fun i v hv => ?_) (fun i hi => ?_) (fun i => h.free i) (by simp [Value.oneCell'])
    · match i, hv with
      | 0, hv => injection hv with hv; rw [← hv]; exact c3
      | 1, hv => injection hv with hv; rw [← hv]; exact c4
    · match i, hi with
      | 0, _ => show (w.cell? ⟨g, 4, none⟩).isSome = true; rw [c4]; rfl
      | 1, _ => show (w.cell? ⟨g, 5, none⟩).isSome = true; rw [c5]; rfl
  have hB : Blk ((((w.drew).setCell ⟨g, 4, none⟩ (.int .u32 (s.r0 : Int))).setCell ⟨g, 5, none⟩ (.int .u32 (s.r1 : Int))).setCell ⟨g, 3, none⟩ (.int .u32 (s.r2 : Int))) g 51 (fCells A n c dict (s.bring 2) lv av) := ((((h.drewN 1).put 4 (.int .u32 (s.r0 : Int))).put 5 (.int .u32 (s.r1 : Int))).put 3 (.int .u32 (s.r2 : Int)))
  have hO : Only (fun i => i = g) w ((((w.drew).setCell ⟨g, 4, none⟩ (.int .u32 (s.r0 : Int))).setCell ⟨g, 5, none⟩ (.int .u32 (s.r1 : Int))).setCell ⟨g, 3, none⟩ (.int .u32 (s.r2 : Int))) := ((((Only.refl (fun i => i = g) w).drew).setCell (p := ⟨g, 4, none⟩) (.inl rfl) (.int .u32 (s.r0 : Int))).setCell (p := ⟨g, 5, none⟩) (.inl rfl) (.int .u32 (s.r1 : Int))).setCell (p := ⟨g, 3, none⟩) (.inl rfl) (.int .u32 (s.r2 : Int))
  have H := Lib.hid (And.intro hO hB)
  have z3 := h.free 3
  have z4 := h.free 4
  have z5 := h.free 5
  have z6 := h.free 6
  clear h hB hO
  go_enter Try.func25, Try.ntmps25
  go_wp2_with fail
  go_region
  all_goals go_wp2_with fail
  first | go_end0 | refine bodyPost_ret (results_none rfl _ _ _) rfl ?_
  exact ⟨rfl, H.out.1, H.out.2⟩
set_option maxRecDepth 100000 in
set_option maxHeartbeats 4000000 in
theorem praise_3 (h : Blk w g 51 (fCells A n c dict s lv av)) :
    Calls Try.prog 25 #[.pointer (some ⟨g, 3, none⟩), .int .i64 3] w (RepPost w g A n c dict (s.bring 3) lv av) := by
  have c3 : w.cell? ⟨g, 3, none⟩ = some (.int .u32 (s.r0 : Int)) := h.cell 3
  have c4 : w.cell? ⟨g, 4, none⟩ = some (.int .u32 (s.r1 : Int)) := h.cell 4
  have c5 : w.cell? ⟨g, 5, none⟩ = some (.int .u32 (s.r2 : Int)) := h.cell 5
  have c6 : w.cell? ⟨g, 6, none⟩ = some (.int .u32 (s.r3 : Int)) := h.cell 6
  have hcp : (Builtin.copy_ #[46, 46] 3 #[.slice (some ⟨g, 4, none⟩) 3 3, .slice (some ⟨g, 3, none⟩) 3 4]).run Try.prog w.drew = .ok (goInt 3) ((((w.drew).setCell ⟨g, 4, none⟩ (.int .u32 (s.r0 : Int))).setCell ⟨g, 5, none⟩ (.int .u32 (s.r1 : Int))).setCell ⟨g, 6, none⟩ (.int .u32 (s.r2 : Int))) := by
    refine copy_reps (W := w.drew) (g := g) (o := 3) (n := 3) (m := 3) (k := 4) [.int .u32 (s.r0 : Int), .int .u32 (s.r1 : Int), .int .u32 (s.r2 : Int)] rfl (fun i v hv => ?_) (fun i hi => ?_) (fun i => h.free i) (by simp [Value.oneCell'])
    · match i, hv with
      | 0, hv => injection hv with hv; rw [← hv]; exact c3
      | 1, hv => injection hv with hv; rw [← hv]; exact c4
      | 2, hv => injection hv with hv; rw [← hv]; exact c5
    · match i, hi with
      | 0, _ => show (w.cell? ⟨g, 4, none⟩).isSome = true; rw [c4]; rfl
      | 1, _ => show (w.cell? ⟨g, 5, none⟩).isSome = true; rw [c5]; rfl
      | 2, _ => show (w.cell? ⟨g, 6, none⟩).isSome = true; rw [c6]; rfl
  have hB : Blk (((((w.drew).setCell ⟨g, 4, none⟩ (.int .u32 (s.r0 : Int))).setCell ⟨g, 5, none⟩ (.int .u32 (s.r1 : Int))).setCell ⟨g, 6, none⟩ (.int .u32 (s.r2 : Int))).setCell ⟨g, 3, none⟩ (.int .u32 (s.r3 : Int))) g 51 (fCells A n c dict (s.bring 3) lv av) := (((((h.drewN 1).put 4 (.int .u32 (s.r0 : Int))).put 5 (.int .u32 (s.r1 : Int))).put 6 (.int .u32 (s.r2 : Int))).put 3 (.int .u32 (s.r3 : Int)))
  have hO : Only (fun i => i = g) w (((((w.drew).setCell ⟨g, 4, none⟩ (.int .u32 (s.r0 : Int))).setCell ⟨g, 5, none⟩ (.int .u32 (s.r1 : Int))).setCell ⟨g, 6, none⟩ (.int .u32 (s.r2 : Int))).setCell ⟨g, 3, none⟩ (.int .u32 (s.r3 : Int))) := (((((Only.refl (fun i => i = g) w).drew).setCell (p := ⟨g, 4, none⟩) (.inl rfl) (.int .u32 (s.r0 : Int))).setCell (p := ⟨g, 5, none⟩) (.inl rfl) (.int .u32 (s.r1 : Int))).setCell (p := ⟨g, 6, none⟩) (.inl rfl) (.int .u32 (s.r2 : Int))).setCell (p := ⟨g, 3, none⟩) (.inl rfl) (.int .u32 (s.r3 : Int))
  have H := Lib.hid (And.intro hO hB)
  have z3 := h.free 3
  have z4 := h.free 4
  have z5 := h.free 5
  have z6 := h.free 6
  clear h hB hO
  go_enter Try.func25, Try.ntmps25
  go_wp2_with fail
  go_region
  all_goals go_wp2_with fail
  first | go_end0 | refine bodyPost_ret (results_none rfl _ _ _) rfl ?_
  exact ⟨rfl, H.out.1, H.out.2⟩
set_option maxRecDepth 100000 in
set_option maxHeartbeats 4000000 in
theorem ppush_any {d : Nat} (h : Blk w g 51 (fCells A n c dict s lv av)) :
    Calls Try.prog 24 #[.pointer (some ⟨g, 3, none⟩), .int .u32 (d : Int)] w (RepPost w g A n c dict (s.come d) lv av) := by
  have c3 : w.cell? ⟨g, 3, none⟩ = some (.int .u32 (s.r0 : Int)) := h.cell 3
  have c4 : w.cell? ⟨g, 4, none⟩ = some (.int .u32 (s.r1 : Int)) := h.cell 4
  have c5 : w.cell? ⟨g, 5, none⟩ = some (.int .u32 (s.r2 : Int)) := h.cell 5
  have c6 : w.cell? ⟨g, 6, none⟩ = some (.int .u32 (s.r3 : Int)) := h.cell 6
  have hcp : (Builtin.copy_ #[46, 46] 3 #[.slice (some ⟨g, 4, none⟩) 3 3, .slice (some ⟨g, 3, none⟩) 4 4]).run Try.prog w.drew = .ok (goInt 3) ((((w.drew).setCell ⟨g, 4, none⟩ (.int .u32 (s.r0 : Int))).setCell ⟨g, 5, none⟩ (.int .u32 (s.r1 : Int))).setCell ⟨g, 6, none⟩ (.int .u32 (s.r2 : Int))) := by
    refine copy_reps (W := w.drew) (g := g) (o := 3) (n := 3) (m := 4) (k := 4) [.int .u32 (s.r0 : Int), .int .u32 (s.r1 : Int), .int .u32 (s.r2 : Int)] rfl (fun i v hv => ?_) (fun i hi => ?_) (fun i => h.free i) (by simp [Value.oneCell'])
    · match i, hv with
      | 0, hv => injection hv with hv; rw [← hv]; exact c3
      | 1, hv => injection hv with hv; rw [← hv]; exact c4
      | 2, hv => injection hv with hv; rw [← hv]; exact c5
    · match i, hi with
      | 0, _ => show (w.cell? ⟨g, 4, none⟩).isSome = true; rw [c4]; rfl
      | 1, _ => show (w.cell? ⟨g, 5, none⟩).isSome = true; rw [c5]; rfl
      | 2, _ => show (w.cell? ⟨g, 6, none⟩).isSome = true; rw [c6]; rfl
  have hB : Blk (((((w.drew).setCell ⟨g, 4, none⟩ (.int .u32 (s.r0 : Int))).setCell ⟨g, 5, none⟩ (.int .u32 (s.r1 : Int))).setCell ⟨g, 6, none⟩ (.int .u32 (s.r2 : Int))).setCell ⟨g, 3, none⟩ (.int .u32 (d : Int))) g 51 (fCells A n c dict (s.come d) lv av) := (((((h.drewN 1).put 4 (.int .u32 (s.r0 : Int))).put 5 (.int .u32 (s.r1 : Int))).put 6 (.int .u32 (s.r2 : Int))).put 3 (.int .u32 (d : Int)))
  have hO : Only (fun i => i = g) w (((((w.drew).setCell ⟨g, 4, none⟩ (.int .u32 (s.r0 : Int))).setCell ⟨g, 5, none⟩ (.int .u32 (s.r1 : Int))).setCell ⟨g, 6, none⟩ (.int .u32 (s.r2 : Int))).setCell ⟨g, 3, none⟩ (.int .u32 (d : Int))) := (((((Only.refl (fun i => i = g) w).drew).setCell (p := ⟨g, 4, none⟩) (.inl rfl) (.int .u32 (s.r0 : Int))).setCell (p := ⟨g, 5, none⟩) (.inl rfl) (.int .u32 (s.r1 : Int))).setCell (p := ⟨g, 6, none⟩) (.inl rfl) (.int .u32 (s.r2 : Int))).setCell (p := ⟨g, 3, none⟩) (.inl rfl) (.int .u32 (d : Int))
  have H := Lib.hid (And.intro hO hB)
  have z3 := h.free 3
  have z4 := h.free 4
  have z5 := h.free 5
  have z6 := h.free 6
  clear h hB hO
  go_enter Try.func24, Try.ntmps24
  go_wp2_with fail
  go_region
  all_goals go_wp2_with fail
  first | go_end0 | refine bodyPost_ret (results_none rfl _ _ _) rfl ?_
  exact ⟨rfl, H.out.1, H.out.2⟩
theorem praise_any {j : Nat} (hj : j < 4) (h : Blk w g 51 (fCells A n c dict s lv av)) :
    Calls Try.prog 25 #[.pointer (some ⟨g, 3, none⟩), .int .i64 (j : Int)] w (RepPost w g A n c dict (s.bring j) lv av) := by
  match j, hj with
  | 0, _ => exact praise_0 h
  | 1, _ => exact praise_1 h
  | 2, _ => exact praise_2 h
  | 3, _ => exact praise_3 h
end
section
variable {w w' : World} {g : Nat} {G : Nat → Prop} {A : Option Addr} {n c dict : Nat} {b : List UInt8} {s s' : Ps} {cnt : Nat}
/-- the finder whose first cells turn -/
theorem Fd.turn (h : Fd w g G A n c dict b s cnt) : ∃ lv av, Fq w g A n c dict b s lv av ∧ G g ∧ ∀ (w' : World) (s' : Ps), Only (fun i => i = g) w w' → Blk w' g 51 (fCells A n c dict s' lv av) → s'.i ≤ n → s'.Lit → Fd w' g G A n c dict b s' cnt := by
  rcases h with ⟨h, hc⟩ | ⟨sz, ql, qa, ca, cs, h⟩
  · refine ⟨_, _, h.fq, h.gg, fun w' s' hO hB hi hl => .inl ⟨⟨⟨hB, h.fq.sl.only hO (fun h0 q o e e2 => h.ap h0 q o e (by rw [e2]; exact h.gg)), h.fq.n1, hi, h.fq.d1, h.fq.d2, hl⟩, h.gg, fun i hi => Nat.lt_of_lt_of_le (h.lt i hi) hO.size, h.ap⟩, hc⟩⟩
  · refine ⟨_, _, h.fq, h.gg, fun w' s' hO hB hi hl => .inr ⟨sz, ql, qa, ca, cs, ⟨⟨hB, h.fq.sl.only hO (fun h0 q o e e2 => h.ap h0 q o e (by rw [e2]; exact h.gg)), h.fq.n1, hi, h.fq.d1, h.fq.d2, hl⟩, ⟨h.md.lb.only hO h.n1, h.md.lz, h.md.lv, own_only h.md.ar hO h.n2, h.md.s1, h.md.s2, h.md.ne⟩, h.gg, h.gl, h.ga, fun i hi => Nat.lt_of_lt_of_le (h.lt i hi) hO.size, h.ap, h.n1, h.n2⟩⟩⟩
end
end Go.Proofs.Ytdhhibfppcpieaa

/-
  The program's finder: the packet at a place.
-/
namespace Go.Proofs.Ytdhhibfppcpieaa
open Go.RowKit

def zeroPk : Array Value := #[.int .i64 0, .int .u8 0, .int .i64 0, .int .u32 0]
section
variable {w w' wx : World} {g q : Nat} {G : Nat → Prop} {A : Option Addr} {n c dict : Nat} {b : List UInt8} {s s' : Ps} {cnt : Nat}
theorem Fd.keep {S : Nat → Prop} (h : Fd w g G A n c dict b s cnt) (hO : Only S w w') (hS : ∀ i, G i → ¬ S i) (hA : 0 < n → ∀ p o, A = some ⟨p, o, none⟩ → ¬ S p) : Fd w' g G A n c dict b s cnt := by
  rcases h with ⟨h, hc⟩ | ⟨sz, ql, qa, ca, cs, h⟩
  · exact .inl ⟨⟨⟨h.fq.f.only hO (hS g h.gg), h.fq.sl.only hO hA, h.fq.n1, h.fq.i1, h.fq.d1, h.fq.d2, h.fq.lit⟩, h.gg, fun i hi => Nat.lt_of_lt_of_le (h.lt i hi) hO.size, h.ap⟩, hc⟩
  · exact .inr ⟨sz, ql, qa, ca, cs, ⟨⟨h.fq.f.only hO (hS g h.gg), h.fq.sl.only hO hA, h.fq.n1, h.fq.i1, h.fq.d1, h.fq.d2, h.fq.lit⟩, ⟨h.md.lb.only hO (hS ql h.gl), h.md.lz, h.md.lv, own_only h.md.ar hO (hS qa h.ga), h.md.s1, h.md.s2, h.md.ne⟩, h.gg, h.gl, h.ga, fun i hi => Nat.lt_of_lt_of_le (h.lt i hi) hO.size, h.ap, h.n1, h.n2⟩⟩
theorem Fd.alen (h : Fd w g G A n c dict b s cnt) : 0 < n → ∀ p o, A = some ⟨p, o, none⟩ → p < w.heap.size := fun h0 p o e => by
  obtain ⟨_, _, hq⟩ := h.fq
  obtain ⟨b', o', e', hlt, _⟩ := hq.sl.2 h0
  rw [e] at e'
  injection e' with e'
  injection e' with e'
  omega
/-- within the packet's call -/
def Pmid (w : World) (q g : Nat) (G : Nat → Prop) (A : Option Addr) (n c dict : Nat) (b : List UInt8) (s : Ps) (wx : World) : Prop :=
  ∃ (G' : Nat → Prop) (cnt : Nat), Fd wx g G' A n c dict b s cnt ∧ cnt ≤ s.i ∧ (∀ i, G' i → G i ∨ w.heap.size ≤ i) ∧ Only G w wx ∧ Blk wx q 44 zeroPk ∧ ¬ G' q ∧ (0 < n → ∀ p o, A = some ⟨p, o, none⟩ → p ≠ q) ∧ w.heap.size ≤ q
theorem Pmid.start (h : Fd w g G A n c dict b s cnt) (hc : cnt ≤ s.i) : Pmid w w.heap.size g G A n c dict b s (w.alloc (.cells zeroPk 44)) := by
  refine ⟨G, cnt, h.keep (S := fun _ => False) ((Only.refl _ w).alloc _) (fun _ _ h => h) (fun _ _ _ _ h => h), hc, fun i hi => .inl hi, (Only.refl _ w).alloc _, Blk.fresh w _ _, fun hq => ?_, fun h0 p o e => ?_, Nat.le_refl _⟩
  · have := h.lt _ hq
    omega
  · have := h.alen h0 p o e
    omega
theorem Pmid.drewN (h : Pmid w q g G A n c dict b s wx) (k : Nat) : Pmid w q g G A n c dict b s (wx.drewN k) := by
  obtain ⟨G', cnt, h1, h2, h3, h4, h5, h6⟩ := h
  exact ⟨G', cnt, h1.drewN k, h2, h3, h4.drewN k, h5.drewN k, h6⟩
theorem Pmid.post (h : Pmid w q g G A n c dict b s wx) : ∃ (G' : Nat → Prop) (cnt : Nat), Fd wx g G' A n c dict b s cnt ∧ cnt ≤ s.i ∧ ∀ w', FdPost wx g G' A n c dict b s w' → Pmid w q g G A n c dict b s w' := by
  obtain ⟨G', cnt, h1, h2, h3, h4, h5, h6, h7, h8⟩ := h
  refine ⟨G', cnt, h1, h2, fun w' hp => ?_⟩
  obtain ⟨G2, c2, k1, k2, k3, k4⟩ := hp
  have hs := h4.size
  have hql := h5.lt
  refine ⟨G2, c2, k1, k2, nw_trans h3 k3 hs, only_nw h4 h3 k4, h5.only k4 h6, fun hq => ?_, h7, h8⟩
  rcases k3 q hq with h' | h'
  · exact h6 h'
  · omega
theorem Pmid.turn (h : Pmid w q g G A n c dict b s wx) : ∃ lv av, Fq wx g A n c dict b s lv av ∧ ∀ (w' : World) (s' : Ps), Only (fun i => i = g) wx w' → Blk w' g 51 (fCells A n c dict s' lv av) → s'.i = s.i → s'.Lit → Pmid w q g G A n c dict b s' w' := by
  obtain ⟨G', cnt, h1, h2, h3, h4, h5, h6, h7, h8⟩ := h
  obtain ⟨lv, av, hq, hg, ht⟩ := h1.turn
  have hqg : ¬ q = g := fun e => h6 (e ▸ hg)
  refine ⟨lv, av, hq, fun w' s' hO hB hi hl => ⟨G', cnt, ht w' s' hO hB (by rw [hi]; exact hq.i1) hl, by omega, h3, h4.trans' hO (fun i e => by rw [e]; exact h3 g hg), h5.only hO hqg, h6, h7, h8⟩⟩
/-- the packet is put into its place -/
theorem Pmid.store (h : Pmid w q g G A n c dict b s wx) (v0 v1 v2 v3 : Value) :
    FdPost w g G A n c dict b s ((((wx.setCell ⟨q, 0, none⟩ v0).setCell ⟨q, 1, none⟩ v1).setCell ⟨q, 2, none⟩ v2).setCell ⟨q, 3, none⟩ v3) ∧
    Blk ((((wx.setCell ⟨q, 0, none⟩ v0).setCell ⟨q, 1, none⟩ v1).setCell ⟨q, 2, none⟩ v2).setCell ⟨q, 3, none⟩ v3) q 44 #[v0, v1, v2, v3] := by
  obtain ⟨G', cnt, h1, h2, h3, h4, h5, h6, h7, h8⟩ := h
  have hO : Only (fun i => i = q) wx ((((wx.setCell ⟨q, 0, none⟩ v0).setCell ⟨q, 1, none⟩ v1).setCell ⟨q, 2, none⟩ v2).setCell ⟨q, 3, none⟩ v3) :=
    ((((Only.refl (fun i => i = q) wx).setCell (p := ⟨q, 0, none⟩) (.inl rfl) v0).setCell (p := ⟨q, 1, none⟩) (.inl rfl) v1).setCell (p := ⟨q, 2, none⟩) (.inl rfl) v2).setCell (p := ⟨q, 3, none⟩) (.inl rfl) v3
  exact ⟨⟨G', cnt, h1.keep hO (fun i hi e => h6 (e ▸ hi)) h7, h2, h3, h4.trans' hO (fun i e => by rw [e]; exact .inr h8)⟩, (((h5.put 0 v0).put 1 v1).put 2 v2).put 3 v3⟩
theorem Pmid.blk (h : Pmid w q g G A n c dict b s wx) : Blk wx q 44 zeroPk := by
  obtain ⟨G', cnt, h1, h2, h3, h4, h5, h6, h7, h8⟩ := h
  exact h5
theorem FdPost.drewN (h : FdPost w g G A n c dict b s w') (k : Nat) : FdPost w g G A n c dict b s (w'.drewN k) := by
  obtain ⟨G', cnt, h1, h2, h3, h4⟩ := h
  exact ⟨G', cnt, h1.drewN k, h2, h3, h4.drewN k⟩
/-- what the packet's call owes -/
def PktPost (w : World) (g : Nat) (G : Nat → Prop) (A : Option Addr) (n c dict : Nat) (b : List UInt8) (s : Ps) (x : Ending) (w' : World) : Prop :=
  ∃ (p : Pq) (s' s1 : Ps) (k : Nat), stepF b dict n s = (p, s') ∧ s' = { s1 with i := s.i + k } ∧ s1.i = s.i ∧ x = .returned (.tuple #[.agg #[.int .i64 p.k, .int .u8 p.a, .int .i64 p.n, .int .u32 p.v], .int .i64 (k : Int)]) ∧ FdPost w g G A n c dict b s1 w'
theorem bring_lit (h : s.Lit) (k : Nat) : (s.bring k).Lit := by
  match k with
  | 0 => exact h
  | 1 => exact ⟨h.r1, h.r0, h.r2, h.r3⟩
  | 2 => exact ⟨h.r2, h.r0, h.r1, h.r3⟩
  | n + 3 => exact ⟨h.r3, h.r0, h.r1, h.r2⟩
theorem bring_i (s : Ps) (k : Nat) : (s.bring k).i = s.i := by
  match k with
  | 0 => rfl
  | 1 => rfl
  | 2 => rfl
  | n + 3 => rfl
theorem bring_raise (s : Ps) (m k : Nat) : s.raise m k = { s.bring k with i := s.i + m } := by
  match k with
  | 0 => rfl
  | 1 => rfl
  | 2 => rfl
  | n + 3 => rfl
end
end Go.Proofs.Ytdhhibfppcpieaa
