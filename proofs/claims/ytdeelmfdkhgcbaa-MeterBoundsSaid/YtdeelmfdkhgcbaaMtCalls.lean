/-
  The calls of a meter: each a contract.
-/
import Derived.Test.YtdeelmfdkhgcbaaMtUses
import Derived.Deep.RegionHeld3
namespace Go.Proofs.Ytdeelmfdkhgcbaa
open Go.RowKit

theorem MeterAt.drewN {w : World} {t : TypeId} {g : Nat} {q : Quo} {s : Tel} (h : MeterAt w t g q s) (n : Nat) : MeterAt (w.drewN n) t g q s := h
theorem MeterAt.lt {w : World} {t : TypeId} {g : Nat} {q : Quo} {s : Tel} (h : MeterAt w t g q s) : g < w.heap.size := Blk.lt h
theorem MeterAt.alloc {w : World} {t : TypeId} {g : Nat} {q : Quo} {s : Tel} (h : MeterAt w t g q s) (o : Obj) : MeterAt (w.alloc o) t g q s := Blk.alloc h o
theorem MeterAt.below {w w' : World} {t : TypeId} {g : Nat} {q : Quo} {s : Tel} (h : MeterAt w t g q s) (hb : Below w.heap.size w w') : MeterAt w' t g q s := Blk.below h hb
theorem MeterAt.grown {w w' : World} {t : TypeId} {g : Nat} {q : Quo} {s : Tel} {row : Option Nat} (h : MeterAt w t g q s) (hb : w.grownBy w' row) (hg : some g ≠ row) : MeterAt w' t g q s := Blk.grown h hb hg
theorem only_draw {a w : World} {row : Option Nat} (h : a.drew.grownBy w row) : a.grownBy w row := ⟨h.os, h.tape, h.output, h.size, h.block⟩

section
variable {g : Nat} {q : Quo} {s : Tel} {w : World}

set_option maxHeartbeats 1000000 in
theorem out_any (h : MeterAt w 53 g q s) (hf : Fine q s) (n : Int) :
    Calls Try.prog 15 #[.pointer (some ⟨g, 0, none⟩), .int .i64 n] w fun e w' => e = .returned (.bool (decide (fits s.code s.out q.out n))) ∧ MeterAt w' 53 g q (s.doOut q n) ∧ w.grownBy w' (some g) := by
  have hB : Blk w.drew g 53 (mCells q s) := h
  have hq : w.cell? ⟨g, 1, none⟩ = some (.int .i64 q.out) := Blk.cell h 1
  have K := Lib.hid (use_any (n := n) (x := 102) (i := 7) (code := s.code) (was := s.out) (most := q.out) hB rfl rfl (by decide) hf.o0 hf.o1 hf.o2)
  clear h hB
  go_enter Try.func15, Try.ntmps15
  go_wp2_with fail
  go_region_held3 (fun w' => w'.cell? ⟨g, 1, none⟩ = some (.int .i64 q.out))
    (first | assumption | go_keep)
    (first | (go_at_call 26; refine K.out.mono ?_; rintro e w1 ⟨z, rfl, hz, hB, hg⟩; have j0 : w1.cell? ⟨g, 1, none⟩ = some (.int .i64 q.out) := hB.cell 1; have HB := Lib.hid hB; have HG := Lib.hid hg; clear hB hg))
  go_wp2_with fail
  go_ret
  exact ⟨rfl, HB.out, only_draw HG.out⟩

set_option maxHeartbeats 1000000 in
theorem file_any (h : MeterAt w 53 g q s) (hf : Fine q s) :
    Calls Try.prog 18 #[.pointer (some ⟨g, 0, none⟩)] w fun e w' => e = .returned (.bool (decide (fits s.code s.files q.files 1))) ∧ MeterAt w' 53 g q (s.doFile q) ∧ w.grownBy w' (some g) := by
  have hB : Blk w.drew g 53 (mCells q s) := h
  have hq : w.cell? ⟨g, 2, none⟩ = some (.int .i64 q.files) := Blk.cell h 2
  have K := Lib.hid (use_any (n := 1) (x := 103) (i := 8) (code := s.code) (was := s.files) (most := q.files) hB rfl rfl (by decide) hf.f0 hf.f1 hf.f2)
  clear h hB
  go_enter Try.func18, Try.ntmps18
  go_wp2_with fail
  go_region_held3 (fun w' => w'.cell? ⟨g, 2, none⟩ = some (.int .i64 q.files))
    (first | assumption | go_keep)
    (first | (go_at_call 26; refine K.out.mono ?_; rintro e w1 ⟨z, rfl, hz, hB, hg⟩; have j0 : w1.cell? ⟨g, 2, none⟩ = some (.int .i64 q.files) := hB.cell 2; have HB := Lib.hid hB; have HG := Lib.hid hg; clear hB hg))
  go_wp2_with fail
  go_ret
  exact ⟨rfl, HB.out, only_draw HG.out⟩

set_option maxHeartbeats 1000000 in
theorem down_any (h : MeterAt w 53 g q s) (hf : Fine q s) :
    Calls Try.prog 19 #[.pointer (some ⟨g, 0, none⟩)] w fun e w' => e = .returned (.bool (decide (fits s.code s.depth q.depth 1))) ∧ MeterAt w' 53 g q (s.doDown q) ∧ w.grownBy w' (some g) := by
  have hB : Blk w.drew g 53 (mCells q s) := h
  have hq : w.cell? ⟨g, 3, none⟩ = some (.int .i64 q.depth) := Blk.cell h 3
  have K := Lib.hid (use_any (n := 1) (x := 104) (i := 9) (code := s.code) (was := s.depth) (most := q.depth) hB rfl rfl (by decide) hf.d0 hf.d1 hf.d2)
  clear h hB
  go_enter Try.func19, Try.ntmps19
  go_wp2_with fail
  go_region_held3 (fun w' => w'.cell? ⟨g, 3, none⟩ = some (.int .i64 q.depth))
    (first | assumption | go_keep)
    (first | (go_at_call 26; refine K.out.mono ?_; rintro e w1 ⟨z, rfl, hz, hB, hg⟩; have j0 : w1.cell? ⟨g, 3, none⟩ = some (.int .i64 q.depth) := hB.cell 3; have HB := Lib.hid hB; have HG := Lib.hid hg; clear hB hg))
  go_wp2_with fail
  go_ret
  exact ⟨rfl, HB.out, only_draw HG.out⟩

set_option maxHeartbeats 1000000 in
theorem step_any (h : MeterAt w 53 g q s) (hf : Fine q s) (n : Int) :
    Calls Try.prog 20 #[.pointer (some ⟨g, 0, none⟩), .int .i64 n] w fun e w' => e = .returned (.bool (decide (fits s.code s.steps q.steps n))) ∧ MeterAt w' 53 g q (s.doStep q n) ∧ w.grownBy w' (some g) := by
  have hB : Blk w.drew g 53 (mCells q s) := h
  have hq : w.cell? ⟨g, 4, none⟩ = some (.int .i64 q.steps) := Blk.cell h 4
  have K := Lib.hid (use_any (n := n) (x := 105) (i := 10) (code := s.code) (was := s.steps) (most := q.steps) hB rfl rfl (by decide) hf.s0 hf.s1 hf.s2)
  clear h hB
  go_enter Try.func20, Try.ntmps20
  go_wp2_with fail
  go_region_held3 (fun w' => w'.cell? ⟨g, 4, none⟩ = some (.int .i64 q.steps))
    (first | assumption | go_keep)
    (first | (go_at_call 26; refine K.out.mono ?_; rintro e w1 ⟨z, rfl, hz, hB, hg⟩; have j0 : w1.cell? ⟨g, 4, none⟩ = some (.int .i64 q.steps) := hB.cell 4; have HB := Lib.hid hB; have HG := Lib.hid hg; clear hB hg))
  go_wp2_with fail
  go_ret
  exact ⟨rfl, HB.out, only_draw HG.out⟩

set_option maxHeartbeats 1000000 in
theorem mem_any (h : MeterAt w 53 g q s) (hf : Fine q s) (n : Int) :
    Calls Try.prog 16 #[.pointer (some ⟨g, 0, none⟩), .int .i64 n] w fun e w' => e = .returned (.bool (decide (fits s.code s.mem q.mem n))) ∧ MeterAt w' 53 g q (s.doMem q n) ∧ w.grownBy w' (some g) := by
  have hB : Blk w.drew g 53 (mCells q s) := h
  have hq : w.cell? ⟨g, 0, none⟩ = some (.int .i64 q.mem) := Blk.cell h 0
  have K := Lib.hid (use_any (n := n) (x := 101) (i := 5) (code := s.code) (was := s.mem) (most := q.mem) hB rfl rfl (by decide) hf.m0 (Int.le_trans hf.m1 hf.m2) hf.m3)
  clear h hB
  go_enter Try.func16, Try.ntmps16
  go_wp2_with fail
  go_region_held3 (fun w' => w'.cell? ⟨g, 0, none⟩ = some (.int .i64 q.mem))
    (first | assumption | go_keep)
    (first | (go_at_call 26; refine K.out.mono ?_; rintro e w1 ⟨z, rfl, hz, hB, hg⟩; have j0 : w1.cell? ⟨g, 0, none⟩ = some (.int .i64 q.mem) := hB.cell 0; have HB := Lib.hid hB; have HG := Lib.hid hg; clear hB hg))
  by_cases hn : fits s.code s.mem q.mem n
  · have hz := hz hn
    subst hz
    have hd : decide (fits s.code s.mem q.mem n) = true := by simp [hn]
    have ew : wasOf s.code s.mem q.mem n = s.mem + max n 0 := by unfold wasOf; exact if_pos hn
    rw [hd]
    have R := Lib.hid (raise_any (i := 6) (was := s.peak) (now := s.mem + max n 0) HB.out rfl)
    go_wp2_with fail
    refine R.out.mono ?_
    rintro e w2 ⟨rfl, rfl⟩
    go_wp2_with fail
    go_ret
    refine ⟨ret_bool hd.symm, ?_, only_setCell (only_draw HG.out) (.inl rfl) _⟩
    have := HB.out.put 6 (.int .i64 (max s.peak (s.mem + max n 0)))
    rw [← ew] at this ⊢
    exact this
  · have hd : decide (fits s.code s.mem q.mem n) = false := by simp [hn]
    have ew : wasOf s.code s.mem q.mem n = s.mem := by unfold wasOf; exact if_neg hn
    rw [hd]
    go_wp2_with fail
    go_ret
    refine ⟨ret_bool hd.symm, ?_, only_draw HG.out⟩
    have := HB.out
    have ep : max s.peak (wasOf s.code s.mem q.mem n) = s.peak := by rw [ew]; have := hf.m1; omega
    unfold MeterAt Tel.doMem
    rw [ep]
    exact this

set_option maxHeartbeats 1000000 in
theorem free_any (h : MeterAt w 53 g q s) (hf : Fine q s) (n : Int) (hn : n ≤ 9223372036854775807) :
    Calls Try.prog 17 #[.pointer (some ⟨g, 0, none⟩), .int .i64 n] w fun e w' => e = .returned (.tuple #[]) ∧ MeterAt w' 53 g q (s.doFree n) ∧ w.grownBy w' (some g) := by
  have K := Lib.hid (lower_any (n := n) (i := 5) (was := s.mem) h rfl hf.m0 (by have := hf.m1; have := hf.m2; have := hf.m3; omega) hn)
  have H := Lib.hid h
  clear h
  go_enter Try.func17, Try.ntmps17
  go_wp2_with fail
  refine K.out.mono ?_
  rintro e w' ⟨rfl, rfl⟩
  go_wp2_with fail
  first | go_end0 | refine bodyPost_ret (results_none rfl _ _ _) rfl ?_
  exact ⟨rfl, Blk.put H.out 5 _, only_setCell (World.grownBy.refl w _) (.inl rfl) _⟩

set_option maxHeartbeats 1000000 in
theorem up_any (h : MeterAt w 53 g q s) (hf : Fine q s) :
    Calls Try.prog 21 #[.pointer (some ⟨g, 0, none⟩)] w fun e w' => e = .returned (.tuple #[]) ∧ MeterAt w' 53 g q (s.doUp) ∧ w.grownBy w' (some g) := by
  have K := Lib.hid (lower_any (n := 1) (i := 9) (was := s.depth) h rfl hf.d0 (by have := hf.d1; have := hf.d2; omega) (by decide))
  have H := Lib.hid h
  clear h
  go_enter Try.func21, Try.ntmps21
  go_wp2_with fail
  refine K.out.mono ?_
  rintro e w' ⟨rfl, rfl⟩
  go_wp2_with fail
  first | go_end0 | refine bodyPost_ret (results_none rfl _ _ _) rfl ?_
  exact ⟨rfl, Blk.put H.out 9 _, only_setCell (World.grownBy.refl w _) (.inl rfl) _⟩
end
end Go.Proofs.Ytdeelmfdkhgcbaa
