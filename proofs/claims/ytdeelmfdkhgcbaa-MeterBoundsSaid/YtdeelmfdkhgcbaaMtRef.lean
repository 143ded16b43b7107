/-
  The reference's meter: each call a contract.
-/
import Derived.Test.YtdeelmfdkhgcbaaMtUsed
import Derived.Deep.RegionLaw
import Derived.BigQuiet
namespace Go.Proofs.Ytdeelmfdkhgcbaa
open Go.RowKit

section
variable {g : Nat} {q : Quo} {s : Tel} {w : World} {cs : Array Value} {code was most n x : Int}

set_option maxHeartbeats 1000000 in
theorem more_ok (hB : Blk w g 39 cs) (hc : cs[11]? = some (.int .i64 0)) (h0 : 0 ≤ was) (h1 : was ≤ most) (h2 : most ≤ 9223372036854775807) (hn : max n 0 ≤ most - was) :
    Calls Try.prog 29 #[.pointer (some ⟨g, 0, none⟩), .int .i64 was, .int .i64 most, .int .i64 n, .int .i64 x] w fun e w' =>
      e = .returned (.tuple #[.int .i64 (was + max n 0), .bool true]) ∧ w = w' := by
  have hcell : w.cell? ⟨g, 11, none⟩ = some (.int .i64 0) := (hB.cell 11).trans hc
  have e1 : IntKind.i64.wrap (most - was) = most - was := IntWalk.i64_in _ (by omega)
  clear hB hc
  by_cases hneg : n < 0
  · have hm : max n 0 = 0 := by omega
    have e2 : IntKind.i64.wrap was = was := IntWalk.i64_in _ (by omega)
    have hn' : ¬ (0 > most - was) := by omega
    rw [hm, Int.add_zero]
    clear hm hn
    go_enter Try.func29, Try.ntmps29
    go_wp2_with fail
    go_ret2
    exact ⟨rfl, rfl⟩
  · have hm : max n 0 = n := by omega
    have e2 : IntKind.i64.wrap (was + n) = was + n := IntWalk.i64_in _ (by omega)
    rw [hm] at hn ⊢
    clear hm
    have hn' : ¬ (n > most - was) := by omega
    go_enter Try.func29, Try.ntmps29
    go_wp2_with fail
    go_ret2
    exact ⟨rfl, rfl⟩

set_option maxHeartbeats 1000000 in
theorem more_over (hB : Blk w g 39 cs) (hc : cs[11]? = some (.int .i64 0)) (h0 : 0 ≤ was) (h1 : was ≤ most) (h2 : most ≤ 9223372036854775807) (hn : most - was < max n 0) :
    Calls Try.prog 29 #[.pointer (some ⟨g, 0, none⟩), .int .i64 was, .int .i64 most, .int .i64 n, .int .i64 x] w fun e w' =>
      e = .returned (.tuple #[.int .i64 was, .bool false]) ∧ w' = w.setCell ⟨g, 11, none⟩ (.int .i64 x) := by
  have hcell : w.cell? ⟨g, 11, none⟩ = some (.int .i64 0) := (hB.cell 11).trans hc
  have hfr : w.frozen? ⟨g, 11, none⟩ = false := hB.free 11
  have e1 : IntKind.i64.wrap (most - was) = most - was := IntWalk.i64_in _ (by omega)
  have hneg : ¬ n < 0 := by omega
  have hm : max n 0 = n := by omega
  rw [hm] at hn
  have hn' : n > most - was := by omega
  clear hB hc hm
  go_enter Try.func29, Try.ntmps29
  go_wp2_with fail
  go_ret2
  exact ⟨rfl, rfl⟩

set_option maxHeartbeats 1000000 in
theorem more_spent (hB : Blk w g 39 cs) (hc : cs[11]? = some (.int .i64 code)) (hz : code ≠ 0) :
    Calls Try.prog 29 #[.pointer (some ⟨g, 0, none⟩), .int .i64 was, .int .i64 most, .int .i64 n, .int .i64 x] w fun e w' =>
      e = .returned (.tuple #[.int .i64 was, .bool false]) ∧ w = w' := by
  have hcell : w.cell? ⟨g, 11, none⟩ = some (.int .i64 code) := (hB.cell 11).trans hc
  clear hB hc
  by_cases hneg : n < 0
  · go_enter Try.func29, Try.ntmps29
    go_wp2_with fail
    go_ret2
    exact ⟨rfl, rfl⟩
  · go_enter Try.func29, Try.ntmps29
    go_wp2_with fail
    go_ret2
    exact ⟨rfl, rfl⟩

theorem keep_cell {c : Array Value} {j : Nat} {u : Value} (h : c[j]? = some u) : c.setIfInBounds j u = c := by
  refine Array.ext_getElem? fun k => ?_
  rw [Array.getElem?_setIfInBounds]
  split
  · rename_i hjk
    subst hjk
    split
    · exact h.symm
    · rename_i hlt
      rw [Array.getElem?_eq_none (by omega)] at h
      cases h
  · rfl

theorem more_any (hB : Blk w g 39 cs) (hc : cs[11]? = some (.int .i64 code)) (h0 : 0 ≤ was) (h1 : was ≤ most) (h2 : most ≤ 9223372036854775807) :
    Calls Try.prog 29 #[.pointer (some ⟨g, 0, none⟩), .int .i64 was, .int .i64 most, .int .i64 n, .int .i64 x] w fun e w' =>
      e = .returned (.tuple #[.int .i64 (wasOf code was most n), .bool (decide (fits code was most n))]) ∧
        Blk w' g 39 (cs.setIfInBounds 11 (.int .i64 (codeOf code was most n x))) ∧ w.grownBy w' (some g) := by
  by_cases hz : code = 0
  · subst hz
    by_cases hn : max n 0 ≤ most - was
    · have hf : fits 0 was most n := ⟨rfl, hn⟩
      refine (more_ok hB hc h0 h1 h2 hn).mono ?_
      rintro e w' ⟨rfl, rfl⟩
      have e1 : wasOf 0 was most n = was + max n 0 := by unfold wasOf; rw [if_pos ⟨rfl, hn⟩]
      have e2 : codeOf 0 was most n x = 0 := by unfold codeOf; rw [if_neg (by omega)]
      rw [e1, e2, keep_cell hc]
      exact ⟨by simp [hf], hB, World.grownBy.refl w _⟩
    · have hf : ¬ fits 0 was most n := fun h => hn h.2
      refine (more_over hB hc h0 h1 h2 (x := x) (by omega)).mono ?_
      rintro e w' ⟨rfl, rfl⟩
      have e1 : wasOf 0 was most n = was := by unfold wasOf; rw [if_neg (fun h => hn h.2)]
      have e2 : codeOf 0 was most n x = x := by unfold codeOf; rw [if_pos ⟨rfl, by omega⟩]
      rw [e1, e2]
      exact ⟨by simp [hf], hB.put 11 _, only_setCell (World.grownBy.refl w _) (.inl rfl) _⟩
  · have hf : ¬ fits code was most n := fun h => hz h.1
    refine (more_spent hB hc hz).mono ?_
    rintro e w' ⟨rfl, rfl⟩
    have e1 : wasOf code was most n = was := by unfold wasOf; rw [if_neg (fun h => hz h.1)]
    have e2 : codeOf code was most n x = code := by unfold codeOf; rw [if_neg (fun h => hz h.1)]
    rw [e1, e2, keep_cell hc]
    exact ⟨by simp [hf], hB, World.grownBy.refl w _⟩

set_option maxHeartbeats 1000000 in
theorem rask1 (h : MeterAt w 39 g q s) (hf : Fine q s) (n : Int) :
    Calls Try.prog 22 #[.pointer (some ⟨g, 0, none⟩), .int .i64 1, .int .i64 n] w fun e w' =>
      e = .returned (.bool (decide (fits s.code s.out q.out n))) ∧ MeterAt w' 39 g q (s.doOut q n) ∧ w.grownBy w' (some g) := by
  have hB : Blk w.drew g 39 (mCells q s) := h
  have hq : w.cell? ⟨g, 1, none⟩ = some (.int .i64 q.out) := Blk.cell h 1
  have hu : w.cell? ⟨g, 7, none⟩ = some (.int .i64 s.out) := Blk.cell h 7
  have K := Lib.hid (more_any (n := n) (x := 102) (code := s.code) (was := s.out) (most := q.out) hB rfl hf.o0 hf.o1 hf.o2)
  clear h hB
  go_enter Try.func22, Try.ntmps22
  go_wp2_with fail
  go_region_law (first | (go_simp; go_at_call 29; refine K.out.mono ?_; rintro e w1 ⟨rfl, hB, hg⟩; have j0 : w1.cell? ⟨g, 7, none⟩ = some (.int .i64 s.out) := hB.cell 7; have z0 : w1.frozen? ⟨g, 7, none⟩ = false := hB.free 7; have HB := Lib.hid hB; have HG := Lib.hid hg; clear hB hg))
  all_goals
    try go_wp2_with fail
    go_ret
    exact ⟨rfl, HB.out.put 7 _, only_setCell (only_draw HG.out) (.inl rfl) _⟩

set_option maxHeartbeats 1000000 in
theorem rask2 (h : MeterAt w 39 g q s) (hf : Fine q s) (n : Int) :
    Calls Try.prog 22 #[.pointer (some ⟨g, 0, none⟩), .int .i64 2, .int .i64 n] w fun e w' =>
      e = .returned (.bool (decide (fits s.code s.files q.files 1))) ∧ MeterAt w' 39 g q (s.doFile q) ∧ w.grownBy w' (some g) := by
  have hB : Blk w.drew g 39 (mCells q s) := h
  have hq : w.cell? ⟨g, 2, none⟩ = some (.int .i64 q.files) := Blk.cell h 2
  have hu : w.cell? ⟨g, 8, none⟩ = some (.int .i64 s.files) := Blk.cell h 8
  have K := Lib.hid (more_any (n := 1) (x := 103) (code := s.code) (was := s.files) (most := q.files) hB rfl hf.f0 hf.f1 hf.f2)
  clear h hB
  go_enter Try.func22, Try.ntmps22
  go_wp2_with fail
  go_region_law (first | (go_simp; go_at_call 29; refine K.out.mono ?_; rintro e w1 ⟨rfl, hB, hg⟩; have j0 : w1.cell? ⟨g, 8, none⟩ = some (.int .i64 s.files) := hB.cell 8; have z0 : w1.frozen? ⟨g, 8, none⟩ = false := hB.free 8; have HB := Lib.hid hB; have HG := Lib.hid hg; clear hB hg))
  all_goals
    try go_wp2_with fail
    go_ret
    exact ⟨rfl, HB.out.put 8 _, only_setCell (only_draw HG.out) (.inl rfl) _⟩

set_option maxHeartbeats 1000000 in
theorem rask3 (h : MeterAt w 39 g q s) (hf : Fine q s) (n : Int) :
    Calls Try.prog 22 #[.pointer (some ⟨g, 0, none⟩), .int .i64 3, .int .i64 n] w fun e w' =>
      e = .returned (.bool (decide (fits s.code s.depth q.depth 1))) ∧ MeterAt w' 39 g q (s.doDown q) ∧ w.grownBy w' (some g) := by
  have hB : Blk w.drew g 39 (mCells q s) := h
  have hq : w.cell? ⟨g, 3, none⟩ = some (.int .i64 q.depth) := Blk.cell h 3
  have hu : w.cell? ⟨g, 9, none⟩ = some (.int .i64 s.depth) := Blk.cell h 9
  have K := Lib.hid (more_any (n := 1) (x := 104) (code := s.code) (was := s.depth) (most := q.depth) hB rfl hf.d0 hf.d1 hf.d2)
  clear h hB
  go_enter Try.func22, Try.ntmps22
  go_wp2_with fail
  go_region_law (first | (go_simp; go_at_call 29; refine K.out.mono ?_; rintro e w1 ⟨rfl, hB, hg⟩; have j0 : w1.cell? ⟨g, 9, none⟩ = some (.int .i64 s.depth) := hB.cell 9; have z0 : w1.frozen? ⟨g, 9, none⟩ = false := hB.free 9; have HB := Lib.hid hB; have HG := Lib.hid hg; clear hB hg))
  all_goals
    try go_wp2_with fail
    go_ret
    exact ⟨rfl, HB.out.put 9 _, only_setCell (only_draw HG.out) (.inl rfl) _⟩

set_option maxHeartbeats 1000000 in
theorem rask4 (h : MeterAt w 39 g q s) (hf : Fine q s) (n : Int) :
    Calls Try.prog 22 #[.pointer (some ⟨g, 0, none⟩), .int .i64 4, .int .i64 n] w fun e w' =>
      e = .returned (.bool (decide (fits s.code s.steps q.steps n))) ∧ MeterAt w' 39 g q (s.doStep q n) ∧ w.grownBy w' (some g) := by
  have hB : Blk w.drew g 39 (mCells q s) := h
  have hq : w.cell? ⟨g, 4, none⟩ = some (.int .i64 q.steps) := Blk.cell h 4
  have hu : w.cell? ⟨g, 10, none⟩ = some (.int .i64 s.steps) := Blk.cell h 10
  have K := Lib.hid (more_any (n := n) (x := 105) (code := s.code) (was := s.steps) (most := q.steps) hB rfl hf.s0 hf.s1 hf.s2)
  clear h hB
  go_enter Try.func22, Try.ntmps22
  go_wp2_with fail
  go_region_law (first | (go_simp; go_at_call 29; refine K.out.mono ?_; rintro e w1 ⟨rfl, hB, hg⟩; have j0 : w1.cell? ⟨g, 10, none⟩ = some (.int .i64 s.steps) := hB.cell 10; have z0 : w1.frozen? ⟨g, 10, none⟩ = false := hB.free 10; have HB := Lib.hid hB; have HG := Lib.hid hg; clear hB hg))
  all_goals
    try go_wp2_with fail
    go_ret
    exact ⟨rfl, HB.out.put 10 _, only_setCell (only_draw HG.out) (.inl rfl) _⟩

set_option maxHeartbeats 1000000 in
theorem rask0 (h : MeterAt w 39 g q s) (hf : Fine q s) (n : Int) :
    Calls Try.prog 22 #[.pointer (some ⟨g, 0, none⟩), .int .i64 0, .int .i64 n] w fun e w' =>
      e = .returned (.bool (decide (fits s.code s.mem q.mem n))) ∧ MeterAt w' 39 g q (s.doMem q n) ∧ w.grownBy w' (some g) := by
  have hB : Blk w.drew g 39 (mCells q s) := h
  have hq : w.cell? ⟨g, 0, none⟩ = some (.int .i64 q.mem) := Blk.cell h 0
  have hu : w.cell? ⟨g, 5, none⟩ = some (.int .i64 s.mem) := Blk.cell h 5
  have K := Lib.hid (more_any (n := n) (x := 101) (code := s.code) (was := s.mem) (most := q.mem) hB rfl hf.m0 (Int.le_trans hf.m1 hf.m2) hf.m3)
  clear h hB
  by_cases hp : wasOf s.code s.mem q.mem n > s.peak
  · have hd : decide (wasOf s.code s.mem q.mem n > s.peak) = true := by simp only [decide_eq_true_eq]; exact hp
    have EM := Lib.hid (show max s.peak (wasOf s.code s.mem q.mem n) = wasOf s.code s.mem q.mem n by omega)
    generalize hv : wasOf s.code s.mem q.mem n = v at *
    go_enter Try.func22, Try.ntmps22
    go_wp2_with fail
    go_region_law (first | (go_simp; go_at_call 29; refine K.out.mono ?_; rintro e w1 ⟨rfl, hB, hg⟩; have j0 : w1.cell? ⟨g, 5, none⟩ = some (.int .i64 s.mem) := hB.cell 5; have z0 : w1.frozen? ⟨g, 5, none⟩ = false := hB.free 5; have j1 : w1.cell? ⟨g, 6, none⟩ = some (.int .i64 s.peak) := hB.cell 6; have z1 : w1.frozen? ⟨g, 6, none⟩ = false := hB.free 6; have HB := Lib.hid hB; have HG := Lib.hid hg; clear hB hg))
    all_goals
      try go_wp2_with fail
      go_quiet (fail)
      go_wp2_with fail
      go_ret
      refine ⟨rfl, ?_, only_setCell (only_drewN (only_setCell (only_draw HG.out) (.inl rfl) _) _) (.inl rfl) _⟩
      have := ((HB.out.put 5 (.int .i64 v)).put 6 (.int .i64 v))
      unfold MeterAt Tel.doMem
      rw [hv, EM.out]
      exact this
  · have hd : decide (wasOf s.code s.mem q.mem n > s.peak) = false := by simp only [decide_eq_false_iff_not]; exact hp
    have EM := Lib.hid (show max s.peak (wasOf s.code s.mem q.mem n) = s.peak by omega)
    generalize hv : wasOf s.code s.mem q.mem n = v at *
    go_enter Try.func22, Try.ntmps22
    go_wp2_with fail
    go_region_law (first | (go_simp; go_at_call 29; refine K.out.mono ?_; rintro e w1 ⟨rfl, hB, hg⟩; have j0 : w1.cell? ⟨g, 5, none⟩ = some (.int .i64 s.mem) := hB.cell 5; have z0 : w1.frozen? ⟨g, 5, none⟩ = false := hB.free 5; have j1 : w1.cell? ⟨g, 6, none⟩ = some (.int .i64 s.peak) := hB.cell 6; have z1 : w1.frozen? ⟨g, 6, none⟩ = false := hB.free 6; have HB := Lib.hid hB; have HG := Lib.hid hg; clear hB hg))
    all_goals
      try go_wp2_with fail
      go_quiet (fail)
      go_wp2_with fail
      go_ret
      refine ⟨rfl, ?_, only_drewN (only_setCell (only_draw HG.out) (.inl rfl) _) _⟩
      have := HB.out.put 5 (.int .i64 v)
      unfold MeterAt Tel.doMem
      rw [hv, EM.out]
      exact this
end
end Go.Proofs.Ytdeelmfdkhgcbaa
