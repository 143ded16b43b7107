/-
  MtUse, MtUses, MtMem: put together.
-/
import Derived.Test.YtdhhibfppcpieaaGreatDoorRows
import Derived.Test.YtdhhibfppcpieaaGreatDoorR09
import Derived.Tactics
import Derived.Tactics2
import Derived.Laws.Pointers
import Derived.Laws.LoneSync
import Derived.Lib.MinMax
import Derived.RegionTactic
import Derived.RegionCalls
import Derived.StillTailTactics
import Derived.Deep.RegionHeld3
set_option linter.unusedVariables false
set_option linter.unusedSimpArgs false
/-
  Atomic numbers of 64 bits, of one goroutine, and the calls over them: each a contract.
-/
namespace Go.Proofs.YtdhhibfppcpieaaGreatDoor
open Go.RowKit

theorem load_any (a : Addr) (x : Int) (w : World) (h0 : w.cell? a = some (.int .i64 x)) :
    Calls Tryz.prog 37 #[.pointer (some a)] w fun e w' => e = .returned (.int .i64 x) ∧ w = w' := by
  have hl := run_call_load (P := Tryz.prog) Tryz.func60 (by kernel_rfl) (by kernel_rfl) (by kernel_rfl) .i64 (by kernel_rfl) h0
  go_enter Tryz.func37, Tryz.ntmps37
  go_wp2
  go_ret
  exact ⟨rfl, rfl⟩

theorem cas_hit (a : Addr) (x y : Int) (w : World) (h0 : w.cell? a = some (.int .i64 x)) (hz : w.frozen? a = false) :
    Calls Tryz.prog 121 #[.pointer (some a), .int .i64 x, .int .i64 y] w fun e w' => e = .returned (.bool true) ∧ w' = w.setCell a (.int .i64 y) := by
  have hl := run_call_cas_hit (P := Tryz.prog) Tryz.func155 (by kernel_rfl) (by kernel_rfl) (by kernel_rfl) .i64 (by kernel_rfl) (y := y) h0 hz
  go_enter Tryz.func121, Tryz.ntmps121
  go_wp2
  go_ret
  exact ⟨rfl, rfl⟩

section
variable {g i : Nat} {cs : Array Value} {was most n x code : Int} {w : World}

theorem code_any (hB : Blk w g 88 cs) (hc : cs[11]? = some (.int .i64 code)) :
    Calls Tryz.prog 66 #[.pointer (some ⟨g, 0, none⟩)] w fun e w' => e = .returned (.int .i64 code) ∧ w = w' := by
  have h0 : w.cell? ⟨g, 11, none⟩ = some (.int .i64 code) := (hB.cell 11).trans hc
  have K := Lib.hid (load_any _ _ _ h0)
  clear h0 hB hc
  go_enter Tryz.func66, Tryz.ntmps66
  go_wp2_with fail
  refine K.out.mono ?_
  rintro e w' ⟨rfl, rfl⟩
  go_wp2_with fail
  go_ret
  exact ⟨rfl, rfl⟩

theorem spend_zero (hB : Blk w g 88 cs) (hc : cs[11]? = some (.int .i64 0)) :
    Calls Tryz.prog 120 #[.pointer (some ⟨g, 0, none⟩), .int .i64 x] w fun e w' => e = .returned (.tuple #[]) ∧ w' = w.setCell ⟨g, 11, none⟩ (.int .i64 x) := by
  have h0 : w.cell? ⟨g, 11, none⟩ = some (.int .i64 0) := (hB.cell 11).trans hc
  have K := Lib.hid (cas_hit _ _ x _ h0 (hB.free 11))
  clear h0 hB hc
  go_enter Tryz.func120, Tryz.ntmps120
  go_wp2_with fail
  refine K.out.mono ?_
  rintro e w' ⟨rfl, rfl⟩
  go_wp2_with fail
  first | go_end0 | refine bodyPost_ret (results_none rfl _ _ _) rfl ?_
  exact ⟨rfl, rfl⟩

theorem lower_any (hB : Blk w g 88 cs) (hc : cs[i]? = some (.int .i64 was)) (h0 : 0 ≤ was) (h1 : was ≤ 9223372036854775807) (hn : n ≤ 9223372036854775807) :
    Calls Tryz.prog 107 #[.pointer (some ⟨g, i, none⟩), .int .i64 n] w fun e w' => e = .returned (.tuple #[]) ∧ w' = w.setCell ⟨g, i, none⟩ (.int .i64 (max (was - max n 0) 0)) := by
  have hcell : w.cell? ⟨g, i, none⟩ = some (.int .i64 was) := (hB.cell i).trans hc
  have K := Lib.hid (load_any _ _ _ hcell)
  have C := Lib.hid (fun y => cas_hit _ _ y _ hcell (hB.free i))
  have e1 : IntKind.i64.wrap (was - max n 0) = was - max n 0 := IntWalk.i64_in _ (by omega)
  clear hcell hB hc
  go_enter Tryz.func107, Tryz.ntmps107
  go_wp2
  go_loopw [5] (fun _ wr => wr = w) (fun _ _ => 0)
  case atStart => rfl
  case round =>
    obtain rfl := hrel
    go_wp2_with fail
    refine K.out.mono ?_
    rintro e w' ⟨rfl, rfl⟩
    go_wp2_with fail
    refine (C.out _).mono ?_
    rintro e w' ⟨rfl, rfl⟩
    go_wp2_with fail
    first | (refine bodyPost_ret (results_none rfl _ _ _) rfl ?_) | (simp only [Exit.inBlock, Exit.then]; refine bodyPost_ret (results_none rfl _ _ _) rfl ?_)
    exact ⟨rfl, rfl⟩

theorem raise_any {now : Int} (hB : Blk w g 88 cs) (hc : cs[i]? = some (.int .i64 was)) :
    Calls Tryz.prog 92 #[.pointer (some ⟨g, i, none⟩), .int .i64 now] w fun e w' => e = .returned (.tuple #[]) ∧ w' = w.setCell ⟨g, i, none⟩ (.int .i64 (max was now)) := by
  have hcell : w.cell? ⟨g, i, none⟩ = some (.int .i64 was) := (hB.cell i).trans hc
  have K := Lib.hid (load_any _ _ _ hcell)
  have C := Lib.hid (fun y => cas_hit _ _ y _ hcell (hB.free i))
  clear hcell hB hc
  go_enter Tryz.func92, Tryz.ntmps92
  go_wp2
  go_loopw [4] (fun _ wr => wr = w) (fun _ _ => 0)
  case atStart => rfl
  case round =>
    obtain rfl := hrel
    go_wp2_with fail
    refine K.out.mono ?_
    rintro e w' ⟨rfl, rfl⟩
    go_wp2_with fail
    refine (C.out _).mono ?_
    rintro e w' ⟨rfl, rfl⟩
    go_wp2_with fail
    first | (refine bodyPost_ret (results_none rfl _ _ _) rfl ?_) | (simp only [Exit.inBlock, Exit.then]; refine bodyPost_ret (results_none rfl _ _ _) rfl ?_)
    exact ⟨rfl, rfl⟩
end
end Go.Proofs.YtdhhibfppcpieaaGreatDoor

/-
  Something more of a thing: used, or the meter is spent by it, or it was.
-/
namespace Go.Proofs.YtdhhibfppcpieaaGreatDoor
open Go.RowKit

section
variable {g i : Nat} {cs : Array Value} {was most n x code : Int} {w : World}

set_option maxHeartbeats 1000000 in
theorem use_ok (hB : Blk w g 88 cs) (hc : cs[11]? = some (.int .i64 0)) (hw : cs[i]? = some (.int .i64 was)) (h0 : 0 ≤ was) (h1 : was ≤ most) (h2 : most ≤ 9223372036854775807) (hn : max n 0 ≤ most - was) :
    Calls Tryz.prog 91 #[.pointer (some ⟨g, 0, none⟩), .pointer (some ⟨g, i, none⟩), .int .i64 n, .int .i64 most, .int .i64 x] w fun e w' =>
      e = .returned (.tuple #[.int .i64 (was + max n 0), .bool true]) ∧ w' = w.setCell ⟨g, i, none⟩ (.int .i64 (was + max n 0)) := by
  have K0 := Lib.hid (code_any hB hc)
  have hcell : w.cell? ⟨g, i, none⟩ = some (.int .i64 was) := (hB.cell i).trans hw
  have K := Lib.hid (load_any _ _ _ hcell)
  have C := Lib.hid (fun y => cas_hit _ _ y _ hcell (hB.free i))
  have e1 : IntKind.i64.wrap (most - was) = most - was := IntWalk.i64_in _ (by omega)
  have e2 : IntKind.i64.wrap (was + max n 0) = was + max n 0 := IntWalk.i64_in _ (by omega)
  have hn' : ¬ (max n 0 > most - was) := by omega
  clear hcell hB hc hw
  go_enter Tryz.func91, Tryz.ntmps91
  go_wp2
  go_loopw [13] (fun _ wr => wr = w) (fun _ _ => 0)
  case atStart => rfl
  case round =>
    obtain rfl := hrel
    go_wp2_with fail
    refine K0.out.mono ?_
    rintro e w' ⟨rfl, rfl⟩
    go_wp2_with fail
    refine K.out.mono ?_
    rintro e w' ⟨rfl, rfl⟩
    go_wp2_with fail
    refine (C.out _).mono ?_
    rintro e w' ⟨rfl, rfl⟩
    go_wp2_with fail
    go_ret2
    exact ⟨rfl, rfl⟩

set_option maxHeartbeats 1000000 in
theorem use_over (hB : Blk w g 88 cs) (hc : cs[11]? = some (.int .i64 0)) (hw : cs[i]? = some (.int .i64 was)) (h0 : 0 ≤ was) (h1 : was ≤ most) (h2 : most ≤ 9223372036854775807) (hn : most - was < max n 0) :
    Calls Tryz.prog 91 #[.pointer (some ⟨g, 0, none⟩), .pointer (some ⟨g, i, none⟩), .int .i64 n, .int .i64 most, .int .i64 x] w fun e w' =>
      e = .returned (.tuple #[.int .i64 0, .bool false]) ∧ w' = w.setCell ⟨g, 11, none⟩ (.int .i64 x) := by
  have K0 := Lib.hid (code_any hB hc)
  have hcell : w.cell? ⟨g, i, none⟩ = some (.int .i64 was) := (hB.cell i).trans hw
  have K := Lib.hid (load_any _ _ _ hcell)
  have C := Lib.hid (spend_zero (x := x) hB hc)
  have e1 : IntKind.i64.wrap (most - was) = most - was := IntWalk.i64_in _ (by omega)
  have hn' : max n 0 > most - was := by omega
  clear hcell hB hc hw
  go_enter Tryz.func91, Tryz.ntmps91
  go_wp2
  go_loopw [13] (fun _ wr => wr = w) (fun _ _ => 0)
  case atStart => rfl
  case round =>
    obtain rfl := hrel
    go_wp2_with fail
    refine K0.out.mono ?_
    rintro e w' ⟨rfl, rfl⟩
    go_wp2_with fail
    refine K.out.mono ?_
    rintro e w' ⟨rfl, rfl⟩
    go_wp2_with fail
    refine C.out.mono ?_
    rintro e w' ⟨rfl, rfl⟩
    go_wp2_with fail
    go_ret2
    exact ⟨rfl, rfl⟩

set_option maxHeartbeats 1000000 in
theorem use_spent (hB : Blk w g 88 cs) (hc : cs[11]? = some (.int .i64 code)) (hz : code ≠ 0) :
    Calls Tryz.prog 91 #[.pointer (some ⟨g, 0, none⟩), .pointer (some ⟨g, i, none⟩), .int .i64 n, .int .i64 most, .int .i64 x] w fun e w' =>
      e = .returned (.tuple #[.int .i64 0, .bool false]) ∧ w' = w := by
  have K0 := Lib.hid (code_any hB hc)
  clear hB hc
  go_enter Tryz.func91, Tryz.ntmps91
  go_wp2
  go_loopw [13] (fun _ wr => wr = w) (fun _ _ => 0)
  case atStart => rfl
  case round =>
    obtain rfl := hrel
    go_wp2_with fail
    refine K0.out.mono ?_
    rintro e w' ⟨rfl, rfl⟩
    go_wp2_with fail
    go_ret2
    exact ⟨rfl, rfl⟩
end

/-- Block g is a meter of quota q, of which s is used. -/
def MeterAt (w : World) (t : TypeId) (g : Nat) (q : Quo) (s : Tel) : Prop := Blk w g t (mCells q s)

/-- Cell i and the code are as if n more were asked for; the answer. -/
theorem use_any {g i : Nat} {cs : Array Value} {was most n x code : Int} {w : World} (hB : Blk w g 88 cs) (hc : cs[11]? = some (.int .i64 code)) (hw : cs[i]? = some (.int .i64 was)) (hi : i ≠ 11) (h0 : 0 ≤ was) (h1 : was ≤ most) (h2 : most ≤ 9223372036854775807) :
    Calls Tryz.prog 91 #[.pointer (some ⟨g, 0, none⟩), .pointer (some ⟨g, i, none⟩), .int .i64 n, .int .i64 most, .int .i64 x] w fun e w' =>
      ∃ z, e = .returned (.tuple #[.int .i64 z, .bool (decide (fits code was most n))]) ∧ (fits code was most n → z = was + max n 0) ∧
        Blk w' g 88 ((cs.setIfInBounds i (.int .i64 (wasOf code was most n))).setIfInBounds 11 (.int .i64 (codeOf code was most n x))) ∧ w.grownBy w' (some g) := by
  have keep : ∀ (c : Array Value) (j : Nat) (u : Value), c[j]? = some u → c.setIfInBounds j u = c := by
    intro c j u h
    refine Array.ext_getElem? fun k => ?_
    rw [Array.getElem?_setIfInBounds]
    split
    · rename_i hjk
      subst hjk
      split
      · exact h.symm
      · rename_i hlt
        rw [Array.getElem?_eq_none (by omega)] at h
        cases h
    · rfl
  by_cases hz : code = 0
  · subst hz
    by_cases hn : max n 0 ≤ most - was
    · have hf : fits 0 was most n := ⟨rfl, hn⟩
      refine (use_ok hB hc hw h0 h1 h2 hn).mono ?_
      rintro e w' ⟨rfl, rfl⟩
      refine ⟨was + max n 0, by simp [hf], fun _ => rfl, ?_, only_setCell (World.grownBy.refl w _) (.inl rfl) _⟩
      have e1 : wasOf 0 was most n = was + max n 0 := by unfold wasOf; rw [if_pos ⟨rfl, hn⟩]
      have e2 : codeOf 0 was most n x = 0 := by unfold codeOf; rw [if_neg (by omega)]
      rw [e1, e2, keep _ 11 _ (by rw [Array.getElem?_setIfInBounds, if_neg hi]; exact hc)]
      exact hB.put i _
    · have hf : ¬ fits 0 was most n := fun h => hn h.2
      refine (use_over hB hc hw h0 h1 h2 (x := x) (by omega)).mono ?_
      rintro e w' ⟨rfl, rfl⟩
      refine ⟨0, by simp [hf], fun h => absurd h hf, ?_, only_setCell (World.grownBy.refl w _) (.inl rfl) _⟩
      have e1 : wasOf 0 was most n = was := by unfold wasOf; rw [if_neg (fun h => hn h.2)]
      have e2 : codeOf 0 was most n x = x := by unfold codeOf; rw [if_pos ⟨rfl, by omega⟩]
      rw [e1, e2, keep cs i _ hw]
      exact hB.put 11 _
  · have hf : ¬ fits code was most n := fun h => hz h.1
    refine (use_spent hB hc hz).mono ?_
    rintro e w' ⟨rfl, rfl⟩
    refine ⟨0, by simp [hf], fun h => absurd h hf, ?_, World.grownBy.refl w' _⟩
    have e1 : wasOf code was most n = was := by unfold wasOf; rw [if_neg (fun h => hz h.1)]
    have e2 : codeOf code was most n x = code := by unfold codeOf; rw [if_neg (fun h => hz h.1)]
    rw [e1, e2, keep cs i _ hw, keep cs 11 _ hc]
    exact hB
end Go.Proofs.YtdhhibfppcpieaaGreatDoor

/-
  A meter is asked for memory, and given it back; what it tells; a new one.
-/
namespace Go.Proofs.YtdhhibfppcpieaaGreatDoor
open Go.RowKit

theorem MeterAt.drewN {w : World} {t : TypeId} {g : Nat} {q : Quo} {s : Tel} (h : MeterAt w t g q s) (n : Nat) : MeterAt (w.drewN n) t g q s := h
theorem MeterAt.lt {w : World} {t : TypeId} {g : Nat} {q : Quo} {s : Tel} (h : MeterAt w t g q s) : g < w.heap.size := Blk.lt h
theorem MeterAt.alloc {w : World} {t : TypeId} {g : Nat} {q : Quo} {s : Tel} (h : MeterAt w t g q s) (o : Obj) : MeterAt (w.alloc o) t g q s := Blk.alloc h o
theorem MeterAt.below {w w' : World} {t : TypeId} {g : Nat} {q : Quo} {s : Tel} (h : MeterAt w t g q s) (hb : Below w.heap.size w w') : MeterAt w' t g q s := Blk.below h hb
theorem MeterAt.grown {w w' : World} {t : TypeId} {g : Nat} {q : Quo} {s : Tel} {row : Option Nat} (h : MeterAt w t g q s) (hb : w.grownBy w' row) (hg : some g ≠ row) : MeterAt w' t g q s := Blk.grown h hb hg
theorem only_draw {a w : World} {row : Option Nat} (h : a.drew.grownBy w row) : a.grownBy w row := ⟨h.os, h.tape, h.output, h.size, h.block⟩

section
variable {g : Nat} {q : Quo} {s : Tel} {w : World}

set_option maxHeartbeats 1000000 in
theorem mem_any (h : MeterAt w 88 g q s) (hf : Fine q s) (n : Int) :
    Calls Tryz.prog 64 #[.pointer (some ⟨g, 0, none⟩), .int .i64 n] w fun e w' => e = .returned (.bool (decide (fits s.code s.mem q.mem n))) ∧ MeterAt w' 88 g q (s.doMem q n) ∧ w.grownBy w' (some g) := by
  have hB : Blk w.drew g 88 (mCells q s) := h
  have hq : w.cell? ⟨g, 0, none⟩ = some (.int .i64 q.mem) := Blk.cell h 0
  have K := Lib.hid (use_any (n := n) (x := 101) (i := 5) (code := s.code) (was := s.mem) (most := q.mem) hB rfl rfl (by decide) hf.m0 (Int.le_trans hf.m1 hf.m2) hf.m3)
  clear h hB
  go_enter Tryz.func64, Tryz.ntmps64
  go_wp2_with fail
  go_region_held3 (fun w' => w'.cell? ⟨g, 0, none⟩ = some (.int .i64 q.mem))
    (first | assumption | go_keep)
    (first | (go_at_call 91; refine K.out.mono ?_; rintro e w1 ⟨z, rfl, hz, hB, hg⟩; have j0 : w1.cell? ⟨g, 0, none⟩ = some (.int .i64 q.mem) := hB.cell 0; have HB := Lib.hid hB; have HG := Lib.hid hg; clear hB hg))
  by_cases hn : fits s.code s.mem q.mem n
  · have hz := hz hn
    subst hz
    have hd : decide (fits s.code s.mem q.mem n) = true := by simp [hn]
    have ew : wasOf s.code s.mem q.mem n = s.mem + max n 0 := by unfold wasOf; exact if_pos hn
    rw [hd]
    have R := Lib.hid (raise_any (i := 6) (was := s.peak) (now := s.mem + max n 0) HB.out rfl)
    go_wp2_with fail
    refine R.out.mono ?_
    rintro e w2 ⟨rfl, rfl⟩
    go_wp2_with fail
    go_ret
    refine ⟨ret_bool hd.symm, ?_, only_setCell (only_draw HG.out) (.inl rfl) _⟩
    have := HB.out.put 6 (.int .i64 (max s.peak (s.mem + max n 0)))
    rw [← ew] at this ⊢
    exact this
  · have hd : decide (fits s.code s.mem q.mem n) = false := by simp [hn]
    have ew : wasOf s.code s.mem q.mem n = s.mem := by unfold wasOf; exact if_neg hn
    rw [hd]
    go_wp2_with fail
    go_ret
    refine ⟨ret_bool hd.symm, ?_, only_draw HG.out⟩
    have := HB.out
    have ep : max s.peak (wasOf s.code s.mem q.mem n) = s.peak := by rw [ew]; have := hf.m1; omega
    unfold MeterAt Tel.doMem
    rw [ep]
    exact this

set_option maxHeartbeats 1000000 in
theorem free_any (h : MeterAt w 88 g q s) (hf : Fine q s) (n : Int) (hn : n ≤ 9223372036854775807) :
    Calls Tryz.prog 77 #[.pointer (some ⟨g, 0, none⟩), .int .i64 n] w fun e w' => e = .returned (.tuple #[]) ∧ MeterAt w' 88 g q (s.doFree n) ∧ w.grownBy w' (some g) := by
  have K := Lib.hid (lower_any (n := n) (i := 5) (was := s.mem) h rfl hf.m0 (by have := hf.m1; have := hf.m2; have := hf.m3; omega) hn)
  have H := Lib.hid h
  clear h
  go_enter Tryz.func77, Tryz.ntmps77
  go_wp2_with fail
  refine K.out.mono ?_
  rintro e w' ⟨rfl, rfl⟩
  go_wp2_with fail
  first | go_end0 | refine bodyPost_ret (results_none rfl _ _ _) rfl ?_
  exact ⟨rfl, Blk.put H.out 5 _, only_setCell (World.grownBy.refl w _) (.inl rfl) _⟩

end

section
variable {g : Nat} {q : Quo} {s : Tel} {w : World}

theorem still_same {P : Program} {f : FuncId} {args : Array Value} {w : World} {v : Value} (h : Calls P f args w fun e w' => e = .returned v ∧ w = w') :
    Calls P f args w fun e w' => e = .returned v ∧ w' = w := h.mono fun _ _ ⟨he, hm⟩ => ⟨he, hm.symm⟩

theorem mcode_any (h : MeterAt w 88 g q s) :
    Calls Tryz.prog 66 #[.pointer (some ⟨g, 0, none⟩)] w fun e w' => e = .returned (.int .i64 s.code) ∧ w = w' := code_any h rfl

set_option maxRecDepth 100000 in
set_option maxHeartbeats 1000000 in
theorem used_any (h : MeterAt w 88 g q s) :
    Calls Tryz.prog 15 #[.pointer (some ⟨g, 0, none⟩)] w fun e w' => e = .returned (.agg (uArr s)) ∧ Below w.heap.size w w' := by
  have hl := h.lt
  have L : ∀ (i : Nat) (x : Int), (mCells q s)[i]? = some (.int .i64 x) → ∀ W, Below w.heap.size w W → Calls Tryz.prog 37 #[.pointer (some ⟨g, i, none⟩)] W fun e w' => e = .returned (.int .i64 x) ∧ W = w' :=
    fun i x hx W hb => load_any _ _ _ (((h.below hb : Blk W g 88 (mCells q s)).cell i).trans hx)
  have K5 := Lib.hid (L 5 s.mem rfl)
  have K6 := Lib.hid (L 6 s.peak rfl)
  have K7 := Lib.hid (L 7 s.out rfl)
  have K8 := Lib.hid (L 8 s.files rfl)
  have K9 := Lib.hid (L 9 s.depth rfl)
  have K10 := Lib.hid (L 10 s.steps rfl)
  clear L h
  go_enter Tryz.func15, Tryz.ntmps15
  go_wp2_with fail
  go_still_tail 24, (by kernel_rfl)
  have hb : Below w.heap.size w ((w.alloc (.cells #[.int .i64 0, .int .i64 0, .int .i64 0, .int .i64 0, .int .i64 0, .int .i64 0] 32)).drewN 1) := below_drewN ((Below.refl _ _).alloc (Nat.le_refl _) _) 1
  still_call (still_same (K5.out _ hb))
  repeat still_step
  still_call (still_same (K6.out _ hb))
  repeat still_step
  still_call (still_same (K7.out _ hb))
  repeat still_step
  still_call (still_same (K8.out _ hb))
  repeat still_step
  still_call (still_same (K9.out _ hb))
  repeat still_step
  still_call (still_same (K10.out _ hb))
  repeat still_step
  refine wpStill_nil ?_
  change wpList _ _ _ _ _ (w.alloc (.cells #[.int .i64 0, .int .i64 0, .int .i64 0, .int .i64 0, .int .i64 0, .int .i64 0] 32)).drew
  go_wp2_with fail
  refine bodyPost_ret (v := .agg (uArr s)) (by simp [results, Tryz.results15, go_sem, uArr]) rfl ⟨rfl, ?_⟩
  exact below_drewN ((Below.refl _ _).alloc (Nat.le_refl _) _) 1
end

theorem meter_fresh {w : World} {t : TypeId} {g : Nat} {q : Quo} {s : Tel} (h : g = w.heap.size) : MeterAt (w.alloc (.cells (mCells q s) t)) t g q s := by
  subst h
  exact Blk.fresh w t (mCells q s)

set_option maxHeartbeats 1000000 in
theorem mnew_any (q : Quo) (w : World) :
    Calls Tryz.prog 20 #[.agg (qArr q)] w fun e w' => ∃ g, e = .returned (.pointer (some ⟨g, 0, none⟩)) ∧ MeterAt w' 88 g q.up Tel.zero ∧ w.heap.size ≤ g ∧ Below w.heap.size w w' := by
  unfold qArr
  go_enter Tryz.func20, Tryz.ntmps20
  go_wp2_with fail
  go_ret
  refine ⟨_, rfl, meter_fresh (q := q.up) (s := Tel.zero) (by simp), by simp, ((Below.refl _ _).alloc (Nat.le_refl _) _).alloc (by simp) _⟩

end Go.Proofs.YtdhhibfppcpieaaGreatDoor
