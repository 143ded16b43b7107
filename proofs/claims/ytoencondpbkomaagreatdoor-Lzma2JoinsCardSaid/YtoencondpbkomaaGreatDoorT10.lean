/-
  MtPure, MtUse, MtUses, MtMem, WnPure: put together.
-/
import Derived.Test.YtoencondpbkomaaGreatDoorT01
import Derived.Test.YtoencondpbkomaaGreatDoorRows
import Derived.Tactics
import Derived.Tactics2
import Derived.Laws.Pointers
import Derived.Laws.LoneSync
import Derived.Lib.MinMax
import Derived.RegionTactic
import Derived.RegionCalls
import Derived.StillTailTactics
import Derived.Deep.RegionHeld3
set_option linter.unusedVariables false
set_option linter.unusedSimpArgs false
/-
  Meters as numbers: quotas, what is used, and what each call makes of them.
-/
namespace Go.Proofs.YtoencondpbkomaaGreatDoor
open Go.RowKit

structure Quo where
  mem : Int
  out : Int
  files : Int
  depth : Int
  steps : Int

structure Tel where
  mem : Int
  peak : Int
  out : Int
  files : Int
  depth : Int
  steps : Int
  code : Int

/-- a quota of which nothing is below 0 -/
def Quo.up (q : Quo) : Quo := ⟨max q.mem 0, max q.out 0, max q.files 0, max q.depth 0, max q.steps 0⟩
def Tel.zero : Tel := ⟨0, 0, 0, 0, 0, 0, 0⟩

/-- the cells of a meter -/
def mCells (q : Quo) (s : Tel) : Array Value :=
  #[.int .i64 q.mem, .int .i64 q.out, .int .i64 q.files, .int .i64 q.depth, .int .i64 q.steps,
    .int .i64 s.mem, .int .i64 s.peak, .int .i64 s.out, .int .i64 s.files, .int .i64 s.depth, .int .i64 s.steps, .int .i64 s.code]
def uArr (s : Tel) : Array Value := #[.int .i64 s.mem, .int .i64 s.peak, .int .i64 s.out, .int .i64 s.files, .int .i64 s.depth, .int .i64 s.steps]
def qArr (q : Quo) : Array Value := #[.int .i64 q.mem, .int .i64 q.out, .int .i64 q.files, .int .i64 q.depth, .int .i64 q.steps]

/-- n more may be used. -/
def fits (code was most n : Int) : Prop := code = 0 ∧ max n 0 ≤ most - was
instance (code was most n : Int) : Decidable (fits code was most n) := by unfold fits; infer_instance
/-- the code behind it -/
def codeOf (code was most n x : Int) : Int := if code = 0 ∧ most - was < max n 0 then x else code
def wasOf (code was most n : Int) : Int := if code = 0 ∧ max n 0 ≤ most - was then was + max n 0 else was

def Tel.doMem (q : Quo) (s : Tel) (n : Int) : Tel :=
  { s with mem := wasOf s.code s.mem q.mem n, peak := max s.peak (wasOf s.code s.mem q.mem n), code := codeOf s.code s.mem q.mem n 101 }
def Tel.doOut (q : Quo) (s : Tel) (n : Int) : Tel := { s with out := wasOf s.code s.out q.out n, code := codeOf s.code s.out q.out n 102 }
def Tel.doFile (q : Quo) (s : Tel) : Tel := { s with files := wasOf s.code s.files q.files 1, code := codeOf s.code s.files q.files 1 103 }
def Tel.doDown (q : Quo) (s : Tel) : Tel := { s with depth := wasOf s.code s.depth q.depth 1, code := codeOf s.code s.depth q.depth 1 104 }
def Tel.doStep (q : Quo) (s : Tel) (n : Int) : Tel := { s with steps := wasOf s.code s.steps q.steps n, code := codeOf s.code s.steps q.steps n 105 }
def Tel.doFree (s : Tel) (n : Int) : Tel := { s with mem := max (s.mem - max n 0) 0 }
def Tel.doUp (s : Tel) : Tel := { s with depth := max (s.depth - 1) 0 }

/-- what is used lies within its quota; nothing is beyond 64 bits -/
structure Fine (q : Quo) (s : Tel) : Prop where
  m0 : 0 ≤ s.mem
  m1 : s.mem ≤ s.peak
  m2 : s.peak ≤ q.mem
  m3 : q.mem ≤ 9223372036854775807
  o0 : 0 ≤ s.out
  o1 : s.out ≤ q.out
  o2 : q.out ≤ 9223372036854775807
  f0 : 0 ≤ s.files
  f1 : s.files ≤ q.files
  f2 : q.files ≤ 9223372036854775807
  d0 : 0 ≤ s.depth
  d1 : s.depth ≤ q.depth
  d2 : q.depth ≤ 9223372036854775807
  s0 : 0 ≤ s.steps
  s1 : s.steps ≤ q.steps
  s2 : q.steps ≤ 9223372036854775807
  c0 : s.code = 0 ∨ (101 ≤ s.code ∧ s.code ≤ 105)

/-- a quota as it comes in -/
structure Lit64 (q : Quo) : Prop where
  m : -9223372036854775808 ≤ q.mem ∧ q.mem ≤ 9223372036854775807
  o : -9223372036854775808 ≤ q.out ∧ q.out ≤ 9223372036854775807
  f : -9223372036854775808 ≤ q.files ∧ q.files ≤ 9223372036854775807
  d : -9223372036854775808 ≤ q.depth ∧ q.depth ≤ 9223372036854775807
  s : -9223372036854775808 ≤ q.steps ∧ q.steps ≤ 9223372036854775807

theorem Fine.new {q : Quo} (h : Lit64 q) : Fine q.up Tel.zero := by
  obtain ⟨h1, h2, h3, h4, h5⟩ := h
  constructor <;> simp only [Quo.up, Tel.zero] <;> first | omega | simp

theorem wasOf_le {code was most n : Int} (_ : 0 ≤ was) (h1 : was ≤ most) : was ≤ wasOf code was most n ∧ wasOf code was most n ≤ most := by
  unfold wasOf
  split <;> omega
theorem codeOf_in {code was most n x : Int} (h : code = 0 ∨ (101 ≤ code ∧ code ≤ 105)) (hx : 101 ≤ x ∧ x ≤ 105) : codeOf code was most n x = 0 ∨ (101 ≤ codeOf code was most n x ∧ codeOf code was most n x ≤ 105) := by
  unfold codeOf
  split <;> omega

section
variable {q : Quo} {s : Tel}
theorem Fine.mem (h : Fine q s) (n : Int) : Fine q (s.doMem q n) := by
  have a := wasOf_le (code := s.code) (n := n) h.m0 (Int.le_trans h.m1 h.m2)
  have b := codeOf_in (was := s.mem) (most := q.mem) (n := n) (x := 101) h.c0 (by omega)
  cases h
  constructor <;> (try simp only [Tel.doMem]) <;> first | assumption | omega
theorem Fine.out (h : Fine q s) (n : Int) : Fine q (s.doOut q n) := by
  have a := wasOf_le (code := s.code) (n := n) h.o0 h.o1
  have b := codeOf_in (was := s.out) (most := q.out) (n := n) (x := 102) h.c0 (by omega)
  cases h
  constructor <;> (try simp only [Tel.doOut]) <;> first | assumption | omega
theorem Fine.file (h : Fine q s) : Fine q (s.doFile q) := by
  have a := wasOf_le (code := s.code) (n := 1) h.f0 h.f1
  have b := codeOf_in (was := s.files) (most := q.files) (n := 1) (x := 103) h.c0 (by omega)
  cases h
  constructor <;> (try simp only [Tel.doFile]) <;> first | assumption | omega
theorem Fine.down (h : Fine q s) : Fine q (s.doDown q) := by
  have a := wasOf_le (code := s.code) (n := 1) h.d0 h.d1
  have b := codeOf_in (was := s.depth) (most := q.depth) (n := 1) (x := 104) h.c0 (by omega)
  cases h
  constructor <;> (try simp only [Tel.doDown]) <;> first | assumption | omega
theorem Fine.step (h : Fine q s) (n : Int) : Fine q (s.doStep q n) := by
  have a := wasOf_le (code := s.code) (n := n) h.s0 h.s1
  have b := codeOf_in (was := s.steps) (most := q.steps) (n := n) (x := 105) h.c0 (by omega)
  cases h
  constructor <;> (try simp only [Tel.doStep]) <;> first | assumption | omega
theorem Fine.free (h : Fine q s) (n : Int) : Fine q (s.doFree n) := by
  cases h
  constructor <;> (try simp only [Tel.doFree]) <;> first | assumption | omega
theorem Fine.upp (h : Fine q s) : Fine q s.doUp := by
  cases h
  constructor <;> (try simp only [Tel.doUp]) <;> first | assumption | omega
end

/-- one thing that is asked for, or given back -/
def Tel.next (q : Quo) (s : Tel) (k n : Int) : Tel :=
  if k = 0 then s.doMem q n else if k = 1 then s.doOut q n else if k = 2 then s.doFile q else if k = 3 then s.doDown q else if k = 4 then s.doStep q n else if k = 5 then s.doFree n else s.doUp
def Tel.said (q : Quo) (s : Tel) (k n : Int) : Bool :=
  if k = 0 then decide (fits s.code s.mem q.mem n) else if k = 1 then decide (fits s.code s.out q.out n) else if k = 2 then decide (fits s.code s.files q.files 1) else if k = 3 then decide (fits s.code s.depth q.depth 1)
  else if k = 4 then decide (fits s.code s.steps q.steps n) else true

theorem Fine.next {q : Quo} {s : Tel} (h : Fine q s) (k n : Int) : Fine q (s.next q k n) := by
  unfold Tel.next
  split
  · exact h.mem n
  split
  · exact h.out n
  split
  · exact h.file
  split
  · exact h.down
  split
  · exact h.step n
  split
  · exact h.free n
  · exact h.upp
end Go.Proofs.YtoencondpbkomaaGreatDoor

/-
  Atomic numbers of 64 bits, of one goroutine, and the calls over them: each a contract.
-/
namespace Go.Proofs.YtoencondpbkomaaGreatDoor
open Go.RowKit

theorem load_any (a : Addr) (x : Int) (w : World) (h0 : w.cell? a = some (.int .i64 x)) :
    Calls Tryz.prog 30 #[.pointer (some a)] w fun e w' => e = .returned (.int .i64 x) ∧ w = w' := by
  have hl := run_call_load (P := Tryz.prog) Tryz.func56 (by kernel_rfl) (by kernel_rfl) (by kernel_rfl) .i64 (by kernel_rfl) h0
  go_enter Tryz.func30, Tryz.ntmps30
  go_wp2
  go_ret
  exact ⟨rfl, rfl⟩

theorem cas_hit (a : Addr) (x y : Int) (w : World) (h0 : w.cell? a = some (.int .i64 x)) (hz : w.frozen? a = false) :
    Calls Tryz.prog 128 #[.pointer (some a), .int .i64 x, .int .i64 y] w fun e w' => e = .returned (.bool true) ∧ w' = w.setCell a (.int .i64 y) := by
  have hl := run_call_cas_hit (P := Tryz.prog) Tryz.func173 (by kernel_rfl) (by kernel_rfl) (by kernel_rfl) .i64 (by kernel_rfl) (y := y) h0 hz
  go_enter Tryz.func128, Tryz.ntmps128
  go_wp2
  go_ret
  exact ⟨rfl, rfl⟩

section
variable {g i : Nat} {cs : Array Value} {was most n x code : Int} {w : World}

theorem code_any (hB : Blk w g 83 cs) (hc : cs[11]? = some (.int .i64 code)) :
    Calls Tryz.prog 68 #[.pointer (some ⟨g, 0, none⟩)] w fun e w' => e = .returned (.int .i64 code) ∧ w = w' := by
  have h0 : w.cell? ⟨g, 11, none⟩ = some (.int .i64 code) := (hB.cell 11).trans hc
  have K := Lib.hid (load_any _ _ _ h0)
  clear h0 hB hc
  go_enter Tryz.func68, Tryz.ntmps68
  go_wp2_with fail
  refine K.out.mono ?_
  rintro e w' ⟨rfl, rfl⟩
  go_wp2_with fail
  go_ret
  exact ⟨rfl, rfl⟩

theorem spend_zero (hB : Blk w g 83 cs) (hc : cs[11]? = some (.int .i64 0)) :
    Calls Tryz.prog 127 #[.pointer (some ⟨g, 0, none⟩), .int .i64 x] w fun e w' => e = .returned (.tuple #[]) ∧ w' = w.setCell ⟨g, 11, none⟩ (.int .i64 x) := by
  have h0 : w.cell? ⟨g, 11, none⟩ = some (.int .i64 0) := (hB.cell 11).trans hc
  have K := Lib.hid (cas_hit _ _ x _ h0 (hB.free 11))
  clear h0 hB hc
  go_enter Tryz.func127, Tryz.ntmps127
  go_wp2_with fail
  refine K.out.mono ?_
  rintro e w' ⟨rfl, rfl⟩
  go_wp2_with fail
  first | go_end0 | refine bodyPost_ret (results_none rfl _ _ _) rfl ?_
  exact ⟨rfl, rfl⟩

theorem lower_any (hB : Blk w g 83 cs) (hc : cs[i]? = some (.int .i64 was)) (h0 : 0 ≤ was) (h1 : was ≤ 9223372036854775807) (hn : n ≤ 9223372036854775807) :
    Calls Tryz.prog 98 #[.pointer (some ⟨g, i, none⟩), .int .i64 n] w fun e w' => e = .returned (.tuple #[]) ∧ w' = w.setCell ⟨g, i, none⟩ (.int .i64 (max (was - max n 0) 0)) := by
  have hcell : w.cell? ⟨g, i, none⟩ = some (.int .i64 was) := (hB.cell i).trans hc
  have K := Lib.hid (load_any _ _ _ hcell)
  have C := Lib.hid (fun y => cas_hit _ _ y _ hcell (hB.free i))
  have e1 : IntKind.i64.wrap (was - max n 0) = was - max n 0 := IntWalk.i64_in _ (by omega)
  clear hcell hB hc
  go_enter Tryz.func98, Tryz.ntmps98
  go_wp2
  go_loopw [5] (fun _ wr => wr = w) (fun _ _ => 0)
  case atStart => rfl
  case round =>
    obtain rfl := hrel
    go_wp2_with fail
    refine K.out.mono ?_
    rintro e w' ⟨rfl, rfl⟩
    go_wp2_with fail
    refine (C.out _).mono ?_
    rintro e w' ⟨rfl, rfl⟩
    go_wp2_with fail
    first | (refine bodyPost_ret (results_none rfl _ _ _) rfl ?_) | (simp only [Exit.inBlock, Exit.then]; refine bodyPost_ret (results_none rfl _ _ _) rfl ?_)
    exact ⟨rfl, rfl⟩

theorem raise_any {now : Int} (hB : Blk w g 83 cs) (hc : cs[i]? = some (.int .i64 was)) :
    Calls Tryz.prog 96 #[.pointer (some ⟨g, i, none⟩), .int .i64 now] w fun e w' => e = .returned (.tuple #[]) ∧ w' = w.setCell ⟨g, i, none⟩ (.int .i64 (max was now)) := by
  have hcell : w.cell? ⟨g, i, none⟩ = some (.int .i64 was) := (hB.cell i).trans hc
  have K := Lib.hid (load_any _ _ _ hcell)
  have C := Lib.hid (fun y => cas_hit _ _ y _ hcell (hB.free i))
  clear hcell hB hc
  go_enter Tryz.func96, Tryz.ntmps96
  go_wp2
  go_loopw [4] (fun _ wr => wr = w) (fun _ _ => 0)
  case atStart => rfl
  case round =>
    obtain rfl := hrel
    go_wp2_with fail
    refine K.out.mono ?_
    rintro e w' ⟨rfl, rfl⟩
    go_wp2_with fail
    refine (C.out _).mono ?_
    rintro e w' ⟨rfl, rfl⟩
    go_wp2_with fail
    first | (refine bodyPost_ret (results_none rfl _ _ _) rfl ?_) | (simp only [Exit.inBlock, Exit.then]; refine bodyPost_ret (results_none rfl _ _ _) rfl ?_)
    exact ⟨rfl, rfl⟩
end
end Go.Proofs.YtoencondpbkomaaGreatDoor

/-
  Something more of a thing: used, or the meter is spent by it, or it was.
-/
namespace Go.Proofs.YtoencondpbkomaaGreatDoor
open Go.RowKit

section
variable {g i : Nat} {cs : Array Value} {was most n x code : Int} {w : World}

set_option maxHeartbeats 1000000 in
theorem use_ok (hB : Blk w g 83 cs) (hc : cs[11]? = some (.int .i64 0)) (hw : cs[i]? = some (.int .i64 was)) (h0 : 0 ≤ was) (h1 : was ≤ most) (h2 : most ≤ 9223372036854775807) (hn : max n 0 ≤ most - was) :
    Calls Tryz.prog 95 #[.pointer (some ⟨g, 0, none⟩), .pointer (some ⟨g, i, none⟩), .int .i64 n, .int .i64 most, .int .i64 x] w fun e w' =>
      e = .returned (.tuple #[.int .i64 (was + max n 0), .bool true]) ∧ w' = w.setCell ⟨g, i, none⟩ (.int .i64 (was + max n 0)) := by
  have K0 := Lib.hid (code_any hB hc)
  have hcell : w.cell? ⟨g, i, none⟩ = some (.int .i64 was) := (hB.cell i).trans hw
  have K := Lib.hid (load_any _ _ _ hcell)
  have C := Lib.hid (fun y => cas_hit _ _ y _ hcell (hB.free i))
  have e1 : IntKind.i64.wrap (most - was) = most - was := IntWalk.i64_in _ (by omega)
  have e2 : IntKind.i64.wrap (was + max n 0) = was + max n 0 := IntWalk.i64_in _ (by omega)
  have hn' : ¬ (max n 0 > most - was) := by omega
  clear hcell hB hc hw
  go_enter Tryz.func95, Tryz.ntmps95
  go_wp2
  go_loopw [13] (fun _ wr => wr = w) (fun _ _ => 0)
  case atStart => rfl
  case round =>
    obtain rfl := hrel
    go_wp2_with fail
    refine K0.out.mono ?_
    rintro e w' ⟨rfl, rfl⟩
    go_wp2_with fail
    refine K.out.mono ?_
    rintro e w' ⟨rfl, rfl⟩
    go_wp2_with fail
    refine (C.out _).mono ?_
    rintro e w' ⟨rfl, rfl⟩
    go_wp2_with fail
    go_ret2
    exact ⟨rfl, rfl⟩

set_option maxHeartbeats 1000000 in
theorem use_over (hB : Blk w g 83 cs) (hc : cs[11]? = some (.int .i64 0)) (hw : cs[i]? = some (.int .i64 was)) (h0 : 0 ≤ was) (h1 : was ≤ most) (h2 : most ≤ 9223372036854775807) (hn : most - was < max n 0) :
    Calls Tryz.prog 95 #[.pointer (some ⟨g, 0, none⟩), .pointer (some ⟨g, i, none⟩), .int .i64 n, .int .i64 most, .int .i64 x] w fun e w' =>
      e = .returned (.tuple #[.int .i64 0, .bool false]) ∧ w' = w.setCell ⟨g, 11, none⟩ (.int .i64 x) := by
  have K0 := Lib.hid (code_any hB hc)
  have hcell : w.cell? ⟨g, i, none⟩ = some (.int .i64 was) := (hB.cell i).trans hw
  have K := Lib.hid (load_any _ _ _ hcell)
  have C := Lib.hid (spend_zero (x := x) hB hc)
  have e1 : IntKind.i64.wrap (most - was) = most - was := IntWalk.i64_in _ (by omega)
  have hn' : max n 0 > most - was := by omega
  clear hcell hB hc hw
  go_enter Tryz.func95, Tryz.ntmps95
  go_wp2
  go_loopw [13] (fun _ wr => wr = w) (fun _ _ => 0)
  case atStart => rfl
  case round =>
    obtain rfl := hrel
    go_wp2_with fail
    refine K0.out.mono ?_
    rintro e w' ⟨rfl, rfl⟩
    go_wp2_with fail
    refine K.out.mono ?_
    rintro e w' ⟨rfl, rfl⟩
    go_wp2_with fail
    refine C.out.mono ?_
    rintro e w' ⟨rfl, rfl⟩
    go_wp2_with fail
    go_ret2
    exact ⟨rfl, rfl⟩

set_option maxHeartbeats 1000000 in
theorem use_spent (hB : Blk w g 83 cs) (hc : cs[11]? = some (.int .i64 code)) (hz : code ≠ 0) :
    Calls Tryz.prog 95 #[.pointer (some ⟨g, 0, none⟩), .pointer (some ⟨g, i, none⟩), .int .i64 n, .int .i64 most, .int .i64 x] w fun e w' =>
      e = .returned (.tuple #[.int .i64 0, .bool false]) ∧ w' = w := by
  have K0 := Lib.hid (code_any hB hc)
  clear hB hc
  go_enter Tryz.func95, Tryz.ntmps95
  go_wp2
  go_loopw [13] (fun _ wr => wr = w) (fun _ _ => 0)
  case atStart => rfl
  case round =>
    obtain rfl := hrel
    go_wp2_with fail
    refine K0.out.mono ?_
    rintro e w' ⟨rfl, rfl⟩
    go_wp2_with fail
    go_ret2
    exact ⟨rfl, rfl⟩
end

/-- Block g is a meter of quota q, of which s is used. -/
def MeterAt (w : World) (t : TypeId) (g : Nat) (q : Quo) (s : Tel) : Prop := Blk w g t (mCells q s)

/-- Cell i and the code are as if n more were asked for; the answer. -/
theorem use_any {g i : Nat} {cs : Array Value} {was most n x code : Int} {w : World} (hB : Blk w g 83 cs) (hc : cs[11]? = some (.int .i64 code)) (hw : cs[i]? = some (.int .i64 was)) (hi : i ≠ 11) (h0 : 0 ≤ was) (h1 : was ≤ most) (h2 : most ≤ 9223372036854775807) :
    Calls Tryz.prog 95 #[.pointer (some ⟨g, 0, none⟩), .pointer (some ⟨g, i, none⟩), .int .i64 n, .int .i64 most, .int .i64 x] w fun e w' =>
      ∃ z, e = .returned (.tuple #[.int .i64 z, .bool (decide (fits code was most n))]) ∧ (fits code was most n → z = was + max n 0) ∧
        Blk w' g 83 ((cs.setIfInBounds i (.int .i64 (wasOf code was most n))).setIfInBounds 11 (.int .i64 (codeOf code was most n x))) ∧ w.grownBy w' (some g) := by
  have keep : ∀ (c : Array Value) (j : Nat) (u : Value), c[j]? = some u → c.setIfInBounds j u = c := by
    intro c j u h
    refine Array.ext_getElem? fun k => ?_
    rw [Array.getElem?_setIfInBounds]
    split
    · rename_i hjk
      subst hjk
      split
      · exact h.symm
      · rename_i hlt
        rw [Array.getElem?_eq_none (by omega)] at h
        cases h
    · rfl
  by_cases hz : code = 0
  · subst hz
    by_cases hn : max n 0 ≤ most - was
    · have hf : fits 0 was most n := ⟨rfl, hn⟩
      refine (use_ok hB hc hw h0 h1 h2 hn).mono ?_
      rintro e w' ⟨rfl, rfl⟩
      refine ⟨was + max n 0, by simp [hf], fun _ => rfl, ?_, only_setCell (World.grownBy.refl w _) (.inl rfl) _⟩
      have e1 : wasOf 0 was most n = was + max n 0 := by unfold wasOf; rw [if_pos ⟨rfl, hn⟩]
      have e2 : codeOf 0 was most n x = 0 := by unfold codeOf; rw [if_neg (by omega)]
      rw [e1, e2, keep _ 11 _ (by rw [Array.getElem?_setIfInBounds, if_neg hi]; exact hc)]
      exact hB.put i _
    · have hf : ¬ fits 0 was most n := fun h => hn h.2
      refine (use_over hB hc hw h0 h1 h2 (x := x) (by omega)).mono ?_
      rintro e w' ⟨rfl, rfl⟩
      refine ⟨0, by simp [hf], fun h => absurd h hf, ?_, only_setCell (World.grownBy.refl w _) (.inl rfl) _⟩
      have e1 : wasOf 0 was most n = was := by unfold wasOf; rw [if_neg (fun h => hn h.2)]
      have e2 : codeOf 0 was most n x = x := by unfold codeOf; rw [if_pos ⟨rfl, by omega⟩]
      rw [e1, e2, keep cs i _ hw]
      exact hB.put 11 _
  · have hf : ¬ fits code was most n := fun h => hz h.1
    refine (use_spent hB hc hz).mono ?_
    rintro e w' ⟨rfl, rfl⟩
    refine ⟨0, by simp [hf], fun h => absurd h hf, ?_, World.grownBy.refl w' _⟩
    have e1 : wasOf code was most n = was := by unfold wasOf; rw [if_neg (fun h => hz h.1)]
    have e2 : codeOf code was most n x = code := by unfold codeOf; rw [if_neg (fun h => hz h.1)]
    rw [e1, e2, keep cs i _ hw, keep cs 11 _ hc]
    exact hB
end Go.Proofs.YtoencondpbkomaaGreatDoor

/-
  A meter is asked for memory, and given it back; what it tells; a new one.
-/
namespace Go.Proofs.YtoencondpbkomaaGreatDoor
open Go.RowKit

theorem MeterAt.drewN {w : World} {t : TypeId} {g : Nat} {q : Quo} {s : Tel} (h : MeterAt w t g q s) (n : Nat) : MeterAt (w.drewN n) t g q s := h
theorem MeterAt.lt {w : World} {t : TypeId} {g : Nat} {q : Quo} {s : Tel} (h : MeterAt w t g q s) : g < w.heap.size := Blk.lt h
theorem MeterAt.alloc {w : World} {t : TypeId} {g : Nat} {q : Quo} {s : Tel} (h : MeterAt w t g q s) (o : Obj) : MeterAt (w.alloc o) t g q s := Blk.alloc h o
theorem MeterAt.below {w w' : World} {t : TypeId} {g : Nat} {q : Quo} {s : Tel} (h : MeterAt w t g q s) (hb : Below w.heap.size w w') : MeterAt w' t g q s := Blk.below h hb
theorem MeterAt.grown {w w' : World} {t : TypeId} {g : Nat} {q : Quo} {s : Tel} {row : Option Nat} (h : MeterAt w t g q s) (hb : w.grownBy w' row) (hg : some g ≠ row) : MeterAt w' t g q s := Blk.grown h hb hg
theorem only_draw {a w : World} {row : Option Nat} (h : a.drew.grownBy w row) : a.grownBy w row := ⟨h.os, h.tape, h.output, h.size, h.block⟩

section
variable {g : Nat} {q : Quo} {s : Tel} {w : World}

set_option maxHeartbeats 1000000 in
theorem mem_any (h : MeterAt w 83 g q s) (hf : Fine q s) (n : Int) :
    Calls Tryz.prog 66 #[.pointer (some ⟨g, 0, none⟩), .int .i64 n] w fun e w' => e = .returned (.bool (decide (fits s.code s.mem q.mem n))) ∧ MeterAt w' 83 g q (s.doMem q n) ∧ w.grownBy w' (some g) := by
  have hB : Blk w.drew g 83 (mCells q s) := h
  have hq : w.cell? ⟨g, 0, none⟩ = some (.int .i64 q.mem) := Blk.cell h 0
  have K := Lib.hid (use_any (n := n) (x := 101) (i := 5) (code := s.code) (was := s.mem) (most := q.mem) hB rfl rfl (by decide) hf.m0 (Int.le_trans hf.m1 hf.m2) hf.m3)
  clear h hB
  go_enter Tryz.func66, Tryz.ntmps66
  go_wp2_with fail
  go_region_held3 (fun w' => w'.cell? ⟨g, 0, none⟩ = some (.int .i64 q.mem))
    (first | assumption | go_keep)
    (first | (go_at_call 95; refine K.out.mono ?_; rintro e w1 ⟨z, rfl, hz, hB, hg⟩; have j0 : w1.cell? ⟨g, 0, none⟩ = some (.int .i64 q.mem) := hB.cell 0; have HB := Lib.hid hB; have HG := Lib.hid hg; clear hB hg))
  by_cases hn : fits s.code s.mem q.mem n
  · have hz := hz hn
    subst hz
    have hd : decide (fits s.code s.mem q.mem n) = true := by simp [hn]
    have ew : wasOf s.code s.mem q.mem n = s.mem + max n 0 := by unfold wasOf; exact if_pos hn
    rw [hd]
    have R := Lib.hid (raise_any (i := 6) (was := s.peak) (now := s.mem + max n 0) HB.out rfl)
    go_wp2_with fail
    refine R.out.mono ?_
    rintro e w2 ⟨rfl, rfl⟩
    go_wp2_with fail
    go_ret
    refine ⟨ret_bool hd.symm, ?_, only_setCell (only_draw HG.out) (.inl rfl) _⟩
    have := HB.out.put 6 (.int .i64 (max s.peak (s.mem + max n 0)))
    rw [← ew] at this ⊢
    exact this
  · have hd : decide (fits s.code s.mem q.mem n) = false := by simp [hn]
    have ew : wasOf s.code s.mem q.mem n = s.mem := by unfold wasOf; exact if_neg hn
    rw [hd]
    go_wp2_with fail
    go_ret
    refine ⟨ret_bool hd.symm, ?_, only_draw HG.out⟩
    have := HB.out
    have ep : max s.peak (wasOf s.code s.mem q.mem n) = s.peak := by rw [ew]; have := hf.m1; omega
    unfold MeterAt Tel.doMem
    rw [ep]
    exact this

set_option maxHeartbeats 1000000 in
theorem free_any (h : MeterAt w 83 g q s) (hf : Fine q s) (n : Int) (hn : n ≤ 9223372036854775807) :
    Calls Tryz.prog 71 #[.pointer (some ⟨g, 0, none⟩), .int .i64 n] w fun e w' => e = .returned (.tuple #[]) ∧ MeterAt w' 83 g q (s.doFree n) ∧ w.grownBy w' (some g) := by
  have K := Lib.hid (lower_any (n := n) (i := 5) (was := s.mem) h rfl hf.m0 (by have := hf.m1; have := hf.m2; have := hf.m3; omega) hn)
  have H := Lib.hid h
  clear h
  go_enter Tryz.func71, Tryz.ntmps71
  go_wp2_with fail
  refine K.out.mono ?_
  rintro e w' ⟨rfl, rfl⟩
  go_wp2_with fail
  first | go_end0 | refine bodyPost_ret (results_none rfl _ _ _) rfl ?_
  exact ⟨rfl, Blk.put H.out 5 _, only_setCell (World.grownBy.refl w _) (.inl rfl) _⟩

end

section
variable {g : Nat} {q : Quo} {s : Tel} {w : World}

end

theorem meter_fresh {w : World} {t : TypeId} {g : Nat} {q : Quo} {s : Tel} (h : g = w.heap.size) : MeterAt (w.alloc (.cells (mCells q s) t)) t g q s := by
  subst h
  exact Blk.fresh w t (mCells q s)

set_option maxHeartbeats 1000000 in
theorem mnew_any (q : Quo) (w : World) :
    Calls Tryz.prog 16 #[.agg (qArr q)] w fun e w' => ∃ g, e = .returned (.pointer (some ⟨g, 0, none⟩)) ∧ MeterAt w' 83 g q.up Tel.zero ∧ w.heap.size ≤ g ∧ Below w.heap.size w w' := by
  unfold qArr
  go_enter Tryz.func16, Tryz.ntmps16
  go_wp2_with fail
  go_ret
  refine ⟨_, rfl, meter_fresh (q := q.up) (s := Tel.zero) (by simp), by simp, ((Below.refl _ _).alloc (Nat.le_refl _) _).alloc (by simp) _⟩

end Go.Proofs.YtoencondpbkomaaGreatDoor

/-
  A window as numbers: its size, all that was put since it was emptied, whether it is closed.
-/
namespace Go.Proofs.YtoencondpbkomaaGreatDoor

structure Ws where
  sz : Nat
  l : List UInt8
  shut : Bool

def Ws.has (s : Ws) (d : Int) : Bool := !s.shut && decide (0 ≤ d ∧ d < (s.sz : Int) ∧ d < (s.l.length : Int))
def Ws.at_ (s : Ws) (d : Int) : UInt8 := if s.has d = true then s.l.getD (s.l.length - 1 - d.toNat) 0 else 0
def Ws.put (s : Ws) (b : UInt8) : Ws := if s.shut = true then s else ⟨s.sz, s.l ++ [b], false⟩
def Ws.copy (s : Ws) (d : Int) : Ws := if s.has d = true then s.put (s.at_ d) else s
def Ws.empty (s : Ws) : Ws := ⟨s.sz, [], s.shut⟩
def Ws.close (s : Ws) : Ws := ⟨s.sz, s.l, true⟩
def Ws.count (s : Ws) : Nat := if s.shut = true then 0 else min s.sz s.l.length
def Ws.new (n : Int) : Ws := ⟨(max n 1).toNat, [], false⟩

section
variable {s : Ws}
theorem put_sz (b : UInt8) : (s.put b).sz = s.sz := by unfold Ws.put; split <;> rfl
theorem at_not {d : Int} (h : s.has d = false) : s.at_ d = 0 := by unfold Ws.at_; rw [if_neg (by rw [h]; simp)]
theorem at_has {d : Int} (h : s.has d = true) : s.at_ d = s.l.getD (s.l.length - 1 - d.toNat) 0 := by unfold Ws.at_; rw [if_pos h]
theorem has_iff {d : Int} : s.has d = true ↔ s.shut = false ∧ 0 ≤ d ∧ d < (s.sz : Int) ∧ d < (s.l.length : Int) := by
  unfold Ws.has
  cases s.shut <;> simp
theorem shut_has {d : Int} (h : s.shut = true) : s.has d = false := by unfold Ws.has; rw [h]; rfl
theorem shut_count (h : s.shut = true) : s.count = 0 := by unfold Ws.count; rw [if_pos h]
theorem open_count (h : s.shut = false) : s.count = min s.sz s.l.length := by unfold Ws.count; rw [if_neg (by rw [h]; simp)]
theorem open_put {b : UInt8} (h : s.shut = false) : s.put b = ⟨s.sz, s.l ++ [b], false⟩ := by unfold Ws.put; rw [if_neg (by rw [h]; simp)]
theorem shut_put {b : UInt8} (h : s.shut = true) : s.put b = s := by unfold Ws.put; rw [if_pos h]
theorem count_le : s.count ≤ s.sz := by
  unfold Ws.count
  split
  · exact Nat.zero_le _
  · exact Nat.min_le_left _ _
end

/-- the bytes bs are put, one behind the other -/
def Ws.puts (s : Ws) (bs : List UInt8) : Ws := ⟨s.sz, s.l ++ bs, s.shut⟩
/-- k copies from one distance -/
def Ws.turns (s : Ws) (d : Int) : Nat → Ws
  | 0 => s
  | k + 1 => (s.turns d k).copy d
/-- what is copied from one distance again and again repeats the bytes up to there -/
theorem turns_ok {bs : List UInt8} {k Z : Nat} (hk : k < bs.length) (hz : k < Z) : ∀ i,
    ∃ m : List UInt8, (Ws.puts ⟨Z, [], false⟩ bs).turns (k : Int) i = ⟨Z, bs ++ m, false⟩ ∧ m.length = i ∧
      (⟨Z, bs ++ m, false⟩ : Ws).has (k : Int) = true ∧ (⟨Z, bs ++ m, false⟩ : Ws).at_ (k : Int) = bs.getD (bs.length - 1 - k + i % (k + 1)) 0 ∧
      ∀ j, j < i → m.getD j 0 = bs.getD (bs.length - 1 - k + j % (k + 1)) 0
  | 0 => by
    have hh : (⟨Z, bs ++ [], false⟩ : Ws).has (k : Int) = true := has_iff.2 ⟨rfl, by omega, by show (k : Int) < (Z : Int); omega, by show (k : Int) < ((bs ++ []).length : Int); simp; omega⟩
    refine ⟨[], by simp [Ws.turns, Ws.puts], rfl, hh, ?_, fun j hj => by omega⟩
    rw [at_has hh]
    simp
  | i + 1 => by
    obtain ⟨m, h1, h2, h3, h4, h5⟩ := turns_ok hk hz i
    have hstep : (Ws.puts ⟨Z, [], false⟩ bs).turns (k : Int) (i + 1) = ⟨Z, bs ++ (m ++ [bs.getD (bs.length - 1 - k + i % (k + 1)) 0]), false⟩ := by
      show ((Ws.puts ⟨Z, [], false⟩ bs).turns (k : Int) i).copy (k : Int) = _
      rw [h1]
      unfold Ws.copy
      rw [if_pos h3, h4, open_put rfl, List.append_assoc]
    obtain ⟨x, hx⟩ : ∃ x, x = bs.getD (bs.length - 1 - k + i % (k + 1)) 0 := ⟨_, rfl⟩
    rw [← hx] at hstep
    have hnew : ∀ j, j < i + 1 → (m ++ [x]).getD j 0 = bs.getD (bs.length - 1 - k + j % (k + 1)) 0 := by
      intro j hj
      by_cases hji : j < i
      · rw [← h5 j hji]
        simp only [List.getD]
        rw [List.getElem?_append_left (by omega)]
      · obtain rfl : j = i := by omega
        simp only [List.getD]
        rw [List.getElem?_append_right (by omega), h2, Nat.sub_self]
        show x = _
        rw [hx]
        rfl
    have hh : (⟨Z, bs ++ (m ++ [x]), false⟩ : Ws).has (k : Int) = true := has_iff.2 ⟨rfl, by omega, by show (k : Int) < (Z : Int); omega, by show (k : Int) < ((bs ++ (m ++ [x])).length : Int); simp; omega⟩
    refine ⟨m ++ [x], hstep, by simp [h2], hh, ?_, hnew⟩
    rw [at_has hh]
    show (bs ++ (m ++ [x])).getD ((bs ++ (m ++ [x])).length - 1 - (k : Int).toNat) 0 = _
    have hl : (bs ++ (m ++ [x])).length = bs.length + (i + 1) := by simp [h2]
    rw [hl, Int.toNat_natCast]
    by_cases hlt : i + 1 ≤ k
    · rw [Nat.mod_eq_of_lt (by omega)]
      simp only [List.getD]
      rw [List.getElem?_append_left (by omega)]
      congr 2
      omega
    · have e1 : bs.length + (i + 1) - 1 - k - bs.length = i - k := by omega
      have := hnew (i - k) (by omega)
      simp only [List.getD] at this ⊢
      rw [List.getElem?_append_right (by omega), e1, this]
      have e2 : (i - k) % (k + 1) = (i + 1) % (k + 1) := by
        have : i + 1 = i - k + (k + 1) := by omega
        rw [this, Nat.add_mod_right]
      rw [e2]
end Go.Proofs.YtoencondpbkomaaGreatDoor
