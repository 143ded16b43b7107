/-
  Meters as numbers: quotas, what is used, and what each call makes of them.
-/
import Derived.Test.YtnokbibkjhhcoaaMem
namespace Go.Proofs.Ytnokbibkjhhcoaa
open Go.RowKit

structure Quo where
  mem : Int
  out : Int
  files : Int
  depth : Int
  steps : Int

structure Tel where
  mem : Int
  peak : Int
  out : Int
  files : Int
  depth : Int
  steps : Int
  code : Int

/-- a quota of which nothing is below 0 -/
def Quo.up (q : Quo) : Quo := ⟨max q.mem 0, max q.out 0, max q.files 0, max q.depth 0, max q.steps 0⟩
def Tel.zero : Tel := ⟨0, 0, 0, 0, 0, 0, 0⟩

/-- the cells of a meter -/
def mCells (q : Quo) (s : Tel) : Array Value :=
  #[.int .i64 q.mem, .int .i64 q.out, .int .i64 q.files, .int .i64 q.depth, .int .i64 q.steps,
    .int .i64 s.mem, .int .i64 s.peak, .int .i64 s.out, .int .i64 s.files, .int .i64 s.depth, .int .i64 s.steps, .int .i64 s.code]
def uArr (s : Tel) : Array Value := #[.int .i64 s.mem, .int .i64 s.peak, .int .i64 s.out, .int .i64 s.files, .int .i64 s.depth, .int .i64 s.steps]
def qArr (q : Quo) : Array Value := #[.int .i64 q.mem, .int .i64 q.out, .int .i64 q.files, .int .i64 q.depth, .int .i64 q.steps]

/-- n more may be used. -/
def fits (code was most n : Int) : Prop := code = 0 ∧ max n 0 ≤ most - was
instance (code was most n : Int) : Decidable (fits code was most n) := by unfold fits; infer_instance
/-- the code behind it -/
def codeOf (code was most n x : Int) : Int := if code = 0 ∧ most - was < max n 0 then x else code
def wasOf (code was most n : Int) : Int := if code = 0 ∧ max n 0 ≤ most - was then was + max n 0 else was

def Tel.doMem (q : Quo) (s : Tel) (n : Int) : Tel :=
  { s with mem := wasOf s.code s.mem q.mem n, peak := max s.peak (wasOf s.code s.mem q.mem n), code := codeOf s.code s.mem q.mem n 101 }
def Tel.doOut (q : Quo) (s : Tel) (n : Int) : Tel := { s with out := wasOf s.code s.out q.out n, code := codeOf s.code s.out q.out n 102 }
def Tel.doFile (q : Quo) (s : Tel) : Tel := { s with files := wasOf s.code s.files q.files 1, code := codeOf s.code s.files q.files 1 103 }
def Tel.doDown (q : Quo) (s : Tel) : Tel := { s with depth := wasOf s.code s.depth q.depth 1, code := codeOf s.code s.depth q.depth 1 104 }
def Tel.doStep (q : Quo) (s : Tel) (n : Int) : Tel := { s with steps := wasOf s.code s.steps q.steps n, code := codeOf s.code s.steps q.steps n 105 }
def Tel.doFree (s : Tel) (n : Int) : Tel := { s with mem := max (s.mem - max n 0) 0 }
def Tel.doUp (s : Tel) : Tel := { s with depth := max (s.depth - 1) 0 }

/-- what is used lies within its quota; nothing is beyond 64 bits -/
structure Fine (q : Quo) (s : Tel) : Prop where
  m0 : 0 ≤ s.mem
  m1 : s.mem ≤ s.peak
  m2 : s.peak ≤ q.mem
  m3 : q.mem ≤ 9223372036854775807
  o0 : 0 ≤ s.out
  o1 : s.out ≤ q.out
  o2 : q.out ≤ 9223372036854775807
  f0 : 0 ≤ s.files
  f1 : s.files ≤ q.files
  f2 : q.files ≤ 9223372036854775807
  d0 : 0 ≤ s.depth
  d1 : s.depth ≤ q.depth
  d2 : q.depth ≤ 9223372036854775807
  s0 : 0 ≤ s.steps
  s1 : s.steps ≤ q.steps
  s2 : q.steps ≤ 9223372036854775807
  c0 : s.code = 0 ∨ (101 ≤ s.code ∧ s.code ≤ 105)

/-- a quota as it comes in -/
structure Lit64 (q : Quo) : Prop where
  m : -9223372036854775808 ≤ q.mem ∧ q.mem ≤ 9223372036854775807
  o : -9223372036854775808 ≤ q.out ∧ q.out ≤ 9223372036854775807
  f : -9223372036854775808 ≤ q.files ∧ q.files ≤ 9223372036854775807
  d : -9223372036854775808 ≤ q.depth ∧ q.depth ≤ 9223372036854775807
  s : -9223372036854775808 ≤ q.steps ∧ q.steps ≤ 9223372036854775807

theorem Fine.new {q : Quo} (h : Lit64 q) : Fine q.up Tel.zero := by
  obtain ⟨h1, h2, h3, h4, h5⟩ := h
  constructor <;> simp only [Quo.up, Tel.zero] <;> first | omega | simp

theorem wasOf_le {code was most n : Int} (h0 : 0 ≤ was) (h1 : was ≤ most) : was ≤ wasOf code was most n ∧ wasOf code was most n ≤ most := by
  unfold wasOf
  split <;> omega
theorem codeOf_in {code was most n x : Int} (h : code = 0 ∨ (101 ≤ code ∧ code ≤ 105)) (hx : 101 ≤ x ∧ x ≤ 105) : codeOf code was most n x = 0 ∨ (101 ≤ codeOf code was most n x ∧ codeOf code was most n x ≤ 105) := by
  unfold codeOf
  split <;> omega

section
variable {q : Quo} {s : Tel}
theorem Fine.mem (h : Fine q s) (n : Int) : Fine q (s.doMem q n) := by
  have a := wasOf_le (code := s.code) (n := n) h.m0 (Int.le_trans h.m1 h.m2)
  have b := codeOf_in (was := s.mem) (most := q.mem) (n := n) (x := 101) h.c0 (by omega)
  cases h
  constructor <;> (try simp only [Tel.doMem]) <;> first | assumption | omega
theorem Fine.out (h : Fine q s) (n : Int) : Fine q (s.doOut q n) := by
  have a := wasOf_le (code := s.code) (n := n) h.o0 h.o1
  have b := codeOf_in (was := s.out) (most := q.out) (n := n) (x := 102) h.c0 (by omega)
  cases h
  constructor <;> (try simp only [Tel.doOut]) <;> first | assumption | omega
theorem Fine.file (h : Fine q s) : Fine q (s.doFile q) := by
  have a := wasOf_le (code := s.code) (n := 1) h.f0 h.f1
  have b := codeOf_in (was := s.files) (most := q.files) (n := 1) (x := 103) h.c0 (by omega)
  cases h
  constructor <;> (try simp only [Tel.doFile]) <;> first | assumption | omega
theorem Fine.down (h : Fine q s) : Fine q (s.doDown q) := by
  have a := wasOf_le (code := s.code) (n := 1) h.d0 h.d1
  have b := codeOf_in (was := s.depth) (most := q.depth) (n := 1) (x := 104) h.c0 (by omega)
  cases h
  constructor <;> (try simp only [Tel.doDown]) <;> first | assumption | omega
theorem Fine.step (h : Fine q s) (n : Int) : Fine q (s.doStep q n) := by
  have a := wasOf_le (code := s.code) (n := n) h.s0 h.s1
  have b := codeOf_in (was := s.steps) (most := q.steps) (n := n) (x := 105) h.c0 (by omega)
  cases h
  constructor <;> (try simp only [Tel.doStep]) <;> first | assumption | omega
theorem Fine.free (h : Fine q s) (n : Int) : Fine q (s.doFree n) := by
  cases h
  constructor <;> (try simp only [Tel.doFree]) <;> first | assumption | omega
theorem Fine.upp (h : Fine q s) : Fine q s.doUp := by
  cases h
  constructor <;> (try simp only [Tel.doUp]) <;> first | assumption | omega
end

/-- one thing that is asked for, or given back -/
def Tel.next (q : Quo) (s : Tel) (k n : Int) : Tel :=
  if k = 0 then s.doMem q n else if k = 1 then s.doOut q n else if k = 2 then s.doFile q else if k = 3 then s.doDown q else if k = 4 then s.doStep q n else if k = 5 then s.doFree n else s.doUp
def Tel.said (q : Quo) (s : Tel) (k n : Int) : Bool :=
  if k = 0 then decide (fits s.code s.mem q.mem n) else if k = 1 then decide (fits s.code s.out q.out n) else if k = 2 then decide (fits s.code s.files q.files 1) else if k = 3 then decide (fits s.code s.depth q.depth 1)
  else if k = 4 then decide (fits s.code s.steps q.steps n) else true

theorem Fine.next {q : Quo} {s : Tel} (h : Fine q s) (k n : Int) : Fine q (s.next q k n) := by
  unfold Tel.next
  split
  · exact h.mem n
  split
  · exact h.out n
  split
  · exact h.file
  split
  · exact h.down
  split
  · exact h.step n
  split
  · exact h.free n
  · exact h.upp
end Go.Proofs.Ytnokbibkjhhcoaa
