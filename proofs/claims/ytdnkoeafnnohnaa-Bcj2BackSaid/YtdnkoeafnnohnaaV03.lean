/-
  B2Num, Be: put together.
-/
import Derived.Test.YtdnkoeafnnohnaaV02
set_option linter.unusedVariables false
set_option linter.unusedSimpArgs false
/-
  Four streams as numbers: what they tell.
-/
namespace Go.Proofs.Ytdnkoeafnnohnaa

/-- an instruction's probability, by its byte and the one ahead -/
def mark (a x : Nat) : Option Nat := if x = 232 then some a else if x = 233 then some 256 else if a = 15 ∧ 128 ≤ x ∧ x ≤ 143 then some 257 else none
theorem mark_lt {a x i : Nat} (ha : a < 256) (h : mark a x = some i) : i < 258 := by
  unfold mark at h
  split at h
  · injection h; omega
  · split at h
    · injection h; omega
    · split at h
      · injection h; omega
      · cases h
/-- the least byte first -/
def leB : Nat → Nat → List UInt8
  | _, 0 => []
  | t, n + 1 => UInt8.ofNat (t % 256) :: leB (t / 256) n
theorem leB_length : ∀ (n t : Nat), (leB t n).length = n
  | 0, _ => rfl
  | n + 1, t => by simp [leB, leB_length n]
/-- its last byte, or what was there ahead -/
def lastB : Nat → Nat → Nat → Nat
  | a, _, 0 => a
  | _, t, n + 1 => lastB (t % 256) (t / 256) n

/-- what a decoder has beside Main -/
structure K2 where
  c : List UInt8
  j : List UInt8
  d : Dc
  ps : List Nat

/-- four bytes as a number, the greatest first, and what is left -/
def take4 : List UInt8 → Option (Nat × List UInt8)
  | a :: b :: c :: e :: t => some (((a.toNat * 256 + b.toNat) * 256 + c.toNat) * 256 + e.toNat, t)
  | _ => none
theorem take4_len {l t : List UInt8} {p : Nat} (h : take4 l = some (p, t)) : l.length = t.length + 4 := by
  match l, h with
  | a :: b :: c :: e :: t', h =>
    simp only [take4, Option.some.injEq, Prod.mk.injEq] at h
    rw [← h.2]; simp
theorem take4_none {l : List UInt8} (h : take4 l = none) : l.length < 4 := by
  match l, h with
  | [], _ => simp
  | [_], _ => simp
  | [_, _], _ => simp
  | [_, _, _], _ => simp
  | a :: b :: c :: e :: t', h => simp [take4] at h

def wr32 (x : Nat) : Nat := x % 4294967296
/-- the target of a place, behind n bytes -/
def tgt (p n : Nat) : Nat := wr32 (8589934592 + p - wr32 n - 4)

/-- behind the bit of an instruction: the streams, what was told, the byte ahead -/
def bitB (size : Nat) (k : K2) (out : List UInt8) (i a : Nat) : Option (K2 × List UInt8 × Nat) :=
  match bitD k.d (k.ps.getD i 0) with
  | (_, _, none) => none
  | (0, q, some d) => some (⟨k.c, k.j, some d, k.ps.set i q⟩, out, a)
  | (_ + 1, q, some d) =>
    if size < out.length + 4 then none
    else if i < 256 then
      match take4 k.c with
      | none => none
      | some (p, t) => some (⟨t, k.j, some d, k.ps.set i q⟩, out ++ leB (tgt p out.length) 4, lastB a (tgt p out.length) 4)
    else
      match take4 k.j with
      | none => none
      | some (p, t) => some (⟨k.c, t, some d, k.ps.set i q⟩, out ++ leB (tgt p out.length) 4, lastB a (tgt p out.length) 4)
/-- behind a byte -/
def aftB (size : Nat) (k : K2) (out : List UInt8) (a b : Nat) : Option (K2 × List UInt8 × Nat) :=
  match mark a b with
  | none => some (k, out, b)
  | some i => if out.length = size then some (k, out, b) else bitB size k out i b

def end2 : Dc → Bool
  | some (_, 0, []) => true
  | _ => false
def K2.ends (k : K2) : Bool := k.c.isEmpty && k.j.isEmpty && end2 k.d

/-- what four streams tell -/
def goR (size : Nat) : List UInt8 → K2 → List UInt8 → Nat → Option (List UInt8)
  | [], k, out, _ => if size ≤ out.length then (if k.ends = true then some out else none) else none
  | b :: m, k, out, a =>
    if size ≤ out.length then none
    else
      match aftB size k (out ++ [b]) a b.toNat with
      | none => none
      | some (k', o', a') => goR size m k' o' a'

theorem bitB_len {size : Nat} {k k' : K2} {out o' : List UInt8} {i a a' : Nat} (h : bitB size k out i a = some (k', o', a')) :
    o'.length + k'.c.length + k'.j.length = out.length + k.c.length + k.j.length ∧ out.length ≤ o'.length ∧ (out.length ≤ size → o'.length ≤ size) := by
  unfold bitB at h
  split at h
  · cases h
  · injection h with h; injection h with h1 h2; injection h2 with h2 h3; subst h1 h2; exact ⟨rfl, Nat.le_refl _, fun h => h⟩
  · split at h
    · cases h
    · split at h
      · split at h
        · cases h
        · rename_i hh
          injection h with h; injection h with h1 h2; injection h2 with h2 h3; subst h1 h2
          have := take4_len hh
          simp only [List.length_append, leB_length]
          omega
      · split at h
        · cases h
        · rename_i hh
          injection h with h; injection h with h1 h2; injection h2 with h2 h3; subst h1 h2
          have := take4_len hh
          simp only [List.length_append, leB_length]
          omega
theorem aftB_len {size : Nat} {k k' : K2} {out o' : List UInt8} {a b a' : Nat} (h : aftB size k out a b = some (k', o', a')) :
    o'.length + k'.c.length + k'.j.length = out.length + k.c.length + k.j.length ∧ out.length ≤ o'.length ∧ (out.length ≤ size → o'.length ≤ size) := by
  unfold aftB at h
  split at h
  · injection h with h; injection h with h1 h2; injection h2 with h2 h3; subst h1 h2; exact ⟨rfl, Nat.le_refl _, fun h => h⟩
  · split at h
    · injection h with h; injection h with h1 h2; injection h2 with h2 h3; subst h1 h2; exact ⟨rfl, Nat.le_refl _, fun h => h⟩
    · exact bitB_len h
theorem ends_nil {k : K2} (h : k.ends = true) : k.c = [] ∧ k.j = [] := by
  unfold K2.ends at h
  simp only [Bool.and_eq_true, List.isEmpty_iff] at h
  exact ⟨h.1.1, h.1.2⟩
/-- As many bytes as there are in Main, Call and Jump are told, and as many as the size. -/
theorem goR_len {size : Nat} : ∀ {m : List UInt8} {k : K2} {out o : List UInt8} {a : Nat}, goR size m k out a = some o → o.length = out.length + m.length + k.c.length + k.j.length ∧ size ≤ o.length ∧ (out.length ≤ size → o.length = size)
  | [], k, out, o, a, h => by
    unfold goR at h
    split at h
    · split at h
      · rename_i h1 h2
        injection h with h; subst h
        obtain ⟨e1, e2⟩ := ends_nil h2
        rw [e1, e2]
        simp only [List.length_nil]
        omega
      · cases h
    · cases h
  | b :: m, k, out, o, a, h => by
    unfold goR at h
    split at h
    · cases h
    · rename_i hlt
      split at h
      · cases h
      · rename_i k' o' a' ha
        obtain ⟨h1, h2, h3⟩ := goR_len h
        obtain ⟨g1, g2, g3⟩ := aftB_len ha
        simp only [List.length_append, List.length_cons, List.length_nil] at *
        refine ⟨by omega, h2, fun _ => h3 (g3 (by omega))⟩
theorem bitB_none {size : Nat} {k : K2} {out : List UInt8} {i a : Nat} (h : k.d = none) : bitB size k out i a = none := by
  unfold bitB
  rw [h]
  rfl
/-- A bad decoder ends in nothing. -/
theorem goR_bad {size : Nat} : ∀ {m : List UInt8} {k : K2} {out : List UInt8} {a : Nat}, k.d = none → goR size m k out a = none
  | [], k, out, a, h => by
    unfold goR
    have : k.ends = false := by unfold K2.ends; rw [h]; simp [end2]
    rw [this]
    split <;> simp
  | b :: m, k, out, a, h => by
    unfold goR
    split
    · rfl
    · have : aftB size k (out ++ [b]) a b.toNat = none ∨ ∃ o' a', aftB size k (out ++ [b]) a b.toNat = some (k, o', a') := by
        unfold aftB
        split
        · exact .inr ⟨_, _, rfl⟩
        · split
          · exact .inr ⟨_, _, rfl⟩
          · exact .inl (bitB_none h)
      rcases this with e | ⟨o', a', e⟩
      · rw [e]
      · rw [e]
        exact goR_bad h

/-! ### the filter -/

/-- a filter: its sources' bytes that are left, the decoder, and its fields -/
structure B2 where
  src : Nat → List UInt8
  d : Dc
  ps : List Nat
  dead : Bool
  left : Nat
  told : Nat
  ahead : Nat
  opn : Bool
  num : Nat
  target : Nat
  waits : Nat

def B2.bad (s : B2) : Bool := s.dead || s.d.isNone
def B2.read (s : B2) (k : Nat) : Nat × B2 :=
  if s.bad = true then (0, s)
  else match s.src k with
    | [] => (0, { s with dead := true })
    | x :: t => (x.toNat, { s with src := fun i => if i = k then t else s.src i })
/-- n bytes of a stream behind p -/
def B2.many (k : Nat) : Nat → Nat × B2 → Nat × B2
  | 0, t => t
  | n + 1, t => ((B2.many k n t).1 * 256 + ((B2.many k n t).2.read k).1, ((B2.many k n t).2.read k).2)
def B2.strm (s : B2) : Nat := if s.num < 256 then 1 else 2
def B2.place (s : B2) : Nat × B2 := B2.many s.strm 4 (0, s)
def B2.shut (s : B2) : B2 := { s with opn := false }
def B2.bit (s : B2) : Nat × B2 := ((bitD s.d (s.ps.getD s.num 0)).1, { s with d := (bitD s.d (s.ps.getD s.num 0)).2.2, ps := s.ps.set s.num (bitD s.d (s.ps.getD s.num 0)).2.1 })
def B2.put4 (t : Nat × B2) : B2 := { t.2 with target := wr32 (8589934592 + t.1 - t.2.told - 4), waits := 4 }
def B2.dec (s : B2) : B2 :=
  if s.bad = true then s.shut
  else if s.shut.bit.1 = 0 then s.shut.bit.2
  else if s.left < 4 then { s.shut.bit.2 with dead := true }
  else B2.put4 (s.shut.bit.2.place)
def B2.draw (s : B2) : Nat × B2 :=
  if s.waits = 0 then ((s.read 0).1, { (s.read 0).2 with num := ((mark s.ahead (s.read 0).1).getD 0), opn := (mark s.ahead (s.read 0).1).isSome })
  else (s.target % 256, { s with target := s.target / 256, waits := s.waits - 1 })
def B2.told1 (s : B2) (x : Nat) : B2 := { s with left := s.left - 1, told := wr32 (s.told + 1), ahead := x }
def B2.open_ (s : B2) : B2 := if s.opn = true then s.dec else s
def B2.next (s : B2) : Option Nat × B2 :=
  if s.left = 0 then (none, s)
  else if s.open_.draw.2.bad = true then (none, s.open_.draw.2)
  else (some s.open_.draw.1, s.open_.draw.2.told1 s.open_.draw.1)
def B2.fin (s : B2) : Bool := (s.left == 0) && !s.dead && (s.src 0).isEmpty && (s.src 1).isEmpty && (s.src 2).isEmpty && end2 s.d

/-- fields are within their bounds -/
structure B2Ok (s : B2) : Prop where
  d : DcOk s.d
  ps : PsOk s.ps
  len : s.ps.length = 258
  told : s.told < 4294967296
  ahead : s.ahead < 256
  num : s.num < 258
  target : s.target < 4294967296
  waits : s.waits ≤ 4
  left : s.left < 9223372036854775808
end Go.Proofs.Ytdnkoeafnnohnaa

/-
  Bytes as a number, the greatest first.
-/
namespace Go.Proofs.Ytdnkoeafnnohnaa

/-- bytes as a number, the greatest first -/
def be (l : List UInt8) : Nat := l.foldl (fun a b => a * 256 + b.toNat) 0
theorem be_snoc (l : List UInt8) (x : UInt8) : be (l ++ [x]) = be l * 256 + x.toNat := by simp [be]
theorem be_append (l k : List UInt8) : be (l ++ k) = be l * 256 ^ k.length + be k := by
  generalize hn : k.length = n
  induction n generalizing k with
  | zero => rw [List.eq_nil_of_length_eq_zero hn]; simp [be]
  | succ n ih =>
    have hne : k ≠ [] := by intro e; rw [e] at hn; cases hn
    rw [← List.dropLast_concat_getLast hne, ← List.append_assoc, be_snoc, be_snoc, ih k.dropLast (by simp [hn]), Nat.pow_succ, ← Nat.mul_assoc, Nat.add_mul]
    omega
theorem be_lt (l : List UInt8) : ∀ n, l.length = n → be l < 256 ^ n := by
  intro n
  induction n generalizing l with
  | zero => intro h; rw [List.eq_nil_of_length_eq_zero h]; decide
  | succ n ih =>
    intro h
    have hne : l ≠ [] := by intro e; rw [e] at h; cases h
    rw [← List.dropLast_concat_getLast hne, be_snoc, Nat.pow_succ]
    have := ih l.dropLast (by simp [h])
    have := (l.getLast hne).toNat_lt
    omega
theorem be_zeros (n : Nat) : be (List.replicate n 0) = 0 := by
  induction n with
  | zero => rfl
  | succ n ih => rw [List.replicate_succ', be_snoc, ih]; rfl
/-- the first l of the bytes, and what is behind -/
theorem be_take (bs : List UInt8) (l : Nat) : be (bs.take l) * 256 ^ (bs.length - l) ≤ be bs ∧ be bs < (be (bs.take l) + 1) * 256 ^ (bs.length - l) := by
  have e := be_append (bs.take l) (bs.drop l)
  rw [List.take_append_drop, List.length_drop] at e
  have h := be_lt (bs.drop l) (bs.length - l) (by simp)
  rw [Nat.add_mul]
  omega
theorem be_take_succ {bs : List UInt8} {l : Nat} (h : l < bs.length) : be (bs.take (l + 1)) = be (bs.take l) * 256 + (bs[l]).toNat := by
  rw [List.take_succ_eq_append_getElem h, be_snoc]
end Go.Proofs.Ytdnkoeafnnohnaa
