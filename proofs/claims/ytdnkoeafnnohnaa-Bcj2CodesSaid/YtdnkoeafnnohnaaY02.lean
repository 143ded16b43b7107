/-
  B2Num, Be, RcPure: put together.
-/
import Derived.Test.YtdnkoeafnnohnaaY01
set_option linter.unusedVariables false
set_option linter.unusedSimpArgs false
/-
  Four streams as numbers: what they tell.
-/
namespace Go.Proofs.Ytdnkoeafnnohnaa

/-- an instruction's probability, by its byte and the one ahead -/
def mark (a x : Nat) : Option Nat := if x = 232 then some a else if x = 233 then some 256 else if a = 15 ∧ 128 ≤ x ∧ x ≤ 143 then some 257 else none
theorem mark_lt {a x i : Nat} (ha : a < 256) (h : mark a x = some i) : i < 258 := by
  unfold mark at h
  split at h
  · injection h; omega
  · split at h
    · injection h; omega
    · split at h
      · injection h; omega
      · cases h
theorem mark_call {a x i : Nat} (ha : a < 256) (h : mark a x = some i) : x = 232 ↔ i < 256 := by
  unfold mark at h
  split at h
  · injection h; constructor
    · intro _; omega
    · intro _; assumption
  · split at h
    · injection h; omega
    · split at h
      · injection h; omega
      · cases h

/-- the least byte first -/
def leB : Nat → Nat → List UInt8
  | _, 0 => []
  | t, n + 1 => UInt8.ofNat (t % 256) :: leB (t / 256) n
theorem leB_length : ∀ (n t : Nat), (leB t n).length = n
  | 0, _ => rfl
  | n + 1, t => by simp [leB, leB_length n]
/-- its last byte, or what was there ahead -/
def lastB : Nat → Nat → Nat → Nat
  | a, _, 0 => a
  | _, t, n + 1 => lastB (t % 256) (t / 256) n

/-- what a decoder has beside Main -/
structure K2 where
  c : List UInt8
  j : List UInt8
  d : Dc
  ps : List Nat

/-- four bytes as a number, the greatest first, and what is left -/
def take4 : List UInt8 → Option (Nat × List UInt8)
  | a :: b :: c :: e :: t => some (((a.toNat * 256 + b.toNat) * 256 + c.toNat) * 256 + e.toNat, t)
  | _ => none
theorem take4_len {l t : List UInt8} {p : Nat} (h : take4 l = some (p, t)) : l.length = t.length + 4 := by
  match l, h with
  | a :: b :: c :: e :: t', h =>
    simp only [take4, Option.some.injEq, Prod.mk.injEq] at h
    rw [← h.2]; simp
theorem take4_none {l : List UInt8} (h : take4 l = none) : l.length < 4 := by
  match l, h with
  | [], _ => simp
  | [_], _ => simp
  | [_, _], _ => simp
  | [_, _, _], _ => simp
  | a :: b :: c :: e :: t', h => simp [take4] at h

def wr32 (x : Nat) : Nat := x % 4294967296
/-- the target of a place, behind n bytes -/
def tgt (p n : Nat) : Nat := wr32 (8589934592 + p - wr32 n - 4)

/-- behind the bit of an instruction: the streams, what was told, the byte ahead -/
def bitB (size : Nat) (k : K2) (out : List UInt8) (i a : Nat) : Option (K2 × List UInt8 × Nat) :=
  match bitD k.d (k.ps.getD i 0) with
  | (_, _, none) => none
  | (0, q, some d) => some (⟨k.c, k.j, some d, k.ps.set i q⟩, out, a)
  | (_ + 1, q, some d) =>
    if size < out.length + 4 then none
    else if i < 256 then
      match take4 k.c with
      | none => none
      | some (p, t) => some (⟨t, k.j, some d, k.ps.set i q⟩, out ++ leB (tgt p out.length) 4, lastB a (tgt p out.length) 4)
    else
      match take4 k.j with
      | none => none
      | some (p, t) => some (⟨k.c, t, some d, k.ps.set i q⟩, out ++ leB (tgt p out.length) 4, lastB a (tgt p out.length) 4)
/-- behind a byte -/
def aftB (size : Nat) (k : K2) (out : List UInt8) (a b : Nat) : Option (K2 × List UInt8 × Nat) :=
  match mark a b with
  | none => some (k, out, b)
  | some i => if out.length = size then some (k, out, b) else bitB size k out i b

def end2 : Dc → Bool
  | some (_, 0, []) => true
  | _ => false
def K2.ends (k : K2) : Bool := k.c.isEmpty && k.j.isEmpty && end2 k.d

/-- what four streams tell -/
def goR (size : Nat) : List UInt8 → K2 → List UInt8 → Nat → Option (List UInt8)
  | [], k, out, _ => if size ≤ out.length then (if k.ends = true then some out else none) else none
  | b :: m, k, out, a =>
    if size ≤ out.length then none
    else
      match aftB size k (out ++ [b]) a b.toNat with
      | none => none
      | some (k', o', a') => goR size m k' o' a'

theorem bitB_len {size : Nat} {k k' : K2} {out o' : List UInt8} {i a a' : Nat} (h : bitB size k out i a = some (k', o', a')) :
    o'.length + k'.c.length + k'.j.length = out.length + k.c.length + k.j.length ∧ out.length ≤ o'.length ∧ (out.length ≤ size → o'.length ≤ size) := by
  unfold bitB at h
  split at h
  · cases h
  · injection h with h; injection h with h1 h2; injection h2 with h2 h3; subst h1 h2; exact ⟨rfl, Nat.le_refl _, fun h => h⟩
  · split at h
    · cases h
    · split at h
      · split at h
        · cases h
        · rename_i hh
          injection h with h; injection h with h1 h2; injection h2 with h2 h3; subst h1 h2
          have := take4_len hh
          simp only [List.length_append, leB_length]
          omega
      · split at h
        · cases h
        · rename_i hh
          injection h with h; injection h with h1 h2; injection h2 with h2 h3; subst h1 h2
          have := take4_len hh
          simp only [List.length_append, leB_length]
          omega
theorem aftB_len {size : Nat} {k k' : K2} {out o' : List UInt8} {a b a' : Nat} (h : aftB size k out a b = some (k', o', a')) :
    o'.length + k'.c.length + k'.j.length = out.length + k.c.length + k.j.length ∧ out.length ≤ o'.length ∧ (out.length ≤ size → o'.length ≤ size) := by
  unfold aftB at h
  split at h
  · injection h with h; injection h with h1 h2; injection h2 with h2 h3; subst h1 h2; exact ⟨rfl, Nat.le_refl _, fun h => h⟩
  · split at h
    · injection h with h; injection h with h1 h2; injection h2 with h2 h3; subst h1 h2; exact ⟨rfl, Nat.le_refl _, fun h => h⟩
    · exact bitB_len h
theorem ends_nil {k : K2} (h : k.ends = true) : k.c = [] ∧ k.j = [] := by
  unfold K2.ends at h
  simp only [Bool.and_eq_true, List.isEmpty_iff] at h
  exact ⟨h.1.1, h.1.2⟩
/-- As many bytes as there are in Main, Call and Jump are told, and as many as the size. -/
theorem goR_len {size : Nat} : ∀ {m : List UInt8} {k : K2} {out o : List UInt8} {a : Nat}, goR size m k out a = some o → o.length = out.length + m.length + k.c.length + k.j.length ∧ size ≤ o.length ∧ (out.length ≤ size → o.length = size)
  | [], k, out, o, a, h => by
    unfold goR at h
    split at h
    · split at h
      · rename_i h1 h2
        injection h with h; subst h
        obtain ⟨e1, e2⟩ := ends_nil h2
        rw [e1, e2]
        simp only [List.length_nil]
        omega
      · cases h
    · cases h
  | b :: m, k, out, o, a, h => by
    unfold goR at h
    split at h
    · cases h
    · rename_i hlt
      split at h
      · cases h
      · rename_i k' o' a' ha
        obtain ⟨h1, h2, h3⟩ := goR_len h
        obtain ⟨g1, g2, g3⟩ := aftB_len ha
        simp only [List.length_append, List.length_cons, List.length_nil] at *
        refine ⟨by omega, h2, fun _ => h3 (g3 (by omega))⟩
theorem bitB_none {size : Nat} {k : K2} {out : List UInt8} {i a : Nat} (h : k.d = none) : bitB size k out i a = none := by
  unfold bitB
  rw [h]
  rfl
/-- A bad decoder ends in nothing. -/
theorem goR_bad {size : Nat} : ∀ {m : List UInt8} {k : K2} {out : List UInt8} {a : Nat}, k.d = none → goR size m k out a = none
  | [], k, out, a, h => by
    unfold goR
    have : k.ends = false := by unfold K2.ends; rw [h]; simp [end2]
    rw [this]
    split <;> simp
  | b :: m, k, out, a, h => by
    unfold goR
    split
    · rfl
    · have : aftB size k (out ++ [b]) a b.toNat = none ∨ ∃ o' a', aftB size k (out ++ [b]) a b.toNat = some (k, o', a') := by
        unfold aftB
        split
        · exact .inr ⟨_, _, rfl⟩
        · split
          · exact .inr ⟨_, _, rfl⟩
          · exact .inl (bitB_none h)
      rcases this with e | ⟨o', a', e⟩
      · rw [e]
      · rw [e]
        exact goR_bad h

/-! ### the filter -/

/-- a filter: its sources' bytes that are left, the decoder, and its fields -/
structure B2 where
  src : Nat → List UInt8
  d : Dc
  ps : List Nat
  dead : Bool
  left : Nat
  told : Nat
  ahead : Nat
  opn : Bool
  num : Nat
  target : Nat
  waits : Nat

def B2.bad (s : B2) : Bool := s.dead || s.d.isNone
def B2.read (s : B2) (k : Nat) : Nat × B2 :=
  if s.bad = true then (0, s)
  else match s.src k with
    | [] => (0, { s with dead := true })
    | x :: t => (x.toNat, { s with src := fun i => if i = k then t else s.src i })
/-- n bytes of a stream behind p -/
def B2.many (k : Nat) : Nat → Nat × B2 → Nat × B2
  | 0, t => t
  | n + 1, t => ((B2.many k n t).1 * 256 + ((B2.many k n t).2.read k).1, ((B2.many k n t).2.read k).2)
def B2.strm (s : B2) : Nat := if s.num < 256 then 1 else 2
def B2.place (s : B2) : Nat × B2 := B2.many s.strm 4 (0, s)
def B2.shut (s : B2) : B2 := { s with opn := false }
def B2.bit (s : B2) : Nat × B2 := ((bitD s.d (s.ps.getD s.num 0)).1, { s with d := (bitD s.d (s.ps.getD s.num 0)).2.2, ps := s.ps.set s.num (bitD s.d (s.ps.getD s.num 0)).2.1 })
def B2.put4 (t : Nat × B2) : B2 := { t.2 with target := wr32 (8589934592 + t.1 - t.2.told - 4), waits := 4 }
def B2.dec (s : B2) : B2 :=
  if s.bad = true then s.shut
  else if s.shut.bit.1 = 0 then s.shut.bit.2
  else if s.left < 4 then { s.shut.bit.2 with dead := true }
  else B2.put4 (s.shut.bit.2.place)
def B2.draw (s : B2) : Nat × B2 :=
  if s.waits = 0 then ((s.read 0).1, { (s.read 0).2 with num := ((mark s.ahead (s.read 0).1).getD 0), opn := (mark s.ahead (s.read 0).1).isSome })
  else (s.target % 256, { s with target := s.target / 256, waits := s.waits - 1 })
def B2.told1 (s : B2) (x : Nat) : B2 := { s with left := s.left - 1, told := wr32 (s.told + 1), ahead := x }
def B2.open_ (s : B2) : B2 := if s.opn = true then s.dec else s
def B2.next (s : B2) : Option Nat × B2 :=
  if s.left = 0 then (none, s)
  else if s.open_.draw.2.bad = true then (none, s.open_.draw.2)
  else (some s.open_.draw.1, s.open_.draw.2.told1 s.open_.draw.1)
def B2.fin (s : B2) : Bool := (s.left == 0) && !s.dead && (s.src 0).isEmpty && (s.src 1).isEmpty && (s.src 2).isEmpty && end2 s.d

/-- fields are within their bounds -/
structure B2Ok (s : B2) : Prop where
  d : DcOk s.d
  ps : PsOk s.ps
  len : s.ps.length = 258
  told : s.told < 4294967296
  ahead : s.ahead < 256
  num : s.num < 258
  target : s.target < 4294967296
  waits : s.waits ≤ 4
  left : s.left < 9223372036854775808
end Go.Proofs.Ytdnkoeafnnohnaa

/-
  Bytes as a number, the greatest first.
-/
namespace Go.Proofs.Ytdnkoeafnnohnaa

/-- bytes as a number, the greatest first -/
def be (l : List UInt8) : Nat := l.foldl (fun a b => a * 256 + b.toNat) 0
theorem be_snoc (l : List UInt8) (x : UInt8) : be (l ++ [x]) = be l * 256 + x.toNat := by simp [be]
theorem be_append (l k : List UInt8) : be (l ++ k) = be l * 256 ^ k.length + be k := by
  generalize hn : k.length = n
  induction n generalizing k with
  | zero => rw [List.eq_nil_of_length_eq_zero hn]; simp [be]
  | succ n ih =>
    have hne : k ≠ [] := by intro e; rw [e] at hn; cases hn
    rw [← List.dropLast_concat_getLast hne, ← List.append_assoc, be_snoc, be_snoc, ih k.dropLast (by simp [hn]), Nat.pow_succ, ← Nat.mul_assoc, Nat.add_mul]
    omega
theorem be_lt (l : List UInt8) : ∀ n, l.length = n → be l < 256 ^ n := by
  intro n
  induction n generalizing l with
  | zero => intro h; rw [List.eq_nil_of_length_eq_zero h]; decide
  | succ n ih =>
    intro h
    have hne : l ≠ [] := by intro e; rw [e] at h; cases h
    rw [← List.dropLast_concat_getLast hne, be_snoc, Nat.pow_succ]
    have := ih l.dropLast (by simp [h])
    have := (l.getLast hne).toNat_lt
    omega
theorem be_inj : ∀ (l k : List UInt8), l.length = k.length → be l = be k → l = k := by
  intro l
  generalize hn : l.length = n
  induction n generalizing l with
  | zero => intro k h _; rw [List.eq_nil_of_length_eq_zero hn, List.eq_nil_of_length_eq_zero h.symm]
  | succ n ih =>
    intro k h e
    have hl : l ≠ [] := by intro e; rw [e] at hn; cases hn
    have hk : k ≠ [] := by intro e; rw [e] at h; cases h
    rw [← List.dropLast_concat_getLast hl, ← List.dropLast_concat_getLast hk, be_snoc, be_snoc] at e
    have h1 := (l.getLast hl).toNat_lt
    have h2 := (k.getLast hk).toNat_lt
    have h3 := ih l.dropLast (by simp [hn]) k.dropLast (by simp [← h]) (by omega)
    have h4 : l.getLast hl = k.getLast hk := UInt8.toNat_inj.1 (by omega)
    rw [← List.dropLast_concat_getLast hl, ← List.dropLast_concat_getLast hk, h3, h4]
theorem be_zeros (n : Nat) : be (List.replicate n 0) = 0 := by
  induction n with
  | zero => rfl
  | succ n ih => rw [List.replicate_succ', be_snoc, ih]; rfl
/-- the first l of the bytes, and what is behind -/
theorem be_take (bs : List UInt8) (l : Nat) : be (bs.take l) * 256 ^ (bs.length - l) ≤ be bs ∧ be bs < (be (bs.take l) + 1) * 256 ^ (bs.length - l) := by
  have e := be_append (bs.take l) (bs.drop l)
  rw [List.take_append_drop, List.length_drop] at e
  have h := be_lt (bs.drop l) (bs.length - l) (by simp)
  rw [Nat.add_mul]
  omega
theorem be_take_succ {bs : List UInt8} {l : Nat} (h : l < bs.length) : be (bs.take (l + 1)) = be (bs.take l) * 256 + (bs[l]).toNat := by
  rw [List.take_succ_eq_append_getElem h, be_snoc]
end Go.Proofs.Ytdnkoeafnnohnaa

/-
  The range coder as numbers: its bytes as one great number, how many they are, its range; and what the decoder tells of what it coded.
-/
namespace Go.Proofs.Ytdnkoeafnnohnaa

structure En where
  n : Nat
  l : Nat
  r : Nat

def En.new : En := ⟨0, 5, 4294967295⟩
/-- evened out -/
def En.even (e : En) : En := if e.r < 16777216 then ⟨e.n * 256, e.l + 1, e.r * 256⟩ else e
def En.bit (e : En) (p b : Nat) : En := if b = 0 then En.even ⟨e.n, e.l, e.r / 2048 * p⟩ else En.even ⟨e.n + e.r / 2048 * p, e.l, e.r - e.r / 2048 * p⟩
def En.one (e : En) (b : Nat) : En := if b = 0 then En.even ⟨e.n, e.l, e.r / 2⟩ else En.even ⟨e.n + e.r / 2, e.l, e.r / 2⟩

/-- its number and its range are within the bytes, a first byte 0 left -/
def EnIn (e : En) : Prop := 5 ≤ e.l ∧ e.n + e.r ≤ 4294967295 * 256 ^ (e.l - 5)
def EnOk (e : En) : Prop := 16777216 ≤ e.r ∧ e.r < 4294967296 ∧ EnIn e
theorem enOk_new : EnOk En.new := ⟨by decide, by decide, by decide, by decide⟩

/-- e' is further on than e -/
def Reach (e e' : En) : Prop := ∃ k, e'.l = e.l + k ∧ e.n * 256 ^ k ≤ e'.n ∧ e'.n + e'.r ≤ (e.n + e.r) * 256 ^ k
theorem Reach.refl (e : En) : Reach e e := ⟨0, rfl, by simp, by simp⟩
theorem Reach.trans {a b c : En} (h : Reach a b) (k : Reach b c) : Reach a c := by
  obtain ⟨x, h1, h2, h3⟩ := h
  obtain ⟨y, k1, k2, k3⟩ := k
  refine ⟨x + y, by omega, ?_, ?_⟩
  · rw [Nat.pow_add, ← Nat.mul_assoc]
    exact Nat.le_trans (Nat.mul_le_mul_right _ h2) k2
  · rw [Nat.pow_add, ← Nat.mul_assoc]
    exact Nat.le_trans k3 (Nat.mul_le_mul_right _ h3)
theorem reach_even (e : En) : Reach e e.even := by
  unfold En.even
  split
  · exact ⟨1, rfl, by simp, by show e.n * 256 + e.r * 256 ≤ _; rw [Nat.pow_one, Nat.add_mul]; omega⟩
  · exact Reach.refl e
theorem enIn_even {e : En} (h : EnIn e) : EnIn e.even := by
  unfold En.even
  split
  · obtain ⟨h1, h2⟩ := h
    refine ⟨by show 5 ≤ e.l + 1; omega, ?_⟩
    show e.n * 256 + e.r * 256 ≤ 4294967295 * 256 ^ (e.l + 1 - 5)
    rw [show e.l + 1 - 5 = (e.l - 5) + 1 by omega, Nat.pow_succ, ← Nat.mul_assoc]
    omega
  · exact h
theorem enOk_even {e : En} (h : EnIn e) (h0 : 65536 ≤ e.r) (h1 : e.r < 4294967296) : EnOk e.even := by
  refine ⟨?_, ?_, enIn_even h⟩
  · unfold En.even
    split
    · show 16777216 ≤ e.r * 256; omega
    · omega
  · unfold En.even
    split
    · show e.r * 256 < 4294967296; omega
    · exact h1

theorem reach_low {e : En} {z : Nat} (hz : z ≤ e.r) : Reach e ⟨e.n, e.l, z⟩ := ⟨0, rfl, by simp, by simp; omega⟩
theorem reach_high {e : En} {z y : Nat} (hz : z + y ≤ e.r) : Reach e ⟨e.n + z, e.l, y⟩ := ⟨0, rfl, by simp, by simp; omega⟩

theorem bit_reach {e : En} {p b : Nat} (h : EnOk e) (hp : POk p) : Reach e (e.bit p b) := by
  obtain ⟨b0, b1⟩ := bound_in h.1 h.2.1 hp
  unfold En.bit
  split
  · exact (reach_low (by omega)).trans (reach_even _)
  · exact (reach_high (by omega)).trans (reach_even _)
theorem bit_ok {e : En} {p b : Nat} (h : EnOk e) (hp : POk p) : EnOk (e.bit p b) := by
  obtain ⟨b0, b1⟩ := bound_in h.1 h.2.1 hp
  obtain ⟨h0, h1, h2, h3⟩ := h
  unfold En.bit
  split
  · exact enOk_even ⟨h2, by show e.n + e.r / 2048 * p ≤ 4294967295 * 256 ^ (e.l - 5); omega⟩ (by show 65536 ≤ e.r / 2048 * p; omega) (by show e.r / 2048 * p < _; omega)
  · exact enOk_even ⟨h2, by show e.n + e.r / 2048 * p + (e.r - e.r / 2048 * p) ≤ 4294967295 * 256 ^ (e.l - 5); omega⟩ (by show 65536 ≤ e.r - e.r / 2048 * p; omega) (by show e.r - e.r / 2048 * p < _; omega)
theorem one_reach {e : En} {b : Nat} : Reach e (e.one b) := by
  unfold En.one
  split
  · exact (reach_low (Nat.div_le_self _ _)).trans (reach_even _)
  · exact (reach_high (by omega)).trans (reach_even _)
theorem one_ok {e : En} {b : Nat} (h : EnOk e) : EnOk (e.one b) := by
  obtain ⟨h0, h1, h2, h3⟩ := h
  unfold En.one
  split
  · exact enOk_even ⟨h2, by show e.n + e.r / 2 ≤ 4294967295 * 256 ^ (e.l - 5); omega⟩ (by show 65536 ≤ e.r / 2; omega) (by show e.r / 2 < _; omega)
  · exact enOk_even ⟨h2, by show e.n + e.r / 2 + e.r / 2 ≤ 4294967295 * 256 ^ (e.l - 5); omega⟩ (by show 65536 ≤ e.r / 2; omega) (by show e.r / 2 < _; omega)

/-- the bytes that a coder gives in the end -/
structure Ends (bs : List UInt8) (f : En) : Prop where
  num : be bs = f.n
  len : bs.length = f.l
  pos : 0 < f.r

/-- the decoder that has come as far as e -/
def decAt (bs more : List UInt8) (e : En) : Dc := some (e.r, be (bs.take e.l) - e.n, bs.drop e.l ++ more)

section
variable {bs more : List UInt8} {f : En}

theorem between {e : En} (hf : Ends bs f) (h : Reach e f) : e.n ≤ be (bs.take e.l) ∧ be (bs.take e.l) < e.n + e.r ∧ e.l ≤ bs.length := by
  obtain ⟨k, h1, h2, h3⟩ := h
  have hl := hf.len
  obtain ⟨t1, t2⟩ := be_take bs e.l
  rw [hf.num, show bs.length - e.l = k by omega] at t1 t2
  have hp := hf.pos
  have hk : 0 < 256 ^ k := Nat.pow_pos (by omega)
  refine ⟨?_, ?_, by omega⟩
  · have : e.n * 256 ^ k < (be (bs.take e.l) + 1) * 256 ^ k := by omega
    have := Nat.lt_of_mul_lt_mul_right this
    omega
  · have : be (bs.take e.l) * 256 ^ k < (e.n + e.r) * 256 ^ k := by omega
    exact Nat.lt_of_mul_lt_mul_right this

theorem even_dec {e : En} (hf : Ends bs f) (h : Reach e.even f) : lvl e.r (be (bs.take e.l) - e.n) (bs.drop e.l ++ more) = decAt bs more e.even := by
  have h0 := between hf ((reach_even e).trans h)
  unfold lvl decAt
  by_cases hr : e.r < 16777216
  · have he : e.even = ⟨e.n * 256, e.l + 1, e.r * 256⟩ := by unfold En.even; rw [if_pos hr]
    obtain ⟨_, _, h3⟩ := between hf h
    rw [he] at h3 ⊢
    have hlt : e.l < bs.length := h3
    rw [if_pos hr, List.drop_eq_getElem_cons hlt]
    show some (e.r * 256, (be (bs.take e.l) - e.n) * 256 + (bs[e.l]).toNat, bs.drop (e.l + 1) ++ more) = some (e.r * 256, be (bs.take (e.l + 1)) - e.n * 256, bs.drop (e.l + 1) ++ more)
    rw [be_take_succ hlt]
    congr 3
    omega
  · have he : e.even = e := by unfold En.even; rw [if_neg hr]
    rw [if_neg hr, he]

def upOf (p b : Nat) : Nat := if b = 0 then up0 p else up1 p
theorem pOk_upOf {p b : Nat} (h : POk p) : POk (upOf p b) := by unfold upOf; split; exact pOk_up0 h; exact pOk_up1 h

theorem bit_dec {e : En} {p b : Nat} (hf : Ends bs f) (he : EnOk e) (hp : POk p) (hb : b ≤ 1) (h : Reach (e.bit p b) f) : bitD (decAt bs more e) p = (b, upOf p b, decAt bs more (e.bit p b)) := by
  obtain ⟨b0, b1⟩ := bound_in he.1 he.2.1 hp
  unfold En.bit at h ⊢
  unfold bitD decAt upOf
  simp only []
  by_cases hb0 : b = 0
  · subst hb0
    rw [if_pos rfl] at h ⊢
    obtain ⟨t1, t2, t3⟩ := between hf ((reach_even _).trans h)
    simp only [] at t1 t2 t3
    rw [if_pos (by omega), if_pos rfl]
    have := even_dec (more := more) hf h
    unfold decAt at this
    simp only [] at this
    rw [this]
  · obtain rfl : b = 1 := by omega
    rw [if_neg hb0] at h ⊢
    obtain ⟨t1, t2, t3⟩ := between hf ((reach_even _).trans h)
    simp only [] at t1 t2 t3
    rw [if_neg (by omega), if_neg hb0]
    have := even_dec (more := more) hf h
    unfold decAt at this
    simp only [] at this
    rw [Nat.sub_sub, this]

theorem one_dec {e : En} {b : Nat} (hf : Ends bs f) (hb : b ≤ 1) (h : Reach (e.one b) f) : oneD (decAt bs more e) = (b, decAt bs more (e.one b)) := by
  unfold En.one at h ⊢
  unfold oneD decAt
  simp only []
  by_cases hb0 : b = 0
  · subst hb0
    rw [if_pos rfl] at h ⊢
    obtain ⟨t1, t2, t3⟩ := between hf ((reach_even _).trans h)
    simp only [] at t1 t2 t3
    rw [if_pos (by omega)]
    have := even_dec (more := more) hf h
    unfold decAt at this
    simp only [] at this
    rw [this]
  · obtain rfl : b = 1 := by omega
    rw [if_neg hb0] at h ⊢
    obtain ⟨t1, t2, t3⟩ := between hf ((reach_even _).trans h)
    simp only [] at t1 t2 t3
    rw [if_neg (by omega), if_pos (by omega)]
    have := even_dec (more := more) hf h
    unfold decAt at this
    simp only [] at this
    rw [Nat.sub_sub, this]

/-! ### numbers told straight -/

/-- bit number i of v, from the least -/
def bitOf (v i : Nat) : Nat := v / 2 ^ i % 2
theorem bitOf_le (v i : Nat) : bitOf v i ≤ 1 := by unfold bitOf; omega
def strE (e : En) (v n : Nat) : Nat → En
  | 0 => e
  | j + 1 => (strE e v n j).one (bitOf v (n - 1 - j))
theorem strE_reach (e : En) (v n : Nat) : ∀ i j, Reach (strE e v n i) (strE e v n (i + j))
  | _, 0 => Reach.refl _
  | i, j + 1 => (strE_reach e v n i j).trans one_reach
theorem strE_ok {e : En} (h : EnOk e) (v n : Nat) : ∀ j, EnOk (strE e v n j)
  | 0 => h
  | j + 1 => one_ok (strE_ok h v n j)
theorem top_bits (v n j : Nat) (hj : j < n) : 2 * (v % 2 ^ n / 2 ^ (n - j)) + bitOf v (n - 1 - j) = v % 2 ^ n / 2 ^ (n - (j + 1)) := by
  obtain ⟨i, hi⟩ : ∃ i, i = n - 1 - j := ⟨_, rfl⟩
  rw [show n - j = i + 1 by omega, show n - (j + 1) = i by omega, ← hi]
  unfold bitOf
  have e1 : v / 2 ^ i % 2 = v % 2 ^ n / 2 ^ i % 2 := by
    have hp : 2 ^ n = 2 ^ i * 2 ^ (n - i) := by rw [← Nat.pow_add]; congr 1; omega
    rw [hp, Nat.mod_mul_right_div_self]
    have h2 : 2 ^ (n - i) = 2 * 2 ^ (n - i - 1) := by rw [Nat.mul_comm, ← Nat.pow_succ]; congr 1; omega
    rw [h2, Nat.mod_mul_right_mod]
  rw [e1, Nat.pow_succ, ← Nat.div_div_eq_div_mul]
  omega
theorem straight_dec {e : En} {v n : Nat} (hf : Ends bs f) (h : Reach (strE e v n n) f) : ∀ j, j ≤ n → straightGo (decAt bs more e) j = (v % 2 ^ n / 2 ^ (n - j), decAt bs more (strE e v n j))
  | 0, _ => by
    show (0, decAt bs more e) = _
    rw [Nat.sub_zero, Nat.div_eq_of_lt (Nat.mod_lt _ (Nat.two_pow_pos n))]
    rfl
  | j + 1, hj => by
    have ih := straight_dec hf h j (by omega)
    have hr : Reach ((strE e v n j).one (bitOf v (n - 1 - j))) f := by
      have := strE_reach e v n (j + 1) (n - (j + 1))
      rw [show j + 1 + (n - (j + 1)) = n by omega] at this
      exact this.trans h
    show (2 * (straightGo (decAt bs more e) j).1 + (oneD (straightGo (decAt bs more e) j).2).1, (oneD (straightGo (decAt bs more e) j).2).2) = _
    rw [ih, one_dec hf (bitOf_le _ _) hr]
    show (2 * (v % 2 ^ n / 2 ^ (n - j)) + bitOf v (n - 1 - j), _) = _
    rw [top_bits v n j hj]
    rfl

/-! ### trees -/

structure Et where
  m : Nat
  ps : List Nat
  e : En
def Et.step (a b : Nat) (t : Et) : Et := ⟨2 * t.m + b, t.ps.set (a + t.m) (upOf (t.ps.getD (a + t.m) 0) b), t.e.bit (t.ps.getD (a + t.m) 0) b⟩
def treE (bits : Nat → Nat) (a : Nat) (ps : List Nat) (e : En) : Nat → Et
  | 0 => ⟨1, ps, e⟩
  | j + 1 => (treE bits a ps e j).step a (bits j)

theorem treE_ok {bits : Nat → Nat} {a n : Nat} {ps : List Nat} {e : En} (hb : ∀ i, bits i ≤ 1) (he : EnOk e) (hp : PsOk ps) (hl : a + 2 ^ n ≤ ps.length) :
    ∀ j, j ≤ n → EnOk (treE bits a ps e j).e ∧ PsOk (treE bits a ps e j).ps ∧ (treE bits a ps e j).ps.length = ps.length ∧ 2 ^ j ≤ (treE bits a ps e j).m ∧ (treE bits a ps e j).m < 2 ^ (j + 1) := by
  intro j
  induction j with
  | zero => intro _; exact ⟨he, hp, rfl, by simp [treE], by simp [treE]⟩
  | succ j ih =>
    intro hj
    obtain ⟨h1, h2, h3, h4, h5⟩ := ih (by omega)
    show EnOk (Et.step a _ _).e ∧ PsOk (Et.step a _ _).ps ∧ (Et.step a _ _).ps.length = _ ∧ _ ≤ (Et.step a _ _).m ∧ (Et.step a _ _).m < _
    generalize treE bits a ps e j = t at *
    have hpow : 2 ^ (j + 1) ≤ 2 ^ n := Nat.pow_le_pow_right (by omega) hj
    have hg := getD_ok h2 (show a + t.m < t.ps.length by omega)
    have hbj := hb j
    have e1 : 2 ^ (j + 1) = 2 * 2 ^ j := by rw [Nat.pow_succ, Nat.mul_comm]
    have e2 : 2 ^ (j + 1 + 1) = 2 * 2 ^ (j + 1) := by rw [Nat.pow_succ, Nat.mul_comm]
    refine ⟨bit_ok h1 hg, psOk_set h2 _ (pOk_upOf hg), by simp [Et.step, h3], ?_, ?_⟩
    · show _ ≤ 2 * t.m + bits j; omega
    · show 2 * t.m + bits j < _; omega
theorem treE_reach {bits : Nat → Nat} {a n : Nat} {ps : List Nat} {e : En} (hb : ∀ i, bits i ≤ 1) (he : EnOk e) (hp : PsOk ps) (hl : a + 2 ^ n ≤ ps.length) (i : Nat) :
    ∀ j, i + j ≤ n → Reach (treE bits a ps e i).e (treE bits a ps e (i + j)).e := by
  intro j
  induction j with
  | zero => intro _; exact Reach.refl _
  | succ j ih =>
    intro hj
    obtain ⟨h1, h2, h3, h4, h5⟩ := treE_ok hb he hp hl (i + j) (by omega)
    have hpow : 2 ^ (i + j + 1) ≤ 2 ^ n := Nat.pow_le_pow_right (by omega) (by omega)
    have hlt : a + (treE bits a ps e (i + j)).m < (treE bits a ps e (i + j)).ps.length := by omega
    exact (ih (by omega)).trans (bit_reach h1 (getD_ok h2 hlt))

theorem tree_dec {bits : Nat → Nat} {a n : Nat} {ps : List Nat} {e : En} (hf : Ends bs f) (hb : ∀ i, bits i ≤ 1) (he : EnOk e) (hp : PsOk ps) (hl : a + 2 ^ n ≤ ps.length) (h : Reach (treE bits a ps e n).e f) :
    ∀ j, j ≤ n → (Tr.go a (Tr.begin ps (decAt bs more e)) j).m = (treE bits a ps e j).m ∧ (Tr.go a (Tr.begin ps (decAt bs more e)) j).ps = (treE bits a ps e j).ps ∧ (Tr.go a (Tr.begin ps (decAt bs more e)) j).d = decAt bs more (treE bits a ps e j).e ∧
      (Tr.go a (Tr.begin ps (decAt bs more e)) j).v = 2 ^ j := by
  intro j
  induction j with
  | zero => intro _; exact ⟨rfl, rfl, rfl, rfl⟩
  | succ j ih =>
    intro hj
    obtain ⟨i1, i2, i3, i4⟩ := ih (by omega)
    obtain ⟨h1, h2, h3, h4, h5⟩ := treE_ok hb he hp hl j (by omega)
    have hpow : 2 ^ (j + 1) ≤ 2 ^ n := Nat.pow_le_pow_right (by omega) hj
    have hr : Reach ((treE bits a ps e j).e.bit ((treE bits a ps e j).ps.getD (a + (treE bits a ps e j).m) 0) (bits j)) f := by
      have := treE_reach hb he hp hl (j + 1) (n - (j + 1)) (by omega)
      rw [show j + 1 + (n - (j + 1)) = n by omega] at this
      exact this.trans h
    have hd := bit_dec (more := more) hf h1 (getD_ok h2 (show a + (treE bits a ps e j).m < (treE bits a ps e j).ps.length by omega)) (hb j) hr
    show (Tr.step a _).m = (Et.step a _ _).m ∧ (Tr.step a _).ps = (Et.step a _ _).ps ∧ (Tr.step a _).d = decAt bs more (Et.step a _ _).e ∧ (Tr.step a _).v = _
    generalize Tr.go a (Tr.begin ps (decAt bs more e)) j = T at *
    generalize treE bits a ps e j = t at *
    have hbit : T.bit a = (bits j, upOf (t.ps.getD (a + t.m) 0) (bits j), decAt bs more (t.e.bit (t.ps.getD (a + t.m) 0) (bits j))) := by
      unfold Tr.bit
      rw [i1, i2, i3, hd]
    refine ⟨?_, ?_, ?_, ?_⟩
    · show 2 * T.m + (T.bit a).1 = 2 * t.m + bits j
      rw [hbit, i1]
    · show T.ps.set (a + T.m) (T.bit a).2.1 = t.ps.set (a + t.m) _
      rw [hbit, i1, i2]
    · show (T.bit a).2.2 = _
      rw [hbit]
      rfl
    · show 2 * T.v = _
      rw [i4, Nat.pow_succ, Nat.mul_comm]
theorem tree_o {bits : Nat → Nat} {a n : Nat} {ps : List Nat} {e : En} (hf : Ends bs f) (hb : ∀ i, bits i ≤ 1) (he : EnOk e) (hp : PsOk ps) (hl : a + 2 ^ n ≤ ps.length) (h : Reach (treE bits a ps e n).e f) :
    ∀ j, j < n → (Tr.go a (Tr.begin ps (decAt bs more e)) (j + 1)).o = (Tr.go a (Tr.begin ps (decAt bs more e)) j).o + bits j * 2 ^ j := by
  intro j hj
  obtain ⟨i1, i2, i3, i4⟩ := tree_dec (more := more) hf hb he hp hl h j (by omega)
  obtain ⟨k1, _⟩ := tree_dec (more := more) hf hb he hp hl h (j + 1) (by omega)
  have e1 : (Tr.go a (Tr.begin ps (decAt bs more e)) (j + 1)).m = 2 * (Tr.go a (Tr.begin ps (decAt bs more e)) j).m + ((Tr.go a (Tr.begin ps (decAt bs more e)) j).bit a).1 := rfl
  have e2 : (treE bits a ps e (j + 1)).m = 2 * (treE bits a ps e j).m + bits j := rfl
  have hbit : ((Tr.go a (Tr.begin ps (decAt bs more e)) j).bit a).1 = bits j := by omega
  show (Tr.go a (Tr.begin ps (decAt bs more e)) j).o + ((Tr.go a (Tr.begin ps (decAt bs more e)) j).bit a).1 * (Tr.go a (Tr.begin ps (decAt bs more e)) j).v = _
  rw [hbit, i4]

/-- the greatest bit first -/
def topBits (v n : Nat) (j : Nat) : Nat := bitOf v (n - 1 - j)
theorem tree_m {v a n : Nat} {ps : List Nat} {e : En} : ∀ j, j ≤ n → (treE (topBits v n) a ps e j).m = 2 ^ j + v % 2 ^ n / 2 ^ (n - j)
  | 0, _ => by
    rw [Nat.sub_zero, Nat.div_eq_of_lt (Nat.mod_lt _ (Nat.two_pow_pos n))]
    rfl
  | j + 1, hj => by
    show 2 * (treE (topBits v n) a ps e j).m + bitOf v (n - 1 - j) = _
    rw [tree_m j (by omega), ← top_bits v n j hj, Nat.pow_succ]
    omega
theorem low_bits (v j : Nat) : v % 2 ^ j + bitOf v j * 2 ^ j = v % 2 ^ (j + 1) := by
  unfold bitOf
  rw [Nat.pow_succ, Nat.mod_mul, Nat.mul_comm]
theorem rev_o {v a n : Nat} {ps : List Nat} {e : En} (hf : Ends bs f) (he : EnOk e) (hp : PsOk ps) (hl : a + 2 ^ n ≤ ps.length) (h : Reach (treE (bitOf v) a ps e n).e f) :
    ∀ j, j ≤ n → (Tr.go a (Tr.begin ps (decAt bs more e)) j).o = v % 2 ^ j
  | 0, _ => by rw [Nat.pow_zero, Nat.mod_one]; rfl
  | j + 1, hj => by rw [tree_o hf (bitOf_le v) he hp hl h j hj, rev_o hf he hp hl h j (by omega), low_bits]

/-! ### questions -/

/-- what is coded of a question: the probabilities then, and the coder -/
def askE (ps : List Nat) (e : En) (k a n v : Nat) : List Nat × En :=
  if k = 0 then (ps.set a (upOf (ps.getD a 0) (v % 2)), e.bit (ps.getD a 0) (v % 2))
  else if k = 3 then (ps, strE e v n n)
  else if k = 1 then ((treE (topBits v n) a ps e n).ps, (treE (topBits v n) a ps e n).e)
  else ((treE (bitOf v) a ps e n).ps, (treE (bitOf v) a ps e n).e)
def wantOf (k n v : Nat) : Nat := if k = 0 then v % 2 else v % 2 ^ n

theorem begin_arith (z a b c d : Nat) (h : (((z * 256 + a) * 256 + b) * 256 + c) * 256 + d < 0 + 4294967295) : z = 0 ∧ ((a * 256 + b) * 256 + c) * 256 + d < 4294967295 := by omega
theorem started_dec (hf : Ends bs f) (h : Reach En.new f) : started (bs ++ more) = decAt bs more En.new := by
  obtain ⟨h1, h2, h3⟩ := between hf h
  match bs, h3 with
  | z :: a :: b :: c :: d :: t, _ =>
    have e5 : be (List.take En.new.l (z :: a :: b :: c :: d :: t)) = (((z.toNat * 256 + a.toNat) * 256 + b.toNat) * 256 + c.toNat) * 256 + d.toNat := by
      show be [z, a, b, c, d] = _
      simp [be]
    rw [e5] at h2
    obtain ⟨hz, hc⟩ := begin_arith _ _ _ _ _ h2
    unfold started decAt
    rw [e5]
    simp only [List.cons_append]
    rw [if_pos ⟨hz, hc⟩, hz]
    show some (4294967295, _, t ++ more) = some (4294967295, _ - 0, t ++ more)
    simp

/-- In the end the decoder's code is 0, and just what stood behind is left. -/
theorem ends_dec (hf : Ends bs f) : decAt bs more f = some (f.r, 0, more) := by
  unfold decAt
  rw [← hf.len, List.take_length, List.drop_length, hf.num, Nat.sub_self]
  rfl
end

theorem ends_of {bs : List UInt8} {f : En} (h : EnOk f) (h1 : be bs = f.n) (h2 : bs.length = f.l) : Ends bs f := ⟨h1, h2, by have := h.1; omega⟩

/-! ### lengths -/
theorem even_len (e : En) : e.even.l ≤ e.l + 1 := by unfold En.even; split; exact Nat.le_refl _; omega
theorem bit_len (e : En) (p b : Nat) : (e.bit p b).l ≤ e.l + 1 := by unfold En.bit; split; exact even_len _; exact even_len _
theorem one_len (e : En) (b : Nat) : (e.one b).l ≤ e.l + 1 := by unfold En.one; split; exact even_len _; exact even_len _
theorem strE_len (e : En) (v n : Nat) : ∀ j, (strE e v n j).l ≤ e.l + j
  | 0 => Nat.le_refl _
  | j + 1 => by have := one_len (strE e v n j) (bitOf v (n - 1 - j)); have := strE_len e v n j; show ((strE e v n j).one _).l ≤ _; omega
theorem treE_len (bits : Nat → Nat) (a : Nat) (ps : List Nat) (e : En) : ∀ j, (treE bits a ps e j).e.l ≤ e.l + j
  | 0 => Nat.le_refl _
  | j + 1 => by
    have := treE_len bits a ps e j
    have := bit_len (treE bits a ps e j).e ((treE bits a ps e j).ps.getD (a + (treE bits a ps e j).m) 0) (bits j)
    show ((treE bits a ps e j).e.bit _ _).l ≤ _
    omega
/-- what is added fits -/
theorem enIn_fits {e : En} (h : EnIn e) {v : Nat} (hv : v ≤ e.r) : e.n + v < 256 ^ e.l := by
  obtain ⟨h1, h2⟩ := h
  have hp : 256 ^ e.l = 1099511627776 * 256 ^ (e.l - 5) := by
    rw [show (1099511627776 : Nat) = 256 ^ 5 from rfl, ← Nat.pow_add]
    congr 1
    omega
  have : 0 < 256 ^ (e.l - 5) := Nat.pow_pos (by omega)
  rw [hp]
  omega

/-! ### bits 0, one behind the other, with one probability -/

def likely : Nat → Nat × En
  | 0 => (1024, En.new)
  | k + 1 => (up0 (likely k).1, (likely k).2.bit (likely k).1 0)
/-- the same, as its range and its length alone -/
def likR (s : Nat × Nat × Nat) : Nat × Nat × Nat := if s.2.1 / 2048 * s.1 < 16777216 then (up0 s.1, s.2.1 / 2048 * s.1 * 256, s.2.2 + 1) else (up0 s.1, s.2.1 / 2048 * s.1, s.2.2)
/-- k bits from s on, the i-th of them all: as many bytes as may be, at each -/
def likOk : Nat → Nat → Nat × Nat × Nat → Bool
  | 0, _, _ => true
  | f + 1, i, s => Nat.ble s.2.2 (12 + i / 40) && likOk f (i + 1) (likR s)
theorem likely_ok : ∀ k, EnOk (likely k).2 ∧ POk (likely k).1
  | 0 => ⟨enOk_new, pOk_fresh⟩
  | k + 1 => ⟨bit_ok (likely_ok k).1 (likely_ok k).2, pOk_up0 (likely_ok k).2⟩
end Go.Proofs.Ytdnkoeafnnohnaa
