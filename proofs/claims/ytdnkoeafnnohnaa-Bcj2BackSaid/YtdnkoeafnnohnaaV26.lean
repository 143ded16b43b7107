/-
  B2Sim: put together.
-/
import Derived.Test.YtdnkoeafnnohnaaV03
set_option linter.unusedVariables false
set_option linter.unusedSimpArgs false
/-
  What the filter tells byte by byte is what the document tells of the streams.
-/
namespace Go.Proofs.Ytdnkoeafnnohnaa

theorem bitD_zero {d : Dc} {p : Nat} (h : (bitD d p).2.2 = none) : (bitD d p).1 = 0 := by
  cases d with
  | none => rfl
  | some x =>
    obtain ⟨r, c, s⟩ := x
    by_cases hc : c < r / 2048 * p
    · have e : bitD (some (r, c, s)) p = (0, up0 p, lvl (r / 2048 * p) c s) := if_pos hc
      rw [e]
    · have e : bitD (some (r, c, s)) p = (match lvl (r - r / 2048 * p) (c - r / 2048 * p) s with
        | none => (0, up1 p, none)
        | some t => (1, up1 p, some t)) := if_neg hc
      rw [e] at h ⊢
      cases hl : lvl (r - r / 2048 * p) (c - r / 2048 * p) s with
      | none => rfl
      | some t => rw [hl] at h; cases h

def B2.aft (s : B2) (d : Dc) (q : Nat) : B2 := { s.shut with d := d, ps := s.ps.set s.num q }
def B2.k (s : B2) : K2 := ⟨s.src 1, s.src 2, s.d, s.ps⟩
/-- what holds between what was told and the filter -/
structure B2In (size : Nat) (s : B2) (out : List UInt8) : Prop where
  told : s.told = wr32 out.length
  left : s.left = size - out.length
  le : out.length ≤ size
  wait : 0 < s.waits → s.opn = false ∧ s.waits ≤ s.left
/-- what will have been told, where no bit is to be decoded -/
def ansM (size : Nat) (s : B2) (out : List UInt8) : Option (List UInt8) :=
  if s.bad = true then none
  else if 0 < s.waits then goR size (s.src 0) s.k (out ++ leB s.target s.waits) (lastB s.ahead s.target s.waits)
  else goR size (s.src 0) s.k out s.ahead
def ansO (size : Nat) (s : B2) (out : List UInt8) : Option (List UInt8) :=
  match bitB size s.k out s.num s.ahead with
  | none => none
  | some (k', o', a') => goR size (s.src 0) k' o' a'
def ansB (size : Nat) (s : B2) (out : List UInt8) : Option (List UInt8) :=
  if s.bad = true then none
  else if s.opn = true ∧ out.length ≠ size then ansO size s out
  else ansM size s out
/-- bytes that may still be told -/
def B2.mu (s : B2) : Nat := (s.src 0).length + (s.src 1).length + (s.src 2).length + s.waits

section
variable {size : Nat} {s : B2} {out : List UInt8}
theorem not_bad (h : s.bad = false) : s.dead = false ∧ ∃ r, s.d = some r := by
  unfold B2.bad at h
  rw [Bool.or_eq_false_iff] at h
  refine ⟨h.1, ?_⟩
  cases hd : s.d with
  | none => rw [hd] at h; cases h.2
  | some r => exact ⟨r, rfl⟩
theorem bad_d (h : s.d = none) : s.bad = true := by unfold B2.bad; rw [h]; simp
theorem bad_dead (h : s.dead = true) : s.bad = true := by unfold B2.bad; rw [h]; simp
theorem bad_some {r : Nat × Nat × List UInt8} (hd : s.dead = false) (h : s.d = some r) : s.bad = false := by unfold B2.bad; rw [hd, h]; rfl

theorem read_cons {k : Nat} {x : UInt8} {t : List UInt8} (hb : s.bad = false) (h : s.src k = x :: t) : s.read k = (x.toNat, { s with src := fun i => if i = k then t else s.src i }) := by
  unfold B2.read
  rw [if_neg (by rw [hb]; simp), h]
theorem read_nil {k : Nat} (hb : s.bad = false) (h : s.src k = []) : s.read k = (0, { s with dead := true }) := by
  unfold B2.read
  rw [if_neg (by rw [hb]; simp), h]
theorem read_bad {k : Nat} (hb : s.bad = true) : s.read k = (0, s) := by
  unfold B2.read
  rw [if_pos hb]
/-- read, and not bad: there was a byte -/
theorem read_good {k : Nat} (h : (s.read k).2.bad = false) : ∃ x t, s.bad = false ∧ s.src k = x :: t ∧ s.read k = (x.toNat, { s with src := fun i => if i = k then t else s.src i }) := by
  cases hb : s.bad with
  | true => rw [read_bad hb] at h; rw [hb] at h; cases h
  | false =>
    cases hs : s.src k with
    | nil => rw [read_nil hb hs] at h; rw [bad_dead rfl] at h; cases h
    | cons x t => exact ⟨x, t, rfl, rfl, read_cons hb hs⟩
theorem many_len {k : Nat} : ∀ j, (B2.many k j (0, s)).2.bad = false → (s.src k).length = ((B2.many k j (0, s)).2.src k).length + j
  | 0, _ => rfl
  | j + 1, h => by
    obtain ⟨x, t, hb, hs, hr⟩ := read_good (s := (B2.many k j (0, s)).2) (k := k) h
    have ih := many_len j hb
    show _ = (((B2.many k j (0, s)).2.read k).2.src k).length + (j + 1)
    rw [hr, ih, hs]
    simp
    omega
theorem many_four {k : Nat} {a b c e : UInt8} {t : List UInt8} (hb : s.bad = false) (h : s.src k = a :: b :: c :: e :: t) :
    B2.many k 4 (0, s) = (((a.toNat * 256 + b.toNat) * 256 + c.toNat) * 256 + e.toNat, { s with src := fun i => if i = k then t else s.src i }) := by
  have h1 := read_cons hb h
  have h2 := read_cons (s := { s with src := fun i => if i = k then b :: c :: e :: t else s.src i }) (k := k) hb (if_pos rfl)
  have h3 := read_cons (s := { s with src := fun i => if i = k then c :: e :: t else (if i = k then b :: c :: e :: t else s.src i) }) (k := k) hb (if_pos rfl)
  have h4 := read_cons (s := { s with src := fun i => if i = k then e :: t else (if i = k then c :: e :: t else (if i = k then b :: c :: e :: t else s.src i)) }) (k := k) hb (if_pos rfl)
  simp only [B2.many, h1, h2, h3, h4]
  refine Prod.ext ?_ ?_
  · simp
  · simp only []
    congr 1
    funext i
    by_cases e : i = k
    · rw [if_pos e, if_pos e]
    · simp only [if_neg e]
theorem take4_some {l : List UInt8} {p : Nat} {t : List UInt8} (h : take4 l = some (p, t)) : ∃ a b c e, l = a :: b :: c :: e :: t ∧ p = ((a.toNat * 256 + b.toNat) * 256 + c.toNat) * 256 + e.toNat := by
  match l, h with
  | a :: b :: c :: e :: t', h =>
    simp only [take4, Option.some.injEq, Prod.mk.injEq] at h
    exact ⟨a, b, c, e, by rw [h.2], h.1.symm⟩

theorem ansM_bad (h : s.bad = true) : ansM size s out = none := by unfold ansM; rw [if_pos h]
theorem ansM_go (h : s.bad = false) (hw : s.waits = 0) : ansM size s out = goR size (s.src 0) s.k out s.ahead := by
  unfold ansM
  rw [if_neg (by rw [h]; simp), if_neg (by omega)]
theorem ansM_wait (h : s.bad = false) (hw : 0 < s.waits) : ansM size s out = goR size (s.src 0) s.k (out ++ leB s.target s.waits) (lastB s.ahead s.target s.waits) := by
  unfold ansM
  rw [if_neg (by rw [h]; simp), if_pos hw]

/-- The bit of an instruction is decided. -/
theorem dec_ans (h : B2In size s out) (hl : s.left ≠ 0) (ho : s.opn = true) (hb : s.bad = false) : ansM size s.dec out = ansO size s out := by
  have hw : s.waits = 0 := by
    rcases Nat.eq_zero_or_pos s.waits with e | e
    · exact e
    · have := (h.wait e).1; rw [ho] at this; cases this
  obtain ⟨hd, r, hr⟩ := not_bad hb
  have hlt : out.length + s.left = size := by have := h.left; have := h.le; omega
  unfold ansO bitB
  show _ = match (match bitD s.d (s.ps.getD s.num 0) with
    | (_, _, none) => none
    | (0, q, some d) => some ((⟨s.src 1, s.src 2, some d, s.ps.set s.num q⟩ : K2), out, s.ahead)
    | (_ + 1, q, some d) =>
      if size < out.length + 4 then none
      else if s.num < 256 then
        match take4 (s.src 1) with
        | none => none
        | some (p, t) => some ((⟨t, s.src 2, some d, s.ps.set s.num q⟩ : K2), out ++ leB (tgt p out.length) 4, lastB s.ahead (tgt p out.length) 4)
      else
        match take4 (s.src 2) with
        | none => none
        | some (p, t) => some ((⟨s.src 1, t, some d, s.ps.set s.num q⟩ : K2), out ++ leB (tgt p out.length) 4, lastB s.ahead (tgt p out.length) 4)) with
    | none => none
    | some (k', o', a') => goR size (s.src 0) k' o' a'
  have hbit : s.shut.bit = ((bitD s.d (s.ps.getD s.num 0)).1, { s.shut with d := (bitD s.d (s.ps.getD s.num 0)).2.2, ps := s.ps.set s.num (bitD s.d (s.ps.getD s.num 0)).2.1 }) := rfl
  have hz := bitD_zero (d := s.d) (p := s.ps.getD s.num 0)
  unfold B2.dec
  rw [if_neg (by rw [hb]; simp), hbit]
  generalize bitD s.d (s.ps.getD s.num 0) = x at *
  obtain ⟨v, q, dd⟩ := x
  cases dd with
  | none =>
    have hv : v = 0 := hz rfl
    subst hv
    simp only [if_true]
    exact ansM_bad (bad_d rfl)
  | some d1 =>
    cases v with
    | zero =>
      simp only [if_true]
      exact ansM_go (bad_some (r := d1) hd rfl) hw
    | succ v =>
      simp only [Nat.add_one_ne_zero, if_false]
      by_cases h4 : s.left < 4
      · rw [if_pos h4, if_pos (by omega)]
        exact ansM_bad (bad_dead rfl)
      · rw [if_neg h4, if_neg (by omega)]
        show ansM size (B2.put4 (s.aft (some d1) q).place) out = _
        have hgb : (s.aft (some d1) q).bad = false := bad_some (r := d1) hd rfl
        have hto : s.told = wr32 out.length := h.told
        by_cases h256 : s.num < 256
        · rw [if_pos h256]
          have hst : (s.aft (some d1) q).strm = 1 := if_pos h256
          have hpl : (s.aft (some d1) q).place = B2.many 1 4 (0, s.aft (some d1) q) := by unfold B2.place; rw [hst]
          cases ht : take4 (s.src 1) with
          | none =>
            refine ansM_bad ?_
            cases hbb : (B2.put4 (s.aft (some d1) q).place).bad with
            | true => rfl
            | false =>
              have hm : (B2.many 1 4 (0, (s.aft (some d1) q))).2.bad = false := by rw [← hpl]; exact hbb
              have h1 : (s.src 1).length = _ + 4 := many_len (s := s.aft (some d1) q) 4 hm
              have := take4_none ht
              omega
          | some pt =>
            obtain ⟨p, t⟩ := pt
            obtain ⟨a, b, c, e, hl1, hp⟩ := take4_some ht
            have hm := many_four (s := s.aft (some d1) q) (k := 1) hgb hl1
            rw [hpl, hm, ← hp]
            refine (ansM_wait (s := B2.put4 (p, { (s.aft (some d1) q) with src := fun i => if i = 1 then t else s.src i })) (bad_some (r := d1) hd rfl) (show 0 < 4 by decide)).trans ?_
            show goR size (s.src 0) (⟨t, s.src 2, some d1, s.ps.set s.num q⟩ : K2) (out ++ leB (wr32 (8589934592 + p - s.told - 4)) 4) (lastB s.ahead (wr32 (8589934592 + p - s.told - 4)) 4) = _
            rw [hto]
            rfl
        · rw [if_neg h256]
          have hst : (s.aft (some d1) q).strm = 2 := if_neg h256
          have hpl : (s.aft (some d1) q).place = B2.many 2 4 (0, s.aft (some d1) q) := by unfold B2.place; rw [hst]
          cases ht : take4 (s.src 2) with
          | none =>
            refine ansM_bad ?_
            cases hbb : (B2.put4 (s.aft (some d1) q).place).bad with
            | true => rfl
            | false =>
              have hm : (B2.many 2 4 (0, (s.aft (some d1) q))).2.bad = false := by rw [← hpl]; exact hbb
              have h1 : (s.src 2).length = _ + 4 := many_len (s := s.aft (some d1) q) 4 hm
              have := take4_none ht
              omega
          | some pt =>
            obtain ⟨p, t⟩ := pt
            obtain ⟨a, b, c, e, hl1, hp⟩ := take4_some ht
            have hm := many_four (s := s.aft (some d1) q) (k := 2) hgb hl1
            rw [hpl, hm, ← hp]
            refine (ansM_wait (s := B2.put4 (p, { (s.aft (some d1) q) with src := fun i => if i = 2 then t else s.src i })) (bad_some (r := d1) hd rfl) (show 0 < 4 by decide)).trans ?_
            show goR size (s.src 0) (⟨s.src 1, t, some d1, s.ps.set s.num q⟩ : K2) (out ++ leB (wr32 (8589934592 + p - s.told - 4)) 4) (lastB s.ahead (wr32 (8589934592 + p - s.told - 4)) 4) = _
            rw [hto]
            rfl
end
end Go.Proofs.Ytdnkoeafnnohnaa
