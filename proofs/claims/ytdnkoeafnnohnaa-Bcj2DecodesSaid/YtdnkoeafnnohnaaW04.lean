/-
  B2RefM, B2Open, RcPure: put together.
-/
import Derived.Test.YtdnkoeafnnohnaaW01
import Derived.Test.YtdnkoeafnnohnaaW02
import Derived.Test.YtdnkoeafnnohnaaW03
import Derived.Lib.SmallJoins
set_option linter.unusedVariables false
set_option linter.unusedSimpArgs false
/-
  The document's decoder of four streams in memory.
-/
namespace Go.Proofs.Ytdnkoeafnnohnaa
open Go.RowKit

/-- four rows as an argument -/
def fourA (A : Nat → Option Addr) (c : Nat → Nat) (l : Nat → List UInt8) : Array Value :=
  #[.slice (A 0) (l 0).length (c 0), .slice (A 1) (l 1).length (c 1), .slice (A 2) (l 2).length (c 2), .slice (A 3) (l 3).length (c 3)]
/-- four rows: each within its bounds -/
structure FourOk (w : World) (A : Nat → Option Addr) (c : Nat → Nat) (l : Nat → List UInt8) : Prop where
  sl : ∀ i, i < 4 → Sl w (A i) (l i).length (bv (l i))
  cap : ∀ i, i < 4 → (l i).length ≤ c i ∧ c i ≤ maxLen
  len : ∀ i, i < 4 → (l i).length ≤ 16400
/-- the document's decoder: the argument's box, the decoder at block g, the probabilities at block b, what was told -/
structure R15 (w0 w : World) (A : Nat → Option Addr) (c : Nat → Nat) (l : Nat → List UInt8) (g b pc : Nat) (O : Option Addr) (co : Nat) (ps : List Nat) (d : Dc) (out : List UInt8) : Prop where
  four : FourOk w0 A c l
  bel : Below w0.heap.size w0 w
  box : Blk w w0.heap.size 24 (fourA A c l)
  rf : Rf w g (A 3) (c 3) (l 3) d
  row : Row w b ps pc
  own : w.ownsRow w0.heap.size 5 1 (.slice O out.length co) out.length (bv out)
  gb : w0.heap.size < g ∧ w0.heap.size < b ∧ g ≠ b
  off : ∀ q, (Value.slice O out.length co).ownBlock = some q → q ≠ w0.heap.size ∧ q ≠ g ∧ q ≠ b
  d_ok : DcOk d
  ps_ok : PsOk ps
  ps_len : ps.length = 258

theorem own_onlyV {w w' : World} {S : Nat → Prop} {base : Nat} {e : TypeId} {v : Value} {n : Nat} {xs : List Value} (h : w.ownsRow base e 1 v n xs) (hO : Only S w w') (hS : ∀ b, v.ownBlock = some b → ¬ S b) : w'.ownsRow base e 1 v n xs := by
  refine ⟨h.1, ?_⟩
  rcases h.2 with hn | ⟨g, cap, cur, rfl, hb, hgg, rest⟩
  · exact .inl hn
  · have hlt : g < w.heap.size := (Array.getElem?_eq_some_iff.1 hgg).1
    exact .inr ⟨g, cap, cur, rfl, hb, (hO.block g hlt (hS g rfl)).trans hgg, rest⟩
theorem own_at {w : World} {base : Nat} {e : TypeId} {v : Value} {n : Nat} {xs : List Value} (h : w.ownsRow base e 1 v n xs) {b : Nat} (hb : v.ownBlock = some b) : base ≤ b ∧ b < w.heap.size := by
  rcases h.2 with ⟨rfl, _⟩ | ⟨g, cap, cur, rfl, h1, h2, _⟩
  · cases hb
  · injection hb with hb
    subst hb
    exact ⟨h1, (Array.getElem?_eq_some_iff.1 h2).1⟩

section
variable {w0 w w' : World} {A : Nat → Option Addr} {c : Nat → Nat} {l : Nat → List UInt8} {g b pc : Nat} {O : Option Addr} {co : Nat} {ps : List Nat} {d : Dc} {out : List UInt8}
theorem R15.sl (h : R15 w0 w A c l g b pc O co ps d out) {i : Nat} (hi : i < 4) : Sl w (A i) (l i).length (bv (l i)) := (h.four.sl i hi).below h.bel
theorem R15.old (h : R15 w0 w A c l g b pc O co ps d out) {i : Nat} (hi : i < 4) (h0 : 0 < (l i).length) : ∀ q o, A i = some ⟨q, o, none⟩ → q < w0.heap.size := fun q o e => by
  obtain ⟨q', o', e', hlt, _⟩ := (h.four.sl i hi).2 h0
  rw [e'] at e
  injection e with e
  injection e with e
  omega
theorem R15.drewN (h : R15 w0 w A c l g b pc O co ps d out) (n : Nat) : R15 w0 (w.drewN n) A c l g b pc O co ps d out :=
  ⟨h.four, below_drewN h.bel n, h.box, h.rf.only ((Only.refl (fun _ => False) w).drewN n) (fun h => h), h.row, own_onlyV h.own ((Only.refl (fun _ => False) w).drewN n) (fun _ _ h => h), h.gb, h.off, h.d_ok, h.ps_ok, h.ps_len⟩
/-- new blocks are made -/
theorem R15.below (h : R15 w0 w A c l g b pc O co ps d out) (hb : Below w.heap.size w w') : R15 w0 w' A c l g b pc O co ps d out :=
  have hO := Only.of_below (S := fun _ => False) hb
  ⟨h.four, h.bel.trans (hb.mono h.bel.size), h.box.only hO (fun h => h), h.rf.only hO (fun h => h), h.row.only hO (fun h => h), own_onlyV h.own hO (fun _ _ h => h), h.gb, h.off, h.d_ok, h.ps_ok, h.ps_len⟩
/-- the decoder turns -/
theorem R15.turn {d' : Dc} (h : R15 w0 w A c l g b pc O co ps d out) (hR : Rf w' g (A 3) (c 3) (l 3) d') (hg : w.grownBy w' (some g)) (hd : DcOk d') : R15 w0 w' A c l g b pc O co ps d' out :=
  have hO := Only.of_grown (S := fun i => i = g) hg rfl
  ⟨h.four, h.bel.trans (hO.below h.bel.size (fun i hi => by have := h.gb; omega)), h.box.only hO (fun e => by have := h.gb; omega), hR, h.row.only hO (fun e => h.gb.2.2 e.symm), own_onlyV h.own hO (fun q hq e => (h.off q hq).2.1 e), h.gb, h.off, hd, h.ps_ok, h.ps_len⟩
/-- a probability turns -/
theorem R15.set (h : R15 w0 w A c l g b pc O co ps d out) (i : Nat) {q : Nat} (hq : POk q) : R15 w0 (w.setCell ⟨b, i, none⟩ (.int .u16 (q : Int))) A c l g b pc O co (ps.set i q) d out :=
  have hO := (Only.refl (fun i => i = b) w).setCell (p := ⟨b, i, none⟩) (.inl rfl) (.int .u16 (q : Int))
  ⟨h.four, h.bel.trans (hO.below h.bel.size (fun i hi => by have := h.gb; omega)), h.box.only hO (fun e => by have := h.gb; omega), h.rf.only hO (fun e => h.gb.2.2 e), h.row.put i q, own_onlyV h.own hO (fun q hq e => (h.off q hq).2.2 e), h.gb, h.off, h.d_ok, psOk_set h.ps_ok i hq, by rw [List.length_set]; exact h.ps_len⟩
/-- bytes are told -/
theorem R15.app {O' : Option Addr} {co' : Nat} {x : List UInt8} {w1 : World} (h : R15 w0 w A c l g b pc O co ps d out) (hb : Below w.heap.size w w1) (ho : w'.ownsRow w0.heap.size 5 1 (.slice O' (out ++ x).length co') (out ++ x).length (bv (out ++ x)))
    (hg : w1.grownBy w' (Value.slice O out.length co).ownBlock) (hn : (Value.slice O' (out ++ x).length co').ownBlock = (Value.slice O out.length co).ownBlock ∨ (Value.slice O' (out ++ x).length co').ownBlock = some w1.heap.size) :
    R15 w0 w' A c l g b pc O' co' ps d (out ++ x) := by
  have h1 := h.below hb
  have hO : Only (fun i => (Value.slice O out.length co).ownBlock = some i) w1 w' := ⟨hg.os, hg.tape, hg.output, hg.size, fun i hi hne => hg.block i hi (fun e => hne e.symm)⟩
  refine ⟨h.four, h1.bel.trans (hO.below h1.bel.size (fun i hi => (own_at h1.own hi).1)), h1.box.only hO (fun e => (h.off _ e).1 rfl), h1.rf.only hO (fun e => (h.off _ e).2.1 rfl), h1.row.only hO (fun e => (h.off _ e).2.2 rfl), ho, h.gb, fun q hq => ?_, h.d_ok, h.ps_ok, h.ps_len⟩
  rcases hn with e | e
  · exact h.off q (e ▸ hq)
  · rw [e] at hq
    injection hq with hq
    have h2 := h1.box.lt
    have h3 := h1.rf.lt
    have h4 := h1.row.lt
    omega
theorem R15.bad (h : R15 w0 w A c l g b pc O co ps d out) : w.cell? ⟨g, 4, none⟩ = some (.bool d.isNone) := by
  obtain ⟨at_, r, k, bad, hB, _, _, _, ht⟩ := h.rf
  have e : bad = d.isNone := by
    rcases ht with ⟨rfl, e⟩ | ⟨rfl, e⟩ <;> rw [e] <;> rfl
  rw [← e]
  exact hB.cell 4
theorem R15.free (h : R15 w0 w A c l g b pc O co ps d out) (i : Nat) : w.frozen? ⟨b, i, none⟩ = false := h.row.free i
theorem R15.prob (h : R15 w0 w A c l g b pc O co ps d out) {i : Nat} (hi : i < 258) : w.cell? ⟨b, i, none⟩ = some (.int .u16 ((ps.getD i 0 : Nat) : Int)) := h.row.cell (by rw [h.ps_len]; exact hi)
theorem R15.fld (h : R15 w0 w A c l g b pc O co ps d out) :
    w.cell? ⟨w0.heap.size, 0, none⟩ = some (.slice (A 0) (l 0).length (c 0)) ∧ w.cell? ⟨w0.heap.size, 1, none⟩ = some (.slice (A 1) (l 1).length (c 1)) ∧
    w.cell? ⟨w0.heap.size, 2, none⟩ = some (.slice (A 2) (l 2).length (c 2)) ∧ w.cell? ⟨w0.heap.size, 3, none⟩ = some (.slice (A 3) (l 3).length (c 3)) :=
  ⟨h.box.cell 0, h.box.cell 1, h.box.cell 2, h.box.cell 3⟩
end

/-- what the document's Decode leaves -/
def RdPost (w : World) (ans : Option (List UInt8)) (e : Ending) (w' : World) : Prop :=
  Below w.heap.size w w' ∧ ((ans = none ∧ e = .returned (.tuple #[.slice none 0 0, .int .i64 12])) ∨
    (∃ out O co, ans = some out ∧ e = .returned (.tuple #[.slice O out.length co, .int .i64 0]) ∧ Sl w' O out.length (bv out)))
end Go.Proofs.Ytdnkoeafnnohnaa

/-
  Four rows that come in, opened.
-/
namespace Go.Proofs.Ytdnkoeafnnohnaa
open Go.ChangeShapes Go.WideShapes Go.ChangeAt Go.RowKit
section
variable {H : Type} {enc : TypeId × Value → H} {P : Program} {w : World} {base : Nat} {held : Bool}
theorem open_bytesV {t e : TypeId} (ht : P.underlying t = some (.slice e)) (he : P.underlying e = some (.int .u8)) (hc : P.cellsOf e = 1)
    {v : Value} {n : Nat} {y : DataW H × List MemPlace} (hf : DataW.trod enc P w 0 (fun _ => true) held n t [v] = some y) :
    ∃ (A : Option Addr) (cap : Nat) (bs : List UInt8), v = .slice A bs.length cap ∧ Sl w A bs.length (bv bs) ∧ bs.length ≤ cap ∧ cap ≤ maxLen := by
  rcases open_ints ht he hc hf with ⟨hcs, _⟩ | ⟨x, l, c, zs, hcs, _⟩
  · simp only [List.cons.injEq, and_true] at hcs
    subst hcs
    exact ⟨none, 0, [], rfl, Sl.nil, Nat.le_refl _, by unfold maxLen; omega⟩
  · simp only [List.cons.injEq, and_true] at hcs
    subst hcs
    obtain ⟨bs, h1, h2, h3⟩ := open_bytes (held := held) (d := y.1) (ps := y.2) ht he hc (A := some x) (len := l) (cap := c) ⟨n, by simpa [Value.cells] using hf⟩
    have hl : bs.length = l := by rw [← bv_length]; exact h1.1
    subst hl
    exact ⟨some x, c, bs, rfl, h1, h2, h3⟩
theorem open_four {r : Reach} {b0 : Nat} {t s e : TypeId} {f0 f1 f2 f3 : Field} {v : Value} {d : DataW H} {p : List MemPlace} (hs : P.underlying t = some (.struct #[f0, f1, f2, f3])) (hone : Go.Deep.oneCellFields P #[f0, f1, f2, f3] = true) (hC : P.cellsOf t = 4)
    (k0 : f0.type = s) (k1 : f1.type = s) (k2 : f2.type = s) (k3 : f3.type = s) (ht : P.underlying s = some (.slice e)) (he : P.underlying e = some (.int .u8)) (hc : P.cellsOf e = 1)
    (hv : Value.okWide P w r b0 t v) (h : DataW.Trod enc P w 0 (fun _ => true) held t v d p) :
    ∃ (A : Nat → Option Addr) (c : Nat → Nat) (l : Nat → List UInt8), v = .agg (fourA A c l) ∧ ∀ i, i < 4 → Sl w (A i) (l i).length (bv (l i)) ∧ (l i).length ≤ c i ∧ c i ≤ maxLen := by
  obtain ⟨v0, v1, v2, v3, y0, y1, y2, y3, n, rfl, _, _, h0, h1, h2, h3⟩ := Go.Joins.open_agg4 hs hone hC hv h
  rw [k0] at h0
  rw [k1] at h1
  rw [k2] at h2
  rw [k3] at h3
  obtain ⟨A0, c0, b0, rfl, g0⟩ := open_bytesV ht he hc h0
  obtain ⟨A1, c1, b1, rfl, g1⟩ := open_bytesV ht he hc h1
  obtain ⟨A2, c2, b2, rfl, g2⟩ := open_bytesV ht he hc h2
  obtain ⟨A3, c3, b3, rfl, g3⟩ := open_bytesV ht he hc h3
  refine ⟨fun i => if i = 0 then A0 else if i = 1 then A1 else if i = 2 then A2 else A3, fun i => if i = 0 then c0 else if i = 1 then c1 else if i = 2 then c2 else c3, fun i => if i = 0 then b0 else if i = 1 then b1 else if i = 2 then b2 else b3, rfl, fun i hi => ?_⟩
  have : i = 0 ∨ i = 1 ∨ i = 2 ∨ i = 3 := by omega
  rcases this with rfl | rfl | rfl | rfl
  · exact g0
  · exact g1
  · exact g2
  · exact g3
end
end Go.Proofs.Ytdnkoeafnnohnaa

/-
  The range coder as numbers: its bytes as one great number, how many they are, its range; and what the decoder tells of what it coded.
-/
namespace Go.Proofs.Ytdnkoeafnnohnaa

structure En where
  n : Nat
  l : Nat
  r : Nat

def En.new : En := ⟨0, 5, 4294967295⟩
/-- evened out -/
def En.even (e : En) : En := if e.r < 16777216 then ⟨e.n * 256, e.l + 1, e.r * 256⟩ else e
def En.bit (e : En) (p b : Nat) : En := if b = 0 then En.even ⟨e.n, e.l, e.r / 2048 * p⟩ else En.even ⟨e.n + e.r / 2048 * p, e.l, e.r - e.r / 2048 * p⟩
def En.one (e : En) (b : Nat) : En := if b = 0 then En.even ⟨e.n, e.l, e.r / 2⟩ else En.even ⟨e.n + e.r / 2, e.l, e.r / 2⟩

/-- its number and its range are within the bytes, a first byte 0 left -/
def EnIn (e : En) : Prop := 5 ≤ e.l ∧ e.n + e.r ≤ 4294967295 * 256 ^ (e.l - 5)
def EnOk (e : En) : Prop := 16777216 ≤ e.r ∧ e.r < 4294967296 ∧ EnIn e
theorem enOk_new : EnOk En.new := ⟨by decide, by decide, by decide, by decide⟩

/-- e' is further on than e -/
def Reach (e e' : En) : Prop := ∃ k, e'.l = e.l + k ∧ e.n * 256 ^ k ≤ e'.n ∧ e'.n + e'.r ≤ (e.n + e.r) * 256 ^ k
theorem Reach.refl (e : En) : Reach e e := ⟨0, rfl, by simp, by simp⟩
theorem Reach.trans {a b c : En} (h : Reach a b) (k : Reach b c) : Reach a c := by
  obtain ⟨x, h1, h2, h3⟩ := h
  obtain ⟨y, k1, k2, k3⟩ := k
  refine ⟨x + y, by omega, ?_, ?_⟩
  · rw [Nat.pow_add, ← Nat.mul_assoc]
    exact Nat.le_trans (Nat.mul_le_mul_right _ h2) k2
  · rw [Nat.pow_add, ← Nat.mul_assoc]
    exact Nat.le_trans k3 (Nat.mul_le_mul_right _ h3)
theorem reach_even (e : En) : Reach e e.even := by
  unfold En.even
  split
  · exact ⟨1, rfl, by simp, by show e.n * 256 + e.r * 256 ≤ _; rw [Nat.pow_one, Nat.add_mul]; omega⟩
  · exact Reach.refl e
theorem enIn_even {e : En} (h : EnIn e) : EnIn e.even := by
  unfold En.even
  split
  · obtain ⟨h1, h2⟩ := h
    refine ⟨by show 5 ≤ e.l + 1; omega, ?_⟩
    show e.n * 256 + e.r * 256 ≤ 4294967295 * 256 ^ (e.l + 1 - 5)
    rw [show e.l + 1 - 5 = (e.l - 5) + 1 by omega, Nat.pow_succ, ← Nat.mul_assoc]
    omega
  · exact h
theorem enOk_even {e : En} (h : EnIn e) (h0 : 65536 ≤ e.r) (h1 : e.r < 4294967296) : EnOk e.even := by
  refine ⟨?_, ?_, enIn_even h⟩
  · unfold En.even
    split
    · show 16777216 ≤ e.r * 256; omega
    · omega
  · unfold En.even
    split
    · show e.r * 256 < 4294967296; omega
    · exact h1

theorem reach_low {e : En} {z : Nat} (hz : z ≤ e.r) : Reach e ⟨e.n, e.l, z⟩ := ⟨0, rfl, by simp, by simp; omega⟩
theorem reach_high {e : En} {z y : Nat} (hz : z + y ≤ e.r) : Reach e ⟨e.n + z, e.l, y⟩ := ⟨0, rfl, by simp, by simp; omega⟩

theorem bit_reach {e : En} {p b : Nat} (h : EnOk e) (hp : POk p) : Reach e (e.bit p b) := by
  obtain ⟨b0, b1⟩ := bound_in h.1 h.2.1 hp
  unfold En.bit
  split
  · exact (reach_low (by omega)).trans (reach_even _)
  · exact (reach_high (by omega)).trans (reach_even _)
theorem bit_ok {e : En} {p b : Nat} (h : EnOk e) (hp : POk p) : EnOk (e.bit p b) := by
  obtain ⟨b0, b1⟩ := bound_in h.1 h.2.1 hp
  obtain ⟨h0, h1, h2, h3⟩ := h
  unfold En.bit
  split
  · exact enOk_even ⟨h2, by show e.n + e.r / 2048 * p ≤ 4294967295 * 256 ^ (e.l - 5); omega⟩ (by show 65536 ≤ e.r / 2048 * p; omega) (by show e.r / 2048 * p < _; omega)
  · exact enOk_even ⟨h2, by show e.n + e.r / 2048 * p + (e.r - e.r / 2048 * p) ≤ 4294967295 * 256 ^ (e.l - 5); omega⟩ (by show 65536 ≤ e.r - e.r / 2048 * p; omega) (by show e.r - e.r / 2048 * p < _; omega)
theorem one_reach {e : En} {b : Nat} : Reach e (e.one b) := by
  unfold En.one
  split
  · exact (reach_low (Nat.div_le_self _ _)).trans (reach_even _)
  · exact (reach_high (by omega)).trans (reach_even _)
theorem one_ok {e : En} {b : Nat} (h : EnOk e) : EnOk (e.one b) := by
  obtain ⟨h0, h1, h2, h3⟩ := h
  unfold En.one
  split
  · exact enOk_even ⟨h2, by show e.n + e.r / 2 ≤ 4294967295 * 256 ^ (e.l - 5); omega⟩ (by show 65536 ≤ e.r / 2; omega) (by show e.r / 2 < _; omega)
  · exact enOk_even ⟨h2, by show e.n + e.r / 2 + e.r / 2 ≤ 4294967295 * 256 ^ (e.l - 5); omega⟩ (by show 65536 ≤ e.r / 2; omega) (by show e.r / 2 < _; omega)

/-- the bytes that a coder gives in the end -/
structure Ends (bs : List UInt8) (f : En) : Prop where
  num : be bs = f.n
  len : bs.length = f.l
  pos : 0 < f.r

/-- the decoder that has come as far as e -/
def decAt (bs more : List UInt8) (e : En) : Dc := some (e.r, be (bs.take e.l) - e.n, bs.drop e.l ++ more)

section
variable {bs more : List UInt8} {f : En}

theorem between {e : En} (hf : Ends bs f) (h : Reach e f) : e.n ≤ be (bs.take e.l) ∧ be (bs.take e.l) < e.n + e.r ∧ e.l ≤ bs.length := by
  obtain ⟨k, h1, h2, h3⟩ := h
  have hl := hf.len
  obtain ⟨t1, t2⟩ := be_take bs e.l
  rw [hf.num, show bs.length - e.l = k by omega] at t1 t2
  have hp := hf.pos
  have hk : 0 < 256 ^ k := Nat.pow_pos (by omega)
  refine ⟨?_, ?_, by omega⟩
  · have : e.n * 256 ^ k < (be (bs.take e.l) + 1) * 256 ^ k := by omega
    have := Nat.lt_of_mul_lt_mul_right this
    omega
  · have : be (bs.take e.l) * 256 ^ k < (e.n + e.r) * 256 ^ k := by omega
    exact Nat.lt_of_mul_lt_mul_right this

theorem even_dec {e : En} (hf : Ends bs f) (h : Reach e.even f) : lvl e.r (be (bs.take e.l) - e.n) (bs.drop e.l ++ more) = decAt bs more e.even := by
  have h0 := between hf ((reach_even e).trans h)
  unfold lvl decAt
  by_cases hr : e.r < 16777216
  · have he : e.even = ⟨e.n * 256, e.l + 1, e.r * 256⟩ := by unfold En.even; rw [if_pos hr]
    obtain ⟨_, _, h3⟩ := between hf h
    rw [he] at h3 ⊢
    have hlt : e.l < bs.length := h3
    rw [if_pos hr, List.drop_eq_getElem_cons hlt]
    show some (e.r * 256, (be (bs.take e.l) - e.n) * 256 + (bs[e.l]).toNat, bs.drop (e.l + 1) ++ more) = some (e.r * 256, be (bs.take (e.l + 1)) - e.n * 256, bs.drop (e.l + 1) ++ more)
    rw [be_take_succ hlt]
    congr 3
    omega
  · have he : e.even = e := by unfold En.even; rw [if_neg hr]
    rw [if_neg hr, he]

def upOf (p b : Nat) : Nat := if b = 0 then up0 p else up1 p
theorem pOk_upOf {p b : Nat} (h : POk p) : POk (upOf p b) := by unfold upOf; split; exact pOk_up0 h; exact pOk_up1 h

theorem bit_dec {e : En} {p b : Nat} (hf : Ends bs f) (he : EnOk e) (hp : POk p) (hb : b ≤ 1) (h : Reach (e.bit p b) f) : bitD (decAt bs more e) p = (b, upOf p b, decAt bs more (e.bit p b)) := by
  obtain ⟨b0, b1⟩ := bound_in he.1 he.2.1 hp
  unfold En.bit at h ⊢
  unfold bitD decAt upOf
  simp only []
  by_cases hb0 : b = 0
  · subst hb0
    rw [if_pos rfl] at h ⊢
    obtain ⟨t1, t2, t3⟩ := between hf ((reach_even _).trans h)
    simp only [] at t1 t2 t3
    rw [if_pos (by omega), if_pos rfl]
    have := even_dec (more := more) hf h
    unfold decAt at this
    simp only [] at this
    rw [this]
  · obtain rfl : b = 1 := by omega
    rw [if_neg hb0] at h ⊢
    obtain ⟨t1, t2, t3⟩ := between hf ((reach_even _).trans h)
    simp only [] at t1 t2 t3
    rw [if_neg (by omega), if_neg hb0]
    have := even_dec (more := more) hf h
    unfold decAt at this
    simp only [] at this
    rw [Nat.sub_sub, this]

theorem one_dec {e : En} {b : Nat} (hf : Ends bs f) (hb : b ≤ 1) (h : Reach (e.one b) f) : oneD (decAt bs more e) = (b, decAt bs more (e.one b)) := by
  unfold En.one at h ⊢
  unfold oneD decAt
  simp only []
  by_cases hb0 : b = 0
  · subst hb0
    rw [if_pos rfl] at h ⊢
    obtain ⟨t1, t2, t3⟩ := between hf ((reach_even _).trans h)
    simp only [] at t1 t2 t3
    rw [if_pos (by omega)]
    have := even_dec (more := more) hf h
    unfold decAt at this
    simp only [] at this
    rw [this]
  · obtain rfl : b = 1 := by omega
    rw [if_neg hb0] at h ⊢
    obtain ⟨t1, t2, t3⟩ := between hf ((reach_even _).trans h)
    simp only [] at t1 t2 t3
    rw [if_neg (by omega), if_pos (by omega)]
    have := even_dec (more := more) hf h
    unfold decAt at this
    simp only [] at this
    rw [Nat.sub_sub, this]

/-! ### numbers told straight -/

/-- bit number i of v, from the least -/
def bitOf (v i : Nat) : Nat := v / 2 ^ i % 2
theorem bitOf_le (v i : Nat) : bitOf v i ≤ 1 := by unfold bitOf; omega
def strE (e : En) (v n : Nat) : Nat → En
  | 0 => e
  | j + 1 => (strE e v n j).one (bitOf v (n - 1 - j))
theorem strE_reach (e : En) (v n : Nat) : ∀ i j, Reach (strE e v n i) (strE e v n (i + j))
  | _, 0 => Reach.refl _
  | i, j + 1 => (strE_reach e v n i j).trans one_reach
theorem strE_ok {e : En} (h : EnOk e) (v n : Nat) : ∀ j, EnOk (strE e v n j)
  | 0 => h
  | j + 1 => one_ok (strE_ok h v n j)
theorem top_bits (v n j : Nat) (hj : j < n) : 2 * (v % 2 ^ n / 2 ^ (n - j)) + bitOf v (n - 1 - j) = v % 2 ^ n / 2 ^ (n - (j + 1)) := by
  obtain ⟨i, hi⟩ : ∃ i, i = n - 1 - j := ⟨_, rfl⟩
  rw [show n - j = i + 1 by omega, show n - (j + 1) = i by omega, ← hi]
  unfold bitOf
  have e1 : v / 2 ^ i % 2 = v % 2 ^ n / 2 ^ i % 2 := by
    have hp : 2 ^ n = 2 ^ i * 2 ^ (n - i) := by rw [← Nat.pow_add]; congr 1; omega
    rw [hp, Nat.mod_mul_right_div_self]
    have h2 : 2 ^ (n - i) = 2 * 2 ^ (n - i - 1) := by rw [Nat.mul_comm, ← Nat.pow_succ]; congr 1; omega
    rw [h2, Nat.mod_mul_right_mod]
  rw [e1, Nat.pow_succ, ← Nat.div_div_eq_div_mul]
  omega
theorem straight_dec {e : En} {v n : Nat} (hf : Ends bs f) (h : Reach (strE e v n n) f) : ∀ j, j ≤ n → straightGo (decAt bs more e) j = (v % 2 ^ n / 2 ^ (n - j), decAt bs more (strE e v n j))
  | 0, _ => by
    show (0, decAt bs more e) = _
    rw [Nat.sub_zero, Nat.div_eq_of_lt (Nat.mod_lt _ (Nat.two_pow_pos n))]
    rfl
  | j + 1, hj => by
    have ih := straight_dec hf h j (by omega)
    have hr : Reach ((strE e v n j).one (bitOf v (n - 1 - j))) f := by
      have := strE_reach e v n (j + 1) (n - (j + 1))
      rw [show j + 1 + (n - (j + 1)) = n by omega] at this
      exact this.trans h
    show (2 * (straightGo (decAt bs more e) j).1 + (oneD (straightGo (decAt bs more e) j).2).1, (oneD (straightGo (decAt bs more e) j).2).2) = _
    rw [ih, one_dec hf (bitOf_le _ _) hr]
    show (2 * (v % 2 ^ n / 2 ^ (n - j)) + bitOf v (n - 1 - j), _) = _
    rw [top_bits v n j hj]
    rfl

/-! ### trees -/

structure Et where
  m : Nat
  ps : List Nat
  e : En
def Et.step (a b : Nat) (t : Et) : Et := ⟨2 * t.m + b, t.ps.set (a + t.m) (upOf (t.ps.getD (a + t.m) 0) b), t.e.bit (t.ps.getD (a + t.m) 0) b⟩
def treE (bits : Nat → Nat) (a : Nat) (ps : List Nat) (e : En) : Nat → Et
  | 0 => ⟨1, ps, e⟩
  | j + 1 => (treE bits a ps e j).step a (bits j)

theorem treE_ok {bits : Nat → Nat} {a n : Nat} {ps : List Nat} {e : En} (hb : ∀ i, bits i ≤ 1) (he : EnOk e) (hp : PsOk ps) (hl : a + 2 ^ n ≤ ps.length) :
    ∀ j, j ≤ n → EnOk (treE bits a ps e j).e ∧ PsOk (treE bits a ps e j).ps ∧ (treE bits a ps e j).ps.length = ps.length ∧ 2 ^ j ≤ (treE bits a ps e j).m ∧ (treE bits a ps e j).m < 2 ^ (j + 1) := by
  intro j
  induction j with
  | zero => intro _; exact ⟨he, hp, rfl, by simp [treE], by simp [treE]⟩
  | succ j ih =>
    intro hj
    obtain ⟨h1, h2, h3, h4, h5⟩ := ih (by omega)
    show EnOk (Et.step a _ _).e ∧ PsOk (Et.step a _ _).ps ∧ (Et.step a _ _).ps.length = _ ∧ _ ≤ (Et.step a _ _).m ∧ (Et.step a _ _).m < _
    generalize treE bits a ps e j = t at *
    have hpow : 2 ^ (j + 1) ≤ 2 ^ n := Nat.pow_le_pow_right (by omega) hj
    have hg := getD_ok h2 (show a + t.m < t.ps.length by omega)
    have hbj := hb j
    have e1 : 2 ^ (j + 1) = 2 * 2 ^ j := by rw [Nat.pow_succ, Nat.mul_comm]
    have e2 : 2 ^ (j + 1 + 1) = 2 * 2 ^ (j + 1) := by rw [Nat.pow_succ, Nat.mul_comm]
    refine ⟨bit_ok h1 hg, psOk_set h2 _ (pOk_upOf hg), by simp [Et.step, h3], ?_, ?_⟩
    · show _ ≤ 2 * t.m + bits j; omega
    · show 2 * t.m + bits j < _; omega
theorem treE_reach {bits : Nat → Nat} {a n : Nat} {ps : List Nat} {e : En} (hb : ∀ i, bits i ≤ 1) (he : EnOk e) (hp : PsOk ps) (hl : a + 2 ^ n ≤ ps.length) (i : Nat) :
    ∀ j, i + j ≤ n → Reach (treE bits a ps e i).e (treE bits a ps e (i + j)).e := by
  intro j
  induction j with
  | zero => intro _; exact Reach.refl _
  | succ j ih =>
    intro hj
    obtain ⟨h1, h2, h3, h4, h5⟩ := treE_ok hb he hp hl (i + j) (by omega)
    have hpow : 2 ^ (i + j + 1) ≤ 2 ^ n := Nat.pow_le_pow_right (by omega) (by omega)
    have hlt : a + (treE bits a ps e (i + j)).m < (treE bits a ps e (i + j)).ps.length := by omega
    exact (ih (by omega)).trans (bit_reach h1 (getD_ok h2 hlt))

theorem tree_dec {bits : Nat → Nat} {a n : Nat} {ps : List Nat} {e : En} (hf : Ends bs f) (hb : ∀ i, bits i ≤ 1) (he : EnOk e) (hp : PsOk ps) (hl : a + 2 ^ n ≤ ps.length) (h : Reach (treE bits a ps e n).e f) :
    ∀ j, j ≤ n → (Tr.go a (Tr.begin ps (decAt bs more e)) j).m = (treE bits a ps e j).m ∧ (Tr.go a (Tr.begin ps (decAt bs more e)) j).ps = (treE bits a ps e j).ps ∧ (Tr.go a (Tr.begin ps (decAt bs more e)) j).d = decAt bs more (treE bits a ps e j).e ∧
      (Tr.go a (Tr.begin ps (decAt bs more e)) j).v = 2 ^ j := by
  intro j
  induction j with
  | zero => intro _; exact ⟨rfl, rfl, rfl, rfl⟩
  | succ j ih =>
    intro hj
    obtain ⟨i1, i2, i3, i4⟩ := ih (by omega)
    obtain ⟨h1, h2, h3, h4, h5⟩ := treE_ok hb he hp hl j (by omega)
    have hpow : 2 ^ (j + 1) ≤ 2 ^ n := Nat.pow_le_pow_right (by omega) hj
    have hr : Reach ((treE bits a ps e j).e.bit ((treE bits a ps e j).ps.getD (a + (treE bits a ps e j).m) 0) (bits j)) f := by
      have := treE_reach hb he hp hl (j + 1) (n - (j + 1)) (by omega)
      rw [show j + 1 + (n - (j + 1)) = n by omega] at this
      exact this.trans h
    have hd := bit_dec (more := more) hf h1 (getD_ok h2 (show a + (treE bits a ps e j).m < (treE bits a ps e j).ps.length by omega)) (hb j) hr
    show (Tr.step a _).m = (Et.step a _ _).m ∧ (Tr.step a _).ps = (Et.step a _ _).ps ∧ (Tr.step a _).d = decAt bs more (Et.step a _ _).e ∧ (Tr.step a _).v = _
    generalize Tr.go a (Tr.begin ps (decAt bs more e)) j = T at *
    generalize treE bits a ps e j = t at *
    have hbit : T.bit a = (bits j, upOf (t.ps.getD (a + t.m) 0) (bits j), decAt bs more (t.e.bit (t.ps.getD (a + t.m) 0) (bits j))) := by
      unfold Tr.bit
      rw [i1, i2, i3, hd]
    refine ⟨?_, ?_, ?_, ?_⟩
    · show 2 * T.m + (T.bit a).1 = 2 * t.m + bits j
      rw [hbit, i1]
    · show T.ps.set (a + T.m) (T.bit a).2.1 = t.ps.set (a + t.m) _
      rw [hbit, i1, i2]
    · show (T.bit a).2.2 = _
      rw [hbit]
      rfl
    · show 2 * T.v = _
      rw [i4, Nat.pow_succ, Nat.mul_comm]
theorem tree_o {bits : Nat → Nat} {a n : Nat} {ps : List Nat} {e : En} (hf : Ends bs f) (hb : ∀ i, bits i ≤ 1) (he : EnOk e) (hp : PsOk ps) (hl : a + 2 ^ n ≤ ps.length) (h : Reach (treE bits a ps e n).e f) :
    ∀ j, j < n → (Tr.go a (Tr.begin ps (decAt bs more e)) (j + 1)).o = (Tr.go a (Tr.begin ps (decAt bs more e)) j).o + bits j * 2 ^ j := by
  intro j hj
  obtain ⟨i1, i2, i3, i4⟩ := tree_dec (more := more) hf hb he hp hl h j (by omega)
  obtain ⟨k1, _⟩ := tree_dec (more := more) hf hb he hp hl h (j + 1) (by omega)
  have e1 : (Tr.go a (Tr.begin ps (decAt bs more e)) (j + 1)).m = 2 * (Tr.go a (Tr.begin ps (decAt bs more e)) j).m + ((Tr.go a (Tr.begin ps (decAt bs more e)) j).bit a).1 := rfl
  have e2 : (treE bits a ps e (j + 1)).m = 2 * (treE bits a ps e j).m + bits j := rfl
  have hbit : ((Tr.go a (Tr.begin ps (decAt bs more e)) j).bit a).1 = bits j := by omega
  show (Tr.go a (Tr.begin ps (decAt bs more e)) j).o + ((Tr.go a (Tr.begin ps (decAt bs more e)) j).bit a).1 * (Tr.go a (Tr.begin ps (decAt bs more e)) j).v = _
  rw [hbit, i4]

/-- the greatest bit first -/
def topBits (v n : Nat) (j : Nat) : Nat := bitOf v (n - 1 - j)
theorem tree_m {v a n : Nat} {ps : List Nat} {e : En} : ∀ j, j ≤ n → (treE (topBits v n) a ps e j).m = 2 ^ j + v % 2 ^ n / 2 ^ (n - j)
  | 0, _ => by
    rw [Nat.sub_zero, Nat.div_eq_of_lt (Nat.mod_lt _ (Nat.two_pow_pos n))]
    rfl
  | j + 1, hj => by
    show 2 * (treE (topBits v n) a ps e j).m + bitOf v (n - 1 - j) = _
    rw [tree_m j (by omega), ← top_bits v n j hj, Nat.pow_succ]
    omega
theorem low_bits (v j : Nat) : v % 2 ^ j + bitOf v j * 2 ^ j = v % 2 ^ (j + 1) := by
  unfold bitOf
  rw [Nat.pow_succ, Nat.mod_mul, Nat.mul_comm]
theorem rev_o {v a n : Nat} {ps : List Nat} {e : En} (hf : Ends bs f) (he : EnOk e) (hp : PsOk ps) (hl : a + 2 ^ n ≤ ps.length) (h : Reach (treE (bitOf v) a ps e n).e f) :
    ∀ j, j ≤ n → (Tr.go a (Tr.begin ps (decAt bs more e)) j).o = v % 2 ^ j
  | 0, _ => by rw [Nat.pow_zero, Nat.mod_one]; rfl
  | j + 1, hj => by rw [tree_o hf (bitOf_le v) he hp hl h j hj, rev_o hf he hp hl h j (by omega), low_bits]

/-! ### questions -/

/-- what is coded of a question: the probabilities then, and the coder -/
def askE (ps : List Nat) (e : En) (k a n v : Nat) : List Nat × En :=
  if k = 0 then (ps.set a (upOf (ps.getD a 0) (v % 2)), e.bit (ps.getD a 0) (v % 2))
  else if k = 3 then (ps, strE e v n n)
  else if k = 1 then ((treE (topBits v n) a ps e n).ps, (treE (topBits v n) a ps e n).e)
  else ((treE (bitOf v) a ps e n).ps, (treE (bitOf v) a ps e n).e)
def wantOf (k n v : Nat) : Nat := if k = 0 then v % 2 else v % 2 ^ n

theorem begin_arith (z a b c d : Nat) (h : (((z * 256 + a) * 256 + b) * 256 + c) * 256 + d < 0 + 4294967295) : z = 0 ∧ ((a * 256 + b) * 256 + c) * 256 + d < 4294967295 := by omega
theorem started_dec (hf : Ends bs f) (h : Reach En.new f) : started (bs ++ more) = decAt bs more En.new := by
  obtain ⟨h1, h2, h3⟩ := between hf h
  match bs, h3 with
  | z :: a :: b :: c :: d :: t, _ =>
    have e5 : be (List.take En.new.l (z :: a :: b :: c :: d :: t)) = (((z.toNat * 256 + a.toNat) * 256 + b.toNat) * 256 + c.toNat) * 256 + d.toNat := by
      show be [z, a, b, c, d] = _
      simp [be]
    rw [e5] at h2
    obtain ⟨hz, hc⟩ := begin_arith _ _ _ _ _ h2
    unfold started decAt
    rw [e5]
    simp only [List.cons_append]
    rw [if_pos ⟨hz, hc⟩, hz]
    show some (4294967295, _, t ++ more) = some (4294967295, _ - 0, t ++ more)
    simp

/-- In the end the decoder's code is 0, and just what stood behind is left. -/
theorem ends_dec (hf : Ends bs f) : decAt bs more f = some (f.r, 0, more) := by
  unfold decAt
  rw [← hf.len, List.take_length, List.drop_length, hf.num, Nat.sub_self]
  rfl
end

theorem ends_of {bs : List UInt8} {f : En} (h : EnOk f) (h1 : be bs = f.n) (h2 : bs.length = f.l) : Ends bs f := ⟨h1, h2, by have := h.1; omega⟩

/-! ### lengths -/
theorem even_len (e : En) : e.even.l ≤ e.l + 1 := by unfold En.even; split; exact Nat.le_refl _; omega
theorem bit_len (e : En) (p b : Nat) : (e.bit p b).l ≤ e.l + 1 := by unfold En.bit; split; exact even_len _; exact even_len _
theorem one_len (e : En) (b : Nat) : (e.one b).l ≤ e.l + 1 := by unfold En.one; split; exact even_len _; exact even_len _
theorem strE_len (e : En) (v n : Nat) : ∀ j, (strE e v n j).l ≤ e.l + j
  | 0 => Nat.le_refl _
  | j + 1 => by have := one_len (strE e v n j) (bitOf v (n - 1 - j)); have := strE_len e v n j; show ((strE e v n j).one _).l ≤ _; omega
theorem treE_len (bits : Nat → Nat) (a : Nat) (ps : List Nat) (e : En) : ∀ j, (treE bits a ps e j).e.l ≤ e.l + j
  | 0 => Nat.le_refl _
  | j + 1 => by
    have := treE_len bits a ps e j
    have := bit_len (treE bits a ps e j).e ((treE bits a ps e j).ps.getD (a + (treE bits a ps e j).m) 0) (bits j)
    show ((treE bits a ps e j).e.bit _ _).l ≤ _
    omega
/-! ### bits 0, one behind the other, with one probability -/

def likely : Nat → Nat × En
  | 0 => (1024, En.new)
  | k + 1 => (up0 (likely k).1, (likely k).2.bit (likely k).1 0)
/-- the same, as its range and its length alone -/
def likR (s : Nat × Nat × Nat) : Nat × Nat × Nat := if s.2.1 / 2048 * s.1 < 16777216 then (up0 s.1, s.2.1 / 2048 * s.1 * 256, s.2.2 + 1) else (up0 s.1, s.2.1 / 2048 * s.1, s.2.2)
/-- k bits from s on, the i-th of them all: as many bytes as may be, at each -/
def likOk : Nat → Nat → Nat × Nat × Nat → Bool
  | 0, _, _ => true
  | f + 1, i, s => Nat.ble s.2.2 (12 + i / 40) && likOk f (i + 1) (likR s)
theorem likely_ok : ∀ k, EnOk (likely k).2 ∧ POk (likely k).1
  | 0 => ⟨enOk_new, pOk_fresh⟩
  | k + 1 => ⟨bit_ok (likely_ok k).1 (likely_ok k).2, pOk_up0 (likely_ok k).2⟩
end Go.Proofs.Ytdnkoeafnnohnaa
