/-
  RdBegin, B2RefM: put together.
-/
import Derived.Test.YtdnkoeafnnohnaaV16
import Derived.Test.YtdnkoeafnnohnaaV06
import Derived.Test.YtdnkoeafnnohnaaV08
import Derived.Deep.AppendLies
import Derived.Test.YtdnkoeafnnohnaaV03
import Derived.Test.YtdnkoeafnnohnaaV14
set_option linter.unusedVariables false
set_option linter.unusedSimpArgs false
/-
  The reference's decoder begins; its fresh probabilities (cut out of RdSaid, RdFresh).
-/
namespace Go.Proofs.Ytdnkoeafnnohnaa
open Go.RowKit

/-- What a byte that is asked for is, and leaves. -/
def Nexted (bs : List UInt8) (at_ : Nat) (bad : Bool) (x at' : Nat) (bad' : Bool) : Prop :=
  (bad' = false ∧ bad = false ∧ at' = at_ + 1 ∧ ∃ y : UInt8, x = y.toNat ∧ bs.drop at_ = y :: bs.drop at') ∨ (bad' = true ∧ x = 0 ∧ (bad = true ∨ bs.drop at_ = []) ∧ at' = at_)

def OnWayR (w : World) (g c : Nat) (A : Option Addr) (bs : List UInt8) (j : Nat) : Prop :=
  ∃ at_ k bad, Blk w g 51 (decCells A bs.length c at_ 4294967295 k bad) ∧ at_ ≤ bs.length ∧ k < 256 ^ j ∧ ((bad = true ∧ started bs = none) ∨ (bad = false ∧ at_ = j + 1 ∧ Begun bs j k))

end Go.Proofs.Ytdnkoeafnnohnaa

/-
  The document's decoder of four streams in memory.
-/
namespace Go.Proofs.Ytdnkoeafnnohnaa
open Go.RowKit

/-- four rows as an argument -/
def fourA (A : Nat → Option Addr) (c : Nat → Nat) (l : Nat → List UInt8) : Array Value :=
  #[.slice (A 0) (l 0).length (c 0), .slice (A 1) (l 1).length (c 1), .slice (A 2) (l 2).length (c 2), .slice (A 3) (l 3).length (c 3)]
/-- four rows: each within its bounds -/
structure FourOk (w : World) (A : Nat → Option Addr) (c : Nat → Nat) (l : Nat → List UInt8) : Prop where
  sl : ∀ i, i < 4 → Sl w (A i) (l i).length (bv (l i))
  cap : ∀ i, i < 4 → (l i).length ≤ c i ∧ c i ≤ maxLen
  len : ∀ i, i < 4 → (l i).length ≤ 16400
/-- the document's decoder: the argument's box, the decoder at block g, the probabilities at block b, what was told -/
structure R15 (w0 w : World) (A : Nat → Option Addr) (c : Nat → Nat) (l : Nat → List UInt8) (g b pc : Nat) (O : Option Addr) (co : Nat) (ps : List Nat) (d : Dc) (out : List UInt8) : Prop where
  four : FourOk w0 A c l
  bel : Below w0.heap.size w0 w
  box : Blk w w0.heap.size 24 (fourA A c l)
  rf : Rf w g (A 3) (c 3) (l 3) d
  row : Row w b ps pc
  own : w.ownsRow w0.heap.size 5 1 (.slice O out.length co) out.length (bv out)
  gb : w0.heap.size < g ∧ w0.heap.size < b ∧ g ≠ b
  off : ∀ q, (Value.slice O out.length co).ownBlock = some q → q ≠ w0.heap.size ∧ q ≠ g ∧ q ≠ b
  d_ok : DcOk d
  ps_ok : PsOk ps
  ps_len : ps.length = 258

theorem own_onlyV {w w' : World} {S : Nat → Prop} {base : Nat} {e : TypeId} {v : Value} {n : Nat} {xs : List Value} (h : w.ownsRow base e 1 v n xs) (hO : Only S w w') (hS : ∀ b, v.ownBlock = some b → ¬ S b) : w'.ownsRow base e 1 v n xs := by
  refine ⟨h.1, ?_⟩
  rcases h.2 with hn | ⟨g, cap, cur, rfl, hb, hgg, rest⟩
  · exact .inl hn
  · have hlt : g < w.heap.size := (Array.getElem?_eq_some_iff.1 hgg).1
    exact .inr ⟨g, cap, cur, rfl, hb, (hO.block g hlt (hS g rfl)).trans hgg, rest⟩
theorem own_at {w : World} {base : Nat} {e : TypeId} {v : Value} {n : Nat} {xs : List Value} (h : w.ownsRow base e 1 v n xs) {b : Nat} (hb : v.ownBlock = some b) : base ≤ b ∧ b < w.heap.size := by
  rcases h.2 with ⟨rfl, _⟩ | ⟨g, cap, cur, rfl, h1, h2, _⟩
  · cases hb
  · injection hb with hb
    subst hb
    exact ⟨h1, (Array.getElem?_eq_some_iff.1 h2).1⟩

section
variable {w0 w w' : World} {A : Nat → Option Addr} {c : Nat → Nat} {l : Nat → List UInt8} {g b pc : Nat} {O : Option Addr} {co : Nat} {ps : List Nat} {d : Dc} {out : List UInt8}
theorem R15.sl (h : R15 w0 w A c l g b pc O co ps d out) {i : Nat} (hi : i < 4) : Sl w (A i) (l i).length (bv (l i)) := (h.four.sl i hi).below h.bel
theorem R15.old (h : R15 w0 w A c l g b pc O co ps d out) {i : Nat} (hi : i < 4) (h0 : 0 < (l i).length) : ∀ q o, A i = some ⟨q, o, none⟩ → q < w0.heap.size := fun q o e => by
  obtain ⟨q', o', e', hlt, _⟩ := (h.four.sl i hi).2 h0
  rw [e'] at e
  injection e with e
  injection e with e
  omega
theorem R15.drewN (h : R15 w0 w A c l g b pc O co ps d out) (n : Nat) : R15 w0 (w.drewN n) A c l g b pc O co ps d out :=
  ⟨h.four, below_drewN h.bel n, h.box, h.rf.only ((Only.refl (fun _ => False) w).drewN n) (fun h => h), h.row, own_onlyV h.own ((Only.refl (fun _ => False) w).drewN n) (fun _ _ h => h), h.gb, h.off, h.d_ok, h.ps_ok, h.ps_len⟩
/-- new blocks are made -/
theorem R15.below (h : R15 w0 w A c l g b pc O co ps d out) (hb : Below w.heap.size w w') : R15 w0 w' A c l g b pc O co ps d out :=
  have hO := Only.of_below (S := fun _ => False) hb
  ⟨h.four, h.bel.trans (hb.mono h.bel.size), h.box.only hO (fun h => h), h.rf.only hO (fun h => h), h.row.only hO (fun h => h), own_onlyV h.own hO (fun _ _ h => h), h.gb, h.off, h.d_ok, h.ps_ok, h.ps_len⟩
/-- the decoder turns -/
theorem R15.turn {d' : Dc} (h : R15 w0 w A c l g b pc O co ps d out) (hR : Rf w' g (A 3) (c 3) (l 3) d') (hg : w.grownBy w' (some g)) (hd : DcOk d') : R15 w0 w' A c l g b pc O co ps d' out :=
  have hO := Only.of_grown (S := fun i => i = g) hg rfl
  ⟨h.four, h.bel.trans (hO.below h.bel.size (fun i hi => by have := h.gb; omega)), h.box.only hO (fun e => by have := h.gb; omega), hR, h.row.only hO (fun e => h.gb.2.2 e.symm), own_onlyV h.own hO (fun q hq e => (h.off q hq).2.1 e), h.gb, h.off, hd, h.ps_ok, h.ps_len⟩
/-- a probability turns -/
theorem R15.set (h : R15 w0 w A c l g b pc O co ps d out) (i : Nat) {q : Nat} (hq : POk q) : R15 w0 (w.setCell ⟨b, i, none⟩ (.int .u16 (q : Int))) A c l g b pc O co (ps.set i q) d out :=
  have hO := (Only.refl (fun i => i = b) w).setCell (p := ⟨b, i, none⟩) (.inl rfl) (.int .u16 (q : Int))
  ⟨h.four, h.bel.trans (hO.below h.bel.size (fun i hi => by have := h.gb; omega)), h.box.only hO (fun e => by have := h.gb; omega), h.rf.only hO (fun e => h.gb.2.2 e), h.row.put i q, own_onlyV h.own hO (fun q hq e => (h.off q hq).2.2 e), h.gb, h.off, h.d_ok, psOk_set h.ps_ok i hq, by rw [List.length_set]; exact h.ps_len⟩
/-- bytes are told -/
theorem R15.app {O' : Option Addr} {co' : Nat} {x : List UInt8} {w1 : World} (h : R15 w0 w A c l g b pc O co ps d out) (hb : Below w.heap.size w w1) (ho : w'.ownsRow w0.heap.size 5 1 (.slice O' (out ++ x).length co') (out ++ x).length (bv (out ++ x)))
    (hg : w1.grownBy w' (Value.slice O out.length co).ownBlock) (hn : (Value.slice O' (out ++ x).length co').ownBlock = (Value.slice O out.length co).ownBlock ∨ (Value.slice O' (out ++ x).length co').ownBlock = some w1.heap.size) :
    R15 w0 w' A c l g b pc O' co' ps d (out ++ x) := by
  have h1 := h.below hb
  have hO : Only (fun i => (Value.slice O out.length co).ownBlock = some i) w1 w' := ⟨hg.os, hg.tape, hg.output, hg.size, fun i hi hne => hg.block i hi (fun e => hne e.symm)⟩
  refine ⟨h.four, h1.bel.trans (hO.below h1.bel.size (fun i hi => (own_at h1.own hi).1)), h1.box.only hO (fun e => (h.off _ e).1 rfl), h1.rf.only hO (fun e => (h.off _ e).2.1 rfl), h1.row.only hO (fun e => (h.off _ e).2.2 rfl), ho, h.gb, fun q hq => ?_, h.d_ok, h.ps_ok, h.ps_len⟩
  rcases hn with e | e
  · exact h.off q (e ▸ hq)
  · rw [e] at hq
    injection hq with hq
    have h2 := h1.box.lt
    have h3 := h1.rf.lt
    have h4 := h1.row.lt
    omega
theorem R15.bad (h : R15 w0 w A c l g b pc O co ps d out) : w.cell? ⟨g, 4, none⟩ = some (.bool d.isNone) := by
  obtain ⟨at_, r, k, bad, hB, _, _, _, ht⟩ := h.rf
  have e : bad = d.isNone := by
    rcases ht with ⟨rfl, e⟩ | ⟨rfl, e⟩ <;> rw [e] <;> rfl
  rw [← e]
  exact hB.cell 4
theorem R15.free (h : R15 w0 w A c l g b pc O co ps d out) (i : Nat) : w.frozen? ⟨b, i, none⟩ = false := h.row.free i
theorem R15.prob (h : R15 w0 w A c l g b pc O co ps d out) {i : Nat} (hi : i < 258) : w.cell? ⟨b, i, none⟩ = some (.int .u16 ((ps.getD i 0 : Nat) : Int)) := h.row.cell (by rw [h.ps_len]; exact hi)
end

/-- what the document's Decode leaves -/
def RdPost (w : World) (ans : Option (List UInt8)) (e : Ending) (w' : World) : Prop :=
  Below w.heap.size w w' ∧ ((ans = none ∧ e = .returned (.tuple #[.slice none 0 0, .int .i64 12])) ∨
    (∃ out O co, ans = some out ∧ e = .returned (.tuple #[.slice O out.length co, .int .i64 0]) ∧ Sl w' O out.length (bv out)))
end Go.Proofs.Ytdnkoeafnnohnaa
