/-
  B2RefM, LwRow, B2Mem: put together.
-/
import Derived.Test.YtdnkoeafnnohnaaY02
import Derived.Test.YtdnkoeafnnohnaaY07
import Derived.Test.YtdnkoeafnnohnaaY08
import Derived.Test.YtdnkoeafnnohnaaY05
import Derived.Test.YtdnkoeafnnohnaaY06
import Derived.Test.YtdnkoeafnnohnaaY04
set_option linter.unusedVariables false
set_option linter.unusedSimpArgs false
/-
  The document's decoder of four streams in memory.
-/
namespace Go.Proofs.Ytdnkoeafnnohnaa
open Go.RowKit

/-- four rows as an argument -/
def fourA (A : Nat → Option Addr) (c : Nat → Nat) (l : Nat → List UInt8) : Array Value :=
  #[.slice (A 0) (l 0).length (c 0), .slice (A 1) (l 1).length (c 1), .slice (A 2) (l 2).length (c 2), .slice (A 3) (l 3).length (c 3)]
/-- four rows: each within its bounds -/
structure FourOk (w : World) (A : Nat → Option Addr) (c : Nat → Nat) (l : Nat → List UInt8) : Prop where
  sl : ∀ i, i < 4 → Sl w (A i) (l i).length (bv (l i))
  cap : ∀ i, i < 4 → (l i).length ≤ c i ∧ c i ≤ maxLen
  len : ∀ i, i < 4 → (l i).length ≤ 16400
/-- the document's decoder: the argument's box, the decoder at block g, the probabilities at block b, what was told -/
structure R15 (w0 w : World) (A : Nat → Option Addr) (c : Nat → Nat) (l : Nat → List UInt8) (g b pc : Nat) (O : Option Addr) (co : Nat) (ps : List Nat) (d : Dc) (out : List UInt8) : Prop where
  four : FourOk w0 A c l
  bel : Below w0.heap.size w0 w
  box : Blk w w0.heap.size 24 (fourA A c l)
  rf : Rf w g (A 3) (c 3) (l 3) d
  row : Row w b ps pc
  own : w.ownsRow w0.heap.size 5 1 (.slice O out.length co) out.length (bv out)
  gb : w0.heap.size < g ∧ w0.heap.size < b ∧ g ≠ b
  off : ∀ q, (Value.slice O out.length co).ownBlock = some q → q ≠ w0.heap.size ∧ q ≠ g ∧ q ≠ b
  d_ok : DcOk d
  ps_ok : PsOk ps
  ps_len : ps.length = 258

theorem own_onlyV {w w' : World} {S : Nat → Prop} {base : Nat} {e : TypeId} {v : Value} {n : Nat} {xs : List Value} (h : w.ownsRow base e 1 v n xs) (hO : Only S w w') (hS : ∀ b, v.ownBlock = some b → ¬ S b) : w'.ownsRow base e 1 v n xs := by
  refine ⟨h.1, ?_⟩
  rcases h.2 with hn | ⟨g, cap, cur, rfl, hb, hgg, rest⟩
  · exact .inl hn
  · have hlt : g < w.heap.size := (Array.getElem?_eq_some_iff.1 hgg).1
    exact .inr ⟨g, cap, cur, rfl, hb, (hO.block g hlt (hS g rfl)).trans hgg, rest⟩
theorem own_at {w : World} {base : Nat} {e : TypeId} {v : Value} {n : Nat} {xs : List Value} (h : w.ownsRow base e 1 v n xs) {b : Nat} (hb : v.ownBlock = some b) : base ≤ b ∧ b < w.heap.size := by
  rcases h.2 with ⟨rfl, _⟩ | ⟨g, cap, cur, rfl, h1, h2, _⟩
  · cases hb
  · injection hb with hb
    subst hb
    exact ⟨h1, (Array.getElem?_eq_some_iff.1 h2).1⟩

section
variable {w0 w w' : World} {A : Nat → Option Addr} {c : Nat → Nat} {l : Nat → List UInt8} {g b pc : Nat} {O : Option Addr} {co : Nat} {ps : List Nat} {d : Dc} {out : List UInt8}
theorem R15.sl (h : R15 w0 w A c l g b pc O co ps d out) {i : Nat} (hi : i < 4) : Sl w (A i) (l i).length (bv (l i)) := (h.four.sl i hi).below h.bel
theorem R15.old (h : R15 w0 w A c l g b pc O co ps d out) {i : Nat} (hi : i < 4) (h0 : 0 < (l i).length) : ∀ q o, A i = some ⟨q, o, none⟩ → q < w0.heap.size := fun q o e => by
  obtain ⟨q', o', e', hlt, _⟩ := (h.four.sl i hi).2 h0
  rw [e'] at e
  injection e with e
  injection e with e
  omega
theorem R15.drewN (h : R15 w0 w A c l g b pc O co ps d out) (n : Nat) : R15 w0 (w.drewN n) A c l g b pc O co ps d out :=
  ⟨h.four, below_drewN h.bel n, h.box, h.rf.only ((Only.refl (fun _ => False) w).drewN n) (fun h => h), h.row, own_onlyV h.own ((Only.refl (fun _ => False) w).drewN n) (fun _ _ h => h), h.gb, h.off, h.d_ok, h.ps_ok, h.ps_len⟩
/-- new blocks are made -/
theorem R15.below (h : R15 w0 w A c l g b pc O co ps d out) (hb : Below w.heap.size w w') : R15 w0 w' A c l g b pc O co ps d out :=
  have hO := Only.of_below (S := fun _ => False) hb
  ⟨h.four, h.bel.trans (hb.mono h.bel.size), h.box.only hO (fun h => h), h.rf.only hO (fun h => h), h.row.only hO (fun h => h), own_onlyV h.own hO (fun _ _ h => h), h.gb, h.off, h.d_ok, h.ps_ok, h.ps_len⟩
/-- the decoder turns -/
theorem R15.turn {d' : Dc} (h : R15 w0 w A c l g b pc O co ps d out) (hR : Rf w' g (A 3) (c 3) (l 3) d') (hg : w.grownBy w' (some g)) (hd : DcOk d') : R15 w0 w' A c l g b pc O co ps d' out :=
  have hO := Only.of_grown (S := fun i => i = g) hg rfl
  ⟨h.four, h.bel.trans (hO.below h.bel.size (fun i hi => by have := h.gb; omega)), h.box.only hO (fun e => by have := h.gb; omega), hR, h.row.only hO (fun e => h.gb.2.2 e.symm), own_onlyV h.own hO (fun q hq e => (h.off q hq).2.1 e), h.gb, h.off, hd, h.ps_ok, h.ps_len⟩
/-- a probability turns -/
theorem R15.set (h : R15 w0 w A c l g b pc O co ps d out) (i : Nat) {q : Nat} (hq : POk q) : R15 w0 (w.setCell ⟨b, i, none⟩ (.int .u16 (q : Int))) A c l g b pc O co (ps.set i q) d out :=
  have hO := (Only.refl (fun i => i = b) w).setCell (p := ⟨b, i, none⟩) (.inl rfl) (.int .u16 (q : Int))
  ⟨h.four, h.bel.trans (hO.below h.bel.size (fun i hi => by have := h.gb; omega)), h.box.only hO (fun e => by have := h.gb; omega), h.rf.only hO (fun e => h.gb.2.2 e), h.row.put i q, own_onlyV h.own hO (fun q hq e => (h.off q hq).2.2 e), h.gb, h.off, h.d_ok, psOk_set h.ps_ok i hq, by rw [List.length_set]; exact h.ps_len⟩
/-- bytes are told -/
theorem R15.app {O' : Option Addr} {co' : Nat} {x : List UInt8} {w1 : World} (h : R15 w0 w A c l g b pc O co ps d out) (hb : Below w.heap.size w w1) (ho : w'.ownsRow w0.heap.size 5 1 (.slice O' (out ++ x).length co') (out ++ x).length (bv (out ++ x)))
    (hg : w1.grownBy w' (Value.slice O out.length co).ownBlock) (hn : (Value.slice O' (out ++ x).length co').ownBlock = (Value.slice O out.length co).ownBlock ∨ (Value.slice O' (out ++ x).length co').ownBlock = some w1.heap.size) :
    R15 w0 w' A c l g b pc O' co' ps d (out ++ x) := by
  have h1 := h.below hb
  have hO : Only (fun i => (Value.slice O out.length co).ownBlock = some i) w1 w' := ⟨hg.os, hg.tape, hg.output, hg.size, fun i hi hne => hg.block i hi (fun e => hne e.symm)⟩
  refine ⟨h.four, h1.bel.trans (hO.below h1.bel.size (fun i hi => (own_at h1.own hi).1)), h1.box.only hO (fun e => (h.off _ e).1 rfl), h1.rf.only hO (fun e => (h.off _ e).2.1 rfl), h1.row.only hO (fun e => (h.off _ e).2.2 rfl), ho, h.gb, fun q hq => ?_, h.d_ok, h.ps_ok, h.ps_len⟩
  rcases hn with e | e
  · exact h.off q (e ▸ hq)
  · rw [e] at hq
    injection hq with hq
    have h2 := h1.box.lt
    have h3 := h1.rf.lt
    have h4 := h1.row.lt
    omega
theorem R15.bad (h : R15 w0 w A c l g b pc O co ps d out) : w.cell? ⟨g, 4, none⟩ = some (.bool d.isNone) := by
  obtain ⟨at_, r, k, bad, hB, _, _, _, ht⟩ := h.rf
  have e : bad = d.isNone := by
    rcases ht with ⟨rfl, e⟩ | ⟨rfl, e⟩ <;> rw [e] <;> rfl
  rw [← e]
  exact hB.cell 4
theorem R15.free (h : R15 w0 w A c l g b pc O co ps d out) (i : Nat) : w.frozen? ⟨b, i, none⟩ = false := h.row.free i
theorem R15.prob (h : R15 w0 w A c l g b pc O co ps d out) {i : Nat} (hi : i < 258) : w.cell? ⟨b, i, none⟩ = some (.int .u16 ((ps.getD i 0 : Nat) : Int)) := h.row.cell (by rw [h.ps_len]; exact hi)
end

/-- what the document's Decode leaves -/
def RdPost (w : World) (ans : Option (List UInt8)) (e : Ending) (w' : World) : Prop :=
  Below w.heap.size w w' ∧ ((ans = none ∧ e = .returned (.tuple #[.slice none 0 0, .int .i64 12])) ∨
    (∃ out O co, ans = some out ∧ e = .returned (.tuple #[.slice O out.length co, .int .i64 0]) ∧ Sl w' O out.length (bv out)))
end Go.Proofs.Ytdnkoeafnnohnaa

/-
  The program's decoder of ranges over probabilities that lie wherever they lie: bits, trees.
-/
namespace Go.Proofs.Ytdnkoeafnnohnaa
open Go.RowKit

/-- what a decoder turns -/
def owns (S : Sc) (g : Nat) (B : Nat → Prop) : Nat → Prop := fun i => S.turn i ∨ i = g ∨ B i
/-- the machine and its probabilities, in memory -/
structure Mch (R : World → List Nat → Prop) (g : Nat) (S : Sc) (bs : List UInt8) (L : Nat) (w : World) (t : Pm Dc) : Prop where
  sc : ScOk S
  pd : Pd w g S bs t.x
  row : R w t.ps
  ok : PmOk okD L 0 t
def MPost (R : World → List Nat → Prop) (B : Nat → Prop) (g : Nat) (S : Sc) (bs : List UInt8) (L : Nat) (w : World) (v : Value) (t : Pm Dc) (e : Ending) (w' : World) : Prop :=
  e = .returned v ∧ Mch R g S bs L w' t ∧ Only (owns S g B) w w'
theorem okD_any {L k : Nat} {t : Pm Dc} (h : PmOk okD L 0 t) : PmOk okD L k t := ⟨h.ps, h.len, h.x⟩
section
variable {R : World → List Nat → Prop} {B : Nat → Prop} {ad : Nat → Nat × Nat} {L : Nat} {S : Sc} {g r c at_ b i p a : Nat} {w : World} {bs : List UInt8} {ps : List Nat}

set_option maxRecDepth 100000 in
set_option maxHeartbeats 4000000 in
theorem lw_zero (hS : ScOk S) (Z : Prb R B ad L) (hB0 : ∀ i, B i → ¬ S.hold i ∧ i ≠ g) (hab : ad a = (b, i)) (ha : a < L) {z : Nat} (hz : z = r / 2048 * p) (hB : Blk w g 91 (pdCells S.f r c false)) (hF : S.At w bs at_) (hg : ¬ S.hold g) (hR : R w ps) (hpi : p = ps.getD a 0)
    (hr0 : 16777216 ≤ r) (hr : r < 4294967296) (hp : POk p) (hlt : c < z) :
    Calls Try.prog 48 #[.pointer (some ⟨g, 0, none⟩), .pointer (some ⟨b, i, none⟩)] w fun e w' => e = .returned (.int .i64 0) ∧ Pd w' g S bs (lvl z c (bs.drop at_)) ∧ R w' (ps.set a (up0 p)) ∧ Only (owns S g B) w w' := by
  obtain ⟨b0, b1⟩ := bound_in hr0 hr hp
  rw [← hz] at b0 b1
  obtain ⟨p0, p1⟩ := hp
  have HS := Lib.hid hS
  have hBb : B b := by have := Z.blk ha; rw [hab] at this; exact this
  have hbo := hB0 b hBb
  have hbg : b ≠ g := hbo.2
  have h1 : w.cell? ⟨g, 1, none⟩ = some (.int .u32 (r : Int)) := hB.cell 1
  have h2 : w.cell? ⟨g, 2, none⟩ = some (.int .u32 (c : Int)) := hB.cell 2
  have h3 : w.cell? ⟨g, 3, none⟩ = some (.bool false) := hB.cell 3
  have z1 : w.frozen? ⟨g, 1, none⟩ = false := hB.free 1
  have hx : w.cell? ⟨b, i, none⟩ = some (.int .u16 (p : Int)) := by have := Z.cell hR ha; rw [hab] at this; rw [hpi]; exact this
  have zx : w.frozen? ⟨b, i, none⟩ = false := by have := Z.free hR ha; rw [hab] at this; exact this
  have e0 : IntKind.u32.wrap (p : Int) = (p : Int) := u32_of _ (by omega) (by omega)
  have e1 : IntKind.u32.wrap ((r : Int) / 2048 * (p : Int)) = (z : Int) := by
    rw [show (r : Int) / 2048 * (p : Int) = (z : Int) by rw [hz]; simp]
    exact u32_of _ (by omega) (by omega)
  have e1' : IntKind.u32.wrap ((r : Int) / 2048) = (r : Int) / 2048 := u32_of _ (by omega) (by omega)
  have hlt' : (c : Int) < (z : Int) := by omega
  clear hz hpi
  have e2 : IntKind.u16.wrap (2048 - (p : Int)) = 2048 - (p : Int) := u16_in _ (by omega)
  obtain ⟨u, hu⟩ : ∃ u, u = (2048 - p) / 32 := ⟨_, rfl⟩
  have e3 : IntKind.u16.wrap ((2048 - (p : Int)).tdiv 32) = (u : Int) := by
    rw [Int.tdiv_eq_ediv_of_nonneg (by omega), show (2048 - (p : Int)) / 32 = (u : Int) by omega]
    exact u16_in _ (by omega)
  have hup : up0 p = p + u := by unfold up0; omega
  have e5 : IntKind.u16.wrap ((p : Int) + (u : Int)) = ((p + u : Nat) : Int) := by rw [← Int.natCast_add]; exact u16_in _ (by omega)
  rw [hup]
  clear hu hup
  generalize p + u = q at *
  have hO1 : ∀ n, Only (fun j => j = g) w ((w.setCell ⟨g, 1, none⟩ (.int .u32 (z : Int))).drewN n) := fun n => ((Only.refl (fun j => j = g) w).setCell (p := ⟨g, 1, none⟩) (.inl rfl) _).drewN n
  have hO : ∀ n, Only (fun j => j = g ∨ j = b) w (((w.setCell ⟨g, 1, none⟩ (.int .u32 (z : Int))).drewN n).setCell ⟨b, i, none⟩ (.int .u16 (q : Int))) := fun n => ((hO1 n).mono (fun j hj => .inl hj)).setCell (p := ⟨b, i, none⟩) (.inl (.inr rfl)) _
  have hB1 : ∀ n, Blk (((w.setCell ⟨g, 1, none⟩ (.int .u32 (z : Int))).drewN n).setCell ⟨b, i, none⟩ (.int .u16 (q : Int))) g 91 (pdCells S.f z c false) := fun n => ((hB.put 1 _).drewN n).far hbg.symm _
  have HR := Lib.hid (fun n => show R (((w.setCell ⟨g, 1, none⟩ (.int .u32 (z : Int))).drewN n).setCell ⟨b, i, none⟩ (.int .u16 (q : Int))) (ps.set a q) from by have := Z.put (Z.only hR (hO1 n) (fun j hj e => (hB0 j hj).2 e)) ha q; rw [hab] at this; exact this)
  have K := Lib.hid (fun n => even_any (hB1 n) hS (hS.only hF (hO n) (fun j hj => by rcases hj with rfl | rfl; exact hg; exact hbo.1)) hg (by omega) (Nat.le_of_lt hlt))
  have HO := Lib.hid (fun n => (hO n).mono (S' := owns S g B) (fun j hj => by rcases hj with hj | hj; exact .inr (.inl hj); exact .inr (.inr (hj ▸ hBb))))
  have HZ := Lib.hid Z
  have HB0 := Lib.hid hB0
  clear hB hF hR hB1 hO hO1 Z hB0 hbo hBb hab ha hS
  go_enter Try.func48, Try.ntmps48
  go_wp2_with fail
  go_quiet (fail)
  go_wp2_with fail
  go_region
  all_goals go_wp2_with fail
  refine (K.out (nq + 1)).mono ?_
  rintro e w1 ⟨rfl, ⟨at', r', c', bad', hB2, hF2, _, ht⟩, hO2⟩
  have HB2 := Lib.hid hB2
  have HF2 := Lib.hid hF2
  have HT := Lib.hid ht
  have HR2 := Lib.hid (HZ.out.only (HR.out (nq + 1)) hO2 (fun j hj e => by rcases e with e | e; exact (HB0.out j hj).1 (HS.out.tf _ e); exact (HB0.out j hj).2 e))
  have HO2 := Lib.hid ((HO.out (nq + 1)).trans (hO2.mono fun j hj => by rcases hj with h | h; exact .inl h; exact .inr (.inl h)))
  have KT := Lib.hid (told_any (x := 0) hB2)
  clear hB2 hF2 ht hO2 HO K HR h1 h2 h3 z1 hx zx HZ HB0
  go_wp2_with fail
  refine KT.out.mono ?_
  rintro e w2 ⟨rfl, rfl⟩
  go_wp2_with fail
  go_ret
  exact ⟨by simp, ⟨at', r', c', bad', HB2.out, HF2.out, hg, HT.out⟩, HR2.out, HO2.out⟩

set_option maxRecDepth 100000 in
set_option maxHeartbeats 4000000 in
theorem lw_one (hS : ScOk S) (Z : Prb R B ad L) (hB0 : ∀ i, B i → ¬ S.hold i ∧ i ≠ g) (hab : ad a = (b, i)) (ha : a < L) {z v : Nat} {d1 : Dc} (hd1 : lvl (r - z) (c - z) (bs.drop at_) = d1) (hv : v = if d1 = none then 0 else 1) (hz : z = r / 2048 * p) (hB : Blk w g 91 (pdCells S.f r c false)) (hF : S.At w bs at_) (hg : ¬ S.hold g) (hR : R w ps) (hpi : p = ps.getD a 0)
    (hr0 : 16777216 ≤ r) (hr : r < 4294967296) (hcr : c < r) (hp : POk p) (hlt : ¬ c < z) :
    Calls Try.prog 48 #[.pointer (some ⟨g, 0, none⟩), .pointer (some ⟨b, i, none⟩)] w fun e w' => e = .returned (.int .i64 (v : Int)) ∧ Pd w' g S bs d1 ∧ R w' (ps.set a (up1 p)) ∧ Only (owns S g B) w w' := by
  obtain ⟨b0, b1⟩ := bound_in hr0 hr hp
  rw [← hz] at b0 b1
  obtain ⟨p0, p1⟩ := hp
  have HS := Lib.hid hS
  have hBb : B b := by have := Z.blk ha; rw [hab] at this; exact this
  have hbo := hB0 b hBb
  have hbg : b ≠ g := hbo.2
  have h1 : w.cell? ⟨g, 1, none⟩ = some (.int .u32 (r : Int)) := hB.cell 1
  have h2 : w.cell? ⟨g, 2, none⟩ = some (.int .u32 (c : Int)) := hB.cell 2
  have h3 : w.cell? ⟨g, 3, none⟩ = some (.bool false) := hB.cell 3
  have z1 : w.frozen? ⟨g, 1, none⟩ = false := hB.free 1
  have z2 : w.frozen? ⟨g, 2, none⟩ = false := hB.free 2
  have hx : w.cell? ⟨b, i, none⟩ = some (.int .u16 (p : Int)) := by have := Z.cell hR ha; rw [hab] at this; rw [hpi]; exact this
  have zx : w.frozen? ⟨b, i, none⟩ = false := by have := Z.free hR ha; rw [hab] at this; exact this
  have e0 : IntKind.u32.wrap (p : Int) = (p : Int) := u32_of _ (by omega) (by omega)
  have e1 : IntKind.u32.wrap ((r : Int) / 2048 * (p : Int)) = (z : Int) := by
    rw [show (r : Int) / 2048 * (p : Int) = (z : Int) by rw [hz]; simp]
    exact u32_of _ (by omega) (by omega)
  have e1' : IntKind.u32.wrap ((r : Int) / 2048) = (r : Int) / 2048 := u32_of _ (by omega) (by omega)
  have hlt' : ¬ (c : Int) < (z : Int) := by omega
  clear hz hpi
  have e2 : IntKind.u32.wrap ((c : Int) - (z : Int)) = ((c - z : Nat) : Int) := by rw [show (c : Int) - (z : Int) = ((c - z : Nat) : Int) by omega]; exact u32_of _ (by omega) (by omega)
  have e3 : IntKind.u32.wrap ((r : Int) - (z : Int)) = ((r - z : Nat) : Int) := by rw [show (r : Int) - (z : Int) = ((r - z : Nat) : Int) by omega]; exact u32_of _ (by omega) (by omega)
  have hup : up1 p = p - p / 32 := rfl
  have e5 : IntKind.u16.wrap ((p : Int) - (p : Int) / 32) = ((p - p / 32 : Nat) : Int) := by rw [show (p : Int) - (p : Int) / 32 = ((p - p / 32 : Nat) : Int) by omega]; exact u16_in _ (by omega)
  have e6 : IntKind.u16.wrap ((p : Int) / 32) = (p : Int) / 32 := u16_in _ (by omega)
  rw [hup]
  clear hup
  generalize p - p / 32 = q at *
  have hO1 : ∀ n, Only (fun j => j = g) w (((w.setCell ⟨g, 2, none⟩ (.int .u32 ((c - z : Nat) : Int))).setCell ⟨g, 1, none⟩ (.int .u32 ((r - z : Nat) : Int))).drewN n) := fun n => (((Only.refl (fun j => j = g) w).setCell (p := ⟨g, 2, none⟩) (.inl rfl) _).setCell (p := ⟨g, 1, none⟩) (.inl rfl) _).drewN n
  have hO : ∀ n, Only (fun j => j = g ∨ j = b) w ((((w.setCell ⟨g, 2, none⟩ (.int .u32 ((c - z : Nat) : Int))).setCell ⟨g, 1, none⟩ (.int .u32 ((r - z : Nat) : Int))).drewN n).setCell ⟨b, i, none⟩ (.int .u16 (q : Int))) := fun n => ((hO1 n).mono (fun j hj => .inl hj)).setCell (p := ⟨b, i, none⟩) (.inl (.inr rfl)) _
  have hB1 : ∀ n, Blk ((((w.setCell ⟨g, 2, none⟩ (.int .u32 ((c - z : Nat) : Int))).setCell ⟨g, 1, none⟩ (.int .u32 ((r - z : Nat) : Int))).drewN n).setCell ⟨b, i, none⟩ (.int .u16 (q : Int))) g 91 (pdCells S.f (r - z) (c - z) false) := fun n => (((hB.put 2 _).put 1 _).drewN n).far hbg.symm _
  have HR := Lib.hid (fun n => show R ((((w.setCell ⟨g, 2, none⟩ (.int .u32 ((c - z : Nat) : Int))).setCell ⟨g, 1, none⟩ (.int .u32 ((r - z : Nat) : Int))).drewN n).setCell ⟨b, i, none⟩ (.int .u16 (q : Int))) (ps.set a q) from by have := Z.put (Z.only hR (hO1 n) (fun j hj e => (hB0 j hj).2 e)) ha q; rw [hab] at this; exact this)
  have K := Lib.hid (fun n => even_any (hB1 n) hS (hS.only hF (hO n) (fun j hj => by rcases hj with rfl | rfl; exact hg; exact hbo.1)) hg (by omega) (by omega))
  have HO := Lib.hid (fun n => (hO n).mono (S' := owns S g B) (fun j hj => by rcases hj with hj | hj; exact .inr (.inl hj); exact .inr (.inr (hj ▸ hBb))))
  have HZ := Lib.hid Z
  have HB0 := Lib.hid hB0
  have HD1 := Lib.hid hd1
  have HV := Lib.hid hv
  clear hB hF hR hB1 hO hO1 hd1 hv Z hB0 hbo hBb hab ha hS
  generalize r - z = r1 at *
  generalize c - z = c1 at *
  go_enter Try.func48, Try.ntmps48
  go_wp2_with fail
  go_quiet (fail)
  go_wp2_with fail
  go_region
  all_goals go_wp2_with fail
  refine (K.out (nq + 1)).mono ?_
  rintro e w1 ⟨rfl, ⟨at', r', c', bad', hB2, hF2, _, ht⟩, hO2⟩
  rw [HD1.out] at ht
  have HB2 := Lib.hid hB2
  have HF2 := Lib.hid hF2
  have HT := Lib.hid ht
  have HR2 := Lib.hid (HZ.out.only (HR.out (nq + 1)) hO2 (fun j hj e => by rcases e with e | e; exact (HB0.out j hj).1 (HS.out.tf _ e); exact (HB0.out j hj).2 e))
  have HO2 := Lib.hid ((HO.out (nq + 1)).trans (hO2.mono fun j hj => by rcases hj with h | h; exact .inl h; exact .inr (.inl h)))
  have KT := Lib.hid (told_any (x := 1) hB2)
  have hv : v = if bad' = true then 0 else 1 := by
    rw [HV.out]
    rcases ht.2.2.2 with ⟨rfl, h⟩ | ⟨rfl, h⟩
    · rw [if_pos h, if_pos rfl]
    · rw [if_neg (by rw [h]; simp), if_neg (by simp)]
  have HV2 := Lib.hid hv
  clear hB2 hF2 ht hO2 HO K HR h1 h2 h3 z1 z2 hx zx hv HV HZ HB0
  cases bad'
  all_goals
    go_wp2_with fail
    refine KT.out.mono ?_
    rintro e w2 ⟨rfl, rfl⟩
    go_wp2_with fail
    go_ret
    refine ⟨?_, ⟨at', r', c', _, HB2.out, HF2.out, hg, HT.out⟩, HR2.out, HO2.out⟩
    rw [HV2.out]
    rfl

/-- A bit. -/
theorem lw_bit (Z : Prb R B ad L) (hB0 : ∀ i, B i → ¬ S.hold i ∧ i ≠ g) (hab : ad a = (b, i)) (ha : a < L) {t : Pm Dc} {k : Int} (h : Mch R g S bs L w t) :
    Calls Try.prog 48 #[.pointer (some ⟨g, 0, none⟩), .pointer (some ⟨b, i, none⟩)] w (MPost R B g S bs L w (.int .i64 ((bitP decM t a k).1 : Int)) (bitP decM t a k).2) := by
  have hnext := (bitP_ok decM_ok (k := 0) (a := a) (w := k) (okD_any h.ok) ha (fun h => by cases h)).2
  have hps := getD_ok h.ok.ps (show a < t.ps.length by rw [h.ok.len]; exact ha)
  obtain ⟨hS, hP, hR, hok⟩ := h
  obtain ⟨at_, r, c, bad, hB, hF, hg, h0, h1, h2, h3⟩ := hP
  rcases h3 with ⟨rfl, hn⟩ | ⟨rfl, hn⟩
  · refine (bit_bad hB).mono ?_
    rintro e w' ⟨rfl, rfl⟩
    have e1 : (bitP decM t a k).1 = 0 := by show (bitD t.x _).1 = 0; rw [hn]; rfl
    have e2 : (bitP decM t a k).2 = t := by
      show (⟨t.ps.set a (bitD t.x (t.ps.getD a 0)).2.1, (bitD t.x (t.ps.getD a 0)).2.2⟩ : Pm Dc) = t
      rw [hn]
      show (⟨t.ps.set a (t.ps.getD a 0), none⟩ : Pm Dc) = t
      rw [set_same_get _ _ (by rw [hok.len]; exact ha), ← hn]
    rw [e1, e2]
    exact ⟨rfl, ⟨hS, ⟨at_, r, c, true, hB, hF, hg, h0, h1, h2, .inl ⟨rfl, hn⟩⟩, hR, hok⟩, Only.refl _ _⟩
  · obtain ⟨d0, d1, d2⟩ := hok.x _ _ _ hn
    have hx : bitP decM t a k = ((bitD t.x (t.ps.getD a 0)).1, ⟨t.ps.set a (bitD t.x (t.ps.getD a 0)).2.1, (bitD t.x (t.ps.getD a 0)).2.2⟩) := rfl
    rw [hx] at hnext ⊢
    rw [hn] at hnext ⊢
    unfold bitD at hnext ⊢
    simp only [] at hnext ⊢
    by_cases hlt : c < r / 2048 * t.ps.getD a 0
    · rw [if_pos hlt] at hnext ⊢
      refine (lw_zero hS Z hB0 hab ha rfl hB hF hg hR rfl d0 d1 hps hlt).mono ?_
      rintro e w' ⟨rfl, g1, g2, g3⟩
      exact ⟨rfl, ⟨hS, g1, g2, hnext⟩, g3⟩
    · rw [if_neg hlt] at hnext ⊢
      refine (lw_one hS Z hB0 hab ha rfl rfl rfl hB hF hg hR rfl d0 d1 d2 hps hlt).mono ?_
      rintro e w' ⟨rfl, g1, g2, g3⟩
      cases hl : lvl (r - r / 2048 * t.ps.getD a 0) (c - r / 2048 * t.ps.getD a 0) (bs.drop at_) with
      | none => rw [hl] at hnext g1; exact ⟨rfl, ⟨hS, g1, g2, hnext⟩, g3⟩
      | some u => rw [hl] at hnext g1; exact ⟨rfl, ⟨hS, g1, g2, hnext⟩, g3⟩

theorem Mch.cells {t : Pm Dc} (h : Mch R g S bs L w t) : ∃ (r c : Nat) (bad : Bool), Blk w g 91 (pdCells S.f r c bad) ∧ (bad = true ↔ t.x = none) := by
  obtain ⟨at_, r, c, bad, hB, hF, hfg, h0, h1, h2, h3⟩ := h.pd
  refine ⟨r, c, bad, hB, ?_⟩
  rcases h3 with ⟨rfl, hn⟩ | ⟨rfl, hn⟩
  · simp [hn]
  · simp [hn]

end
end Go.Proofs.Ytdnkoeafnnohnaa

/-
  The filter of four streams in memory: its cells, its four sources, its decoder.
-/
namespace Go.Proofs.Ytdnkoeafnnohnaa
open Go.RowKit

def fdV (f : Nat) : Value := .iface 37 (.pointer (some ⟨f, 0, none⟩))
/-- the filter's cells -/
def b2c (f : Nat → Nat) (g : Nat) (s : B2) (i : Nat) : Value :=
  if i < 4 then fdV (f i)
  else if i = 4 then .pointer (some ⟨g, 0, none⟩)
  else if i < 263 then .int .u16 ((s.ps.getD (i - 5) 0 : Nat) : Int)
  else if i = 263 then .bool s.dead
  else if i = 264 then .int .i64 (s.left : Int)
  else if i = 265 then .int .u32 (s.told : Int)
  else if i = 266 then .int .u8 (s.ahead : Int)
  else if i = 267 then .bool s.opn
  else if i = 268 then .int .i64 (s.num : Int)
  else if i = 269 then .int .u32 (s.target : Int)
  else if i = 270 then .int .i64 (s.waits : Int)
  else .nilIface
def FlB (w : World) (F : Nat) (f : Nat → Nat) (g : Nat) (s : B2) : Prop :=
  s.ps.length = 258 ∧ ∃ cs, Blk w F 70 cs ∧ cs.size = 271 ∧ ∀ i, i < 271 → cs[i]? = some (b2c f g s i)

section
variable {w w' : World} {F g : Nat} {f : Nat → Nat} {s s' : B2}
theorem FlB.lt (h : FlB w F f g s) : F < w.heap.size := by obtain ⟨_, _, h, _⟩ := h; exact h.lt
theorem FlB.cell (h : FlB w F f g s) (i : Nat) (hi : i < 271) : w.cell? ⟨F, i, none⟩ = some (b2c f g s i) := by
  obtain ⟨_, cs, hB, _, hc⟩ := h
  rw [hB.cell i, hc i hi]
theorem FlB.free (h : FlB w F f g s) (i : Nat) : w.frozen? ⟨F, i, none⟩ = false := by
  obtain ⟨_, cs, hB, _⟩ := h
  exact hB.free i
theorem FlB.only {T : Nat → Prop} (h : FlB w F f g s) (hO : Only T w w') (hF : ¬ T F) : FlB w' F f g s := by
  obtain ⟨h0, cs, hB, hz, hc⟩ := h
  exact ⟨h0, cs, hB.only hO hF, hz, hc⟩
theorem FlB.put (h : FlB w F f g s) (i : Nat) (v : Value) (hl : s'.ps.length = 258) (hi : i < 271) (he : b2c f g s' i = v) (hn : ∀ j, j < 271 → j ≠ i → b2c f g s' j = b2c f g s j) : FlB (w.setCell ⟨F, i, none⟩ v) F f g s' := by
  obtain ⟨_, cs, hB, hz, hc⟩ := h
  refine ⟨hl, _, hB.put i v, by rw [Array.size_setIfInBounds]; exact hz, fun j hj => ?_⟩
  rw [Array.getElem?_setIfInBounds]
  by_cases e : i = j
  · subst e
    rw [if_pos rfl, if_pos (by omega), he]
  · rw [if_neg e, hc j hj, hn j hj (by omega)]
theorem FlB.src (h : FlB w F f g s) {k : Nat} (hk : k < 4) : w.cell? ⟨F, k, none⟩ = some (fdV (f k)) := by
  rw [h.cell k (by omega)]; unfold b2c; rw [if_pos hk]
theorem FlB.dec (h : FlB w F f g s) : w.cell? ⟨F, 4, none⟩ = some (.pointer (some ⟨g, 0, none⟩)) := h.cell 4 (by omega)
theorem FlB.ps (h : FlB w F f g s) {a : Nat} (ha : a < 258) : w.cell? ⟨F, 5 + a, none⟩ = some (.int .u16 ((s.ps.getD a 0 : Nat) : Int)) := by
  rw [h.cell (5 + a) (by omega)]; unfold b2c
  rw [if_neg (by omega), if_neg (by omega), if_pos (by omega), show 5 + a - 5 = a by omega]
theorem FlB.dead (h : FlB w F f g s) : w.cell? ⟨F, 263, none⟩ = some (.bool s.dead) := h.cell 263 (by omega)
theorem FlB.left (h : FlB w F f g s) : w.cell? ⟨F, 264, none⟩ = some (.int .i64 (s.left : Int)) := h.cell 264 (by omega)
theorem FlB.told (h : FlB w F f g s) : w.cell? ⟨F, 265, none⟩ = some (.int .u32 (s.told : Int)) := h.cell 265 (by omega)
theorem FlB.ahead (h : FlB w F f g s) : w.cell? ⟨F, 266, none⟩ = some (.int .u8 (s.ahead : Int)) := h.cell 266 (by omega)
theorem FlB.opn (h : FlB w F f g s) : w.cell? ⟨F, 267, none⟩ = some (.bool s.opn) := h.cell 267 (by omega)
theorem FlB.num (h : FlB w F f g s) : w.cell? ⟨F, 268, none⟩ = some (.int .i64 (s.num : Int)) := h.cell 268 (by omega)
theorem FlB.target (h : FlB w F f g s) : w.cell? ⟨F, 269, none⟩ = some (.int .u32 (s.target : Int)) := h.cell 269 (by omega)
theorem FlB.waits (h : FlB w F f g s) : w.cell? ⟨F, 270, none⟩ = some (.int .i64 (s.waits : Int)) := h.cell 270 (by omega)
theorem FlB.putDead (h : FlB w F f g s) (x : Bool) : FlB (w.setCell ⟨F, 263, none⟩ (.bool x)) F f g { s with dead := x } :=
  h.put 263 _ h.1 (by omega) rfl fun j _ hn => by simp [b2c, hn]
theorem FlB.putLeft (h : FlB w F f g s) (x : Nat) : FlB (w.setCell ⟨F, 264, none⟩ (.int .i64 (x : Int))) F f g { s with left := x } :=
  h.put 264 _ h.1 (by omega) rfl fun j _ hn => by simp [b2c, hn]
theorem FlB.putTold (h : FlB w F f g s) (x : Nat) : FlB (w.setCell ⟨F, 265, none⟩ (.int .u32 (x : Int))) F f g { s with told := x } :=
  h.put 265 _ h.1 (by omega) rfl fun j _ hn => by simp [b2c, hn]
theorem FlB.putAhead (h : FlB w F f g s) (x : Nat) : FlB (w.setCell ⟨F, 266, none⟩ (.int .u8 (x : Int))) F f g { s with ahead := x } :=
  h.put 266 _ h.1 (by omega) rfl fun j _ hn => by simp [b2c, hn]
theorem FlB.putOpn (h : FlB w F f g s) (x : Bool) : FlB (w.setCell ⟨F, 267, none⟩ (.bool x)) F f g { s with opn := x } :=
  h.put 267 _ h.1 (by omega) rfl fun j _ hn => by simp [b2c, hn]
theorem FlB.putNum (h : FlB w F f g s) (x : Nat) : FlB (w.setCell ⟨F, 268, none⟩ (.int .i64 (x : Int))) F f g { s with num := x } :=
  h.put 268 _ h.1 (by omega) rfl fun j _ hn => by simp [b2c, hn]
theorem FlB.putTarget (h : FlB w F f g s) (x : Nat) : FlB (w.setCell ⟨F, 269, none⟩ (.int .u32 (x : Int))) F f g { s with target := x } :=
  h.put 269 _ h.1 (by omega) rfl fun j _ hn => by simp [b2c, hn]
theorem FlB.putWaits (h : FlB w F f g s) (x : Nat) : FlB (w.setCell ⟨F, 270, none⟩ (.int .i64 (x : Int))) F f g { s with waits := x } :=
  h.put 270 _ h.1 (by omega) rfl fun j _ hn => by simp [b2c, hn]
theorem FlB.putPs (h : FlB w F f g s) {a : Nat} (ha : a < 258) (q : Nat) : FlB (w.setCell ⟨F, 5 + a, none⟩ (.int .u16 (q : Int))) F f g { s with ps := s.ps.set a q } :=
  h.put (5 + a) _ (by show (s.ps.set a q).length = 258; rw [List.length_set]; exact h.1) (by omega) (by
    unfold b2c
    rw [if_neg (by omega), if_neg (by omega), if_pos (by omega), show 5 + a - 5 = a by omega]
    have := h.1
    simp [List.getD, show a < s.ps.length by omega]) fun j hj hn => by
    unfold b2c
    by_cases h1 : 5 ≤ j ∧ j < 263
    · rw [if_neg (by omega), if_neg (by omega), if_pos (by omega), if_neg (by omega), if_neg (by omega), if_pos (by omega)]
      simp [List.getD, show a ≠ j - 5 by omega]
    · by_cases h2 : j < 4
      · simp only [if_pos h2]
      · by_cases h3 : j = 4
        · simp only [if_neg h2, if_pos h3]
        · simp only [if_neg h2, if_neg h3, if_neg (show ¬ j < 263 by omega)]
/-- what of the state the filter's own block doesn't hold -/
theorem FlB.same (h : FlB w F f g s) (src : Nat → List UInt8) (d : Dc) : FlB w F f g { s with src := src, d := d } := by
  obtain ⟨h0, cs, hB, hz, hc⟩ := h
  exact ⟨h0, cs, hB, hz, hc⟩
end

/-- its probabilities, wherever they lie -/
theorem b2_prb (F : Nat) (f : Nat → Nat) (g : Nat) (s : B2) : Prb (fun w ps => FlB w F f g { s with ps := ps }) (fun i => i = F) (fun a => (F, 5 + a)) 258 where
  blk _ := rfl
  cell h ha := h.ps ha
  free h _ := h.free _
  put h ha q := h.putPs ha q
  only h hO hS := h.only hO (hS F rfl)
  len h := h.1
  old h hi := by subst hi; exact h.lt

/-- four sources, the decoder and the filter, apart from each other -/
structure Apt (F g : Nat) (S : Nat → Sc) : Prop where
  ok : ∀ k, k < 4 → ScOk (S k)
  dis : ∀ k l, k < 4 → l < 4 → k ≠ l → ∀ i, (S k).hold i → ¬ (S l).hold i
  nF : ∀ k, k < 4 → ¬ (S k).hold F
  ng : ∀ k, k < 4 → ¬ (S k).hold g
  ne : F ≠ g
def fset (F g : Nat) (S : Nat → Sc) : Nat → Prop := fun i => i = F ∨ i = g ∨ ∃ k, k < 4 ∧ (S k).turn i
/-- the filter at block F with the decoder at block g over four sources of the bytes bs; its state is s -/
structure Fl (w : World) (F g : Nat) (S : Nat → Sc) (bs : Nat → List UInt8) (s : B2) : Prop where
  blk : FlB w F (fun k => (S k).f) g s
  ok : B2Ok s
  apt : Apt F g S
  at_ : s.dead = false → ∀ k, k < 3 → ∃ n, (S k).At w (bs k) n ∧ s.src k = (bs k).drop n
  pd : s.dead = false → Pd w g (S 3) (bs 3) s.d
def BPost (w : World) (F g : Nat) (S : Nat → Sc) (bs : Nat → List UInt8) (v : Value) (s : B2) (e : Ending) (w' : World) : Prop :=
  e = .returned v ∧ Fl w' F g S bs s ∧ Only (fset F g S) w w'

section
variable {w w' : World} {F g : Nat} {S : Nat → Sc} {bs : Nat → List UInt8} {s s' : B2}
theorem Apt.turn (h : Apt F g S) {k : Nat} (hk : k < 4) {i : Nat} (hi : (S k).turn i) : i ≠ F ∧ i ≠ g := by
  have := (h.ok k hk).tf i hi
  exact ⟨fun e => h.nF k hk (e ▸ this), fun e => h.ng k hk (e ▸ this)⟩
theorem Fl.drewN (h : Fl w F g S bs s) (n : Nat) : Fl (w.drewN n) F g S bs s :=
  ⟨h.blk.only ((Only.refl (fun _ => False) w).drewN n) (fun h => h), h.ok, h.apt, fun hd k hk => by
    obtain ⟨m, h1, h2⟩ := h.at_ hd k hk
    exact ⟨m, (h.apt.ok k (by omega)).only h1 ((Only.refl (fun _ => False) w).drewN n) (fun _ h => h.elim), h2⟩, fun hd => (h.pd hd).drewN (h.apt.ok 3 (by decide)) n⟩
/-- Other blocks turn. -/
theorem Fl.only {T : Nat → Prop} (h : Fl w F g S bs s) (hO : Only T w w') (hT : ∀ i, T i → i ≠ F ∧ i ≠ g ∧ ∀ k, k < 4 → ¬ (S k).hold i) : Fl w' F g S bs s :=
  ⟨h.blk.only hO (fun hh => (hT F hh).1 rfl), h.ok, h.apt, fun hd k hk => by
    obtain ⟨m, h1, h2⟩ := h.at_ hd k hk
    exact ⟨m, (h.apt.ok k (by omega)).only h1 hO (fun i hi => (hT i hi).2.2 k (by omega)), h2⟩, fun hd => (h.pd hd).only (h.apt.ok 3 (by decide)) hO (fun i hi => ⟨(hT i hi).2.2 3 (by decide), (hT i hi).2.1⟩)⟩
/-- The filter's own block turns. -/
theorem Fl.own (h : Fl w F g S bs s) (hB : FlB w' F (fun k => (S k).f) g s') (hO : Only (fun i => i = F) w w') (hok : B2Ok s') (hd : s'.dead = false → s.dead = false) (hsrc : s'.src = s.src) (hdd : s'.d = s.d) : Fl w' F g S bs s' :=
  ⟨hB, hok, h.apt, fun he k hk => by
    obtain ⟨m, h1, h2⟩ := h.at_ (hd he) k hk
    exact ⟨m, (h.apt.ok k (by omega)).only h1 hO (fun i hi hh => h.apt.nF k (by omega) (hi ▸ hh)), by rw [hsrc]; exact h2⟩, fun he => by
    rw [hdd]
    exact (h.pd (hd he)).only (h.apt.ok 3 (by decide)) hO (fun i hi => ⟨fun hh => h.apt.nF 3 (by decide) (hi ▸ hh), fun e => h.apt.ne (hi.symm.trans e)⟩)⟩
theorem own_fset {w w' : World} (h : Only (fun i => i = F) w w') : Only (fset F g S) w w' := h.mono fun i hi => .inl hi
theorem Fl.old (h : Fl w F g S bs s) : F < w.heap.size := h.blk.lt

theorem B2Ok.withD (h : B2Ok s) : B2Ok { s with dead := true } := ⟨h.d, h.ps, h.len, h.told, h.ahead, h.num, h.target, h.waits, h.left⟩

set_option maxHeartbeats 1000000 in
theorem flbad_any (h : Fl w F g S bs s) : Calls Try.prog 33 #[.pointer (some ⟨F, 0, none⟩)] w fun e w' => e = .returned (.bool s.bad) ∧ w = w' := by
  have c3 := h.blk.dead
  have c4 := h.blk.dec
  cases hd : s.dead
  · obtain ⟨at_, r, c, bad, hB, _, _, _, _, _, ht⟩ := h.pd hd
    have hb : s.bad = bad := by
      unfold B2.bad
      rw [hd]
      rcases ht with ⟨rfl, e⟩ | ⟨rfl, e⟩
      · rw [e]; rfl
      · rw [e]; rfl
    rw [hd] at c3
    have K := Lib.hid (bad_any hB)
    rw [hb]
    clear hB ht h hb hd
    go_enter Try.func33, Try.ntmps33
    go_wp2_with fail
    refine K.out.mono ?_
    rintro e w' ⟨rfl, rfl⟩
    go_wp2_with fail
    go_ret
    exact ⟨rfl, rfl⟩
  · have hb : s.bad = true := by unfold B2.bad; rw [hd]; rfl
    rw [hd] at c3
    rw [hb]
    clear h hb hd
    go_enter Try.func33, Try.ntmps33
    go_wp2_with fail
    go_ret
    exact ⟨rfl, rfl⟩
end
end Go.Proofs.Ytdnkoeafnnohnaa
