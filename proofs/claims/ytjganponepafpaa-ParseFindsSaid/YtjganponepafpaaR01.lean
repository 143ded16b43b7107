/-
  Mem, Open, PsOpen, Pkts, PsPure, Only, Pure, Arith, Info, PsLong, PsWor: put together.
-/
import Derived.WalkKit
import Derived.WalkSpells
import Derived.WalkLawsBesides
import Derived.Deep.Draws
import Derived.Deep.AppendLies
import Derived.Maps.AppendAt
import Derived.Lib.Hide
import Derived.ProofKit
import Derived.OpenShut
import Derived.ShutString
import Derived.ChangeOld
import Derived.Below
import Derived.Deep.Grids
import Derived.Lib.SmallJoins
import Derived.Laws.IdiomArrays
import Derived.Deep.SlicePairs
import Derived.Laws.BitsAllLaws
import Derived.Laws.BitsLemmas
import Derived.Test.YtjganponepafpaaRows
import Derived.Tactics
import Derived.Tactics2
import Derived.Laws.Pointers
import Derived.RegionTactic
import Derived.RegionCalls
import Derived.BigQuiet
import Derived.Lib.SliceRun
set_option linter.unusedVariables false
set_option linter.unusedSimpArgs false
/-
  What the walks of this seat say of memory: a slice that reads as a list, a block that is known whole, and what stays.
-/
namespace Go.Proofs.Ytjganponepafpaa
open Go.RowKit

/-- bytes as cells -/
def bv (l : List UInt8) : List Value := l.map fun b => Value.int .u8 (b.toNat : Int)
/-- flags as cells -/
def fv (l : List Bool) : List Value := l.map Value.bool

theorem bv_length (l : List UInt8) : (bv l).length = l.length := by simp [bv]
theorem bv_get (l : List UInt8) (i : Nat) (h : i < l.length) : (bv l)[i]? = some (.int .u8 ((l.getD i 0).toNat : Int)) := by
  simp [bv, List.getD, h]
theorem bv_drop (l : List UInt8) (k : Nat) : bv (l.drop k) = (bv l).drop k := by simp [bv]
theorem bv_take (l : List UInt8) (k : Nat) : bv (l.take k) = (bv l).take k := by simp [bv]
theorem bv_one (l : List UInt8) : ∀ u ∈ bv l, u.oneCell' = true := by
  intro u hu
  obtain ⟨_, _, rfl⟩ := List.mem_map.1 hu
  rfl
theorem ret_int {k : IntKind} {a b : Int} (h : a = b) : Ending.returned (.int k a) = .returned (.int k b) := by rw [h]

/-- The slice (A, n) reads as the cells xs, one an element, in the world w. -/
def Sl (w : World) (A : Option Addr) (n : Nat) (xs : List Value) : Prop :=
  xs.length = n ∧ (0 < n → ∃ b o, A = some ⟨b, o, none⟩ ∧ b < w.heap.size ∧ ∀ j, j < n → w.cell? ⟨b, o + j, none⟩ = xs[j]?)

section
variable {w w' : World} {A : Option Addr} {n : Nat} {xs : List Value}
theorem Sl.len (h : Sl w A n xs) : xs.length = n := h.1
theorem Sl.nil : Sl w A 0 [] := ⟨rfl, fun h => absurd h (by omega)⟩
theorem Sl.at_ (h : Sl w A n xs) (hn : 0 < n) : ∃ b o, A = some ⟨b, o, none⟩ ∧ b < w.heap.size ∧ ∀ j, j < n → w.cell? ⟨b, o + j, none⟩ = xs[j]? := h.2 hn
/-- It reads so in each later world in which the old blocks are what they were. -/
theorem Sl.keep (h : Sl w A n xs) (hz : w.heap.size ≤ w'.heap.size) (hk : 0 < n → ∀ b o, A = some ⟨b, o, none⟩ → b < w.heap.size → w'.heap[b]? = w.heap[b]?) : Sl w' A n xs := by
  refine ⟨h.1, fun hn => ?_⟩
  obtain ⟨b, o, e, hb, hc⟩ := h.2 hn
  refine ⟨b, o, e, by omega, fun j hj => ?_⟩
  rw [← hc j hj]
  exact World.cell?_of_block (hk hn b o e hb)
theorem Sl.below (h : Sl w A n xs) (hb : Below w.heap.size w w') : Sl w' A n xs := h.keep hb.size fun _ b _ _ hlt => hb.block b hlt
theorem Sl.drewN (h : Sl w A n xs) (k : Nat) : Sl (w.drewN k) A n xs := h
theorem Sl.alloc (h : Sl w A n xs) (o : Obj) : Sl (w.alloc o) A n xs := h.below ((Below.refl _ _).alloc (Nat.le_refl _) _)
theorem Sl.grown (h : Sl w A n xs) {g : Nat} (hg : w.grownBy w' (some g)) (hne : 0 < n → ∀ b o, A = some ⟨b, o, none⟩ → b ≠ g) : Sl w' A n xs :=
  h.keep hg.size fun hn b o e hlt => hg.block b hlt (fun e' => by injection e' with e'; exact hne hn b o e e')
/-- A cut from k on. -/
theorem Sl.cut (h : Sl w A n xs) {k cap : Nat} (hk : k ≤ n) (hc : n ≤ cap) :
    Sl w (if cap = k then A else A.map (·.add k)) (n - k) (xs.drop k) := by
  refine ⟨by rw [List.length_drop, h.1], fun hn => ?_⟩
  obtain ⟨b, o, rfl, hb, hcell⟩ := h.2 (by omega)
  rw [if_neg (by omega)]
  refine ⟨b, o + k, ?_, hb, fun j hj => ?_⟩
  · unfold Addr.add
    by_cases h0 : k = 0
    · subst h0; simp
    · simp [h0]
  · rw [List.getElem?_drop, ← hcell (k + j) (by omega), Nat.add_assoc]
/-- The first k. -/
theorem Sl.first (h : Sl w A n xs) {k : Nat} (hk : k ≤ n) : Sl w A k (xs.take k) := by
  refine ⟨by rw [List.length_take, h.1]; omega, fun hn => ?_⟩
  obtain ⟨b, o, rfl, hb, hcell⟩ := h.2 (by omega)
  refine ⟨b, o, rfl, hb, fun j hj => ?_⟩
  rw [List.getElem?_take_of_lt hj]
  exact hcell j (by omega)
theorem Sl.of_own {base : Nat} {e : TypeId} {c : Nat} (h : w.ownsRow base e 1 (.slice A n c) n xs) : Sl w A n xs := by
  refine ⟨by rw [h.1]; omega, fun hn => ?_⟩
  obtain ⟨g, cap, hv, _, hlt⟩ := h.form hn
  injection hv with hA hc
  subst hA
  refine ⟨g, 0, rfl, hlt, fun j hj => ?_⟩
  have hl := h.1
  have hj' : j < xs.length := by omega
  have := h.cells (g := g) rfl j xs[j] (List.getElem?_eq_getElem hj')
  rw [List.getElem?_eq_getElem hj', ← this]
  unfold Addr.add
  by_cases h0 : j = 0
  · subst h0; simp
  · simp [h0]
/-- The source of an append, as the library's laws ask it. -/
theorem Sl.news {b o : Nat} (h : Sl w (some ⟨b, o, none⟩) n xs) : ∀ j u, xs[j]? = some u → w.cell? ((⟨b, o, none⟩ : Addr).add j) = some u := by
  intro j u hu
  have hj : j < xs.length := (List.getElem?_eq_some_iff.1 hu).1
  have hl := h.1
  obtain ⟨b', o', e, _, hc⟩ := h.2 (by omega)
  injection e with e
  injection e with e1 e2
  subst e1 e2
  rw [← hu, ← hc j (by omega)]
  unfold Addr.add
  by_cases h0 : j = 0
  · subst h0; simp
  · simp [h0]
end

theorem own_facts {w : World} {base : Nat} {e : TypeId} {A : Option Addr} {n c : Nat} {xs : List Value} (h : w.ownsRow base e 1 (.slice A n c) n xs) :
    Sl w A n xs ∧ n ≤ c ∧ c ≤ maxLen ∧ ∀ b o, A = some ⟨b, o, none⟩ → base ≤ b ∧ b < w.heap.size := by
  refine ⟨Sl.of_own h, ?_⟩
  rcases h.2 with ⟨hv, rfl⟩ | ⟨g, cap, cur, hv, hb, hh, hnc, hc, _⟩
  · injection hv with e1 e2 e3
    subst e1 e3
    exact ⟨Nat.le_refl _, by unfold maxLen; omega, fun b o e => by cases e⟩
  · injection hv with e1 e2 e3
    subst e1 e3
    refine ⟨hnc, hc, fun b o e => ?_⟩
    injection e with e
    injection e with e
    subst e
    refine ⟨hb, ?_⟩
    rcases Nat.lt_or_ge g w.heap.size with hlt | hge
    · exact hlt
    · rw [Array.getElem?_eq_none hge] at hh; cases hh
theorem own_form {w : World} {base : Nat} {e : TypeId} {v : Value} {n : Nat} {xs : List Value} (h : w.ownsRow base e 1 v n xs) :
    ∃ A c, v = .slice A n c ∧ w.ownsRow base e 1 (.slice A n c) n xs := by
  rcases h.2 with ⟨rfl, rfl⟩ | ⟨g, cap, cur, rfl, _⟩
  · exact ⟨_, _, rfl, h⟩
  · exact ⟨_, _, rfl, h⟩
theorem own_empty (w : World) {base : Nat} (hb : base ≤ w.heap.size) (e : TypeId) : (w.alloc (.cells #[] e)).ownsRow base e 1 (.slice (some ⟨w.heap.size, 0, none⟩) 0 0) 0 [] :=
  ⟨rfl, .inr ⟨w.heap.size, 0, #[], rfl, hb, heap_alloc_new w _, Nat.le_refl _, by unfold maxLen; omega, rfl, rfl⟩⟩
theorem own_one (w : World) {base : Nat} (hb : base ≤ w.heap.size) (e : TypeId) (u : Value) : (w.alloc (.cells #[u] e)).ownsRow base e 1 (.slice (some ⟨w.heap.size, 0, none⟩) 1 1) 1 [u] :=
  ⟨rfl, .inr ⟨w.heap.size, 1, #[u], rfl, hb, heap_alloc_new w _, Nat.le_refl _, by unfold maxLen; omega, rfl, rfl⟩⟩

theorem sl_one (w : World) (e : TypeId) (u : Value) : Sl (w.alloc (.cells #[u] e)) (some ⟨w.heap.size, 0, none⟩) 1 [u] := Sl.of_own (own_one w (Nat.le_refl _) e u)
theorem one_one (k : IntKind) (x : Int) : ∀ u ∈ [Value.int k x], u.oneCell' = true := by
  intro u hu
  rw [List.mem_singleton.1 hu]; rfl

section
variable {P : Program} (w : World)
/-- append onto a row of the call's own, from whatever slice, one cell an element. -/
theorem run_app (base : Nat) (t ty e : TypeId) (i : TypeInfo) (z : Value) (bytes : Nat) (ht : P.underlying t = some (.slice e)) (hi : P.info? e = some i) (hz : i.zero = some z)
    (hsize : i.size = 1) (hby : i.bytes = bytes) (hzs : z.cells.size = 1)
    (v : Value) (n : Nat) (xs : List Value) (hown : w.ownsRow base e 1 v n xs)
    (A : Option Addr) (m c : Nat) (news : List Value) (hr : Sl w A m news) (h1 : ∀ u ∈ news, u.oneCell' = true)
    (hbytes : (n + m) * bytes ≤ 140737488355328) (hb0 : 0 < bytes) (hbase : base ≤ w.heap.size) :
    ∃ v' w', (Builtin.append_ #[t, t] ty #[v, .slice A m c]).run P w = .ok v' w' ∧ w'.ownsRow base e 1 v' (n + m) (xs ++ news) ∧ w.grownBy w' v.ownBlock ∧
      (v'.ownBlock = v.ownBlock ∨ v'.ownBlock = some w.heap.size) := by
  have h63 : n + m ≤ maxLen := by
    have := Nat.le_mul_of_pos_right (n + m) hb0
    unfold maxLen; omega
  rcases A with _ | ad
  · have hm : m = 0 := by
      rcases Nat.eq_zero_or_pos m with h0 | h0
      · exact h0
      · obtain ⟨_, _, h, _⟩ := hr.2 h0
        cases h
    subst hm
    have hn : news = [] := List.eq_nil_of_length_eq_zero hr.1
    subst hn
    refine ⟨v, w, ?_, by simpa using hown, World.grownBy.refl w _, .inl rfl⟩
    rcases hown.2 with ⟨rfl, rfl⟩ | ⟨g, cap, cur, rfl, _, _, hnc, _⟩
    · simp [Builtin.append_, run_underlying ht, sizeOf, typeInfo, hi, Builtin.lenOf, Builtin.firstCells]
    · simp [Builtin.append_, run_underlying ht, sizeOf, typeInfo, hi, Builtin.lenOf, Builtin.firstCells, hnc, storeCells]
  · have hcells : ∀ j u, news[j]? = some u → w.cell? (ad.add j) = some u := by
      intro j u hu
      rcases Nat.eq_zero_or_pos m with h0 | h0
      · subst h0
        have hn : news = [] := List.eq_nil_of_length_eq_zero hr.1
        subst hn
        simp at hu
      · obtain ⟨b, o, h, _⟩ := hr.2 h0
        injection h with h
        subst h
        exact hr.news j u hu
    obtain ⟨v', w', hrun, h2, h3, _, h5⟩ := run_append_own_at (P := P) w base t ty e i z 1 bytes ht hi hz hsize hby hzs (by omega) v n xs hown ad m c news (by rw [hr.1]; omega) hcells h1 h63 hbytes hbase
    exact ⟨v', w', hrun, h2, h3, h5⟩

theorem wpList_app {ops : Array Oper} {rest : List Oper} {o : Oper} {a : Act} {Q : Exit → Act → World → Prop} (hgd : o.guard = none) (s x : Operand) (t : TypeId)
    (ho : o.op = .call { callee := .builtin .append, args := #[s, x], argTypes := #[t, t] })
    (base : Nat) (e : TypeId) (i : TypeInfo) (z : Value) (bytes : Nat) (ht : P.underlying t = some (.slice e)) (hi : P.info? e = some i) (hz : i.zero = some z)
    (hsize : i.size = 1) (hby : i.bytes = bytes) (hzs : z.cells.size = 1)
    (v : Value) (n : Nat) (xs : List Value) (hs : a.eval s = v) (hown : w.ownsRow base e 1 v n xs)
    (A : Option Addr) (m c : Nat) (news : List Value) (hx : a.eval x = .slice A m c) (hr : Sl w A m news) (h1 : ∀ u ∈ news, u.oneCell' = true)
    (hbytes : (n + m) * bytes ≤ 140737488355328) (hb0 : 0 < bytes) (hbase : base ≤ w.heap.size)
    (h : ∀ A' c' w', w'.ownsRow base e 1 (.slice A' (n + m) c') (n + m) (xs ++ news) → w.grownBy w' v.ownBlock → wpList P ops Q rest (a.put o.dst (.slice A' (n + m) c')) w') : wpList P ops Q (o :: rest) a w :=
  wpList_plain hgd fun K hK => by
    obtain ⟨v', w', hrun, h2, h3, _⟩ := run_app (P := P) w base t o.type e i z bytes ht hi hz hsize hby hzs v n xs hown A m c news hr h1 hbytes hb0 hbase
    obtain ⟨A', c', rfl, h2⟩ := own_form h2
    unfold Oper.wp execOp
    simp only [ho, resolve, invoke, builtin, Sem.run_bind, Sem.run_pure, Result.andThen_ok, List.map_toArray, List.map_cons, List.map_nil, hs, hx, hrun]
    exact hK _ _ (h A' c' w' h2 h3)
end

/-- Block g is the cells cs of element type t, none frozen. -/
def Blk (w : World) (g : Nat) (t : TypeId) (cs : Array Value) : Prop := w.heap[g]? = some (.cells cs t (0, 0))

section
variable {w w' : World} {g : Nat} {t : TypeId} {cs : Array Value}
theorem Blk.lt (h : Blk w g t cs) : g < w.heap.size := by
  rcases Nat.lt_or_ge g w.heap.size with hlt | hge
  · exact hlt
  · unfold Blk at h; rw [Array.getElem?_eq_none hge] at h; cases h
theorem Blk.cell (h : Blk w g t cs) (i : Nat) : w.cell? ⟨g, i, none⟩ = cs[i]? := cell_of_row w g i cs t (0, 0) h
theorem Blk.free (h : Blk w g t cs) (i : Nat) : w.frozen? ⟨g, i, none⟩ = false := frozen_of_row w g i cs t h
theorem Blk.fresh (w : World) (t : TypeId) (cs : Array Value) : Blk (w.alloc (.cells cs t)) w.heap.size t cs := heap_alloc_new w _
theorem Blk.drewN (h : Blk w g t cs) (n : Nat) : Blk (w.drewN n) g t cs := h
theorem Blk.alloc (h : Blk w g t cs) (o : Obj) : Blk (w.alloc o) g t cs := (Below.heap_alloc w o g h.lt).trans h
theorem Blk.put (h : Blk w g t cs) (i : Nat) (u : Value) : Blk (w.setCell ⟨g, i, none⟩ u) g t (cs.setIfInBounds i u) := by
  unfold Blk at h ⊢
  simp [World.setCell, Array.getElem?_modify, h]
theorem Blk.far (h : Blk w g t cs) {p : Addr} (hp : g ≠ p.block) (u : Value) : Blk (w.setCell p u) g t cs := (Below.heap_setCell w p u g hp).trans h
theorem Blk.below (h : Blk w g t cs) (hb : Below w.heap.size w w') : Blk w' g t cs := (hb.block g h.lt).trans h
theorem Blk.grown {row : Option Nat} (h : Blk w g t cs) (hb : w.grownBy w' row) (hg : some g ≠ row) : Blk w' g t cs := (hb.block g h.lt hg).trans h
end

theorem quiet_drew_at {P : Program} {f : FuncId} {args : Array Value} {w : World} {v : Value} {n : Nat} (h : Calls P f args (w.drewN n) fun e w' => e = .returned v ∧ ∃ d, (w.drewN n).drewN d = w') :
    Calls P f args (w.drewN n) fun e w' => e = .returned v ∧ ∃ m, w' = w.drewN m := h.mono fun _ _ ⟨he, d, hm⟩ => ⟨he, n + d, by rw [← hm, World.drewN_drewN]⟩

theorem below_drewN {B : Nat} {a w : World} (h : Below B a w) (n : Nat) : Below B a (w.drewN n) := ⟨h.os, h.tape, h.output, h.size, h.block⟩
end Go.Proofs.Ytjganponepafpaa

/-
  What comes in, opened: bytes, flags and numbers of 64 bits, as slices that read as lists.
-/
namespace Go.Proofs.Ytjganponepafpaa
open Go.ChangeShapes Go.WideShapes Go.ChangeAt Go.RowKit

theorem sl_row {w : World} {a : Addr} {len : Nat} {xs : List Value} (hl : len ≤ xs.length) (hcell : ∀ i, i < xs.length → w.cell? (a.add i) = xs[i]?) : Sl w (some a) len (xs.take len) := by
  refine ⟨by rw [List.length_take]; omega, fun hn => ?_⟩
  have h0 := hcell 0 (by omega)
  rw [List.getElem?_eq_getElem (by omega)] at h0
  have hs := World.cell?_spot h0
  have ha : a.add 0 = a := by simp [Addr.add]
  rw [ha] at hs h0
  have hb := World.block_lt_of_cell? _ _ h0
  obtain ⟨b, o, s⟩ := a
  simp only at hs hb
  subst hs
  refine ⟨b, o, rfl, hb, fun j hj => ?_⟩
  rw [List.getElem?_take_of_lt hj, ← hcell j (by omega)]
  unfold Addr.add
  by_cases h : j = 0
  · subst h; simp
  · simp [h]

/-- bytes out of numbers that are bytes -/
def toBytes (zs : List Int) : List UInt8 := zs.map fun z => UInt8.ofNat z.toNat
theorem bv_toBytes {zs : List Int} (h : ∀ n ∈ zs, (Lit.int .u8 n).wf = true) : bv (toBytes zs) = zs.map (Value.int .u8) := by
  induction zs with
  | nil => rfl
  | cons z r ih =>
    have hz := bounds_u8 (h z (by simp))
    have hr := ih (fun n hn => h n (by simp [hn]))
    simp only [bv, toBytes, List.map_cons, List.cons.injEq]
    refine ⟨?_, hr⟩
    congr 1
    rw [UInt8.toNat_ofNat']
    omega

section
variable {H : Type} {enc : TypeId × Value → H} {P : Program} {w : World} {held : Bool}
theorem open_bytes {t e : TypeId} (ht : P.underlying t = some (.slice e)) (he : P.underlying e = some (.int .u8)) (hc : P.cellsOf e = 1)
    {A : Option Addr} {len cap : Nat} {d : DataW H} {ps : List MemPlace} (h : DataW.Trod enc P w 0 (fun _ => true) held t (.slice A len cap) d ps) :
    ∃ bs : List UInt8, Sl w A len (bv bs) ∧ len ≤ cap ∧ cap ≤ maxLen := by
  obtain ⟨fuel, hf⟩ := h
  rcases open_ints ht he hc hf with ⟨hcs, _⟩ | ⟨x, l, c, zs, hcs, _, hl, hm, hz, _, hcell, hwz⟩
  · simp [Value.cells] at hcs
    obtain ⟨rfl, rfl, rfl⟩ := hcs
    exact ⟨[], Sl.nil, Nat.le_refl _, by unfold maxLen; omega⟩
  · simp [Value.cells] at hcs
    obtain ⟨rfl, rfl, rfl⟩ := hcs
    simp only [if_true] at hz
    refine ⟨toBytes (zs.take len), ?_, hl, hm⟩
    rw [bv_toBytes (fun n hn => hwz n (List.mem_of_mem_take hn)), List.map_take]
    refine sl_row (xs := zs.map (Value.int .u8)) (by rw [List.length_map, hz]; exact hl) (fun i hi => ?_)
    simp only [List.length_map] at hi
    rw [hcell i hi]
    simp [List.getD, hi]
end
end Go.Proofs.Ytjganponepafpaa

/-
  What comes in, opened: a piece by value (three numbers and four distances).
-/
namespace Go.Proofs.Ytjganponepafpaa
set_option linter.unusedVariables false
set_option linter.unusedSimpArgs false
open Go.ChangeShapes Go.WideShapes Go.ChangeAt Go.RowKit

theorem array7 {α : Type} {cs : Array α} (h : cs.size = 7) : ∃ c0 c1 c2 c3 c4 c5 c6, cs = #[c0, c1, c2, c3, c4, c5, c6] := by
  obtain ⟨l⟩ := cs
  match l, h with
  | [c0, c1, c2, c3, c4, c5, c6], _ => exact ⟨c0, c1, c2, c3, c4, c5, c6, rfl⟩
structure PieceLit (x0 x1 x2 y0 y1 y2 y3 : Int) : Prop where
  b2 : -9223372036854775808 ≤ x2 ∧ x2 ≤ 9223372036854775807
  c0 : 0 ≤ y0 ∧ y0 ≤ 4294967295
  c1 : 0 ≤ y1 ∧ y1 ≤ 4294967295
  c2 : 0 ≤ y2 ∧ y2 ≤ 4294967295
  c3 : 0 ≤ y3 ∧ y3 ≤ 4294967295
section
variable {H : Type} {enc : TypeId × Value → H} {P : Program} {w : World} {base : Nat} {spare : Nat → Bool} {held : Bool}
theorem open_piece {r : Reach} {b0 : Nat} {t e a u : TypeId} {f0 f1 f2 f3 : Field} {v : Value} {d : DataW H} {p : List MemPlace} (hs : P.underlying t = some (.struct #[f0, f1, f2, f3])) (hC : P.cellsOf t = 7) (he : P.underlying e = some (.int .i64)) (hc : P.cellsOf e = 1)
    (ha : P.underlying a = some (.array 4 u)) (hca : P.cellsOf a = 4) (hu : P.underlying u = some (.int .u32)) (hcu : P.cellsOf u = 1)
    (k0 : f0.type = e ∧ f0.offset = 0) (k1 : f1.type = e ∧ f1.offset = 1) (k2 : f2.type = e ∧ f2.offset = 2) (k3 : f3.type = a ∧ f3.offset = 3)
    (hv : Value.okWide P w r b0 t v) (h : DataW.Trod enc P w base spare held t v d p) :
    ∃ x0 x1 x2 y0 y1 y2 y3 : Int, v = .agg #[.int .i64 x0, .int .i64 x1, .int .i64 x2, .int .u32 y0, .int .u32 y1, .int .u32 y2, .int .u32 y3] ∧ PieceLit x0 x1 x2 y0 y1 y2 y3 := by
  obtain ⟨cs, rfl, hsz⟩ := okWide_struct hs hv
  obtain ⟨c0, c1, c2, c3, c4, c5, c6, rfl⟩ := array7 (hsz.trans hC)
  obtain ⟨fuel, hf⟩ := h
  obtain ⟨xs, n, _, _, _, hlen, hff⟩ := DataW.trod_struct hs hf
  match xs, hlen with
  | [z0, z1, z2, z3], _ =>
    have g0 := hff 0 f0 rfl
    have g1 := hff 1 f1 rfl
    have g2 := hff 2 f2 rfl
    have g3 := hff 3 f3 rfl
    simp [Value.cells, k0.1, k0.2, hc] at g0
    simp [Value.cells, k1.1, k1.2, hc] at g1
    simp [Value.cells, k2.1, k2.2, hc] at g2
    simp [Value.cells, k3.1, k3.2, hca] at g3
    obtain ⟨n0, e0, _, w0⟩ := DataW.trod_int he g0
    obtain ⟨n1, e1, _, w1⟩ := DataW.trod_int he g1
    obtain ⟨n2, e2, _, w2⟩ := DataW.trod_int he g2
    obtain ⟨a0, a1, a2, a3, m, _, h0, h1, h2, h3⟩ := trod_array4 ha hcu g3
    obtain ⟨m0, d0, _, u0⟩ := DataW.trod_int hu h0
    obtain ⟨m1, d1, _, u1⟩ := DataW.trod_int hu h1
    obtain ⟨m2, d2, _, u2⟩ := DataW.trod_int hu h2
    obtain ⟨m3, d3, _, u3⟩ := DataW.trod_int hu h3
    simp only [List.cons.injEq, and_true] at e0 e1 e2 d0 d1 d2 d3
    subst e0 e1 e2 d0 d1 d2 d3
    exact ⟨n0, n1, n2, m0, m1, m2, m3, rfl, ⟨bounds_i64 w2, bounds_u32 u0, bounds_u32 u1, bounds_u32 u2, bounds_u32 u3⟩⟩
end
end Go.Proofs.Ytjganponepafpaa

/-
  A list of packets, opened: each element has four numbers (int, uint8, int, uint32).
-/
namespace Go.Proofs.Ytjganponepafpaa
open Go.ChangeShapes Go.WideShapes Go.ChangeAt Go.RowKit

/-- a packet as it comes in -/
structure Pq where
  k : Int
  a : Int
  n : Int
  v : Int
instance : Inhabited Pq := ⟨⟨0, 0, 0, 0⟩⟩

/-- a slice of packets -/
def Pkts (w : World) (B : Option Addr) (m : Nat) (q : Nat → Pq) : Prop :=
  0 < m → ∃ b o, B = some ⟨b, o, none⟩ ∧ b < w.heap.size ∧ ∀ i, i < m → w.cell? ⟨b, o + i * 4, none⟩ = some (.int .i64 (q i).k) ∧ w.cell? ⟨b, o + i * 4 + 1, none⟩ = some (.int .u8 (q i).a) ∧
    w.cell? ⟨b, o + i * 4 + 2, none⟩ = some (.int .i64 (q i).n) ∧ w.cell? ⟨b, o + i * 4 + 3, none⟩ = some (.int .u32 (q i).v)
structure PqLit (q : Pq) : Prop where
  k : -9223372036854775808 ≤ q.k ∧ q.k ≤ 9223372036854775807
  a : 0 ≤ q.a ∧ q.a ≤ 255
  n : -9223372036854775808 ≤ q.n ∧ q.n ≤ 9223372036854775807
  v : 0 ≤ q.v ∧ q.v ≤ 4294967295

theorem Pkts.below {w w' : World} {B : Option Addr} {m : Nat} {q : Nat → Pq} (h : Pkts w B m q) (hb : Below w.heap.size w w') : Pkts w' B m q := by
  intro hm
  obtain ⟨b, o, e, hlt, hc⟩ := h hm
  refine ⟨b, o, e, Nat.lt_of_lt_of_le hlt hb.size, fun i hi => ?_⟩
  rw [hb.cell hlt, hb.cell hlt, hb.cell hlt, hb.cell hlt]
  exact hc i hi

section
variable {H : Type} {enc : TypeId × Value → H} {P : Program} {w : World} {held : Bool}
end
end Go.Proofs.Ytjganponepafpaa

/-
  Which packets tell bytes, as numbers.
-/
namespace Go.Proofs.Ytjganponepafpaa

/-- how many bytes, up to so many, are those o ahead of them -/
def eqN (b : List UInt8) (o : Nat) : Nat → Nat → Nat
  | 0, _ => 0
  | f + 1, i => if b.getD i 0 = b.getD (i - o) 0 then eqN b o f (i + 1) + 1 else 0
theorem eqN_le (b : List UInt8) (o : Nat) : ∀ f i, eqN b o f i ≤ f
  | 0, _ => Nat.le_refl _
  | f + 1, i => by
    unfold eqN
    have := eqN_le b o f (i + 1)
    split <;> omega
theorem eqN_same (b : List UInt8) (o : Nat) : ∀ f i k, k < eqN b o f i → b.getD (i + k) 0 = b.getD (i + k - o) 0
  | 0, _, _, h => absurd h (Nat.not_lt_zero _)
  | f + 1, i, k, h => by
    unfold eqN at h
    split at h
    · rename_i he
      match k with
      | 0 => exact he
      | k + 1 =>
        have := eqN_same b o f (i + 1) k (by omega)
        rw [show i + 1 + k = i + (k + 1) by omega] at this
        exact this
    · omega
theorem eqN_ge {b : List UInt8} {o : Nat} : ∀ {f i n}, n ≤ f → (∀ k, k < n → b.getD (i + k) 0 = b.getD (i + k - o) 0) → n ≤ eqN b o f i
  | _, _, 0, _, _ => Nat.zero_le _
  | 0, _, n + 1, h, _ => absurd h (by omega)
  | f + 1, i, n + 1, hn, h => by
    have h0 := h 0 (by omega)
    simp only [Nat.add_zero] at h0
    unfold eqN
    rw [if_pos h0]
    have := eqN_ge (b := b) (o := o) (f := f) (i := i + 1) (n := n) (by omega) (fun k hk => by
      have := h (k + 1) (by omega)
      rw [show i + (k + 1) = i + 1 + k by omega] at this
      exact this)
    omega
theorem eqN_is {b : List UInt8} {o f i n : Nat} (hn : n ≤ f) (h : ∀ k, k < n → b.getD (i + k) 0 = b.getD (i + k - o) 0) (hs : n < f → b.getD (i + n) 0 ≠ b.getD (i + n - o) 0) : eqN b o f i = n := by
  have h1 := eqN_ge hn h
  have h2 := eqN_le b o f i
  by_cases he : eqN b o f i = n
  · exact he
  · exact absurd (eqN_same b o f i n (by omega)) (hs (by omega))
/-- bytes that are a part of others -/
theorem eqN_part {b c : List UInt8} {o p t : Nat} (hp : ∀ j, j < t → c.getD j 0 = b.getD (p + j) 0) : ∀ f i, o ≤ i → i + f ≤ t → eqN c o f i = eqN b o f (p + i)
  | 0, _, _, _ => rfl
  | f + 1, i, ho, ht => by
    unfold eqN
    rw [hp i (by omega), hp (i - o) (by omega), show p + (i - o) = p + i - o by omega, eqN_part hp f (i + 1) (by omega) (by omega)]
    rfl

/-- the copy at a distance -/
def cpN (b : List UInt8) (dict e i d : Nat) : Nat := if d < i ∧ d < dict then eqN b (d + 1) (min 273 (e - i)) i else 0
theorem cpN_le (b : List UInt8) (dict e i d : Nat) : cpN b dict e i d ≤ min 273 (e - i) := by
  unfold cpN
  split
  · exact eqN_le _ _ _ _
  · omega
/-- the least index of the greatest number, and it -/
def best (g : Nat → Nat) : Nat → Nat × Nat
  | 0 => (0, 0)
  | d + 1 => if (best g d).2 < g d then (d, g d) else best g d
theorem best_ge (g : Nat → Nat) : ∀ n d, d < n → g d ≤ (best g n).2
  | 0, _, h => absurd h (Nat.not_lt_zero _)
  | n + 1, d, h => by
    unfold best
    by_cases he : d = n
    · subst he
      split
      · exact Nat.le_refl _
      · omega
    · have := best_ge g n d (by omega)
      split
      · show g d ≤ g n; omega
      · exact this
theorem best_is (g : Nat → Nat) : ∀ n, 0 < (best g n).2 → (best g n).1 < n ∧ g (best g n).1 = (best g n).2 ∧ ∀ d, d < (best g n).1 → g d < (best g n).2
  | 0, h => absurd h (Nat.lt_irrefl _)
  | n + 1, h => by
    unfold best at h ⊢
    split
    · rename_i hl
      exact ⟨by simp, rfl, fun d hd => Nat.lt_of_le_of_lt (best_ge g n d hd) hl⟩
    · rename_i hl
      rw [if_neg hl] at h
      obtain ⟨h1, h2, h3⟩ := best_is g n h
      exact ⟨by omega, h2, h3⟩
theorem best_zero (g : Nat → Nat) : ∀ n, (best g n).2 = 0 → best g n = (0, 0)
  | 0, _ => rfl
  | n + 1, h => by
    unfold best at h ⊢
    split
    · rename_i hl
      rw [if_pos hl] at h
      have h : g n = 0 := h
      omega
    · rename_i hl
      rw [if_neg hl] at h
      exact best_zero g n h
theorem best_congr {g g' : Nat → Nat} : ∀ {n}, (∀ d, d < n → g d = g' d) → best g n = best g' n
  | 0, _ => rfl
  | n + 1, h => by
    unfold best
    rw [best_congr (n := n) (fun d hd => h d (by omega)), h n (by omega)]
/-- the same, of numbers that are 2 at least -/
def best2 (g : Nat → Nat) : Nat → Nat × Nat
  | 0 => (0, 0)
  | d + 1 => if 2 ≤ g d ∧ (best2 g d).2 < g d then (d, g d) else best2 g d
theorem best2_is (g : Nat → Nat) : ∀ n, best2 g n = if 2 ≤ (best g n).2 then best g n else (0, 0)
  | 0 => rfl
  | n + 1 => by
    have ih := best2_is g n
    unfold best2 best
    rw [ih]
    by_cases h2 : 2 ≤ (best g n).2
    · rw [if_pos h2]
      by_cases hl : (best g n).2 < g n
      · rw [if_pos ⟨by omega, hl⟩, if_pos hl, if_pos (by show 2 ≤ g n; omega)]
      · rw [if_neg (fun h => hl h.2), if_neg hl, if_pos h2]
    · rw [if_neg h2]
      by_cases hl : (best g n).2 < g n
      · rw [if_pos hl]
        by_cases hg : 2 ≤ g n
        · rw [if_pos ⟨hg, by show 0 < g n; omega⟩, if_pos (by show 2 ≤ g n; exact hg)]
        · rw [if_neg (fun h => hg h.1), if_neg (by show ¬ 2 ≤ g n; exact hg)]
      · rw [if_neg hl, if_neg h2, if_neg (fun h => by have : 0 < g n := h.2; omega)]

/-- where it stands: the place, and the elder distances -/
structure Ps where
  i : Nat
  r0 : Nat
  r1 : Nat
  r2 : Nat
  r3 : Nat
def Ps.rep (s : Ps) : Nat → Nat
  | 0 => s.r0
  | 1 => s.r1
  | 2 => s.r2
  | _ => s.r3
def Ps.raise (s : Ps) (n : Nat) : Nat → Ps
  | 0 => { s with i := s.i + n }
  | 1 => ⟨s.i + n, s.r1, s.r0, s.r2, s.r3⟩
  | 2 => ⟨s.i + n, s.r2, s.r0, s.r1, s.r3⟩
  | _ => ⟨s.i + n, s.r3, s.r0, s.r1, s.r2⟩
def Ps.push (s : Ps) (n d : Nat) : Ps := ⟨s.i + n, d, s.r0, s.r1, s.r2⟩
def Ps.on (s : Ps) : Ps := { s with i := s.i + 1 }
structure Ps.Lit (s : Ps) : Prop where
  r0 : s.r0 < 4294967296
  r1 : s.r1 < 4294967296
  r2 : s.r2 < 4294967296
  r3 : s.r3 < 4294967296
theorem Ps.Lit.rep {s : Ps} (h : s.Lit) (k : Nat) : s.rep k < 4294967296 := by
  match k with
  | 0 => exact h.r0
  | 1 => exact h.r1
  | 2 => exact h.r2
  | n + 3 => exact h.r3
theorem Ps.Lit.raise {s : Ps} (h : s.Lit) (n k : Nat) : (s.raise n k).Lit := by
  match k with
  | 0 => exact ⟨h.r0, h.r1, h.r2, h.r3⟩
  | 1 => exact ⟨h.r1, h.r0, h.r2, h.r3⟩
  | 2 => exact ⟨h.r2, h.r0, h.r1, h.r3⟩
  | n + 3 => exact ⟨h.r3, h.r0, h.r1, h.r2⟩
theorem Ps.raise_i (s : Ps) (n k : Nat) : (s.raise n k).i = s.i + n := by
  match k with
  | 0 => rfl
  | 1 => rfl
  | 2 => rfl
  | n + 3 => rfl

/-- which packet, by the elder distances' longest copy, the least distance of the longest copy, its length, the copy at the first elder distance, and the byte -/
def stepG (r : Nat × Nat) (d m c : Nat) (y : UInt8) (s : Ps) : Pq × Ps :=
  if 2 ≤ r.2 ∧ m ≤ r.2 + 1 then (⟨2 + (r.1 : Int), 0, (r.2 : Int), 0⟩, s.raise r.2 r.1)
  else if 3 ≤ m ∨ (m = 2 ∧ d < 128) then (⟨1, 0, (m : Int), (d : Int)⟩, s.push m d)
  else if 0 < c then (⟨6, 0, 0, 0⟩, s.on)
  else (⟨0, (y.toNat : Int), 0, 0⟩, s.on)
/-- the same in the program's order: its own two -/
def stepH (a m : Nat × Nat) (c : Nat) (y : UInt8) (s : Ps) : Pq × Ps :=
  if 2 < m.2 ∨ (m.2 = 2 ∧ m.1 < 128) then (⟨1, 0, (m.2 : Int), (m.1 : Int)⟩, s.push m.2 m.1)
  else if 0 < a.2 then (⟨2 + (a.1 : Int), 0, (a.2 : Int), 0⟩, s.raise a.2 a.1)
  else if 0 < c then (⟨6, 0, 0, 0⟩, s.on)
  else (⟨0, (y.toNat : Int), 0, 0⟩, s.on)
section
variable (b : List UInt8) (dict e : Nat)
def eldP (s : Ps) : Nat × Nat := best (fun h => cpN b dict e s.i (s.rep h)) 4
def lonP (s : Ps) : Nat × Nat := best (fun d => cpN b dict e s.i d) (min s.i dict)
def lonM (s : Ps) : Nat := if (lonP b dict e s).2 < 2 then 0 else (lonP b dict e s).2
/-- the packet at a place, and where it stands behind it -/
def stepF (s : Ps) : Pq × Ps := stepG (eldP b dict e s) (lonP b dict e s).1 (lonM b dict e s) (cpN b dict e s.i s.r0) (b.getD s.i 0) s
/-- so many packets, as long as the end isn't come to -/
def goF (s : Ps) : Nat → List Pq × Ps
  | 0 => ([], s)
  | n + 1 => if (goF s n).2.i < e then ((goF s n).1 ++ [(stepF b dict e (goF s n).2).1], (stepF b dict e (goF s n).2).2) else goF s n
def findF (s : Ps) : List Pq × Ps := goF b dict e s e
end

section
variable {b : List UInt8} {dict e : Nat} {s : Ps}
theorem eld_lt : (eldP b dict e s).1 < 4 := by
  by_cases h : 0 < (eldP b dict e s).2
  · exact (best_is _ _ h).1
  · have : eldP b dict e s = (0, 0) := best_zero _ _ (by unfold eldP at h; omega)
    rw [this]
    decide
theorem eld_le : (eldP b dict e s).2 ≤ min 273 (e - s.i) := by
  by_cases h : 0 < (eldP b dict e s).2
  · have := (best_is _ _ h).2.1
    unfold eldP at *
    rw [← this]
    exact cpN_le _ _ _ _ _
  · omega
theorem lon_le : (lonP b dict e s).2 ≤ min 273 (e - s.i) := by
  by_cases h : 0 < (lonP b dict e s).2
  · have := (best_is _ _ h).2.1
    unfold lonP at *
    rw [← this]
    exact cpN_le _ _ _ _ _
  · omega
theorem lonM_le : lonM b dict e s ≤ min 273 (e - s.i) := by
  unfold lonM
  have := lon_le (b := b) (dict := dict) (e := e) (s := s)
  split <;> omega
theorem lon_lt (h : 0 < (lonP b dict e s).2) : (lonP b dict e s).1 < min s.i dict := (best_is _ _ h).1
theorem lonM_pos (h : 0 < lonM b dict e s) : 2 ≤ lonM b dict e s ∧ lonM b dict e s = (lonP b dict e s).2 := by
  unfold lonM at *
  split at h
  · omega
  · rename_i hl
    rw [if_neg hl]
    exact ⟨by omega, rfl⟩
theorem step_i (h : s.i < e) : s.i < (stepF b dict e s).2.i ∧ (stepF b dict e s).2.i ≤ e := by
  have h1 := eld_le (b := b) (dict := dict) (e := e) (s := s)
  have h2 := lonM_le (b := b) (dict := dict) (e := e) (s := s)
  unfold stepF stepG
  split
  · rename_i ha
    have := ha.1
    rw [Ps.raise_i]
    omega
  · split
    · rename_i hm
      have : 2 ≤ lonM b dict e s := by rcases hm with hm | hm <;> omega
      show s.i < s.i + lonM b dict e s ∧ s.i + lonM b dict e s ≤ e
      omega
    · split
      · show s.i < s.i + 1 ∧ s.i + 1 ≤ e; omega
      · show s.i < s.i + 1 ∧ s.i + 1 ≤ e; omega
theorem step_lit (h : s.Lit) (he : e ≤ 4000000000) : (stepF b dict e s).2.Lit := by
  have h2 := lonM_le (b := b) (dict := dict) (e := e) (s := s)
  unfold stepF stepG
  split
  · exact h.raise _ _
  · split
    · rename_i hm
      have hp : 0 < lonM b dict e s := by rcases hm with hm | hm <;> omega
      obtain ⟨_, h4⟩ := lonM_pos hp
      have := lon_lt (b := b) (dict := dict) (e := e) (s := s) (by omega)
      exact ⟨by show (lonP b dict e s).1 < _; omega, h.r0, h.r1, h.r2⟩
    · split <;> exact ⟨h.r0, h.r1, h.r2, h.r3⟩
theorem go_succ {n : Nat} (h : (goF b dict e s n).2.i < e) : goF b dict e s (n + 1) = ((goF b dict e s n).1 ++ [(stepF b dict e (goF b dict e s n).2).1], (stepF b dict e (goF b dict e s n).2).2) := if_pos h
theorem go_same {n : Nat} (h : ¬ (goF b dict e s n).2.i < e) : goF b dict e s (n + 1) = goF b dict e s n := if_neg h
theorem go_more : ∀ n, (goF b dict e s n).2.i < e → s.i + n ≤ (goF b dict e s n).2.i
  | 0, _ => Nat.le_refl _
  | n + 1, h => by
    by_cases hl : (goF b dict e s n).2.i < e
    · rw [go_succ hl] at h ⊢
      have h1 := go_more n hl
      have h2 := (step_i (b := b) (dict := dict) hl).1
      show s.i + (n + 1) ≤ (stepF b dict e (goF b dict e s n).2).2.i
      omega
    · rw [go_same hl] at h
      exact absurd h hl
theorem go_stop {n : Nat} (h : e ≤ (goF b dict e s n).2.i) : ∀ m, goF b dict e s (n + m) = goF b dict e s n
  | 0 => rfl
  | m + 1 => by
    show goF b dict e s (n + m + 1) = _
    rw [go_same (by rw [go_stop h m]; omega), go_stop h m]
theorem find_is {n : Nat} (h : e ≤ (goF b dict e s n).2.i) : findF b dict e s = goF b dict e s n := by
  unfold findF
  have h2 : e ≤ (goF b dict e s e).2.i := by
    by_cases hl : (goF b dict e s e).2.i < e
    · have := go_more e hl
      omega
    · omega
  by_cases hn : n ≤ e
  · have := go_stop h (e - n)
    rwa [show n + (e - n) = e by omega] at this
  · have := go_stop h2 (n - e)
    rw [show e + (n - e) = n by omega] at this
    exact this.symm
theorem go_end (h : s.i ≤ e) : ∀ n, (goF b dict e s n).2.i ≤ e
  | 0 => h
  | n + 1 => by
    by_cases hl : (goF b dict e s n).2.i < e
    · rw [go_succ hl]
      exact (step_i hl).2
    · rw [go_same hl]
      exact go_end h n
theorem go_lit (h : s.Lit) (he : e ≤ 4000000000) : ∀ n, (goF b dict e s n).2.Lit
  | 0 => h
  | n + 1 => by
    by_cases hl : (goF b dict e s n).2.i < e
    · rw [go_succ hl]
      exact step_lit (go_lit h he n) he
    · rw [go_same hl]
      exact go_lit h he n
theorem go_len : ∀ n, (goF b dict e s n).1.length ≤ n
  | 0 => Nat.le_refl _
  | n + 1 => by
    have := go_len n
    by_cases hl : (goF b dict e s n).2.i < e
    · rw [go_succ hl, List.length_append]
      show _ + 1 ≤ _
      omega
    · rw [go_same hl]
      omega
end

/-! ### the program's way -/
section
variable {b : List UInt8} {dict e : Nat} {s : Ps}
/-- the longest copy that is worth more -/
def worth (b : List UInt8) (dict e : Nat) (s : Ps) (least : Nat) : Nat × Nat := if least ≤ (lonP b dict e s).2 then lonP b dict e s else (0, 0)
/-- the elder distances' one, if it is one of a packet -/
def eld2 (b : List UInt8) (dict e : Nat) (s : Ps) : Nat × Nat := best2 (fun h => cpN b dict e s.i (s.rep h)) 4
theorem eld2_is : eld2 b dict e s = if 2 ≤ (eldP b dict e s).2 then eldP b dict e s else (0, 0) := best2_is _ _
theorem step_prog : stepF b dict e s = stepH (eld2 b dict e s) (worth b dict e s ((eld2 b dict e s).2 + 2)) (cpN b dict e s.i s.r0) (b.getD s.i 0) s := by
  rw [eld2_is]
  unfold stepF
  by_cases h2 : 2 ≤ (eldP b dict e s).2
  · rw [if_pos h2]
    by_cases hm : (eldP b dict e s).2 + 2 ≤ (lonP b dict e s).2
    · have e1 : worth b dict e s ((eldP b dict e s).2 + 2) = lonP b dict e s := if_pos hm
      have e2 : lonM b dict e s = (lonP b dict e s).2 := if_neg (by omega)
      rw [e1, e2]
      unfold stepG stepH
      rw [if_neg (by omega), if_pos (.inl (by omega)), if_pos (.inl (by omega))]
    · have e1 : worth b dict e s ((eldP b dict e s).2 + 2) = (0, 0) := if_neg hm
      have e2 : lonM b dict e s ≤ (eldP b dict e s).2 + 1 := by unfold lonM; split <;> omega
      rw [e1]
      unfold stepG stepH
      rw [if_pos ⟨h2, e2⟩, if_neg (by simp), if_pos (by omega)]
  · rw [if_neg h2]
    by_cases hm : 2 ≤ (lonP b dict e s).2
    · have e1 : worth b dict e s (((0, 0) : Nat × Nat).2 + 2) = lonP b dict e s := if_pos hm
      have e2 : lonM b dict e s = (lonP b dict e s).2 := if_neg (by omega)
      rw [e1, e2]
      unfold stepG stepH
      rw [if_neg (fun h => h2 h.1)]
      by_cases hc : 3 ≤ (lonP b dict e s).2 ∨ ((lonP b dict e s).2 = 2 ∧ (lonP b dict e s).1 < 128)
      · rw [if_pos hc, if_pos (hc.imp (fun h => by omega) id)]
      · rw [if_neg hc, if_neg (show ¬ (2 < (lonP b dict e s).2 ∨ ((lonP b dict e s).2 = 2 ∧ (lonP b dict e s).1 < 128)) from fun h => hc (h.imp (fun h => by omega) id)), if_neg (show ¬ 0 < ((0, 0) : Nat × Nat).2 from Nat.lt_irrefl 0)]
    · have e1 : worth b dict e s (((0, 0) : Nat × Nat).2 + 2) = (0, 0) := if_neg hm
      have e2 : lonM b dict e s = 0 := if_pos (by omega)
      rw [e1, e2]
      unfold stepG stepH
      rw [if_neg (fun h => h2 h.1), if_neg (show ¬ (3 ≤ 0 ∨ (0 = 2 ∧ (lonP b dict e s).1 < 128)) by omega), if_neg (show ¬ (2 < ((0, 0) : Nat × Nat).2 ∨ (((0, 0) : Nat × Nat).2 = 2 ∧ ((0, 0) : Nat × Nat).1 < 128)) by simp), if_neg (show ¬ 0 < ((0, 0) : Nat × Nat).2 from Nat.lt_irrefl 0)]
end

/-! ### bytes that are a part of others -/
section
variable {b c : List UInt8} {dict p t : Nat}
theorem cpN_part (hp : ∀ j, j < t → c.getD j 0 = b.getD (p + j) 0) {i d : Nat} (hi : i ≤ t) (hd : p = 0 ∨ dict ≤ i) : cpN c dict t i d = cpN b dict (p + t) (p + i) d := by
  unfold cpN
  rw [show p + t - (p + i) = t - i by omega]
  by_cases h : d < i ∧ d < dict
  · rw [if_pos h, if_pos ⟨by omega, h.2⟩]
    exact eqN_part hp _ _ (by omega) (by omega)
  · rw [if_neg h, if_neg (fun h' => h ⟨by omega, h'.2⟩)]
def Ps.far (s : Ps) (p : Nat) : Ps := { s with i := p + s.i }
theorem far_rep (s : Ps) (p k : Nat) : (s.far p).rep k = s.rep k := by
  match k with
  | 0 => rfl
  | 1 => rfl
  | 2 => rfl
  | n + 3 => rfl
theorem far_raise (s : Ps) (p n k : Nat) : (s.far p).raise n k = (s.raise n k).far p := by
  have e : p + s.i + n = p + (s.i + n) := by omega
  match k with
  | 0 => show Ps.mk (p + s.i + n) _ _ _ _ = _; rw [e]; rfl
  | 1 => show Ps.mk (p + s.i + n) _ _ _ _ = _; rw [e]; rfl
  | 2 => show Ps.mk (p + s.i + n) _ _ _ _ = _; rw [e]; rfl
  | m + 3 => show Ps.mk (p + s.i + n) _ _ _ _ = _; rw [e]; rfl
theorem step_part (hp : ∀ j, j < t → c.getD j 0 = b.getD (p + j) 0) {s : Ps} (hi : s.i < t) (hd : p = 0 ∨ dict ≤ s.i) : stepF b dict (p + t) (s.far p) = ((stepF c dict t s).1, (stepF c dict t s).2.far p) := by
  have k1 : eldP b dict (p + t) (s.far p) = eldP c dict t s := best_congr fun h _ => by
    rw [far_rep]
    exact (cpN_part hp (by omega) hd).symm
  have e0 : min (p + s.i) dict = min s.i dict := by omega
  have k2 : lonP b dict (p + t) (s.far p) = lonP c dict t s := by
    unfold lonP
    show best _ (min (p + s.i) dict) = _
    rw [e0]
    exact best_congr fun d _ => (cpN_part hp (by omega) hd).symm
  have k3 : lonM b dict (p + t) (s.far p) = lonM c dict t s := by unfold lonM; rw [k2]
  have k4 : cpN b dict (p + t) (s.far p).i (s.far p).r0 = cpN c dict t s.i s.r0 := (cpN_part hp (by omega) hd).symm
  have k5 : b.getD (s.far p).i 0 = c.getD s.i 0 := (hp _ hi).symm
  have e1 : ∀ n, p + s.i + n = p + (s.i + n) := fun n => by omega
  unfold stepF
  rw [k1, k2, k3, k4, k5]
  unfold stepG
  rw [far_raise]
  split
  · rfl
  · split
    · show (_, Ps.mk (p + s.i + _) _ _ _ _) = _
      rw [e1]
      rfl
    · split
      · show (_, Ps.mk (p + s.i + 1) _ _ _ _) = _
        rw [e1]
        rfl
      · show (_, Ps.mk (p + s.i + 1) _ _ _ _) = _
        rw [e1]
        rfl
theorem go_part (hp : ∀ j, j < t → c.getD j 0 = b.getD (p + j) 0) {s : Ps} (hd : p = 0 ∨ dict ≤ s.i) : ∀ n, goF b dict (p + t) (s.far p) n = ((goF c dict t s n).1, (goF c dict t s n).2.far p) ∧ s.i ≤ (goF c dict t s n).2.i
  | 0 => ⟨rfl, Nat.le_refl _⟩
  | n + 1 => by
    obtain ⟨h1, h2⟩ := go_part hp hd n
    by_cases hl : (goF c dict t s n).2.i < t
    · rw [go_succ hl, go_succ (by rw [h1]; show p + _ < p + t; omega), h1]
      have := (step_i (b := c) (dict := dict) hl).1
      refine ⟨?_, by show s.i ≤ (stepF c dict t _).2.i; omega⟩
      show ((goF c dict t s n).1 ++ [(stepF b dict (p + t) ((goF c dict t s n).2.far p)).1], (stepF b dict (p + t) ((goF c dict t s n).2.far p)).2) = _
      rw [step_part hp hl (hd.imp id (fun h => by omega))]
    · rw [go_same hl, go_same (by rw [h1]; show ¬ p + _ < p + t; omega)]
      exact ⟨h1, h2⟩
theorem find_part (hp : ∀ j, j < t → c.getD j 0 = b.getD (p + j) 0) {s : Ps} (hi : s.i ≤ t) (hd : p = 0 ∨ dict ≤ s.i) : findF b dict (p + t) (s.far p) = ((findF c dict t s).1, (findF c dict t s).2.far p) := by
  obtain ⟨h1, h2⟩ := go_part hp hd t
  have h3 : t ≤ (goF c dict t s t).2.i := by
    by_cases hl : (goF c dict t s t).2.i < t
    · have := go_more t hl
      omega
    · omega
  rw [find_is (n := t) (by rw [h1]; show p + t ≤ p + _; omega), h1]
  rfl
end
end Go.Proofs.Ytjganponepafpaa

/-
  What was there is as it was, but for the blocks of a set.
-/
namespace Go.Proofs.Ytjganponepafpaa
open Go.RowKit

structure Only (S : Nat → Prop) (a w : World) : Prop where
  os : w.os = a.os
  tape : w.tape = a.tape
  output : w.output = a.output
  size : a.heap.size ≤ w.heap.size
  block : ∀ i, i < a.heap.size → ¬ S i → w.heap[i]? = a.heap[i]?

section
variable {S S' : Nat → Prop} {a b c w w' : World}
theorem Only.refl (S : Nat → Prop) (w : World) : Only S w w := ⟨rfl, rfl, rfl, Nat.le_refl _, fun _ _ _ => rfl⟩
theorem Only.trans (h : Only S a b) (k : Only S b c) : Only S a c :=
  ⟨k.os.trans h.os, k.tape.trans h.tape, k.output.trans h.output, Nat.le_trans h.size k.size, fun i hi hn => (k.block i (Nat.lt_of_lt_of_le hi h.size) hn).trans (h.block i hi hn)⟩
theorem Only.mono (h : Only S a w) (hS : ∀ i, S i → S' i) : Only S' a w := ⟨h.os, h.tape, h.output, h.size, fun i hi hn => h.block i hi fun hs => hn (hS i hs)⟩
theorem Only.drewN (h : Only S a w) (n : Nat) : Only S a (w.drewN n) := ⟨h.os, h.tape, h.output, h.size, h.block⟩
theorem Only.drew (h : Only S a w) : Only S a w.drew := ⟨h.os, h.tape, h.output, h.size, h.block⟩
theorem Only.setCell (h : Only S a w) {p : Addr} (hp : S p.block ∨ a.heap.size ≤ p.block) (u : Value) : Only S a (w.setCell p u) :=
  ⟨h.os, h.tape, h.output, by simpa [World.setCell] using h.size, fun i hi hn => (Below.heap_setCell w p u i (by
    rintro rfl
    rcases hp with hp | hp
    · exact hn hp
    · omega)).trans (h.block i hi hn)⟩
theorem Only.alloc (h : Only S a w) (o : Obj) : Only S a (w.alloc o) :=
  ⟨h.os, h.tape, h.output, Nat.le_trans h.size (by simp), fun i hi hn => (Below.heap_alloc w o i (Nat.lt_of_lt_of_le hi h.size)).trans (h.block i hi hn)⟩
theorem Only.of_grown {g : Nat} (h : a.grownBy w (some g)) (hg : S g) : Only S a w := ⟨h.os, h.tape, h.output, h.size, fun i hi hn => h.block i hi fun e => by injection e with e; exact hn (e ▸ hg)⟩
theorem Only.of_below (h : Below a.heap.size a w) : Only S a w := ⟨h.os, h.tape, h.output, h.size, fun i hi _ => h.block i hi⟩
theorem Only.then (h : Only S a b) (k : Below b.heap.size b c) : Only S a c := h.trans (Only.of_below k)
theorem Only.below {B : Nat} (h : Only S a w) (hB : B ≤ a.heap.size) (hS : ∀ i, S i → B ≤ i) : Below B a w :=
  ⟨h.os, h.tape, h.output, h.size, fun i hi => h.block i (by omega) fun hs => by have := hS i hs; omega⟩
theorem Only.trans' (h : Only S a b) (k : Only S' b c) (hS : ∀ i, S' i → S i ∨ a.heap.size ≤ i) : Only S a c :=
  ⟨k.os.trans h.os, k.tape.trans h.tape, k.output.trans h.output, Nat.le_trans h.size k.size, fun i hi hn => (k.block i (Nat.lt_of_lt_of_le hi h.size) (fun hs => by
    rcases hS i hs with h1 | h1
    · exact hn h1
    · omega)).trans (h.block i hi hn)⟩
theorem Only.cell (h : Only S w w') {p : Addr} (hp : p.block < w.heap.size) (hn : ¬ S p.block) : w'.cell? p = w.cell? p := World.cell?_of_block (h.block _ hp hn)
theorem Blk.only {g : Nat} {t : TypeId} {cs : Array Value} (h : Blk w g t cs) (hb : Only S w w') (hg : ¬ S g) : Blk w' g t cs := (hb.block g h.lt hg).trans h
theorem Sl.only {A : Option Addr} {n : Nat} {xs : List Value} (h : Sl w A n xs) (hb : Only S w w') (hne : 0 < n → ∀ b o, A = some ⟨b, o, none⟩ → ¬ S b) : Sl w' A n xs :=
  h.keep hb.size fun hn b o e hlt => hb.block b hlt (hne hn b o e)
theorem own_only {base : Nat} {e : TypeId} {g n c : Nat} {xs : List Value} (h : w.ownsRow base e 1 (.slice (some ⟨g, 0, none⟩) n c) n xs) (hb : Only S w w') (hg : ¬ S g) : w'.ownsRow base e 1 (.slice (some ⟨g, 0, none⟩) n c) n xs := by
  refine ⟨h.1, ?_⟩
  rcases h.2 with ⟨hv, _⟩ | ⟨g', cap, cur, hv, hb', hh, r⟩
  · cases hv
  · refine .inr ⟨g', cap, cur, hv, hb', ?_, r⟩
    injection hv with h1
    injection h1 with h1
    injection h1 with h1
    subst h1
    have hlt : g < w.heap.size := by
      rcases Nat.lt_or_ge g w.heap.size with hlt | hge
      · exact hlt
      · rw [Array.getElem?_eq_none hge] at hh; cases hh
    exact (hb.block g hlt hg).trans hh
end
end Go.Proofs.Ytjganponepafpaa

/-
  Numbers and rows as the document has them, over lists of bytes: plain mathematics, no program.
-/
namespace Go.Proofs.Ytjganponepafpaa

/-- bytes as a number, the least first -/
def leVal : List UInt8 → Nat
  | [] => 0
  | b :: r => b.toNat + 256 * leVal r

/-- the size least bytes of v, the least first -/
def leBytes (size v : Nat) : List UInt8 := (List.range size).map fun i => UInt8.ofNat (v / 256 ^ i % 256)
/-- how many bytes follow the first of the shortest short number that is v: k -/
structure IsFol (v k : Nat) : Prop where
  le : k ≤ 8
  lt : k < 8 → v < 2 ^ (7 * k + 7)
  ge : ∀ j, j < k → 2 ^ (7 * j + 7) ≤ v
def folAux (v : Nat) : Nat → Nat → Nat
  | 0, k => k
  | f + 1, k => if v < 2 ^ (7 * k + 7) then k else folAux v f (k + 1)
def fol (v : Nat) : Nat := folAux v 8 0
/-- the shortest short number that is v -/
def shortBytes (v : Nat) : List UInt8 := UInt8.ofNat (256 - 2 ^ (8 - fol v) + v / 256 ^ fol v) :: leBytes (fol v) v
end Go.Proofs.Ytjganponepafpaa

/-
  Arithmetic of fixed width as the walk writes it: shifts, or, and, and sums that do not wrap.
-/
namespace Go.Proofs.Ytjganponepafpaa
open Go.RowKit

theorem u64_in (x : Nat) (h : x < 18446744073709551616) : IntKind.u64.wrap (x : Int) = (x : Int) := by
  rw [IntKind.wrap_u64]; omega
theorem cast_pow2 (k : Nat) : ((2 : Int) ^ k) = ((2 ^ k : Nat) : Int) := by
  rw [Int.natCast_pow]; rfl

end Go.Proofs.Ytjganponepafpaa

/-
  What a type's facts say, in parts.
-/
namespace Go.Proofs.Ytjganponepafpaa
open Go.RowKit

theorem info_parts {P : Program} {t : TypeId} {z : Value} {s b : Nat} (h : (P.info? t).map (fun i => (i.zero, i.size, i.bytes)) = some (some z, s, b)) : ∃ i, P.info? t = some i ∧ i.zero = some z ∧ i.size = s ∧ i.bytes = b := by
  cases hi : P.info? t with
  | none => rw [hi] at h; cases h
  | some i =>
    rw [hi] at h
    simp only [Option.map_some, Option.some.injEq, Prod.mk.injEq] at h
    exact ⟨i, rfl, h.1, h.2.1, h.2.2⟩
theorem info_u8 : (Try.prog.info? 5).map (fun i => (i.zero, i.size, i.bytes)) = some (some (.int .u8 0), 1, 1) := by kernel_rfl

end Go.Proofs.Ytjganponepafpaa

/-
  The reference's copy at a distance.
-/
namespace Go.Proofs.Ytjganponepafpaa
open Go.RowKit

theorem u8_ne {x y : UInt8} (h : ¬ x = y) : ((x.toNat : Int) == (y.toNat : Int)) = false := by
  have : x.toNat ≠ y.toNat := fun e => h (UInt8.toNat_inj.1 e)
  simp; omega
/-- a loop that counts bytes that are the same -/
structure SameTo (b : List UInt8) (o i j : Nat) : Prop where
  same : ∀ k, k < j → b.getD (i + k) 0 = b.getD (i + k - o) 0
theorem SameTo.zero (b : List UInt8) (o i : Nat) : SameTo b o i 0 := ⟨fun k hk => absurd hk (Nat.not_lt_zero k)⟩
theorem SameTo.succ {b : List UInt8} {o i j : Nat} (h : SameTo b o i j) (he : b.getD (i + j) 0 = b.getD (i + j - o) 0) : SameTo b o i (j + 1) :=
  ⟨fun k hk => by
    by_cases hkj : k = j
    · subst hkj
      exact he
    · exact h.same k (by omega)⟩
theorem SameTo.full {b : List UInt8} {o i j f : Nat} (h : SameTo b o i j) (hj : j = f) : eqN b o f i = j := eqN_is (by omega) h.same (fun h => absurd h (by omega))
theorem SameTo.stop {b : List UInt8} {o i j f : Nat} (h : SameTo b o i j) (hj : j < f) (hs : ¬ b.getD (i + j) 0 = b.getD (i + j - o) 0) : eqN b o f i = j := eqN_is (by omega) h.same (fun _ => hs)

set_option maxRecDepth 100000 in
set_option maxHeartbeats 2000000 in
theorem rlong_any {A : Option Addr} {n c i e d dict : Nat} {bs : List UInt8} {w : World} (hS : Sl w A n (bv bs)) (hn : n ≤ 1000000000) (he : e ≤ n) (hi : i ≤ e) (hdd : dict ≤ 9223372036854775807) (hd : d ≤ 4294967295) :
    Calls Try.prog 13 #[.slice A n c, .int .i64 (i : Int), .int .i64 (e : Int), .int .i64 (d : Int), .int .i64 (dict : Int)] w fun x w' => x = .returned (.int .i64 (cpN bs dict e i d : Int)) ∧ ∃ k, w.drewN k = w' := by
  have hl : bs.length = n := by rw [← bv_length]; exact hS.1
  have HS := Lib.hid hS
  have HL := Lib.hid hl
  have h0 : ¬ (d : Int) < 0 := by omega
  clear hS hl
  by_cases h1 : d < i
  · by_cases h2 : d < dict
    · have g1 : ¬ (i : Int) ≤ (d : Int) := by omega
      have g2 : ¬ (dict : Int) ≤ (d : Int) := by omega
      obtain ⟨f, hf⟩ : ∃ f, f = min 273 (e - i) := ⟨_, rfl⟩
      have hr : cpN bs dict e i d = eqN bs (d + 1) f i := by unfold cpN; rw [if_pos ⟨h1, h2⟩, hf]
      rw [hr]
      obtain ⟨r, hrr⟩ : ∃ r, r = eqN bs (d + 1) f i := ⟨_, rfl⟩
      rw [← hrr]
      have HH := Lib.hid (show n ≤ 1000000000 ∧ e ≤ n ∧ i ≤ e ∧ d < i ∧ f = min 273 (e - i) from ⟨hn, he, hi, h1, hf⟩)
      have HR := Lib.hid hrr
      clear hn he hi hdd hd h1 h2 hf hr hrr
      go_enter Try.func13, Try.ntmps13
      go_wp2_with fail
      clear h0 g1 g2
      go_loopw [11] (fun v wr => ∃ j k : Nat, j ≤ f ∧ v = .int .i64 (j : Int) ∧ SameTo bs (d + 1) i j ∧ wr = w.drewN k) (fun v _ => f - (intOf v).toNat)
      case atStart => exact ⟨0, 0, Nat.zero_le _, rfl, SameTo.zero _ _ _, rfl⟩
      case round =>
        obtain ⟨j, k, hj, rfl, hsm, rfl⟩ := hrel
        obtain ⟨hn, he, hi, hdi, hf⟩ := HH.out
        have HSM := Lib.hid hsm
        have HJ := Lib.hid hj
        by_cases h3 : j < 273
        · have i3 : (j : Int) < 273 := by omega
          have e1 : IntKind.i64.wrap ((i : Int) + (j : Int)) = ((i + j : Nat) : Int) := by rw [IntWalk.i64_in _ (by omega)]; omega
          by_cases h4 : i + j < e
          · have i4 : ((i + j : Nat) : Int) < (e : Int) := by omega
            have hlt : j < f := by omega
            obtain ⟨ba, oa, rfl, hba, hca⟩ := HS.out.2 (by omega)
            obtain ⟨q, hq⟩ : ∃ q, q = i + j - (d + 1) := ⟨_, rfl⟩
            have c1 : w.cell? ⟨ba, oa + (i + j), none⟩ = some (.int .u8 ((bs.getD (i + j) 0).toNat : Int)) := by rw [hca (i + j) (by omega), bv_get bs _ (by have := HL.out; omega)]
            have c2 : w.cell? ⟨ba, oa + q, none⟩ = some (.int .u8 ((bs.getD q 0).toNat : Int)) := by rw [hca q (by omega), bv_get bs _ (by have := HL.out; omega)]
            have e2 : IntKind.i64.wrap (((i + j : Nat) : Int) - 1) = ((i + j : Nat) : Int) - 1 := IntWalk.i64_in _ (by omega)
            have e3 : IntKind.i64.wrap (((i + j : Nat) : Int) - 1 - (d : Int)) = (q : Int) := by rw [IntWalk.i64_in _ (by omega)]; omega
            have b1 : (0 : Int) ≤ ((i + j : Nat) : Int) := by omega
            have b2 : ((i + j : Nat) : Int) < (n : Int) := by omega
            have b3 : (0 : Int) ≤ (q : Int) := by omega
            have b4 : (q : Int) < (n : Int) := by omega
            have HLT := Lib.hid (show j < f ∧ q = i + j - (d + 1) from ⟨hlt, hq⟩)
            by_cases hxy : bs.getD (i + j) 0 = bs.getD q 0
            · have hnext := hsm.succ (by rw [← hq]; exact hxy)
              have HNX := Lib.hid hnext
              rw [← hxy] at c2
              have e4 : IntKind.i64.wrap ((j : Int) + 1) = (j : Int) + 1 := IntWalk.i64_in _ (by omega)
              generalize bs.getD (i + j) 0 = x at *
              generalize i + j = p at *
              clear hca hxy hnext hsm hj hn he hi hdi hf h3 h4 hlt hq
              go_wp2_with fail
              go_quiet (fail)
              go_wp2_with fail
              go_roundw
              case rel => exact ⟨j + 1, k + nq, by have := HLT.out; omega, by go_num, HNX.out, rfl⟩
              case measure => have := HLT.out; simp [intOf]; omega
            · have hst := hsm.stop hlt (by rw [← hq]; exact hxy)
              have hres : r = j := HR.out.trans hst
              have hne := u8_ne hxy
              generalize bs.getD (i + j) 0 = x at *
              generalize bs.getD q 0 = y at *
              generalize i + j = p at *
              have HRES := Lib.hid hres
              clear hca hxy hst hsm hj hn he hi hdi hf h3 h4 hlt hq hres
              go_wp2_with fail
              go_quiet (fail)
              go_wp2_with fail
              go_ret
              exact ⟨ret_int (by rw [HRES.out]), k + nq, by first | rfl | exact World.drewN_drewN.symm | simp⟩
          · have i4 : ¬ ((i + j : Nat) : Int) < (e : Int) := by omega
            have hres : r = j := HR.out.trans (hsm.full (by omega))
            have HRES := Lib.hid hres
            generalize i + j = p at *
            have i5 : decide (p < e) = false := decide_eq_false h4
            clear hsm hj hn he hi hdi hf h3 h4 hres
            go_wp2_with fail
            go_quiet (fail)
            go_wp2_with fail
            go_ret
            exact ⟨ret_int (by rw [HRES.out]), k + nq, by first | rfl | exact World.drewN_drewN.symm | simp⟩
        · have i3 : ¬ (j : Int) < 273 := by omega
          have hres : r = j := HR.out.trans (hsm.full (by omega))
          have HRES := Lib.hid hres
          have i5 : decide ((j : Int) < 273) = false := decide_eq_false i3
          clear hsm hj hn he hi hdi hf h3 hres
          go_wp2_with fail
          go_quiet (fail)
          go_wp2_with fail
          go_ret
          exact ⟨ret_int (by rw [HRES.out]), k + nq, by first | rfl | exact World.drewN_drewN.symm | simp⟩
    · have hr : cpN bs dict e i d = 0 := by unfold cpN; rw [if_neg (fun h => h2 h.2)]
      rw [hr]
      have g1 : ¬ (i : Int) ≤ (d : Int) := by omega
      have g2 : (dict : Int) ≤ (d : Int) := by omega
      clear hn he hi hdd hd h1 h2 hr
      go_enter Try.func13, Try.ntmps13
      go_wp2_with fail
      go_ret
      exact ⟨rfl, 0, rfl⟩
  · have hr : cpN bs dict e i d = 0 := by unfold cpN; rw [if_neg (fun h => h1 h.1)]
    rw [hr]
    have g1 : (i : Int) ≤ (d : Int) := by omega
    clear hn he hi hdd hd h1 hr
    go_enter Try.func13, Try.ntmps13
    go_wp2_with fail
    go_ret
    exact ⟨rfl, 0, rfl⟩
end Go.Proofs.Ytjganponepafpaa

/-
  Lists of places, as numbers: the last place of a list, and the longest copy that is found by them.
-/
namespace Go.Proofs.Ytjganponepafpaa
open Go.RowKit

theorem pi64_or (a b : Nat) (ha : a < 9223372036854775808) (hb : b < 9223372036854775808) : bits .or .i64 (a : Int) (b : Int) = ((a ||| b : Nat) : Int) := by
  have hx : a ||| b < 2 ^ 63 := Nat.or_lt_two_pow (by omega) (by omega)
  show IntKind.i64.wrap ((BitVec.ofInt 64 (a : Int) ||| BitVec.ofInt 64 (b : Int)).toNat : Int) = _
  rw [BitVec.toNat_or, ofInt_u64 a (by omega), ofInt_u64 b (by omega), IntKind.wrap_i64]
  omega
theorem pi64_and (a b : Nat) (ha : a < 9223372036854775808) (hb : b < 9223372036854775808) : bits .and .i64 (a : Int) (b : Int) = ((a &&& b : Nat) : Int) := by
  have hx : a &&& b < 2 ^ 63 := Nat.and_lt_two_pow _ (by omega)
  show IntKind.i64.wrap ((BitVec.ofInt 64 (a : Int) &&& BitVec.ofInt 64 (b : Int)).toNat : Int) = _
  rw [BitVec.toNat_and, ofInt_u64 a (by omega), ofInt_u64 b (by omega), IntKind.wrap_i64]
  omega
/-- two bytes -/
def twoP (b : List UInt8) (p : Nat) : Nat := (b.getD p 0).toNat * 256 ||| (b.getD (p + 1) 0).toNat
theorem twoP_lt (b : List UInt8) (p : Nat) : twoP b p < 65536 := by
  have h1 := (b.getD p 0).toNat_lt
  have h2 := (b.getD (p + 1) 0).toNat_lt
  exact Nat.or_lt_two_pow (n := 16) (by omega) (by omega)
/-- which list -/
def hashP (b : List UInt8) (sz p : Nat) : Nat := twoP b p &&& (sz - 1)
theorem hash_lt {b : List UInt8} {sz p : Nat} (h : 1 ≤ sz) : hashP b sz p < sz := by
  have : hashP b sz p ≤ sz - 1 := Nat.and_le_right
  omega
theorem hash_same {b : List UInt8} {sz p q : Nat} (h0 : b.getD p 0 = b.getD q 0) (h1 : b.getD (p + 1) 0 = b.getD (q + 1) 0) : hashP b sz p = hashP b sz q := by
  unfold hashP twoP
  rw [h0, h1]
/-- the last place below n of a list, and 1; 0 if there is none -/
def lastN (h : Nat → Nat) (v : Nat) : Nat → Nat
  | 0 => 0
  | p + 1 => if h p = v then p + 1 else lastN h v p
theorem lastN_le (h : Nat → Nat) (v : Nat) : ∀ n, lastN h v n ≤ n
  | 0 => Nat.le_refl _
  | p + 1 => by
    have := lastN_le h v p
    unfold lastN
    split <;> omega
theorem lastN_none {h : Nat → Nat} {v : Nat} : ∀ {n}, lastN h v n = 0 → ∀ p, p < n → h p ≠ v
  | 0, _, p, hp => absurd hp (Nat.not_lt_zero p)
  | n + 1, h0, p, hp => by
    unfold lastN at h0
    split at h0
    · omega
    · rename_i hn
      by_cases e : p = n
      · subst e; exact hn
      · exact lastN_none h0 p (by omega)
theorem lastN_some {h : Nat → Nat} {v q : Nat} : ∀ {n}, lastN h v n = q + 1 → q < n ∧ h q = v ∧ ∀ p, q < p → p < n → h p ≠ v
  | 0, h0 => by unfold lastN at h0; omega
  | n + 1, h0 => by
    unfold lastN at h0
    split at h0
    · rename_i hn
      obtain rfl : q = n := by omega
      exact ⟨by omega, hn, fun p h1 h2 => by omega⟩
    · rename_i hn
      obtain ⟨h1, h2, h3⟩ := lastN_some h0
      exact ⟨by omega, h2, fun p h4 h5 => by
        by_cases e : p = n
        · subst e; exact hn
        · exact h3 p h4 (by omega)⟩

/-- the longest copy of the first n distances, if it is worth it -/
def wor (g : Nat → Nat) (l0 n : Nat) : Nat × Nat := if l0 ≤ (best g n).2 then best g n else (0, 0)
def leastOf (l0 : Nat) (x : Nat × Nat) : Nat := if x.2 = 0 then l0 else x.2 + 1
theorem wor_zero (g : Nat → Nat) (l0 : Nat) : wor g l0 0 = (0, 0) := by
  unfold wor
  show (if l0 ≤ 0 then ((0, 0) : Nat × Nat) else (0, 0)) = (0, 0)
  split <;> rfl
theorem wor_skip {g : Nat → Nat} {l0 n : Nat} (h1 : 1 ≤ l0) (h : g n < leastOf l0 (wor g l0 n)) : wor g l0 (n + 1) = wor g l0 n := by
  unfold leastOf wor at h
  by_cases hb : l0 ≤ (best g n).2
  · rw [if_pos hb, if_neg (by omega)] at h
    have e : best g (n + 1) = best g n := if_neg (by omega)
    unfold wor
    rw [e]
  · rw [if_neg hb, if_pos rfl] at h
    unfold wor
    rw [if_neg hb]
    have e : (best g (n + 1)).2 < l0 := by
      show (if (best g n).2 < g n then (n, g n) else best g n).2 < l0
      split
      · exact h
      · omega
    rw [if_neg (by omega)]
theorem wor_take {g : Nat → Nat} {l0 n : Nat} (h1 : 1 ≤ l0) (h : leastOf l0 (wor g l0 n) ≤ g n) : wor g l0 (n + 1) = (n, g n) := by
  have hlt : (best g n).2 < g n ∧ l0 ≤ g n := by
    unfold leastOf wor at h
    by_cases hb : l0 ≤ (best g n).2
    · rw [if_pos hb, if_neg (by omega)] at h
      omega
    · rw [if_neg hb, if_pos rfl] at h
      omega
  have e : best g (n + 1) = (n, g n) := if_pos hlt.1
  unfold wor
  rw [e, if_pos hlt.2]
theorem wor_skips {g : Nat → Nat} {l0 n : Nat} (h1 : 1 ≤ l0) : ∀ k, (∀ d, n ≤ d → d < n + k → g d < leastOf l0 (wor g l0 n)) → wor g l0 (n + k) = wor g l0 n
  | 0, _ => rfl
  | k + 1, h => by
    have ih := wor_skips h1 k (fun d h2 h3 => h d h2 (by omega))
    have := wor_skip (g := g) (l0 := l0) (n := n + k) h1 (by rw [ih]; exact h (n + k) (by omega) (by omega))
    rw [show n + (k + 1) = n + k + 1 by omega, this, ih]
theorem wor_to {g : Nat → Nat} {l0 n N : Nat} (h1 : 1 ≤ l0) (hn : n ≤ N) (h : ∀ d, n ≤ d → d < N → g d < leastOf l0 (wor g l0 n)) : wor g l0 N = wor g l0 n := by
  have := wor_skips (g := g) (l0 := l0) (n := n) h1 (N - n) (fun d h2 h3 => h d h2 (by omega))
  rwa [show n + (N - n) = N by omega] at this
theorem least_ge {l0 : Nat} {x : Nat × Nat} (h : 2 ≤ l0) (hx : x.2 = 0 ∨ l0 ≤ x.2) : 2 ≤ leastOf l0 x := by
  unfold leastOf
  split <;> omega
theorem wor_or (g : Nat → Nat) (l0 n : Nat) : wor g l0 n = (0, 0) ∨ (l0 ≤ (wor g l0 n).2) := by
  unfold wor
  split
  · rename_i h; exact .inr h
  · exact .inl rfl
/-- bytes that begin otherwise are no copy -/
theorem cp_short {b : List UInt8} {dict e i d : Nat} (h2 : 2 ≤ cpN b dict e i d) : d < i ∧ d < dict ∧ b.getD i 0 = b.getD (i - 1 - d) 0 ∧ b.getD (i + 1) 0 = b.getD (i - 1 - d + 1) 0 := by
  unfold cpN at h2
  split at h2
  · rename_i h
    have h0 := eqN_same b (d + 1) (min 273 (e - i)) i 0 (by omega)
    have h1 := eqN_same b (d + 1) (min 273 (e - i)) i 1 (by omega)
    rw [show i + 0 = i by omega] at h0
    refine ⟨h.1, h.2, ?_, ?_⟩
    · rw [h0]; exact congrArg (fun k => b.getD k 0) (show i - (d + 1) = i - 1 - d by omega)
    · rw [h1]; exact congrArg (fun k => b.getD k 0) (show i + 1 - (d + 1) = i - 1 - d + 1 by omega)
  · omega
/-- a copy of so many bytes has the last of them -/
theorem cp_last {b : List UInt8} {dict e i d l : Nat} (h1 : 1 ≤ l) (h : l ≤ cpN b dict e i d) : b.getD (i + l - 1) 0 = b.getD (i - 1 - d + l - 1) 0 := by
  unfold cpN at h
  split at h
  · rename_i hd
    have h0 := eqN_same b (d + 1) (min 273 (e - i)) i (l - 1) (by omega)
    rw [show i + (l - 1) = i + l - 1 by omega] at h0
    rw [h0]; exact congrArg (fun k => b.getD k 0) (show i + l - 1 - (d + 1) = i - 1 - d + l - 1 by omega)
  · omega
end Go.Proofs.Ytjganponepafpaa
