/-
  Mem, Open, Only, Pure, Arith, Info, SrcFeed, Be, BytN, Byt, OwnRow, RdPure: put together.
-/
import Derived.WalkKit
import Derived.WalkSpells
import Derived.WalkLawsBesides
import Derived.Deep.Draws
import Derived.Deep.AppendLies
import Derived.Maps.AppendAt
import Derived.Lib.Hide
import Derived.ProofKit
import Derived.OpenShut
import Derived.ShutString
import Derived.ChangeOld
import Derived.Below
import Derived.Deep.Grids
import Derived.Laws.BitsAllLaws
import Derived.Laws.BitsLemmas
import Derived.Test.YtoencondpbkomaaGreatRows
import Derived.Tactics
import Derived.Tactics2
import Derived.Laws.Pointers
import Derived.RegionTactic
import Derived.RegionCalls
import Derived.BigQuiet
import Derived.Lib.SliceRun
import Derived.LoopTactic
set_option linter.unusedVariables false
set_option linter.unusedSimpArgs false
/-
  What the walks of this seat say of memory: a slice that reads as a list, a block that is known whole, and what stays.
-/
namespace Go.Proofs.YtoencondpbkomaaGreat
open Go.RowKit

/-- bytes as cells -/
def bv (l : List UInt8) : List Value := l.map fun b => Value.int .u8 (b.toNat : Int)
/-- flags as cells -/
def fv (l : List Bool) : List Value := l.map Value.bool

theorem bv_length (l : List UInt8) : (bv l).length = l.length := by simp [bv]
theorem bv_get (l : List UInt8) (i : Nat) (h : i < l.length) : (bv l)[i]? = some (.int .u8 ((l.getD i 0).toNat : Int)) := by
  simp [bv, List.getD, h]
theorem bv_append (a b : List UInt8) : bv (a ++ b) = bv a ++ bv b := by simp [bv]
theorem bv_drop (l : List UInt8) (k : Nat) : bv (l.drop k) = (bv l).drop k := by simp [bv]
theorem bv_take (l : List UInt8) (k : Nat) : bv (l.take k) = (bv l).take k := by simp [bv]
theorem bv_one (l : List UInt8) : ∀ u ∈ bv l, u.oneCell' = true := by
  intro u hu
  obtain ⟨_, _, rfl⟩ := List.mem_map.1 hu
  rfl
theorem ret_bool {a b : Bool} (h : a = b) : Ending.returned (.bool a) = .returned (.bool b) := by rw [h]
theorem ret_int {k : IntKind} {a b : Int} (h : a = b) : Ending.returned (.int k a) = .returned (.int k b) := by rw [h]

/-- The slice (A, n) reads as the cells xs, one an element, in the world w. -/
def Sl (w : World) (A : Option Addr) (n : Nat) (xs : List Value) : Prop :=
  xs.length = n ∧ (0 < n → ∃ b o, A = some ⟨b, o, none⟩ ∧ b < w.heap.size ∧ ∀ j, j < n → w.cell? ⟨b, o + j, none⟩ = xs[j]?)

section
variable {w w' : World} {A : Option Addr} {n : Nat} {xs : List Value}
theorem Sl.len (h : Sl w A n xs) : xs.length = n := h.1
theorem Sl.nil : Sl w A 0 [] := ⟨rfl, fun h => absurd h (by omega)⟩
theorem Sl.at_ (h : Sl w A n xs) (hn : 0 < n) : ∃ b o, A = some ⟨b, o, none⟩ ∧ b < w.heap.size ∧ ∀ j, j < n → w.cell? ⟨b, o + j, none⟩ = xs[j]? := h.2 hn
/-- It reads so in each later world in which the old blocks are what they were. -/
theorem Sl.keep (h : Sl w A n xs) (hz : w.heap.size ≤ w'.heap.size) (hk : 0 < n → ∀ b o, A = some ⟨b, o, none⟩ → b < w.heap.size → w'.heap[b]? = w.heap[b]?) : Sl w' A n xs := by
  refine ⟨h.1, fun hn => ?_⟩
  obtain ⟨b, o, e, hb, hc⟩ := h.2 hn
  refine ⟨b, o, e, by omega, fun j hj => ?_⟩
  rw [← hc j hj]
  exact World.cell?_of_block (hk hn b o e hb)
theorem Sl.below (h : Sl w A n xs) (hb : Below w.heap.size w w') : Sl w' A n xs := h.keep hb.size fun _ b _ _ hlt => hb.block b hlt
theorem Sl.drewN (h : Sl w A n xs) (k : Nat) : Sl (w.drewN k) A n xs := h
theorem Sl.alloc (h : Sl w A n xs) (o : Obj) : Sl (w.alloc o) A n xs := h.below ((Below.refl _ _).alloc (Nat.le_refl _) _)
theorem Sl.grown (h : Sl w A n xs) {g : Nat} (hg : w.grownBy w' (some g)) (hne : 0 < n → ∀ b o, A = some ⟨b, o, none⟩ → b ≠ g) : Sl w' A n xs :=
  h.keep hg.size fun hn b o e hlt => hg.block b hlt (fun e' => by injection e' with e'; exact hne hn b o e e')
/-- A cut from k on. -/
theorem Sl.cut (h : Sl w A n xs) {k cap : Nat} (hk : k ≤ n) (hc : n ≤ cap) :
    Sl w (if cap = k then A else A.map (·.add k)) (n - k) (xs.drop k) := by
  refine ⟨by rw [List.length_drop, h.1], fun hn => ?_⟩
  obtain ⟨b, o, rfl, hb, hcell⟩ := h.2 (by omega)
  rw [if_neg (by omega)]
  refine ⟨b, o + k, ?_, hb, fun j hj => ?_⟩
  · unfold Addr.add
    by_cases h0 : k = 0
    · subst h0; simp
    · simp [h0]
  · rw [List.getElem?_drop, ← hcell (k + j) (by omega), Nat.add_assoc]
/-- The first k. -/
theorem Sl.first (h : Sl w A n xs) {k : Nat} (hk : k ≤ n) : Sl w A k (xs.take k) := by
  refine ⟨by rw [List.length_take, h.1]; omega, fun hn => ?_⟩
  obtain ⟨b, o, rfl, hb, hcell⟩ := h.2 (by omega)
  refine ⟨b, o, rfl, hb, fun j hj => ?_⟩
  rw [List.getElem?_take_of_lt hj]
  exact hcell j (by omega)
theorem Sl.of_own {base : Nat} {e : TypeId} {c : Nat} (h : w.ownsRow base e 1 (.slice A n c) n xs) : Sl w A n xs := by
  refine ⟨by rw [h.1]; omega, fun hn => ?_⟩
  obtain ⟨g, cap, hv, _, hlt⟩ := h.form hn
  injection hv with hA hc
  subst hA
  refine ⟨g, 0, rfl, hlt, fun j hj => ?_⟩
  have hl := h.1
  have hj' : j < xs.length := by omega
  have := h.cells (g := g) rfl j xs[j] (List.getElem?_eq_getElem hj')
  rw [List.getElem?_eq_getElem hj', ← this]
  unfold Addr.add
  by_cases h0 : j = 0
  · subst h0; simp
  · simp [h0]
/-- The source of an append, as the library's laws ask it. -/
theorem Sl.news {b o : Nat} (h : Sl w (some ⟨b, o, none⟩) n xs) : ∀ j u, xs[j]? = some u → w.cell? ((⟨b, o, none⟩ : Addr).add j) = some u := by
  intro j u hu
  have hj : j < xs.length := (List.getElem?_eq_some_iff.1 hu).1
  have hl := h.1
  obtain ⟨b', o', e, _, hc⟩ := h.2 (by omega)
  injection e with e
  injection e with e1 e2
  subst e1 e2
  rw [← hu, ← hc j (by omega)]
  unfold Addr.add
  by_cases h0 : j = 0
  · subst h0; simp
  · simp [h0]
end

theorem own_facts {w : World} {base : Nat} {e : TypeId} {A : Option Addr} {n c : Nat} {xs : List Value} (h : w.ownsRow base e 1 (.slice A n c) n xs) :
    Sl w A n xs ∧ n ≤ c ∧ c ≤ maxLen ∧ ∀ b o, A = some ⟨b, o, none⟩ → base ≤ b ∧ b < w.heap.size := by
  refine ⟨Sl.of_own h, ?_⟩
  rcases h.2 with ⟨hv, rfl⟩ | ⟨g, cap, cur, hv, hb, hh, hnc, hc, _⟩
  · injection hv with e1 e2 e3
    subst e1 e3
    exact ⟨Nat.le_refl _, by unfold maxLen; omega, fun b o e => by cases e⟩
  · injection hv with e1 e2 e3
    subst e1 e3
    refine ⟨hnc, hc, fun b o e => ?_⟩
    injection e with e
    injection e with e
    subst e
    refine ⟨hb, ?_⟩
    rcases Nat.lt_or_ge g w.heap.size with hlt | hge
    · exact hlt
    · rw [Array.getElem?_eq_none hge] at hh; cases hh
theorem own_form {w : World} {base : Nat} {e : TypeId} {v : Value} {n : Nat} {xs : List Value} (h : w.ownsRow base e 1 v n xs) :
    ∃ A c, v = .slice A n c ∧ w.ownsRow base e 1 (.slice A n c) n xs := by
  rcases h.2 with ⟨rfl, rfl⟩ | ⟨g, cap, cur, rfl, _⟩
  · exact ⟨_, _, rfl, h⟩
  · exact ⟨_, _, rfl, h⟩
theorem own_empty (w : World) {base : Nat} (hb : base ≤ w.heap.size) (e : TypeId) : (w.alloc (.cells #[] e)).ownsRow base e 1 (.slice (some ⟨w.heap.size, 0, none⟩) 0 0) 0 [] :=
  ⟨rfl, .inr ⟨w.heap.size, 0, #[], rfl, hb, heap_alloc_new w _, Nat.le_refl _, by unfold maxLen; omega, rfl, rfl⟩⟩
theorem own_one (w : World) {base : Nat} (hb : base ≤ w.heap.size) (e : TypeId) (u : Value) : (w.alloc (.cells #[u] e)).ownsRow base e 1 (.slice (some ⟨w.heap.size, 0, none⟩) 1 1) 1 [u] :=
  ⟨rfl, .inr ⟨w.heap.size, 1, #[u], rfl, hb, heap_alloc_new w _, Nat.le_refl _, by unfold maxLen; omega, rfl, rfl⟩⟩

theorem sl_one (w : World) (e : TypeId) (u : Value) : Sl (w.alloc (.cells #[u] e)) (some ⟨w.heap.size, 0, none⟩) 1 [u] := Sl.of_own (own_one w (Nat.le_refl _) e u)
theorem sl_lit (w : World) (e : TypeId) (cs : Array Value) (hm : cs.size ≤ 1000000000) : Sl (w.alloc (.cells cs e)) (some ⟨w.heap.size, 0, none⟩) cs.size cs.toList :=
  Sl.of_own (base := w.heap.size) (c := cs.size) (e := e) ⟨by simp, .inr ⟨w.heap.size, cs.size, cs, rfl, Nat.le_refl _, heap_alloc_new w _, Nat.le_refl _, by unfold maxLen; omega, by omega, by rw [Nat.mul_one]; exact List.take_of_length_le (by simp)⟩⟩
theorem one_one (k : IntKind) (x : Int) : ∀ u ∈ [Value.int k x], u.oneCell' = true := by
  intro u hu
  rw [List.mem_singleton.1 hu]; rfl

section
variable {P : Program} (w : World)
/-- append onto a row of the call's own, from whatever slice, one cell an element. -/
theorem run_app (base : Nat) (t ty e : TypeId) (i : TypeInfo) (z : Value) (bytes : Nat) (ht : P.underlying t = some (.slice e)) (hi : P.info? e = some i) (hz : i.zero = some z)
    (hsize : i.size = 1) (hby : i.bytes = bytes) (hzs : z.cells.size = 1)
    (v : Value) (n : Nat) (xs : List Value) (hown : w.ownsRow base e 1 v n xs)
    (A : Option Addr) (m c : Nat) (news : List Value) (hr : Sl w A m news) (h1 : ∀ u ∈ news, u.oneCell' = true)
    (hbytes : (n + m) * bytes ≤ 140737488355328) (hb0 : 0 < bytes) (hbase : base ≤ w.heap.size) :
    ∃ v' w', (Builtin.append_ #[t, t] ty #[v, .slice A m c]).run P w = .ok v' w' ∧ w'.ownsRow base e 1 v' (n + m) (xs ++ news) ∧ w.grownBy w' v.ownBlock ∧
      (v'.ownBlock = v.ownBlock ∨ v'.ownBlock = some w.heap.size) := by
  have h63 : n + m ≤ maxLen := by
    have := Nat.le_mul_of_pos_right (n + m) hb0
    unfold maxLen; omega
  rcases A with _ | ad
  · have hm : m = 0 := by
      rcases Nat.eq_zero_or_pos m with h0 | h0
      · exact h0
      · obtain ⟨_, _, h, _⟩ := hr.2 h0
        cases h
    subst hm
    have hn : news = [] := List.eq_nil_of_length_eq_zero hr.1
    subst hn
    refine ⟨v, w, ?_, by simpa using hown, World.grownBy.refl w _, .inl rfl⟩
    rcases hown.2 with ⟨rfl, rfl⟩ | ⟨g, cap, cur, rfl, _, _, hnc, _⟩
    · simp [Builtin.append_, run_underlying ht, sizeOf, typeInfo, hi, Builtin.lenOf, Builtin.firstCells]
    · simp [Builtin.append_, run_underlying ht, sizeOf, typeInfo, hi, Builtin.lenOf, Builtin.firstCells, hnc, storeCells]
  · have hcells : ∀ j u, news[j]? = some u → w.cell? (ad.add j) = some u := by
      intro j u hu
      rcases Nat.eq_zero_or_pos m with h0 | h0
      · subst h0
        have hn : news = [] := List.eq_nil_of_length_eq_zero hr.1
        subst hn
        simp at hu
      · obtain ⟨b, o, h, _⟩ := hr.2 h0
        injection h with h
        subst h
        exact hr.news j u hu
    obtain ⟨v', w', hrun, h2, h3, _, h5⟩ := run_append_own_at (P := P) w base t ty e i z 1 bytes ht hi hz hsize hby hzs (by omega) v n xs hown ad m c news (by rw [hr.1]; omega) hcells h1 h63 hbytes hbase
    exact ⟨v', w', hrun, h2, h3, h5⟩

theorem wpList_app {ops : Array Oper} {rest : List Oper} {o : Oper} {a : Act} {Q : Exit → Act → World → Prop} (hgd : o.guard = none) (s x : Operand) (t : TypeId)
    (ho : o.op = .call { callee := .builtin .append, args := #[s, x], argTypes := #[t, t] })
    (base : Nat) (e : TypeId) (i : TypeInfo) (z : Value) (bytes : Nat) (ht : P.underlying t = some (.slice e)) (hi : P.info? e = some i) (hz : i.zero = some z)
    (hsize : i.size = 1) (hby : i.bytes = bytes) (hzs : z.cells.size = 1)
    (v : Value) (n : Nat) (xs : List Value) (hs : a.eval s = v) (hown : w.ownsRow base e 1 v n xs)
    (A : Option Addr) (m c : Nat) (news : List Value) (hx : a.eval x = .slice A m c) (hr : Sl w A m news) (h1 : ∀ u ∈ news, u.oneCell' = true)
    (hbytes : (n + m) * bytes ≤ 140737488355328) (hb0 : 0 < bytes) (hbase : base ≤ w.heap.size)
    (h : ∀ A' c' w', w'.ownsRow base e 1 (.slice A' (n + m) c') (n + m) (xs ++ news) → w.grownBy w' v.ownBlock → wpList P ops Q rest (a.put o.dst (.slice A' (n + m) c')) w') : wpList P ops Q (o :: rest) a w :=
  wpList_plain hgd fun K hK => by
    obtain ⟨v', w', hrun, h2, h3, _⟩ := run_app (P := P) w base t o.type e i z bytes ht hi hz hsize hby hzs v n xs hown A m c news hr h1 hbytes hb0 hbase
    obtain ⟨A', c', rfl, h2⟩ := own_form h2
    unfold Oper.wp execOp
    simp only [ho, resolve, invoke, builtin, Sem.run_bind, Sem.run_pure, Result.andThen_ok, List.map_toArray, List.map_cons, List.map_nil, hs, hx, hrun]
    exact hK _ _ (h A' c' w' h2 h3)
end

/-- Block g is the cells cs of element type t, none frozen. -/
def Blk (w : World) (g : Nat) (t : TypeId) (cs : Array Value) : Prop := w.heap[g]? = some (.cells cs t (0, 0))

section
variable {w w' : World} {g : Nat} {t : TypeId} {cs : Array Value}
theorem Blk.lt (h : Blk w g t cs) : g < w.heap.size := by
  rcases Nat.lt_or_ge g w.heap.size with hlt | hge
  · exact hlt
  · unfold Blk at h; rw [Array.getElem?_eq_none hge] at h; cases h
theorem Blk.cell (h : Blk w g t cs) (i : Nat) : w.cell? ⟨g, i, none⟩ = cs[i]? := cell_of_row w g i cs t (0, 0) h
theorem Blk.free (h : Blk w g t cs) (i : Nat) : w.frozen? ⟨g, i, none⟩ = false := frozen_of_row w g i cs t h
theorem Blk.fresh (w : World) (t : TypeId) (cs : Array Value) : Blk (w.alloc (.cells cs t)) w.heap.size t cs := heap_alloc_new w _
theorem Blk.drewN (h : Blk w g t cs) (n : Nat) : Blk (w.drewN n) g t cs := h
theorem Blk.alloc (h : Blk w g t cs) (o : Obj) : Blk (w.alloc o) g t cs := (Below.heap_alloc w o g h.lt).trans h
theorem Blk.put (h : Blk w g t cs) (i : Nat) (u : Value) : Blk (w.setCell ⟨g, i, none⟩ u) g t (cs.setIfInBounds i u) := by
  unfold Blk at h ⊢
  simp [World.setCell, Array.getElem?_modify, h]
theorem Blk.far (h : Blk w g t cs) {p : Addr} (hp : g ≠ p.block) (u : Value) : Blk (w.setCell p u) g t cs := (Below.heap_setCell w p u g hp).trans h
theorem Blk.below (h : Blk w g t cs) (hb : Below w.heap.size w w') : Blk w' g t cs := (hb.block g h.lt).trans h
theorem Blk.grown {row : Option Nat} (h : Blk w g t cs) (hb : w.grownBy w' row) (hg : some g ≠ row) : Blk w' g t cs := (hb.block g h.lt hg).trans h
end

theorem quiet_same_at {P : Program} {f : FuncId} {args : Array Value} {w : World} {v : Value} {n : Nat} (h : Calls P f args (w.drewN n) fun e w' => e = .returned v ∧ w.drewN n = w') :
    Calls P f args (w.drewN n) fun e w' => e = .returned v ∧ ∃ m, w' = w.drewN m := h.mono fun _ _ ⟨he, hm⟩ => ⟨he, n, hm.symm⟩
theorem quiet_drew_at {P : Program} {f : FuncId} {args : Array Value} {w : World} {v : Value} {n : Nat} (h : Calls P f args (w.drewN n) fun e w' => e = .returned v ∧ ∃ d, (w.drewN n).drewN d = w') :
    Calls P f args (w.drewN n) fun e w' => e = .returned v ∧ ∃ m, w' = w.drewN m := h.mono fun _ _ ⟨he, d, hm⟩ => ⟨he, n + d, by rw [← hm, World.drewN_drewN]⟩

theorem below_of_only {B : Nat} {a w : World} {g : Nat} (h : a.grownBy w (some g)) (hg : B ≤ g) (hB : B ≤ a.heap.size) : Below B a w :=
  ⟨h.os, h.tape, h.output, h.size, fun i hi => h.block i (by omega) (fun e => by injection e with e; omega)⟩
theorem below_drewN {B : Nat} {a w : World} (h : Below B a w) (n : Nat) : Below B a (w.drewN n) := ⟨h.os, h.tape, h.output, h.size, h.block⟩
theorem own_mono {w : World} {base base' : Nat} {e : TypeId} {v : Value} {n : Nat} {xs : List Value} (h : w.ownsRow base e 1 v n xs) (hb : base' ≤ base) : w.ownsRow base' e 1 v n xs := by
  obtain ⟨h1, h2⟩ := h
  refine ⟨h1, ?_⟩
  rcases h2 with h2 | ⟨g, cap, cur, hv, hg, r⟩
  · exact .inl h2
  · exact .inr ⟨g, cap, cur, hv, by omega, r⟩
theorem only_none {a w : World} (h : a.grownBy w none) : Below a.heap.size a w := ⟨h.os, h.tape, h.output, h.size, fun i hi => h.block i hi (by simp)⟩
end Go.Proofs.YtoencondpbkomaaGreat

/-
  What comes in, opened: bytes, flags and numbers of 64 bits, as slices that read as lists.
-/
namespace Go.Proofs.YtoencondpbkomaaGreat
open Go.ChangeShapes Go.WideShapes Go.ChangeAt Go.RowKit

theorem sl_row {w : World} {a : Addr} {len : Nat} {xs : List Value} (hl : len ≤ xs.length) (hcell : ∀ i, i < xs.length → w.cell? (a.add i) = xs[i]?) : Sl w (some a) len (xs.take len) := by
  refine ⟨by rw [List.length_take]; omega, fun hn => ?_⟩
  have h0 := hcell 0 (by omega)
  rw [List.getElem?_eq_getElem (by omega)] at h0
  have hs := World.cell?_spot h0
  have ha : a.add 0 = a := by simp [Addr.add]
  rw [ha] at hs h0
  have hb := World.block_lt_of_cell? _ _ h0
  obtain ⟨b, o, s⟩ := a
  simp only at hs hb
  subst hs
  refine ⟨b, o, rfl, hb, fun j hj => ?_⟩
  rw [List.getElem?_take_of_lt hj, ← hcell j (by omega)]
  unfold Addr.add
  by_cases h : j = 0
  · subst h; simp
  · simp [h]

/-- bytes out of numbers that are bytes -/
def toBytes (zs : List Int) : List UInt8 := zs.map fun z => UInt8.ofNat z.toNat
theorem bv_toBytes {zs : List Int} (h : ∀ n ∈ zs, (Lit.int .u8 n).wf = true) : bv (toBytes zs) = zs.map (Value.int .u8) := by
  induction zs with
  | nil => rfl
  | cons z r ih =>
    have hz := bounds_u8 (h z (by simp))
    have hr := ih (fun n hn => h n (by simp [hn]))
    simp only [bv, toBytes, List.map_cons, List.cons.injEq]
    refine ⟨?_, hr⟩
    congr 1
    rw [UInt8.toNat_ofNat']
    omega

section
variable {H : Type} {enc : TypeId × Value → H} {P : Program} {w : World} {held : Bool}
theorem open_bytes {t e : TypeId} (ht : P.underlying t = some (.slice e)) (he : P.underlying e = some (.int .u8)) (hc : P.cellsOf e = 1)
    {A : Option Addr} {len cap : Nat} {d : DataW H} {ps : List MemPlace} (h : DataW.Trod enc P w 0 (fun _ => true) held t (.slice A len cap) d ps) :
    ∃ bs : List UInt8, Sl w A len (bv bs) ∧ len ≤ cap ∧ cap ≤ maxLen := by
  obtain ⟨fuel, hf⟩ := h
  rcases open_ints ht he hc hf with ⟨hcs, _⟩ | ⟨x, l, c, zs, hcs, _, hl, hm, hz, _, hcell, hwz⟩
  · simp [Value.cells] at hcs
    obtain ⟨rfl, rfl, rfl⟩ := hcs
    exact ⟨[], Sl.nil, Nat.le_refl _, by unfold maxLen; omega⟩
  · simp [Value.cells] at hcs
    obtain ⟨rfl, rfl, rfl⟩ := hcs
    simp only [if_true] at hz
    refine ⟨toBytes (zs.take len), ?_, hl, hm⟩
    rw [bv_toBytes (fun n hn => hwz n (List.mem_of_mem_take hn)), List.map_take]
    refine sl_row (xs := zs.map (Value.int .u8)) (by rw [List.length_map, hz]; exact hl) (fun i hi => ?_)
    simp only [List.length_map] at hi
    rw [hcell i hi]
    simp [List.getD, hi]
end
end Go.Proofs.YtoencondpbkomaaGreat

/-
  What was there is as it was, but for the blocks of a set.
-/
namespace Go.Proofs.YtoencondpbkomaaGreat
open Go.RowKit

structure Only (S : Nat → Prop) (a w : World) : Prop where
  os : w.os = a.os
  tape : w.tape = a.tape
  output : w.output = a.output
  size : a.heap.size ≤ w.heap.size
  block : ∀ i, i < a.heap.size → ¬ S i → w.heap[i]? = a.heap[i]?

section
variable {S S' : Nat → Prop} {a b c w w' : World}
theorem Only.refl (S : Nat → Prop) (w : World) : Only S w w := ⟨rfl, rfl, rfl, Nat.le_refl _, fun _ _ _ => rfl⟩
theorem Only.trans (h : Only S a b) (k : Only S b c) : Only S a c :=
  ⟨k.os.trans h.os, k.tape.trans h.tape, k.output.trans h.output, Nat.le_trans h.size k.size, fun i hi hn => (k.block i (Nat.lt_of_lt_of_le hi h.size) hn).trans (h.block i hi hn)⟩
theorem Only.mono (h : Only S a w) (hS : ∀ i, S i → S' i) : Only S' a w := ⟨h.os, h.tape, h.output, h.size, fun i hi hn => h.block i hi fun hs => hn (hS i hs)⟩
theorem Only.drewN (h : Only S a w) (n : Nat) : Only S a (w.drewN n) := ⟨h.os, h.tape, h.output, h.size, h.block⟩
theorem Only.drew (h : Only S a w) : Only S a w.drew := ⟨h.os, h.tape, h.output, h.size, h.block⟩
theorem Only.of_drewN {n : Nat} (h : Only S (a.drewN n) w) : Only S a w := ⟨h.os, h.tape, h.output, h.size, h.block⟩
theorem Only.of_drew (h : Only S a.drew w) : Only S a w := ⟨h.os, h.tape, h.output, h.size, h.block⟩
theorem Only.setCell (h : Only S a w) {p : Addr} (hp : S p.block ∨ a.heap.size ≤ p.block) (u : Value) : Only S a (w.setCell p u) :=
  ⟨h.os, h.tape, h.output, by simpa [World.setCell] using h.size, fun i hi hn => (Below.heap_setCell w p u i (by
    rintro rfl
    rcases hp with hp | hp
    · exact hn hp
    · omega)).trans (h.block i hi hn)⟩
theorem Only.alloc (h : Only S a w) (o : Obj) : Only S a (w.alloc o) :=
  ⟨h.os, h.tape, h.output, Nat.le_trans h.size (by simp), fun i hi hn => (Below.heap_alloc w o i (Nat.lt_of_lt_of_le hi h.size)).trans (h.block i hi hn)⟩
theorem Only.of_grown {g : Nat} (h : a.grownBy w (some g)) (hg : S g) : Only S a w := ⟨h.os, h.tape, h.output, h.size, fun i hi hn => h.block i hi fun e => by injection e with e; exact hn (e ▸ hg)⟩
theorem Only.of_below (h : Below a.heap.size a w) : Only S a w := ⟨h.os, h.tape, h.output, h.size, fun i hi _ => h.block i hi⟩
theorem Only.then (h : Only S a b) (k : Below b.heap.size b c) : Only S a c := h.trans (Only.of_below k)
theorem Only.below {B : Nat} (h : Only S a w) (hB : B ≤ a.heap.size) (hS : ∀ i, S i → B ≤ i) : Below B a w :=
  ⟨h.os, h.tape, h.output, h.size, fun i hi => h.block i (by omega) fun hs => by have := hS i hs; omega⟩
theorem Only.trans' (h : Only S a b) (k : Only S' b c) (hS : ∀ i, S' i → S i ∨ a.heap.size ≤ i) : Only S a c :=
  ⟨k.os.trans h.os, k.tape.trans h.tape, k.output.trans h.output, Nat.le_trans h.size k.size, fun i hi hn => (k.block i (Nat.lt_of_lt_of_le hi h.size) (fun hs => by
    rcases hS i hs with h1 | h1
    · exact hn h1
    · omega)).trans (h.block i hi hn)⟩
theorem Only.cell (h : Only S w w') {p : Addr} (hp : p.block < w.heap.size) (hn : ¬ S p.block) : w'.cell? p = w.cell? p := World.cell?_of_block (h.block _ hp hn)
theorem Blk.only {g : Nat} {t : TypeId} {cs : Array Value} (h : Blk w g t cs) (hb : Only S w w') (hg : ¬ S g) : Blk w' g t cs := (hb.block g h.lt hg).trans h
theorem Sl.only {A : Option Addr} {n : Nat} {xs : List Value} (h : Sl w A n xs) (hb : Only S w w') (hne : 0 < n → ∀ b o, A = some ⟨b, o, none⟩ → ¬ S b) : Sl w' A n xs :=
  h.keep hb.size fun hn b o e hlt => hb.block b hlt (hne hn b o e)
theorem own_only {base : Nat} {e : TypeId} {g n c : Nat} {xs : List Value} (h : w.ownsRow base e 1 (.slice (some ⟨g, 0, none⟩) n c) n xs) (hb : Only S w w') (hg : ¬ S g) : w'.ownsRow base e 1 (.slice (some ⟨g, 0, none⟩) n c) n xs := by
  refine ⟨h.1, ?_⟩
  rcases h.2 with ⟨hv, _⟩ | ⟨g', cap, cur, hv, hb', hh, r⟩
  · cases hv
  · refine .inr ⟨g', cap, cur, hv, hb', ?_, r⟩
    injection hv with h1
    injection h1 with h1
    injection h1 with h1
    subst h1
    have hlt : g < w.heap.size := by
      rcases Nat.lt_or_ge g w.heap.size with hlt | hge
      · exact hlt
      · rw [Array.getElem?_eq_none hge] at hh; cases hh
    exact (hb.block g hlt hg).trans hh
end
end Go.Proofs.YtoencondpbkomaaGreat

/-
  Numbers and rows as the document has them, over lists of bytes: plain mathematics, no program.
-/
namespace Go.Proofs.YtoencondpbkomaaGreat

/-- bytes as a number, the least first -/
def leVal : List UInt8 → Nat
  | [] => 0
  | b :: r => b.toNat + 256 * leVal r

theorem pow256 (k : Nat) : (256 : Nat) ^ k = 2 ^ (8 * k) := by
  rw [Nat.pow_mul]
/-- the size least bytes of v, the least first -/
def leBytes (size v : Nat) : List UInt8 := (List.range size).map fun i => UInt8.ofNat (v / 256 ^ i % 256)
theorem leBytes_length (size v : Nat) : (leBytes size v).length = size := by simp [leBytes]
theorem leBytes_succ (k v : Nat) : leBytes (k + 1) v = leBytes k v ++ [UInt8.ofNat (v / 256 ^ k % 256)] := by
  simp [leBytes, List.range_succ]
/-- how many bytes follow the first of the shortest short number that is v: k -/
structure IsFol (v k : Nat) : Prop where
  le : k ≤ 8
  lt : k < 8 → v < 2 ^ (7 * k + 7)
  ge : ∀ j, j < k → 2 ^ (7 * j + 7) ≤ v
def folAux (v : Nat) : Nat → Nat → Nat
  | 0, k => k
  | f + 1, k => if v < 2 ^ (7 * k + 7) then k else folAux v f (k + 1)
def fol (v : Nat) : Nat := folAux v 8 0
/-- what stands above the following bytes -/
theorem IsFol.top {v k : Nat} (h : IsFol v k) (hv : v < 18446744073709551616) : v / 256 ^ k < 2 ^ (7 - k) ∧ (7 ≤ k → v / 256 ^ k = 0) := by
  have hk := h.le
  have h1 := h.lt
  have : k = 0 ∨ k = 1 ∨ k = 2 ∨ k = 3 ∨ k = 4 ∨ k = 5 ∨ k = 6 ∨ k = 7 ∨ k = 8 := by omega
  rcases this with rfl | rfl | rfl | rfl | rfl | rfl | rfl | rfl | rfl <;> simp at h1 ⊢ <;> omega
/-- the shortest short number that is v -/
def shortBytes (v : Nat) : List UInt8 := UInt8.ofNat (256 - 2 ^ (8 - fol v) + v / 256 ^ fol v) :: leBytes (fol v) v
end Go.Proofs.YtoencondpbkomaaGreat

/-
  Arithmetic of fixed width as the walk writes it: shifts, or, and, and sums that do not wrap.
-/
namespace Go.Proofs.YtoencondpbkomaaGreat
open Go.RowKit

theorem u64_in (x : Nat) (h : x < 18446744073709551616) : IntKind.u64.wrap (x : Int) = (x : Int) := by
  rw [IntKind.wrap_u64]; omega
theorem cast_pow2 (k : Nat) : ((2 : Int) ^ k) = ((2 ^ k : Nat) : Int) := by
  rw [Int.natCast_pow]; rfl

theorem put_byte (v k : Nat) : ((v : Int) / 2 ^ (8 * k) % 256) = (((UInt8.ofNat (v / 256 ^ k % 256)).toNat : Nat) : Int) := by
  have hb : (UInt8.ofNat (v / 256 ^ k % 256)).toNat = v / 256 ^ k % 256 := by simp
  rw [hb, cast_pow2, ← pow256]
  omega

end Go.Proofs.YtoencondpbkomaaGreat

/-
  What a type's facts say, in parts.
-/
namespace Go.Proofs.YtoencondpbkomaaGreat
open Go.RowKit

theorem info_parts {P : Program} {t : TypeId} {z : Value} {s b : Nat} (h : (P.info? t).map (fun i => (i.zero, i.size, i.bytes)) = some (some z, s, b)) : ∃ i, P.info? t = some i ∧ i.zero = some z ∧ i.size = s ∧ i.bytes = b := by
  cases hi : P.info? t with
  | none => rw [hi] at h; cases h
  | some i =>
    rw [hi] at h
    simp only [Option.map_some, Option.some.injEq, Prod.mk.injEq] at h
    exact ⟨i, rfl, h.1, h.2.1, h.2.2⟩
theorem info_u8 : (Tryz.prog.info? 5).map (fun i => (i.zero, i.size, i.bytes)) = some (some (.int .u8 0), 1, 1) := by kernel_rfl

end Go.Proofs.YtoencondpbkomaaGreat

/-
  A feed: made of bytes, it gives each once, in order. Its row lies from block lo on, ahead of its own block.
-/
namespace Go.Proofs.YtoencondpbkomaaGreat
open Go.RowKit

end Go.Proofs.YtoencondpbkomaaGreat

/-
  Bytes as a number, the greatest first.
-/
namespace Go.Proofs.YtoencondpbkomaaGreat

/-- bytes as a number, the greatest first -/
def be (l : List UInt8) : Nat := l.foldl (fun a b => a * 256 + b.toNat) 0
theorem be_snoc (l : List UInt8) (x : UInt8) : be (l ++ [x]) = be l * 256 + x.toNat := by simp [be]
theorem be_append (l k : List UInt8) : be (l ++ k) = be l * 256 ^ k.length + be k := by
  generalize hn : k.length = n
  induction n generalizing k with
  | zero => rw [List.eq_nil_of_length_eq_zero hn]; simp [be]
  | succ n ih =>
    have hne : k ≠ [] := by intro e; rw [e] at hn; cases hn
    rw [← List.dropLast_concat_getLast hne, ← List.append_assoc, be_snoc, be_snoc, ih k.dropLast (by simp [hn]), Nat.pow_succ, ← Nat.mul_assoc, Nat.add_mul]
    omega
theorem be_lt (l : List UInt8) : ∀ n, l.length = n → be l < 256 ^ n := by
  intro n
  induction n generalizing l with
  | zero => intro h; rw [List.eq_nil_of_length_eq_zero h]; decide
  | succ n ih =>
    intro h
    have hne : l ≠ [] := by intro e; rw [e] at h; cases h
    rw [← List.dropLast_concat_getLast hne, be_snoc, Nat.pow_succ]
    have := ih l.dropLast (by simp [h])
    have := (l.getLast hne).toNat_lt
    omega
theorem be_inj : ∀ (l k : List UInt8), l.length = k.length → be l = be k → l = k := by
  intro l
  generalize hn : l.length = n
  induction n generalizing l with
  | zero => intro k h _; rw [List.eq_nil_of_length_eq_zero hn, List.eq_nil_of_length_eq_zero h.symm]
  | succ n ih =>
    intro k h e
    have hl : l ≠ [] := by intro e; rw [e] at hn; cases hn
    have hk : k ≠ [] := by intro e; rw [e] at h; cases h
    rw [← List.dropLast_concat_getLast hl, ← List.dropLast_concat_getLast hk, be_snoc, be_snoc] at e
    have h1 := (l.getLast hl).toNat_lt
    have h2 := (k.getLast hk).toNat_lt
    have h3 := ih l.dropLast (by simp [hn]) k.dropLast (by simp [← h]) (by omega)
    have h4 : l.getLast hl = k.getLast hk := UInt8.toNat_inj.1 (by omega)
    rw [← List.dropLast_concat_getLast hl, ← List.dropLast_concat_getLast hk, h3, h4]
theorem be_zeros (n : Nat) : be (List.replicate n 0) = 0 := by
  induction n with
  | zero => rfl
  | succ n ih => rw [List.replicate_succ', be_snoc, ih]; rfl
/-- the first l of the bytes, and what is behind -/
theorem be_take (bs : List UInt8) (l : Nat) : be (bs.take l) * 256 ^ (bs.length - l) ≤ be bs ∧ be bs < (be (bs.take l) + 1) * 256 ^ (bs.length - l) := by
  have e := be_append (bs.take l) (bs.drop l)
  rw [List.take_append_drop, List.length_drop] at e
  have h := be_lt (bs.drop l) (bs.length - l) (by simp)
  rw [Nat.add_mul]
  omega
theorem be_take_succ {bs : List UInt8} {l : Nat} (h : l < bs.length) : be (bs.take (l + 1)) = be (bs.take l) * 256 + (bs[l]).toNat := by
  rw [List.take_succ_eq_append_getElem h, be_snoc]
end Go.Proofs.YtoencondpbkomaaGreat

/-
  A row of bytes of the call's own, its block named; rows compared.
-/
namespace Go.Proofs.YtoencondpbkomaaGreat
open Go.RowKit

/-- Block q holds the bytes bs. -/
def Byt (w : World) (q c : Nat) (bs : List UInt8) : Prop := w.ownsRow 0 5 1 (.slice (some ⟨q, 0, none⟩) bs.length c) bs.length (bv bs)

theorem bv_set (bs : List UInt8) (i : Nat) (y : UInt8) : (bv bs).set i (.int .u8 (y.toNat : Int)) = bv (bs.set i y) := by
  simp [bv, List.map_set]

section
variable {w w' : World} {q c : Nat} {bs : List UInt8}
theorem Byt.cell (h : Byt w q c bs) {i : Nat} (hi : i < bs.length) : w.cell? ⟨q, i, none⟩ = some (.int .u8 ((bs.getD i 0).toNat : Int)) := by
  rw [World.ownsRow.cellAt h i (by omega), bv_get bs i hi]
theorem Byt.free (h : Byt w q c bs) (i : Nat) : w.frozen? ⟨q, i, none⟩ = false := World.ownsRow.frozenAt h i
theorem Byt.put (h : Byt w q c bs) (i : Nat) (y : UInt8) : Byt (w.setCell ⟨q, i, none⟩ (.int .u8 (y.toNat : Int))) q c (bs.set i y) := by
  have := (World.ownsRow.stored h i (.int .u8 (y.toNat : Int))).1
  rw [bv_set] at this
  unfold Byt
  rw [List.length_set]
  exact this
theorem Byt.drewN (h : Byt w q c bs) (n : Nat) : Byt (w.drewN n) q c bs := h
theorem Byt.only {S : Nat → Prop} (h : Byt w q c bs) (hb : Only S w w') (hS : ¬ S q) : Byt w' q c bs := own_only h hb hS
theorem Byt.lt (h : Byt w q c bs) : q < w.heap.size := (World.ownsRow.lt h q rfl).2
theorem Byt.own (h : Byt w q c bs) : w.ownsRow 0 5 1 (.slice (some ⟨q, 0, none⟩) bs.length c) bs.length (bv bs) := h
theorem Byt.sl (h : Byt w q c bs) : Sl w (some ⟨q, 0, none⟩) bs.length (bv bs) := (own_facts h).1
theorem Byt.cap (h : Byt w q c bs) : bs.length ≤ c ∧ c ≤ maxLen := by
  obtain ⟨_, h2, h3, _⟩ := own_facts h
  exact ⟨h2, h3⟩
end

/-- a byte in the midst is another one -/
theorem be_set : ∀ (cs : List UInt8) (k : Nat) (z : UInt8), k < cs.length → be (cs.set k z) + (cs.getD k 0).toNat * 256 ^ (cs.length - 1 - k) = be cs + z.toNat * 256 ^ (cs.length - 1 - k) := by
  intro cs k z hk
  have e1 : cs = cs.take k ++ (cs[k] :: cs.drop (k + 1)) := by rw [← List.drop_eq_getElem_cons hk, List.take_append_drop]
  have e2 : cs.set k z = cs.take k ++ (z :: cs.drop (k + 1)) := by
    have := List.set_eq_take_append_cons_drop (l := cs) (i := k) (a := z)
    rw [this, if_pos hk]
  have e3 : cs.getD k 0 = cs[k] := by simp [List.getD, hk]
  have hl : (cs.drop (k + 1)).length = cs.length - 1 - k := by rw [List.length_drop]; omega
  have one : ∀ y : UInt8, be (cs.take k ++ (y :: cs.drop (k + 1))) = be (cs.take k) * 256 ^ (cs.length - 1 - k + 1) + (y.toNat * 256 ^ (cs.length - 1 - k) + be (cs.drop (k + 1))) := by
    intro y
    have hc : y :: cs.drop (k + 1) = [y] ++ cs.drop (k + 1) := rfl
    rw [be_append, hc, be_append, List.length_append, hl]
    simp only [List.length_singleton]
    rw [show be [y] = y.toNat by simp [be], Nat.add_comm 1]
  have f1 : be (cs.set k z) = be (cs.take k) * 256 ^ (cs.length - 1 - k + 1) + (z.toNat * 256 ^ (cs.length - 1 - k) + be (cs.drop (k + 1))) := by rw [e2]; exact one z
  have f2 : be cs = be (cs.take k) * 256 ^ (cs.length - 1 - k + 1) + ((cs[k]).toNat * 256 ^ (cs.length - 1 - k) + be (cs.drop (k + 1))) := by
    have := one cs[k]
    rwa [← e1] at this
  rw [f1, f2, e3]
  omega

set_option maxHeartbeats 1000000 in
theorem bytesSame_any {A B : Option Addr} {n ca cb : Nat} {bs : List UInt8} {w : World} (hA : Sl w A n (bv bs)) (hB : Sl w B n (bv bs)) (hn : n ≤ 1000000000) :
    Calls Tryz.prog 9 #[.slice A n ca, .slice B n cb] w fun e w' => e = .returned (.bool true) ∧ ∃ d, w.drewN d = w' := by
  have HA := Lib.hid hA
  have HB := Lib.hid hB
  have hl : bs.length = n := by rw [← bv_length]; exact hA.1
  have HL := Lib.hid hl
  clear hA hB hl
  go_enter Tryz.func9, Tryz.ntmps9
  go_wp2_with fail
  go_loopw [5] (fun i wr => ∃ j k : Nat, j ≤ n ∧ i = .int .i64 (j : Int) ∧ wr = w.drewN k) (fun i _ => n - (intOf i).toNat)
  case atStart => exact ⟨0, 0, Nat.zero_le _, rfl, rfl⟩
  case round =>
    obtain ⟨j, k, hj, rfl, rfl⟩ := hrel
    by_cases hlt : j < n
    · obtain ⟨ba, oa, rfl, hba, hca⟩ := HA.out.2 (by omega)
      obtain ⟨bb, ob, rfl, hbb, hcb⟩ := HB.out.2 (by omega)
      have c1 : w.cell? ⟨ba, oa + j, none⟩ = some (.int .u8 ((bs.getD j 0).toNat : Int)) := by rw [hca j hlt, bv_get bs j (by have := HL.out; omega)]
      have c2 : w.cell? ⟨bb, ob + j, none⟩ = some (.int .u8 ((bs.getD j 0).toNat : Int)) := by rw [hcb j hlt, bv_get bs j (by have := HL.out; omega)]
      generalize bs.getD j 0 = x at *
      have i0 : (0 : Int) ≤ (j : Int) := by omega
      have i1 : (j : Int) < (n : Int) := by omega
      clear hca hcb
      go_wp2_with fail
      go_quiet (fail)
      go_wp2_with fail
      go_roundw
      case rel => exact ⟨j + 1, k + nq, by omega, by go_num, rfl⟩
      case measure => simp [intOf]; omega
    · obtain rfl : j = n := by omega
      go_wp2_with fail
      go_ret
      exact ⟨rfl, _, rfl⟩
end Go.Proofs.YtoencondpbkomaaGreat



/-
  An own row stays.
-/
namespace Go.Proofs.YtoencondpbkomaaGreat
open Go.RowKit

theorem own_only' {S : Nat → Prop} {w w' : World} {base : Nat} {e : TypeId} {v : Value} {n : Nat} {xs : List Value} (h : w.ownsRow base e 1 v n xs) (hb : Only S w w') (hg : ∀ i, v.ownBlock = some i → ¬ S i) : w'.ownsRow base e 1 v n xs := by
  refine ⟨h.1, ?_⟩
  rcases h.2 with hv | ⟨g', cap, cur, hv, hb', hh, r⟩
  · exact .inl hv
  · refine .inr ⟨g', cap, cur, hv, hb', ?_, r⟩
    subst hv
    have hlt : g' < w.heap.size := by
      rcases Nat.lt_or_ge g' w.heap.size with hlt | hge
      · exact hlt
      · rw [Array.getElem?_eq_none hge] at hh; cases hh
    exact (hb.block g' hlt (hg g' rfl)).trans hh
theorem own_old {w : World} {base : Nat} {e : TypeId} {v : Value} {n i : Nat} {xs : List Value} (h : w.ownsRow base e 1 v n xs) (hi : v.ownBlock = some i) : i < w.heap.size := (World.ownsRow.lt h i hi).2
end Go.Proofs.YtoencondpbkomaaGreat

/-
  The range decoder as numbers: bad, or its range, its code, and the bytes that it has not asked for.
-/
namespace Go.Proofs.YtoencondpbkomaaGreat

abbrev Dc := Option (Nat × Nat × List UInt8)

/-- evened out -/
def lvl (r c : Nat) (s : List UInt8) : Dc :=
  if r < 16777216 then
    match s with
    | [] => none
    | b :: t => some (r * 256, c * 256 + b.toNat, t)
  else some (r, c, s)

/-- five bytes make a decoder -/
def started : List UInt8 → Dc
  | z :: a :: b :: c :: d :: t =>
    if z.toNat = 0 ∧ ((a.toNat * 256 + b.toNat) * 256 + c.toNat) * 256 + d.toNat < 4294967295 then some (4294967295, ((a.toNat * 256 + b.toNat) * 256 + c.toNat) * 256 + d.toNat, t) else none
  | _ => none

def DcOk (d : Dc) : Prop := ∀ r c s, d = some (r, c, s) → 16777216 ≤ r ∧ r < 4294967296 ∧ c < r
def POk (p : Nat) : Prop := 31 ≤ p ∧ p ≤ 2017
def PsOk (ps : List Nat) : Prop := ∀ p ∈ ps, POk p

def up0 (p : Nat) : Nat := p + (2048 - p) / 32
def up1 (p : Nat) : Nat := p - p / 32
theorem pOk_up0 {p : Nat} (h : POk p) : POk (up0 p) := by unfold POk up0 at *; omega
theorem pOk_up1 {p : Nat} (h : POk p) : POk (up1 p) := by unfold POk up1 at *; omega
theorem pOk_fresh : POk 1024 := by unfold POk; omega

/-- a bit, its probability then, and the decoder -/
def bitD (d : Dc) (p : Nat) : Nat × Nat × Dc :=
  match d with
  | none => (0, p, none)
  | some (r, c, s) =>
    if c < r / 2048 * p then (0, up0 p, lvl (r / 2048 * p) c s)
    else
      match lvl (r - r / 2048 * p) (c - r / 2048 * p) s with
      | none => (0, up1 p, none)
      | some t => (1, up1 p, some t)

theorem bound_in {r p : Nat} (h0 : 16777216 ≤ r) (h1 : r < 4294967296) (hp : POk p) : 253952 ≤ r / 2048 * p ∧ r / 2048 * p + 253952 ≤ r := by
  obtain ⟨p0, p1⟩ := hp
  have a : 8192 ≤ r / 2048 := by omega
  have b : r / 2048 * 2048 ≤ r := by omega
  have c : r / 2048 * 31 ≤ r / 2048 * p := Nat.mul_le_mul_left _ p0
  have d : r / 2048 * p ≤ r / 2048 * 2017 := Nat.mul_le_mul_left _ p1
  omega

/-- a bit told straight: the range is halved -/
def oneD (d : Dc) : Nat × Dc :=
  match d with
  | none => (0, none)
  | some (r, c, s) =>
    if c < r / 2 then (0, lvl (r / 2) c s)
    else if c - r / 2 < r / 2 then (1, lvl (r / 2) (c - r / 2) s) else (0, none)

/-- n bits straight -/
def straightGo (d : Dc) : Nat → Nat × Dc
  | 0 => (0, d)
  | n + 1 => (2 * (straightGo d n).1 + (oneD (straightGo d n).2).1, (oneD (straightGo d n).2).2)
def straightD (n : Nat) (d : Dc) : Nat × Dc := (if (straightGo d n).2 = none then 0 else (straightGo d n).1, (straightGo d n).2)

/-- a tree on its way: the number that its bits make; the bits the other way round, and what the next one weighs; the probabilities; the decoder -/
structure Tr where
  m : Nat
  o : Nat
  v : Nat
  ps : List Nat
  d : Dc

def Tr.bit (t : Tr) (a : Nat) : Nat × Nat × Dc := bitD t.d (t.ps.getD (a + t.m) 0)
def Tr.step (a : Nat) (t : Tr) : Tr := ⟨2 * t.m + (t.bit a).1, t.o + (t.bit a).1 * t.v, 2 * t.v, t.ps.set (a + t.m) (t.bit a).2.1, (t.bit a).2.2⟩
def Tr.go (a : Nat) (t : Tr) : Nat → Tr
  | 0 => t
  | n + 1 => (Tr.go a t n).step a
def Tr.begin (ps : List Nat) (d : Dc) : Tr := ⟨1, 0, 1, ps, d⟩

theorem getD_ok {ps : List Nat} (h : PsOk ps) {i : Nat} (hi : i < ps.length) : POk (ps.getD i 0) := by
  have : ps.getD i 0 = ps[i] := by simp [List.getD, hi]
  rw [this]
  exact h _ (List.getElem_mem hi)
theorem psOk_set {ps : List Nat} (h : PsOk ps) (i : Nat) {p : Nat} (hp : POk p) : PsOk (ps.set i p) := by
  intro q hq
  rcases List.mem_or_eq_of_mem_set hq with h1 | h1
  · exact h q h1
  · rw [h1]; exact hp

/-- what is told of a question, the probabilities, the decoder -/
def askD (ps : List Nat) (d : Dc) (k a n : Nat) : Nat × List Nat × Dc :=
  if k = 0 then ((bitD d (ps.getD a 0)).1, ps.set a (bitD d (ps.getD a 0)).2.1, (bitD d (ps.getD a 0)).2.2)
  else if k = 3 then ((straightD n d).1, ps, (straightD n d).2)
  else (if (Tr.go a (Tr.begin ps d) n).d = none then 0 else if k = 1 then (Tr.go a (Tr.begin ps d) n).m - 2 ^ n else (Tr.go a (Tr.begin ps d) n).o, (Tr.go a (Tr.begin ps d) n).ps, (Tr.go a (Tr.begin ps d) n).d)

/-- a question that may be asked, with 600 probabilities -/
def RightD (k a n : Nat) : Prop := (k = 0 ∧ a < 600) ∨ ((k = 1 ∨ k = 2) ∧ a < 340 ∧ 1 ≤ n ∧ n ≤ 8) ∨ (k = 3 ∧ n ≤ 32)

theorem pow8 {n : Nat} (h : n ≤ 8) : 2 ^ n ≤ 256 := Nat.le_trans (Nat.pow_le_pow_right (by omega) h) (by decide)

/-- with more bytes behind -/
def ext (more : List UInt8) (d : Dc) : Dc := d.map fun x => (x.1, x.2.1, x.2.2 ++ more)

theorem ext_some (more : List UInt8) (r c : Nat) (s : List UInt8) : ext more (some (r, c, s)) = some (r, c, s ++ more) := rfl
theorem lvl_ext {r c : Nat} {s more : List UInt8} (h : lvl r c s ≠ none) : lvl r c (s ++ more) = ext more (lvl r c s) := by
  unfold lvl at *
  split
  · rename_i hr
    rw [if_pos hr] at h
    cases s with
    | nil => exact absurd rfl h
    | cons b t => rfl
  · rfl
theorem bitD_ext {d : Dc} {p : Nat} {more : List UInt8} (h : (bitD d p).2.2 ≠ none) : bitD (ext more d) p = ((bitD d p).1, (bitD d p).2.1, ext more (bitD d p).2.2) := by
  cases d with
  | none => exact absurd rfl h
  | some x =>
    obtain ⟨r, c, s⟩ := x
    rw [ext_some]
    unfold bitD at *
    simp only [] at *
    split
    · rename_i hc
      rw [if_pos hc] at h
      rw [lvl_ext h]
    · rename_i hc
      rw [if_neg hc] at h
      have hn : lvl (r - r / 2048 * p) (c - r / 2048 * p) s ≠ none := by
        intro h0
        rw [h0] at h
        exact h rfl
      rw [lvl_ext hn]
      cases hl : lvl (r - r / 2048 * p) (c - r / 2048 * p) s with
      | none => exact absurd hl hn
      | some t => rfl
theorem oneD_ext {d : Dc} {more : List UInt8} (h : (oneD d).2 ≠ none) : oneD (ext more d) = ((oneD d).1, ext more (oneD d).2) := by
  cases d with
  | none => exact absurd rfl h
  | some x =>
    obtain ⟨r, c, s⟩ := x
    rw [ext_some]
    unfold oneD at *
    simp only [] at *
    split
    · rename_i hc
      rw [if_pos hc] at h
      rw [lvl_ext h]
    · rename_i hc
      rw [if_neg hc] at h
      split
      · rename_i hc2
        rw [if_pos hc2] at h
        rw [lvl_ext h]
      · rename_i hc2
        rw [if_neg hc2] at h
        exact absurd rfl h
theorem straightGo_ext {d : Dc} {more : List UInt8} : ∀ n, (straightGo d n).2 ≠ none → straightGo (ext more d) n = ((straightGo d n).1, ext more (straightGo d n).2)
  | 0, _ => rfl
  | n + 1, h => by
    have h0 : (straightGo d n).2 ≠ none := by
      intro h0
      apply h
      show (oneD (straightGo d n).2).2 = none
      rw [h0]
      rfl
    have ih := straightGo_ext (more := more) n h0
    show (2 * (straightGo (ext more d) n).1 + (oneD (straightGo (ext more d) n).2).1, (oneD (straightGo (ext more d) n).2).2) = _
    rw [ih, oneD_ext h]
    rfl
theorem tr_ext {ps : List Nat} {d : Dc} {a : Nat} {more : List UInt8} : ∀ n, (Tr.go a (Tr.begin ps d) n).d ≠ none →
    Tr.go a (Tr.begin ps (ext more d)) n = { Tr.go a (Tr.begin ps d) n with d := ext more (Tr.go a (Tr.begin ps d) n).d }
  | 0, _ => rfl
  | n + 1, h => by
    have h0 : (Tr.go a (Tr.begin ps d) n).d ≠ none := by
      intro h0
      apply h
      show (bitD (Tr.go a (Tr.begin ps d) n).d _).2.2 = none
      rw [h0]
      rfl
    have ih := tr_ext (more := more) n h0
    show Tr.step a (Tr.go a (Tr.begin ps (ext more d)) n) = _
    rw [ih]
    have hb := bitD_ext (d := (Tr.go a (Tr.begin ps d) n).d) (p := (Tr.go a (Tr.begin ps d) n).ps.getD (a + (Tr.go a (Tr.begin ps d) n).m) 0) (more := more) h
    unfold Tr.step Tr.bit
    simp only []
    rw [hb]
    rfl
/-- of bytes 0, j steps gone: how many bytes were asked for at most, and the least range -/
def ZOk (j : Nat) (d : Dc) : Prop :=
  ∃ r k i, d = some (r, 0, List.replicate (2995 - k) 0) ∧ i ≤ 6 ∧ 7 * k + i ≤ j ∧ 16781312 * 2 ^ (6 - i) ≤ r + 4096 ∧ r < 4294967296
def PZ (p : Nat) : Prop := 1024 ≤ p ∧ p ≤ 2017

theorem ZOk.mono {j j' : Nat} {d : Dc} (h : ZOk j d) (hj : j ≤ j') : ZOk j' d := by
  obtain ⟨r, k, i, h1, h2, h3, h4⟩ := h
  exact ⟨r, k, i, h1, h2, by omega, h4⟩
theorem pow6 (i : Nat) : 1 ≤ 2 ^ (6 - i) := Nat.two_pow_pos _

theorem zlvl {j r k i r' : Nat} (hj : j ≤ 16100) (h2 : i ≤ 6) (h3 : 7 * k + i ≤ j) (h4 : 16781312 * 2 ^ (6 - i) ≤ r + 4096) (h5 : r < 4294967296) (h6 : r ≤ 2 * r' + 2049) (h7 : r' ≤ r) :
    ZOk (j + 1) (lvl r' 0 (List.replicate (2995 - k) 0)) := by
  unfold lvl
  by_cases hi : i < 6
  · have e : 2 ^ (6 - i) = 2 * 2 ^ (6 - (i + 1)) := by
      rw [show 6 - i = (6 - (i + 1)) + 1 by omega, Nat.pow_succ, Nat.mul_comm]
    have := pow6 (i + 1)
    rw [e] at h4
    obtain ⟨y, hy⟩ : ∃ y, y = 2 ^ (6 - (i + 1)) := ⟨_, rfl⟩
    rw [← hy] at h4 this
    rw [if_neg (by omega)]
    exact ⟨r', k, i + 1, rfl, by omega, by omega, by rw [← hy]; omega, by omega⟩
  · have hi6 : i = 6 := by omega
    subst hi6
    have e : 2 ^ (6 - 6) = 1 := rfl
    rw [e] at h4
    by_cases hr : r' < 16777216
    · rw [if_pos hr]
      obtain ⟨z, hz⟩ : ∃ z, 2995 - k = z + 1 := ⟨2995 - k - 1, by omega⟩
      rw [hz, List.replicate_succ]
      refine ⟨r' * 256, k + 1, 0, ?_, by omega, by omega, ?_, by omega⟩
      · rw [show 2995 - (k + 1) = z by omega]
        rfl
      · show 16781312 * 64 ≤ _
        omega
    · rw [if_neg hr]
      exact ⟨r', k, 6, rfl, by omega, by omega, by rw [e]; omega, by omega⟩

theorem zOk_range {j : Nat} {d : Dc} (h : ZOk j d) : ∃ r k i, d = some (r, 0, List.replicate (2995 - k) 0) ∧ i ≤ 6 ∧ 7 * k + i ≤ j ∧ 16781312 * 2 ^ (6 - i) ≤ r + 4096 ∧ r < 4294967296 ∧ 16777216 ≤ r := by
  obtain ⟨r, k, i, h1, h2, h3, h4, h5⟩ := h
  have := pow6 i
  exact ⟨r, k, i, h1, h2, h3, h4, h5, by omega⟩

theorem zbit {j p : Nat} {d : Dc} (h : ZOk j d) (hj : j ≤ 16100) (hp : PZ p) : (bitD d p).1 = 0 ∧ PZ (bitD d p).2.1 ∧ ZOk (j + 1) (bitD d p).2.2 := by
  obtain ⟨r, k, i, rfl, h2, h3, h4, h5, h6⟩ := zOk_range h
  obtain ⟨p0, p1⟩ := hp
  have b0 : r / 2048 * 1024 ≤ r / 2048 * p := Nat.mul_le_mul_left _ p0
  have b1 : r / 2048 * p ≤ r / 2048 * 2017 := Nat.mul_le_mul_left _ p1
  have hpos : 0 < r / 2048 * p := by omega
  unfold bitD
  simp only []
  rw [if_pos hpos]
  exact ⟨rfl, (show PZ (up0 p) by unfold PZ up0; omega), zlvl hj h2 h3 h4 h5 (by omega) (by omega)⟩
theorem zone {j : Nat} {d : Dc} (h : ZOk j d) (hj : j ≤ 16100) : (oneD d).1 = 0 ∧ ZOk (j + 1) (oneD d).2 := by
  obtain ⟨r, k, i, rfl, h2, h3, h4, h5, h6⟩ := zOk_range h
  unfold oneD
  simp only []
  rw [if_pos (by omega)]
  exact ⟨rfl, zlvl hj h2 h3 h4 h5 (by omega) (by omega)⟩
theorem zstraight {j : Nat} {d : Dc} (h : ZOk j d) : ∀ n, j + n ≤ 16100 → (straightGo d n).1 = 0 ∧ ZOk (j + n) (straightGo d n).2
  | 0, _ => ⟨rfl, h⟩
  | n + 1, hn => by
    obtain ⟨h1, h2⟩ := zstraight h n (by omega)
    obtain ⟨h3, h4⟩ := zone h2 (by omega)
    refine ⟨?_, h4⟩
    show 2 * (straightGo d n).1 + (oneD (straightGo d n).2).1 = 0
    rw [h1, h3]
theorem ztree {j a n : Nat} {ps : List Nat} {d : Dc} (h : ZOk j d) (hp : ∀ p ∈ ps, PZ p) (hl : a + 2 ^ n ≤ ps.length) : ∀ i, i ≤ n → j + i ≤ 16100 →
    (Tr.go a (Tr.begin ps d) i).m = 2 ^ i ∧ (Tr.go a (Tr.begin ps d) i).o = 0 ∧ (Tr.go a (Tr.begin ps d) i).ps.length = ps.length ∧ (∀ p ∈ (Tr.go a (Tr.begin ps d) i).ps, PZ p) ∧ ZOk (j + i) (Tr.go a (Tr.begin ps d) i).d
  | 0, _, _ => ⟨rfl, rfl, rfl, hp, h⟩
  | i + 1, hi, hj => by
    obtain ⟨h1, h2, h3, h4, h5⟩ := ztree h hp hl i (by omega) (by omega)
    show (Tr.step a _).m = _ ∧ (Tr.step a _).o = _ ∧ (Tr.step a _).ps.length = _ ∧ (∀ p ∈ (Tr.step a _).ps, PZ p) ∧ ZOk (j + (i + 1)) (Tr.step a _).d
    generalize Tr.go a (Tr.begin ps d) i = t at *
    have hpow : 2 ^ (i + 1) ≤ 2 ^ n := Nat.pow_le_pow_right (by omega) hi
    have e' : 2 ^ (i + 1) = 2 * 2 ^ i := by rw [Nat.pow_succ, Nat.mul_comm]
    have := Nat.two_pow_pos i
    have hlt : a + t.m < t.ps.length := by omega
    have hg : PZ (t.ps.getD (a + t.m) 0) := by
      have : t.ps.getD (a + t.m) 0 = t.ps[a + t.m] := by simp [List.getD, hlt]
      rw [this]
      exact h4 _ (List.getElem_mem hlt)
    obtain ⟨b1, b2, b3⟩ := zbit h5 (by omega) hg
    refine ⟨?_, ?_, by simp [Tr.step, h3], ?_, b3⟩
    · show 2 * t.m + (bitD t.d _).1 = _
      rw [b1]
      omega
    · show t.o + (bitD t.d _).1 * t.v = _
      rw [b1]
      omega
    · intro p hpm
      rcases List.mem_or_eq_of_mem_set hpm with h | h
      · exact h4 p h
      · rw [h]; exact b2

end Go.Proofs.YtoencondpbkomaaGreat
