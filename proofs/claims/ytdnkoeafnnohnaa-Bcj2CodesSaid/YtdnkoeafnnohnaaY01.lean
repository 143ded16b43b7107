/-
  Mem, Open, RdPure: put together.
-/
import Derived.WalkKit
import Derived.WalkSpells
import Derived.WalkLawsBesides
import Derived.Deep.Draws
import Derived.Deep.AppendLies
import Derived.Maps.AppendAt
import Derived.Lib.Hide
import Derived.ProofKit
import Derived.OpenShut
import Derived.ShutString
import Derived.ChangeOld
import Derived.Below
import Derived.Deep.Grids
set_option linter.unusedVariables false
set_option linter.unusedSimpArgs false
/-
  What the walks of this seat say of memory: a slice that reads as a list, a block that is known whole, and what stays.
-/
namespace Go.Proofs.Ytdnkoeafnnohnaa
open Go.RowKit

/-- bytes as cells -/
def bv (l : List UInt8) : List Value := l.map fun b => Value.int .u8 (b.toNat : Int)
/-- flags as cells -/
def fv (l : List Bool) : List Value := l.map Value.bool

theorem bv_length (l : List UInt8) : (bv l).length = l.length := by simp [bv]
theorem bv_get (l : List UInt8) (i : Nat) (h : i < l.length) : (bv l)[i]? = some (.int .u8 ((l.getD i 0).toNat : Int)) := by
  simp [bv, List.getD, h]
theorem bv_append (a b : List UInt8) : bv (a ++ b) = bv a ++ bv b := by simp [bv]
theorem bv_one (l : List UInt8) : ∀ u ∈ bv l, u.oneCell' = true := by
  intro u hu
  obtain ⟨_, _, rfl⟩ := List.mem_map.1 hu
  rfl
theorem ret_bool {a b : Bool} (h : a = b) : Ending.returned (.bool a) = .returned (.bool b) := by rw [h]
/-- The slice (A, n) reads as the cells xs, one an element, in the world w. -/
def Sl (w : World) (A : Option Addr) (n : Nat) (xs : List Value) : Prop :=
  xs.length = n ∧ (0 < n → ∃ b o, A = some ⟨b, o, none⟩ ∧ b < w.heap.size ∧ ∀ j, j < n → w.cell? ⟨b, o + j, none⟩ = xs[j]?)

section
variable {w w' : World} {A : Option Addr} {n : Nat} {xs : List Value}
theorem Sl.len (h : Sl w A n xs) : xs.length = n := h.1
theorem Sl.nil : Sl w A 0 [] := ⟨rfl, fun h => absurd h (by omega)⟩
theorem Sl.at_ (h : Sl w A n xs) (hn : 0 < n) : ∃ b o, A = some ⟨b, o, none⟩ ∧ b < w.heap.size ∧ ∀ j, j < n → w.cell? ⟨b, o + j, none⟩ = xs[j]? := h.2 hn
/-- It reads so in each later world in which the old blocks are what they were. -/
theorem Sl.keep (h : Sl w A n xs) (hz : w.heap.size ≤ w'.heap.size) (hk : 0 < n → ∀ b o, A = some ⟨b, o, none⟩ → b < w.heap.size → w'.heap[b]? = w.heap[b]?) : Sl w' A n xs := by
  refine ⟨h.1, fun hn => ?_⟩
  obtain ⟨b, o, e, hb, hc⟩ := h.2 hn
  refine ⟨b, o, e, by omega, fun j hj => ?_⟩
  rw [← hc j hj]
  exact World.cell?_of_block (hk hn b o e hb)
theorem Sl.below (h : Sl w A n xs) (hb : Below w.heap.size w w') : Sl w' A n xs := h.keep hb.size fun _ b _ _ hlt => hb.block b hlt
theorem Sl.drewN (h : Sl w A n xs) (k : Nat) : Sl (w.drewN k) A n xs := h
theorem Sl.alloc (h : Sl w A n xs) (o : Obj) : Sl (w.alloc o) A n xs := h.below ((Below.refl _ _).alloc (Nat.le_refl _) _)
theorem Sl.grown (h : Sl w A n xs) {g : Nat} (hg : w.grownBy w' (some g)) (hne : 0 < n → ∀ b o, A = some ⟨b, o, none⟩ → b ≠ g) : Sl w' A n xs :=
  h.keep hg.size fun hn b o e hlt => hg.block b hlt (fun e' => by injection e' with e'; exact hne hn b o e e')
/-- The first k. -/
theorem Sl.first (h : Sl w A n xs) {k : Nat} (hk : k ≤ n) : Sl w A k (xs.take k) := by
  refine ⟨by rw [List.length_take, h.1]; omega, fun hn => ?_⟩
  obtain ⟨b, o, rfl, hb, hcell⟩ := h.2 (by omega)
  refine ⟨b, o, rfl, hb, fun j hj => ?_⟩
  rw [List.getElem?_take_of_lt hj]
  exact hcell j (by omega)
theorem Sl.of_own {base : Nat} {e : TypeId} {c : Nat} (h : w.ownsRow base e 1 (.slice A n c) n xs) : Sl w A n xs := by
  refine ⟨by rw [h.1]; omega, fun hn => ?_⟩
  obtain ⟨g, cap, hv, _, hlt⟩ := h.form hn
  injection hv with hA hc
  subst hA
  refine ⟨g, 0, rfl, hlt, fun j hj => ?_⟩
  have hl := h.1
  have hj' : j < xs.length := by omega
  have := h.cells (g := g) rfl j xs[j] (List.getElem?_eq_getElem hj')
  rw [List.getElem?_eq_getElem hj', ← this]
  unfold Addr.add
  by_cases h0 : j = 0
  · subst h0; simp
  · simp [h0]
/-- The source of an append, as the library's laws ask it. -/
theorem Sl.news {b o : Nat} (h : Sl w (some ⟨b, o, none⟩) n xs) : ∀ j u, xs[j]? = some u → w.cell? ((⟨b, o, none⟩ : Addr).add j) = some u := by
  intro j u hu
  have hj : j < xs.length := (List.getElem?_eq_some_iff.1 hu).1
  have hl := h.1
  obtain ⟨b', o', e, _, hc⟩ := h.2 (by omega)
  injection e with e
  injection e with e1 e2
  subst e1 e2
  rw [← hu, ← hc j (by omega)]
  unfold Addr.add
  by_cases h0 : j = 0
  · subst h0; simp
  · simp [h0]
end

theorem own_facts {w : World} {base : Nat} {e : TypeId} {A : Option Addr} {n c : Nat} {xs : List Value} (h : w.ownsRow base e 1 (.slice A n c) n xs) :
    Sl w A n xs ∧ n ≤ c ∧ c ≤ maxLen ∧ ∀ b o, A = some ⟨b, o, none⟩ → base ≤ b ∧ b < w.heap.size := by
  refine ⟨Sl.of_own h, ?_⟩
  rcases h.2 with ⟨hv, rfl⟩ | ⟨g, cap, cur, hv, hb, hh, hnc, hc, _⟩
  · injection hv with e1 e2 e3
    subst e1 e3
    exact ⟨Nat.le_refl _, by unfold maxLen; omega, fun b o e => by cases e⟩
  · injection hv with e1 e2 e3
    subst e1 e3
    refine ⟨hnc, hc, fun b o e => ?_⟩
    injection e with e
    injection e with e
    subst e
    refine ⟨hb, ?_⟩
    rcases Nat.lt_or_ge g w.heap.size with hlt | hge
    · exact hlt
    · rw [Array.getElem?_eq_none hge] at hh; cases hh
theorem own_form {w : World} {base : Nat} {e : TypeId} {v : Value} {n : Nat} {xs : List Value} (h : w.ownsRow base e 1 v n xs) :
    ∃ A c, v = .slice A n c ∧ w.ownsRow base e 1 (.slice A n c) n xs := by
  rcases h.2 with ⟨rfl, rfl⟩ | ⟨g, cap, cur, rfl, _⟩
  · exact ⟨_, _, rfl, h⟩
  · exact ⟨_, _, rfl, h⟩
theorem own_empty (w : World) {base : Nat} (hb : base ≤ w.heap.size) (e : TypeId) : (w.alloc (.cells #[] e)).ownsRow base e 1 (.slice (some ⟨w.heap.size, 0, none⟩) 0 0) 0 [] :=
  ⟨rfl, .inr ⟨w.heap.size, 0, #[], rfl, hb, heap_alloc_new w _, Nat.le_refl _, by unfold maxLen; omega, rfl, rfl⟩⟩
theorem own_one (w : World) {base : Nat} (hb : base ≤ w.heap.size) (e : TypeId) (u : Value) : (w.alloc (.cells #[u] e)).ownsRow base e 1 (.slice (some ⟨w.heap.size, 0, none⟩) 1 1) 1 [u] :=
  ⟨rfl, .inr ⟨w.heap.size, 1, #[u], rfl, hb, heap_alloc_new w _, Nat.le_refl _, by unfold maxLen; omega, rfl, rfl⟩⟩

theorem sl_one (w : World) (e : TypeId) (u : Value) : Sl (w.alloc (.cells #[u] e)) (some ⟨w.heap.size, 0, none⟩) 1 [u] := Sl.of_own (own_one w (Nat.le_refl _) e u)
theorem sl_lit (w : World) (e : TypeId) (cs : Array Value) (hm : cs.size ≤ 1000000000) : Sl (w.alloc (.cells cs e)) (some ⟨w.heap.size, 0, none⟩) cs.size cs.toList :=
  Sl.of_own (base := w.heap.size) (c := cs.size) (e := e) ⟨by simp, .inr ⟨w.heap.size, cs.size, cs, rfl, Nat.le_refl _, heap_alloc_new w _, Nat.le_refl _, by unfold maxLen; omega, by omega, by rw [Nat.mul_one]; exact List.take_of_length_le (by simp)⟩⟩
theorem one_one (k : IntKind) (x : Int) : ∀ u ∈ [Value.int k x], u.oneCell' = true := by
  intro u hu
  rw [List.mem_singleton.1 hu]; rfl

section
variable {P : Program} (w : World)
/-- append onto a row of the call's own, from whatever slice, one cell an element. -/
theorem run_app (base : Nat) (t ty e : TypeId) (i : TypeInfo) (z : Value) (bytes : Nat) (ht : P.underlying t = some (.slice e)) (hi : P.info? e = some i) (hz : i.zero = some z)
    (hsize : i.size = 1) (hby : i.bytes = bytes) (hzs : z.cells.size = 1)
    (v : Value) (n : Nat) (xs : List Value) (hown : w.ownsRow base e 1 v n xs)
    (A : Option Addr) (m c : Nat) (news : List Value) (hr : Sl w A m news) (h1 : ∀ u ∈ news, u.oneCell' = true)
    (hbytes : (n + m) * bytes ≤ 140737488355328) (hb0 : 0 < bytes) (hbase : base ≤ w.heap.size) :
    ∃ v' w', (Builtin.append_ #[t, t] ty #[v, .slice A m c]).run P w = .ok v' w' ∧ w'.ownsRow base e 1 v' (n + m) (xs ++ news) ∧ w.grownBy w' v.ownBlock ∧
      (v'.ownBlock = v.ownBlock ∨ v'.ownBlock = some w.heap.size) := by
  have h63 : n + m ≤ maxLen := by
    have := Nat.le_mul_of_pos_right (n + m) hb0
    unfold maxLen; omega
  rcases A with _ | ad
  · have hm : m = 0 := by
      rcases Nat.eq_zero_or_pos m with h0 | h0
      · exact h0
      · obtain ⟨_, _, h, _⟩ := hr.2 h0
        cases h
    subst hm
    have hn : news = [] := List.eq_nil_of_length_eq_zero hr.1
    subst hn
    refine ⟨v, w, ?_, by simpa using hown, World.grownBy.refl w _, .inl rfl⟩
    rcases hown.2 with ⟨rfl, rfl⟩ | ⟨g, cap, cur, rfl, _, _, hnc, _⟩
    · simp [Builtin.append_, run_underlying ht, sizeOf, typeInfo, hi, Builtin.lenOf, Builtin.firstCells]
    · simp [Builtin.append_, run_underlying ht, sizeOf, typeInfo, hi, Builtin.lenOf, Builtin.firstCells, hnc, storeCells]
  · have hcells : ∀ j u, news[j]? = some u → w.cell? (ad.add j) = some u := by
      intro j u hu
      rcases Nat.eq_zero_or_pos m with h0 | h0
      · subst h0
        have hn : news = [] := List.eq_nil_of_length_eq_zero hr.1
        subst hn
        simp at hu
      · obtain ⟨b, o, h, _⟩ := hr.2 h0
        injection h with h
        subst h
        exact hr.news j u hu
    obtain ⟨v', w', hrun, h2, h3, _, h5⟩ := run_append_own_at (P := P) w base t ty e i z 1 bytes ht hi hz hsize hby hzs (by omega) v n xs hown ad m c news (by rw [hr.1]; omega) hcells h1 h63 hbytes hbase
    exact ⟨v', w', hrun, h2, h3, h5⟩

theorem wpList_app {ops : Array Oper} {rest : List Oper} {o : Oper} {a : Act} {Q : Exit → Act → World → Prop} (hgd : o.guard = none) (s x : Operand) (t : TypeId)
    (ho : o.op = .call { callee := .builtin .append, args := #[s, x], argTypes := #[t, t] })
    (base : Nat) (e : TypeId) (i : TypeInfo) (z : Value) (bytes : Nat) (ht : P.underlying t = some (.slice e)) (hi : P.info? e = some i) (hz : i.zero = some z)
    (hsize : i.size = 1) (hby : i.bytes = bytes) (hzs : z.cells.size = 1)
    (v : Value) (n : Nat) (xs : List Value) (hs : a.eval s = v) (hown : w.ownsRow base e 1 v n xs)
    (A : Option Addr) (m c : Nat) (news : List Value) (hx : a.eval x = .slice A m c) (hr : Sl w A m news) (h1 : ∀ u ∈ news, u.oneCell' = true)
    (hbytes : (n + m) * bytes ≤ 140737488355328) (hb0 : 0 < bytes) (hbase : base ≤ w.heap.size)
    (h : ∀ A' c' w', w'.ownsRow base e 1 (.slice A' (n + m) c') (n + m) (xs ++ news) → w.grownBy w' v.ownBlock → wpList P ops Q rest (a.put o.dst (.slice A' (n + m) c')) w') : wpList P ops Q (o :: rest) a w :=
  wpList_plain hgd fun K hK => by
    obtain ⟨v', w', hrun, h2, h3, _⟩ := run_app (P := P) w base t o.type e i z bytes ht hi hz hsize hby hzs v n xs hown A m c news hr h1 hbytes hb0 hbase
    obtain ⟨A', c', rfl, h2⟩ := own_form h2
    unfold Oper.wp execOp
    simp only [ho, resolve, invoke, builtin, Sem.run_bind, Sem.run_pure, Result.andThen_ok, List.map_toArray, List.map_cons, List.map_nil, hs, hx, hrun]
    exact hK _ _ (h A' c' w' h2 h3)
end

/-- Block g is the cells cs of element type t, none frozen. -/
def Blk (w : World) (g : Nat) (t : TypeId) (cs : Array Value) : Prop := w.heap[g]? = some (.cells cs t (0, 0))

section
variable {w w' : World} {g : Nat} {t : TypeId} {cs : Array Value}
theorem Blk.lt (h : Blk w g t cs) : g < w.heap.size := by
  rcases Nat.lt_or_ge g w.heap.size with hlt | hge
  · exact hlt
  · unfold Blk at h; rw [Array.getElem?_eq_none hge] at h; cases h
theorem Blk.cell (h : Blk w g t cs) (i : Nat) : w.cell? ⟨g, i, none⟩ = cs[i]? := cell_of_row w g i cs t (0, 0) h
theorem Blk.free (h : Blk w g t cs) (i : Nat) : w.frozen? ⟨g, i, none⟩ = false := frozen_of_row w g i cs t h
theorem Blk.fresh (w : World) (t : TypeId) (cs : Array Value) : Blk (w.alloc (.cells cs t)) w.heap.size t cs := heap_alloc_new w _
theorem Blk.drewN (h : Blk w g t cs) (n : Nat) : Blk (w.drewN n) g t cs := h
theorem Blk.alloc (h : Blk w g t cs) (o : Obj) : Blk (w.alloc o) g t cs := (Below.heap_alloc w o g h.lt).trans h
theorem Blk.put (h : Blk w g t cs) (i : Nat) (u : Value) : Blk (w.setCell ⟨g, i, none⟩ u) g t (cs.setIfInBounds i u) := by
  unfold Blk at h ⊢
  simp [World.setCell, Array.getElem?_modify, h]
theorem Blk.far (h : Blk w g t cs) {p : Addr} (hp : g ≠ p.block) (u : Value) : Blk (w.setCell p u) g t cs := (Below.heap_setCell w p u g hp).trans h
theorem Blk.below (h : Blk w g t cs) (hb : Below w.heap.size w w') : Blk w' g t cs := (hb.block g h.lt).trans h
theorem Blk.grown {row : Option Nat} (h : Blk w g t cs) (hb : w.grownBy w' row) (hg : some g ≠ row) : Blk w' g t cs := (hb.block g h.lt hg).trans h
end

theorem quiet_same_at {P : Program} {f : FuncId} {args : Array Value} {w : World} {v : Value} {n : Nat} (h : Calls P f args (w.drewN n) fun e w' => e = .returned v ∧ w.drewN n = w') :
    Calls P f args (w.drewN n) fun e w' => e = .returned v ∧ ∃ m, w' = w.drewN m := h.mono fun _ _ ⟨he, hm⟩ => ⟨he, n, hm.symm⟩
theorem only_of_drewN {a w : World} {d : Nat} {row : Option Nat} (h : (a.drewN d).grownBy w row) : a.grownBy w row := ⟨h.os, h.tape, h.output, h.size, h.block⟩
theorem only_setCell {a w : World} {g : Nat} (h : a.grownBy w (some g)) {p : Addr} (hp : p.block = g ∨ a.heap.size ≤ p.block) (u : Value) : a.grownBy (w.setCell p u) (some g) :=
  ⟨h.os, h.tape, h.output, by simpa [World.setCell] using h.size, fun i hi hne => (Below.heap_setCell w p u i (by
    rintro rfl
    rcases hp with hp | hp
    · exact hne (by rw [hp])
    · omega)).trans (h.block i hi hne)⟩
theorem below_of_only {B : Nat} {a w : World} {g : Nat} (h : a.grownBy w (some g)) (hg : B ≤ g) (hB : B ≤ a.heap.size) : Below B a w :=
  ⟨h.os, h.tape, h.output, h.size, fun i hi => h.block i (by omega) (fun e => by injection e with e; omega)⟩
theorem below_drewN {B : Nat} {a w : World} (h : Below B a w) (n : Nat) : Below B a (w.drewN n) := ⟨h.os, h.tape, h.output, h.size, h.block⟩
theorem own_mono {w : World} {base base' : Nat} {e : TypeId} {v : Value} {n : Nat} {xs : List Value} (h : w.ownsRow base e 1 v n xs) (hb : base' ≤ base) : w.ownsRow base' e 1 v n xs := by
  obtain ⟨h1, h2⟩ := h
  refine ⟨h1, ?_⟩
  rcases h2 with h2 | ⟨g, cap, cur, hv, hg, r⟩
  · exact .inl h2
  · exact .inr ⟨g, cap, cur, hv, by omega, r⟩
theorem only_none {a w : World} (h : a.grownBy w none) : Below a.heap.size a w := ⟨h.os, h.tape, h.output, h.size, fun i hi => h.block i hi (by simp)⟩
end Go.Proofs.Ytdnkoeafnnohnaa

/-
  What comes in, opened: bytes, flags and numbers of 64 bits, as slices that read as lists.
-/
namespace Go.Proofs.Ytdnkoeafnnohnaa
open Go.ChangeShapes Go.WideShapes Go.ChangeAt Go.RowKit

theorem sl_row {w : World} {a : Addr} {len : Nat} {xs : List Value} (hl : len ≤ xs.length) (hcell : ∀ i, i < xs.length → w.cell? (a.add i) = xs[i]?) : Sl w (some a) len (xs.take len) := by
  refine ⟨by rw [List.length_take]; omega, fun hn => ?_⟩
  have h0 := hcell 0 (by omega)
  rw [List.getElem?_eq_getElem (by omega)] at h0
  have hs := World.cell?_spot h0
  have ha : a.add 0 = a := by simp [Addr.add]
  rw [ha] at hs h0
  have hb := World.block_lt_of_cell? _ _ h0
  obtain ⟨b, o, s⟩ := a
  simp only at hs hb
  subst hs
  refine ⟨b, o, rfl, hb, fun j hj => ?_⟩
  rw [List.getElem?_take_of_lt hj, ← hcell j (by omega)]
  unfold Addr.add
  by_cases h : j = 0
  · subst h; simp
  · simp [h]

/-- bytes out of numbers that are bytes -/
def toBytes (zs : List Int) : List UInt8 := zs.map fun z => UInt8.ofNat z.toNat
theorem bv_toBytes {zs : List Int} (h : ∀ n ∈ zs, (Lit.int .u8 n).wf = true) : bv (toBytes zs) = zs.map (Value.int .u8) := by
  induction zs with
  | nil => rfl
  | cons z r ih =>
    have hz := bounds_u8 (h z (by simp))
    have hr := ih (fun n hn => h n (by simp [hn]))
    simp only [bv, toBytes, List.map_cons, List.cons.injEq]
    refine ⟨?_, hr⟩
    congr 1
    rw [UInt8.toNat_ofNat']
    omega

section
variable {H : Type} {enc : TypeId × Value → H} {P : Program} {w : World} {held : Bool}
theorem open_bytes {t e : TypeId} (ht : P.underlying t = some (.slice e)) (he : P.underlying e = some (.int .u8)) (hc : P.cellsOf e = 1)
    {A : Option Addr} {len cap : Nat} {d : DataW H} {ps : List MemPlace} (h : DataW.Trod enc P w 0 (fun _ => true) held t (.slice A len cap) d ps) :
    ∃ bs : List UInt8, Sl w A len (bv bs) ∧ len ≤ cap ∧ cap ≤ maxLen := by
  obtain ⟨fuel, hf⟩ := h
  rcases open_ints ht he hc hf with ⟨hcs, _⟩ | ⟨x, l, c, zs, hcs, _, hl, hm, hz, _, hcell, hwz⟩
  · simp [Value.cells] at hcs
    obtain ⟨rfl, rfl, rfl⟩ := hcs
    exact ⟨[], Sl.nil, Nat.le_refl _, by unfold maxLen; omega⟩
  · simp [Value.cells] at hcs
    obtain ⟨rfl, rfl, rfl⟩ := hcs
    simp only [if_true] at hz
    refine ⟨toBytes (zs.take len), ?_, hl, hm⟩
    rw [bv_toBytes (fun n hn => hwz n (List.mem_of_mem_take hn)), List.map_take]
    refine sl_row (xs := zs.map (Value.int .u8)) (by rw [List.length_map, hz]; exact hl) (fun i hi => ?_)
    simp only [List.length_map] at hi
    rw [hcell i hi]
    simp [List.getD, hi]
end
end Go.Proofs.Ytdnkoeafnnohnaa

/-
  The range decoder as numbers: bad, or its range, its code, and the bytes that it has not asked for.
-/
namespace Go.Proofs.Ytdnkoeafnnohnaa

abbrev Dc := Option (Nat × Nat × List UInt8)

/-- evened out -/
def lvl (r c : Nat) (s : List UInt8) : Dc :=
  if r < 16777216 then
    match s with
    | [] => none
    | b :: t => some (r * 256, c * 256 + b.toNat, t)
  else some (r, c, s)

/-- five bytes make a decoder -/
def started : List UInt8 → Dc
  | z :: a :: b :: c :: d :: t =>
    if z.toNat = 0 ∧ ((a.toNat * 256 + b.toNat) * 256 + c.toNat) * 256 + d.toNat < 4294967295 then some (4294967295, ((a.toNat * 256 + b.toNat) * 256 + c.toNat) * 256 + d.toNat, t) else none
  | _ => none

def DcOk (d : Dc) : Prop := ∀ r c s, d = some (r, c, s) → 16777216 ≤ r ∧ r < 4294967296 ∧ c < r
def POk (p : Nat) : Prop := 31 ≤ p ∧ p ≤ 2017
def PsOk (ps : List Nat) : Prop := ∀ p ∈ ps, POk p

theorem dcOk_none : DcOk none := fun _ _ _ h => by cases h
theorem dcOk_started (s : List UInt8) : DcOk (started s) := by
  intro r c t h
  unfold started at h
  split at h
  · split at h
    · injection h with h
      injection h with h1 h
      injection h with h2 h3
      omega
    · cases h
  · cases h

theorem dcOk_lvl {r c : Nat} {s : List UInt8} (h0 : 65536 ≤ r) (h1 : r < 4294967296) (h2 : c < r) : DcOk (lvl r c s) := by
  intro r' c' s' h
  unfold lvl at h
  split at h
  · split at h
    · cases h
    · rename_i b t
      have := b.toNat_lt
      injection h with h
      injection h with h3 h
      injection h with h4 h5
      omega
  · injection h with h
    injection h with h3 h
    injection h with h4 h5
    omega

def up0 (p : Nat) : Nat := p + (2048 - p) / 32
def up1 (p : Nat) : Nat := p - p / 32
theorem pOk_up0 {p : Nat} (h : POk p) : POk (up0 p) := by unfold POk up0 at *; omega
theorem pOk_up1 {p : Nat} (h : POk p) : POk (up1 p) := by unfold POk up1 at *; omega
theorem pOk_fresh : POk 1024 := by unfold POk; omega

/-- a bit, its probability then, and the decoder -/
def bitD (d : Dc) (p : Nat) : Nat × Nat × Dc :=
  match d with
  | none => (0, p, none)
  | some (r, c, s) =>
    if c < r / 2048 * p then (0, up0 p, lvl (r / 2048 * p) c s)
    else
      match lvl (r - r / 2048 * p) (c - r / 2048 * p) s with
      | none => (0, up1 p, none)
      | some t => (1, up1 p, some t)

theorem bound_in {r p : Nat} (h0 : 16777216 ≤ r) (h1 : r < 4294967296) (hp : POk p) : 253952 ≤ r / 2048 * p ∧ r / 2048 * p + 253952 ≤ r := by
  obtain ⟨p0, p1⟩ := hp
  have a : 8192 ≤ r / 2048 := by omega
  have b : r / 2048 * 2048 ≤ r := by omega
  have c : r / 2048 * 31 ≤ r / 2048 * p := Nat.mul_le_mul_left _ p0
  have d : r / 2048 * p ≤ r / 2048 * 2017 := Nat.mul_le_mul_left _ p1
  omega

theorem bitD_ok {d : Dc} {p : Nat} (hd : DcOk d) (hp : POk p) : (bitD d p).1 ≤ 1 ∧ POk (bitD d p).2.1 ∧ DcOk (bitD d p).2.2 := by
  unfold bitD
  split
  · exact ⟨by simp, hp, dcOk_none⟩
  · rename_i r c s
    obtain ⟨h0, h1, h2⟩ := hd r c s rfl
    obtain ⟨b0, b1⟩ := bound_in h0 h1 hp
    generalize r / 2048 * p = b at *
    by_cases hc : c < b
    · rw [if_pos hc]
      exact ⟨by simp, pOk_up0 hp, dcOk_lvl (by omega) (by omega) hc⟩
    · rw [if_neg hc]
      have hl : DcOk (lvl (r - b) (c - b) s) := dcOk_lvl (by omega) (by omega) (by omega)
      split
      · exact ⟨by simp, pOk_up1 hp, dcOk_none⟩
      · rename_i t ht
        rw [ht] at hl
        exact ⟨by simp, pOk_up1 hp, hl⟩

/-- a bit told straight: the range is halved -/
def oneD (d : Dc) : Nat × Dc :=
  match d with
  | none => (0, none)
  | some (r, c, s) =>
    if c < r / 2 then (0, lvl (r / 2) c s)
    else if c - r / 2 < r / 2 then (1, lvl (r / 2) (c - r / 2) s) else (0, none)

theorem oneD_ok {d : Dc} (hd : DcOk d) : (oneD d).1 ≤ 1 ∧ DcOk (oneD d).2 := by
  unfold oneD
  split
  · exact ⟨by simp, dcOk_none⟩
  · rename_i r c s
    obtain ⟨h0, h1, h2⟩ := hd r c s rfl
    split
    · rename_i hc
      exact ⟨by simp, dcOk_lvl (by omega) (by omega) hc⟩
    · split
      · rename_i hc
        exact ⟨by simp, dcOk_lvl (by omega) (by omega) hc⟩
      · exact ⟨by simp, dcOk_none⟩

/-- n bits straight -/
def straightGo (d : Dc) : Nat → Nat × Dc
  | 0 => (0, d)
  | n + 1 => (2 * (straightGo d n).1 + (oneD (straightGo d n).2).1, (oneD (straightGo d n).2).2)
def straightD (n : Nat) (d : Dc) : Nat × Dc := (if (straightGo d n).2 = none then 0 else (straightGo d n).1, (straightGo d n).2)

theorem straightGo_ok {d : Dc} (hd : DcOk d) (n : Nat) : DcOk (straightGo d n).2 ∧ (straightGo d n).1 < 2 ^ n := by
  induction n with
  | zero => exact ⟨hd, by simp [straightGo]⟩
  | succ n ih =>
    obtain ⟨h1, h2⟩ := oneD_ok ih.1
    refine ⟨h2, ?_⟩
    show 2 * (straightGo d n).1 + _ < _
    have := ih.2
    rw [Nat.pow_succ]
    omega
theorem straightD_ok {n : Nat} {d : Dc} (hd : DcOk d) : DcOk (straightD n d).2 ∧ (straightD n d).1 < 2 ^ n := by
  have h := straightGo_ok hd n
  unfold straightD
  refine ⟨h.1, ?_⟩
  show (if _ then _ else _) < _
  split
  · exact Nat.two_pow_pos n
  · exact h.2

/-- a tree on its way: the number that its bits make; the bits the other way round, and what the next one weighs; the probabilities; the decoder -/
structure Tr where
  m : Nat
  o : Nat
  v : Nat
  ps : List Nat
  d : Dc

def Tr.bit (t : Tr) (a : Nat) : Nat × Nat × Dc := bitD t.d (t.ps.getD (a + t.m) 0)
def Tr.step (a : Nat) (t : Tr) : Tr := ⟨2 * t.m + (t.bit a).1, t.o + (t.bit a).1 * t.v, 2 * t.v, t.ps.set (a + t.m) (t.bit a).2.1, (t.bit a).2.2⟩
def Tr.go (a : Nat) (t : Tr) : Nat → Tr
  | 0 => t
  | n + 1 => (Tr.go a t n).step a
def Tr.begin (ps : List Nat) (d : Dc) : Tr := ⟨1, 0, 1, ps, d⟩

theorem set_same_get (ps : List Nat) (i : Nat) (h : i < ps.length) : ps.set i (ps.getD i 0) = ps := by
  refine List.ext_getElem? fun j => ?_
  rw [List.getElem?_set]
  split
  · rename_i hij
    subst hij
    simp [h, List.getD]
  · rfl
theorem getD_ok {ps : List Nat} (h : PsOk ps) {i : Nat} (hi : i < ps.length) : POk (ps.getD i 0) := by
  have : ps.getD i 0 = ps[i] := by simp [List.getD, hi]
  rw [this]
  exact h _ (List.getElem_mem hi)
theorem psOk_set {ps : List Nat} (h : PsOk ps) (i : Nat) {p : Nat} (hp : POk p) : PsOk (ps.set i p) := by
  intro q hq
  rcases List.mem_or_eq_of_mem_set hq with h1 | h1
  · exact h q h1
  · rw [h1]; exact hp

/-- what is told of a question, the probabilities, the decoder -/
def askD (ps : List Nat) (d : Dc) (k a n : Nat) : Nat × List Nat × Dc :=
  if k = 0 then ((bitD d (ps.getD a 0)).1, ps.set a (bitD d (ps.getD a 0)).2.1, (bitD d (ps.getD a 0)).2.2)
  else if k = 3 then ((straightD n d).1, ps, (straightD n d).2)
  else (if (Tr.go a (Tr.begin ps d) n).d = none then 0 else if k = 1 then (Tr.go a (Tr.begin ps d) n).m - 2 ^ n else (Tr.go a (Tr.begin ps d) n).o, (Tr.go a (Tr.begin ps d) n).ps, (Tr.go a (Tr.begin ps d) n).d)

/-- a question that may be asked, with 600 probabilities -/
def RightD (k a n : Nat) : Prop := (k = 0 ∧ a < 600) ∨ ((k = 1 ∨ k = 2) ∧ a < 340 ∧ 1 ≤ n ∧ n ≤ 8) ∨ (k = 3 ∧ n ≤ 32)

/-- with more bytes behind -/
def ext (more : List UInt8) (d : Dc) : Dc := d.map fun x => (x.1, x.2.1, x.2.2 ++ more)

theorem ext_some (more : List UInt8) (r c : Nat) (s : List UInt8) : ext more (some (r, c, s)) = some (r, c, s ++ more) := rfl
theorem lvl_ext {r c : Nat} {s more : List UInt8} (h : lvl r c s ≠ none) : lvl r c (s ++ more) = ext more (lvl r c s) := by
  unfold lvl at *
  split
  · rename_i hr
    rw [if_pos hr] at h
    cases s with
    | nil => exact absurd rfl h
    | cons b t => rfl
  · rfl
theorem bitD_ext {d : Dc} {p : Nat} {more : List UInt8} (h : (bitD d p).2.2 ≠ none) : bitD (ext more d) p = ((bitD d p).1, (bitD d p).2.1, ext more (bitD d p).2.2) := by
  cases d with
  | none => exact absurd rfl h
  | some x =>
    obtain ⟨r, c, s⟩ := x
    rw [ext_some]
    unfold bitD at *
    simp only [] at *
    split
    · rename_i hc
      rw [if_pos hc] at h
      rw [lvl_ext h]
    · rename_i hc
      rw [if_neg hc] at h
      have hn : lvl (r - r / 2048 * p) (c - r / 2048 * p) s ≠ none := by
        intro h0
        rw [h0] at h
        exact h rfl
      rw [lvl_ext hn]
      cases hl : lvl (r - r / 2048 * p) (c - r / 2048 * p) s with
      | none => exact absurd hl hn
      | some t => rfl
theorem oneD_ext {d : Dc} {more : List UInt8} (h : (oneD d).2 ≠ none) : oneD (ext more d) = ((oneD d).1, ext more (oneD d).2) := by
  cases d with
  | none => exact absurd rfl h
  | some x =>
    obtain ⟨r, c, s⟩ := x
    rw [ext_some]
    unfold oneD at *
    simp only [] at *
    split
    · rename_i hc
      rw [if_pos hc] at h
      rw [lvl_ext h]
    · rename_i hc
      rw [if_neg hc] at h
      split
      · rename_i hc2
        rw [if_pos hc2] at h
        rw [lvl_ext h]
      · rename_i hc2
        rw [if_neg hc2] at h
        exact absurd rfl h
theorem straightGo_ext {d : Dc} {more : List UInt8} : ∀ n, (straightGo d n).2 ≠ none → straightGo (ext more d) n = ((straightGo d n).1, ext more (straightGo d n).2)
  | 0, _ => rfl
  | n + 1, h => by
    have h0 : (straightGo d n).2 ≠ none := by
      intro h0
      apply h
      show (oneD (straightGo d n).2).2 = none
      rw [h0]
      rfl
    have ih := straightGo_ext (more := more) n h0
    show (2 * (straightGo (ext more d) n).1 + (oneD (straightGo (ext more d) n).2).1, (oneD (straightGo (ext more d) n).2).2) = _
    rw [ih, oneD_ext h]
    rfl
theorem tr_ext {ps : List Nat} {d : Dc} {a : Nat} {more : List UInt8} : ∀ n, (Tr.go a (Tr.begin ps d) n).d ≠ none →
    Tr.go a (Tr.begin ps (ext more d)) n = { Tr.go a (Tr.begin ps d) n with d := ext more (Tr.go a (Tr.begin ps d) n).d }
  | 0, _ => rfl
  | n + 1, h => by
    have h0 : (Tr.go a (Tr.begin ps d) n).d ≠ none := by
      intro h0
      apply h
      show (bitD (Tr.go a (Tr.begin ps d) n).d _).2.2 = none
      rw [h0]
      rfl
    have ih := tr_ext (more := more) n h0
    show Tr.step a (Tr.go a (Tr.begin ps (ext more d)) n) = _
    rw [ih]
    have hb := bitD_ext (d := (Tr.go a (Tr.begin ps d) n).d) (p := (Tr.go a (Tr.begin ps d) n).ps.getD (a + (Tr.go a (Tr.begin ps d) n).m) 0) (more := more) h
    unfold Tr.step Tr.bit
    simp only []
    rw [hb]
    rfl
/-- of bytes 0, j steps gone: how many bytes were asked for at most, and the least range -/
def ZOk (j : Nat) (d : Dc) : Prop :=
  ∃ r k i, d = some (r, 0, List.replicate (2995 - k) 0) ∧ i ≤ 6 ∧ 7 * k + i ≤ j ∧ 16781312 * 2 ^ (6 - i) ≤ r + 4096 ∧ r < 4294967296
def PZ (p : Nat) : Prop := 1024 ≤ p ∧ p ≤ 2017

theorem ZOk.mono {j j' : Nat} {d : Dc} (h : ZOk j d) (hj : j ≤ j') : ZOk j' d := by
  obtain ⟨r, k, i, h1, h2, h3, h4⟩ := h
  exact ⟨r, k, i, h1, h2, by omega, h4⟩
theorem pow6 (i : Nat) : 1 ≤ 2 ^ (6 - i) := Nat.two_pow_pos _

theorem zlvl {j r k i r' : Nat} (hj : j ≤ 16100) (h2 : i ≤ 6) (h3 : 7 * k + i ≤ j) (h4 : 16781312 * 2 ^ (6 - i) ≤ r + 4096) (h5 : r < 4294967296) (h6 : r ≤ 2 * r' + 2049) (h7 : r' ≤ r) :
    ZOk (j + 1) (lvl r' 0 (List.replicate (2995 - k) 0)) := by
  unfold lvl
  by_cases hi : i < 6
  · have e : 2 ^ (6 - i) = 2 * 2 ^ (6 - (i + 1)) := by
      rw [show 6 - i = (6 - (i + 1)) + 1 by omega, Nat.pow_succ, Nat.mul_comm]
    have := pow6 (i + 1)
    rw [e] at h4
    obtain ⟨y, hy⟩ : ∃ y, y = 2 ^ (6 - (i + 1)) := ⟨_, rfl⟩
    rw [← hy] at h4 this
    rw [if_neg (by omega)]
    exact ⟨r', k, i + 1, rfl, by omega, by omega, by rw [← hy]; omega, by omega⟩
  · have hi6 : i = 6 := by omega
    subst hi6
    have e : 2 ^ (6 - 6) = 1 := rfl
    rw [e] at h4
    by_cases hr : r' < 16777216
    · rw [if_pos hr]
      obtain ⟨z, hz⟩ : ∃ z, 2995 - k = z + 1 := ⟨2995 - k - 1, by omega⟩
      rw [hz, List.replicate_succ]
      refine ⟨r' * 256, k + 1, 0, ?_, by omega, by omega, ?_, by omega⟩
      · rw [show 2995 - (k + 1) = z by omega]
        rfl
      · show 16781312 * 64 ≤ _
        omega
    · rw [if_neg hr]
      exact ⟨r', k, 6, rfl, by omega, by omega, by rw [e]; omega, by omega⟩

theorem zOk_range {j : Nat} {d : Dc} (h : ZOk j d) : ∃ r k i, d = some (r, 0, List.replicate (2995 - k) 0) ∧ i ≤ 6 ∧ 7 * k + i ≤ j ∧ 16781312 * 2 ^ (6 - i) ≤ r + 4096 ∧ r < 4294967296 ∧ 16777216 ≤ r := by
  obtain ⟨r, k, i, h1, h2, h3, h4, h5⟩ := h
  have := pow6 i
  exact ⟨r, k, i, h1, h2, h3, h4, h5, by omega⟩

theorem zbit {j p : Nat} {d : Dc} (h : ZOk j d) (hj : j ≤ 16100) (hp : PZ p) : (bitD d p).1 = 0 ∧ PZ (bitD d p).2.1 ∧ ZOk (j + 1) (bitD d p).2.2 := by
  obtain ⟨r, k, i, rfl, h2, h3, h4, h5, h6⟩ := zOk_range h
  obtain ⟨p0, p1⟩ := hp
  have b0 : r / 2048 * 1024 ≤ r / 2048 * p := Nat.mul_le_mul_left _ p0
  have b1 : r / 2048 * p ≤ r / 2048 * 2017 := Nat.mul_le_mul_left _ p1
  have hpos : 0 < r / 2048 * p := by omega
  unfold bitD
  simp only []
  rw [if_pos hpos]
  exact ⟨rfl, (show PZ (up0 p) by unfold PZ up0; omega), zlvl hj h2 h3 h4 h5 (by omega) (by omega)⟩
theorem zone {j : Nat} {d : Dc} (h : ZOk j d) (hj : j ≤ 16100) : (oneD d).1 = 0 ∧ ZOk (j + 1) (oneD d).2 := by
  obtain ⟨r, k, i, rfl, h2, h3, h4, h5, h6⟩ := zOk_range h
  unfold oneD
  simp only []
  rw [if_pos (by omega)]
  exact ⟨rfl, zlvl hj h2 h3 h4 h5 (by omega) (by omega)⟩
theorem zstraight {j : Nat} {d : Dc} (h : ZOk j d) : ∀ n, j + n ≤ 16100 → (straightGo d n).1 = 0 ∧ ZOk (j + n) (straightGo d n).2
  | 0, _ => ⟨rfl, h⟩
  | n + 1, hn => by
    obtain ⟨h1, h2⟩ := zstraight h n (by omega)
    obtain ⟨h3, h4⟩ := zone h2 (by omega)
    refine ⟨?_, h4⟩
    show 2 * (straightGo d n).1 + (oneD (straightGo d n).2).1 = 0
    rw [h1, h3]
theorem ztree {j a n : Nat} {ps : List Nat} {d : Dc} (h : ZOk j d) (hp : ∀ p ∈ ps, PZ p) (hl : a + 2 ^ n ≤ ps.length) : ∀ i, i ≤ n → j + i ≤ 16100 →
    (Tr.go a (Tr.begin ps d) i).m = 2 ^ i ∧ (Tr.go a (Tr.begin ps d) i).o = 0 ∧ (Tr.go a (Tr.begin ps d) i).ps.length = ps.length ∧ (∀ p ∈ (Tr.go a (Tr.begin ps d) i).ps, PZ p) ∧ ZOk (j + i) (Tr.go a (Tr.begin ps d) i).d
  | 0, _, _ => ⟨rfl, rfl, rfl, hp, h⟩
  | i + 1, hi, hj => by
    obtain ⟨h1, h2, h3, h4, h5⟩ := ztree h hp hl i (by omega) (by omega)
    show (Tr.step a _).m = _ ∧ (Tr.step a _).o = _ ∧ (Tr.step a _).ps.length = _ ∧ (∀ p ∈ (Tr.step a _).ps, PZ p) ∧ ZOk (j + (i + 1)) (Tr.step a _).d
    generalize Tr.go a (Tr.begin ps d) i = t at *
    have hpow : 2 ^ (i + 1) ≤ 2 ^ n := Nat.pow_le_pow_right (by omega) hi
    have e' : 2 ^ (i + 1) = 2 * 2 ^ i := by rw [Nat.pow_succ, Nat.mul_comm]
    have := Nat.two_pow_pos i
    have hlt : a + t.m < t.ps.length := by omega
    have hg : PZ (t.ps.getD (a + t.m) 0) := by
      have : t.ps.getD (a + t.m) 0 = t.ps[a + t.m] := by simp [List.getD, hlt]
      rw [this]
      exact h4 _ (List.getElem_mem hlt)
    obtain ⟨b1, b2, b3⟩ := zbit h5 (by omega) hg
    refine ⟨?_, ?_, by simp [Tr.step, h3], ?_, b3⟩
    · show 2 * t.m + (bitD t.d _).1 = _
      rw [b1]
      omega
    · show t.o + (bitD t.d _).1 * t.v = _
      rw [b1]
      omega
    · intro p hpm
      rcases List.mem_or_eq_of_mem_set hpm with h | h
      · exact h4 p h
      · rw [h]; exact b2

end Go.Proofs.Ytdnkoeafnnohnaa
