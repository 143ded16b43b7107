/-
  Mem, Open, LqNum, Only, Prb, PkLay, Pure, Arith, Info, SrcFeed, Sc, RdPure, RdDec, RdEven, Prow, RdTell, RdNums, RdRev, Be, RdBegun: put together.
-/
import Derived.WalkKit
import Derived.WalkSpells
import Derived.WalkLawsBesides
import Derived.Deep.Draws
import Derived.Deep.AppendLies
import Derived.Maps.AppendAt
import Derived.Lib.Hide
import Derived.ProofKit
import Derived.OpenShut
import Derived.ShutString
import Derived.ChangeOld
import Derived.Below
import Derived.Deep.Grids
import Derived.Laws.BitsAllLaws
import Derived.Laws.BitsLemmas
import Derived.Test.YtiolfjhddbiglaaGreatDoorRows
import Derived.Tactics
import Derived.Tactics2
import Derived.Laws.Pointers
import Derived.RegionTactic
import Derived.RegionCalls
import Derived.BigQuiet
import Derived.Lib.SliceRun
import Derived.LoopTactic
import Derived.Deep.RegionLaw
import Derived.Deep.RegionHeld3
import Derived.StillTailTactics
set_option linter.unusedVariables false
set_option linter.unusedSimpArgs false
/-
  What the walks of this seat say of memory: a slice that reads as a list, a block that is known whole, and what stays.
-/
namespace Go.Proofs.YtiolfjhddbiglaaGreatDoor
open Go.RowKit

/-- bytes as cells -/
def bv (l : List UInt8) : List Value := l.map fun b => Value.int .u8 (b.toNat : Int)
/-- flags as cells -/
def fv (l : List Bool) : List Value := l.map Value.bool

theorem bv_length (l : List UInt8) : (bv l).length = l.length := by simp [bv]
theorem bv_get (l : List UInt8) (i : Nat) (h : i < l.length) : (bv l)[i]? = some (.int .u8 ((l.getD i 0).toNat : Int)) := by
  simp [bv, List.getD, h]
theorem bv_append (a b : List UInt8) : bv (a ++ b) = bv a ++ bv b := by simp [bv]
theorem bv_drop (l : List UInt8) (k : Nat) : bv (l.drop k) = (bv l).drop k := by simp [bv]
theorem bv_take (l : List UInt8) (k : Nat) : bv (l.take k) = (bv l).take k := by simp [bv]
theorem bv_one (l : List UInt8) : ∀ u ∈ bv l, u.oneCell' = true := by
  intro u hu
  obtain ⟨_, _, rfl⟩ := List.mem_map.1 hu
  rfl
theorem ret_bool {a b : Bool} (h : a = b) : Ending.returned (.bool a) = .returned (.bool b) := by rw [h]
theorem ret_int {k : IntKind} {a b : Int} (h : a = b) : Ending.returned (.int k a) = .returned (.int k b) := by rw [h]

/-- The slice (A, n) reads as the cells xs, one an element, in the world w. -/
def Sl (w : World) (A : Option Addr) (n : Nat) (xs : List Value) : Prop :=
  xs.length = n ∧ (0 < n → ∃ b o, A = some ⟨b, o, none⟩ ∧ b < w.heap.size ∧ ∀ j, j < n → w.cell? ⟨b, o + j, none⟩ = xs[j]?)

section
variable {w w' : World} {A : Option Addr} {n : Nat} {xs : List Value}
theorem Sl.len (h : Sl w A n xs) : xs.length = n := h.1
theorem Sl.nil : Sl w A 0 [] := ⟨rfl, fun h => absurd h (by omega)⟩
theorem Sl.at_ (h : Sl w A n xs) (hn : 0 < n) : ∃ b o, A = some ⟨b, o, none⟩ ∧ b < w.heap.size ∧ ∀ j, j < n → w.cell? ⟨b, o + j, none⟩ = xs[j]? := h.2 hn
/-- It reads so in each later world in which the old blocks are what they were. -/
theorem Sl.keep (h : Sl w A n xs) (hz : w.heap.size ≤ w'.heap.size) (hk : 0 < n → ∀ b o, A = some ⟨b, o, none⟩ → b < w.heap.size → w'.heap[b]? = w.heap[b]?) : Sl w' A n xs := by
  refine ⟨h.1, fun hn => ?_⟩
  obtain ⟨b, o, e, hb, hc⟩ := h.2 hn
  refine ⟨b, o, e, by omega, fun j hj => ?_⟩
  rw [← hc j hj]
  exact World.cell?_of_block (hk hn b o e hb)
theorem Sl.below (h : Sl w A n xs) (hb : Below w.heap.size w w') : Sl w' A n xs := h.keep hb.size fun _ b _ _ hlt => hb.block b hlt
theorem Sl.drewN (h : Sl w A n xs) (k : Nat) : Sl (w.drewN k) A n xs := h
theorem Sl.alloc (h : Sl w A n xs) (o : Obj) : Sl (w.alloc o) A n xs := h.below ((Below.refl _ _).alloc (Nat.le_refl _) _)
theorem Sl.grown (h : Sl w A n xs) {g : Nat} (hg : w.grownBy w' (some g)) (hne : 0 < n → ∀ b o, A = some ⟨b, o, none⟩ → b ≠ g) : Sl w' A n xs :=
  h.keep hg.size fun hn b o e hlt => hg.block b hlt (fun e' => by injection e' with e'; exact hne hn b o e e')
/-- A cut from k on. -/
theorem Sl.cut (h : Sl w A n xs) {k cap : Nat} (hk : k ≤ n) (hc : n ≤ cap) :
    Sl w (if cap = k then A else A.map (·.add k)) (n - k) (xs.drop k) := by
  refine ⟨by rw [List.length_drop, h.1], fun hn => ?_⟩
  obtain ⟨b, o, rfl, hb, hcell⟩ := h.2 (by omega)
  rw [if_neg (by omega)]
  refine ⟨b, o + k, ?_, hb, fun j hj => ?_⟩
  · unfold Addr.add
    by_cases h0 : k = 0
    · subst h0; simp
    · simp [h0]
  · rw [List.getElem?_drop, ← hcell (k + j) (by omega), Nat.add_assoc]
/-- The first k. -/
theorem Sl.first (h : Sl w A n xs) {k : Nat} (hk : k ≤ n) : Sl w A k (xs.take k) := by
  refine ⟨by rw [List.length_take, h.1]; omega, fun hn => ?_⟩
  obtain ⟨b, o, rfl, hb, hcell⟩ := h.2 (by omega)
  refine ⟨b, o, rfl, hb, fun j hj => ?_⟩
  rw [List.getElem?_take_of_lt hj]
  exact hcell j (by omega)
theorem Sl.of_own {base : Nat} {e : TypeId} {c : Nat} (h : w.ownsRow base e 1 (.slice A n c) n xs) : Sl w A n xs := by
  refine ⟨by rw [h.1]; omega, fun hn => ?_⟩
  obtain ⟨g, cap, hv, _, hlt⟩ := h.form hn
  injection hv with hA hc
  subst hA
  refine ⟨g, 0, rfl, hlt, fun j hj => ?_⟩
  have hl := h.1
  have hj' : j < xs.length := by omega
  have := h.cells (g := g) rfl j xs[j] (List.getElem?_eq_getElem hj')
  rw [List.getElem?_eq_getElem hj', ← this]
  unfold Addr.add
  by_cases h0 : j = 0
  · subst h0; simp
  · simp [h0]
/-- The source of an append, as the library's laws ask it. -/
theorem Sl.news {b o : Nat} (h : Sl w (some ⟨b, o, none⟩) n xs) : ∀ j u, xs[j]? = some u → w.cell? ((⟨b, o, none⟩ : Addr).add j) = some u := by
  intro j u hu
  have hj : j < xs.length := (List.getElem?_eq_some_iff.1 hu).1
  have hl := h.1
  obtain ⟨b', o', e, _, hc⟩ := h.2 (by omega)
  injection e with e
  injection e with e1 e2
  subst e1 e2
  rw [← hu, ← hc j (by omega)]
  unfold Addr.add
  by_cases h0 : j = 0
  · subst h0; simp
  · simp [h0]
end

theorem own_facts {w : World} {base : Nat} {e : TypeId} {A : Option Addr} {n c : Nat} {xs : List Value} (h : w.ownsRow base e 1 (.slice A n c) n xs) :
    Sl w A n xs ∧ n ≤ c ∧ c ≤ maxLen ∧ ∀ b o, A = some ⟨b, o, none⟩ → base ≤ b ∧ b < w.heap.size := by
  refine ⟨Sl.of_own h, ?_⟩
  rcases h.2 with ⟨hv, rfl⟩ | ⟨g, cap, cur, hv, hb, hh, hnc, hc, _⟩
  · injection hv with e1 e2 e3
    subst e1 e3
    exact ⟨Nat.le_refl _, by unfold maxLen; omega, fun b o e => by cases e⟩
  · injection hv with e1 e2 e3
    subst e1 e3
    refine ⟨hnc, hc, fun b o e => ?_⟩
    injection e with e
    injection e with e
    subst e
    refine ⟨hb, ?_⟩
    rcases Nat.lt_or_ge g w.heap.size with hlt | hge
    · exact hlt
    · rw [Array.getElem?_eq_none hge] at hh; cases hh
theorem own_form {w : World} {base : Nat} {e : TypeId} {v : Value} {n : Nat} {xs : List Value} (h : w.ownsRow base e 1 v n xs) :
    ∃ A c, v = .slice A n c ∧ w.ownsRow base e 1 (.slice A n c) n xs := by
  rcases h.2 with ⟨rfl, rfl⟩ | ⟨g, cap, cur, rfl, _⟩
  · exact ⟨_, _, rfl, h⟩
  · exact ⟨_, _, rfl, h⟩
theorem own_empty (w : World) {base : Nat} (hb : base ≤ w.heap.size) (e : TypeId) : (w.alloc (.cells #[] e)).ownsRow base e 1 (.slice (some ⟨w.heap.size, 0, none⟩) 0 0) 0 [] :=
  ⟨rfl, .inr ⟨w.heap.size, 0, #[], rfl, hb, heap_alloc_new w _, Nat.le_refl _, by unfold maxLen; omega, rfl, rfl⟩⟩
theorem own_one (w : World) {base : Nat} (hb : base ≤ w.heap.size) (e : TypeId) (u : Value) : (w.alloc (.cells #[u] e)).ownsRow base e 1 (.slice (some ⟨w.heap.size, 0, none⟩) 1 1) 1 [u] :=
  ⟨rfl, .inr ⟨w.heap.size, 1, #[u], rfl, hb, heap_alloc_new w _, Nat.le_refl _, by unfold maxLen; omega, rfl, rfl⟩⟩

theorem sl_one (w : World) (e : TypeId) (u : Value) : Sl (w.alloc (.cells #[u] e)) (some ⟨w.heap.size, 0, none⟩) 1 [u] := Sl.of_own (own_one w (Nat.le_refl _) e u)
theorem sl_lit (w : World) (e : TypeId) (cs : Array Value) (hm : cs.size ≤ 1000000000) : Sl (w.alloc (.cells cs e)) (some ⟨w.heap.size, 0, none⟩) cs.size cs.toList :=
  Sl.of_own (base := w.heap.size) (c := cs.size) (e := e) ⟨by simp, .inr ⟨w.heap.size, cs.size, cs, rfl, Nat.le_refl _, heap_alloc_new w _, Nat.le_refl _, by unfold maxLen; omega, by omega, by rw [Nat.mul_one]; exact List.take_of_length_le (by simp)⟩⟩
theorem one_one (k : IntKind) (x : Int) : ∀ u ∈ [Value.int k x], u.oneCell' = true := by
  intro u hu
  rw [List.mem_singleton.1 hu]; rfl

section
variable {P : Program} (w : World)
/-- append onto a row of the call's own, from whatever slice, one cell an element. -/
theorem run_app (base : Nat) (t ty e : TypeId) (i : TypeInfo) (z : Value) (bytes : Nat) (ht : P.underlying t = some (.slice e)) (hi : P.info? e = some i) (hz : i.zero = some z)
    (hsize : i.size = 1) (hby : i.bytes = bytes) (hzs : z.cells.size = 1)
    (v : Value) (n : Nat) (xs : List Value) (hown : w.ownsRow base e 1 v n xs)
    (A : Option Addr) (m c : Nat) (news : List Value) (hr : Sl w A m news) (h1 : ∀ u ∈ news, u.oneCell' = true)
    (hbytes : (n + m) * bytes ≤ 140737488355328) (hb0 : 0 < bytes) (hbase : base ≤ w.heap.size) :
    ∃ v' w', (Builtin.append_ #[t, t] ty #[v, .slice A m c]).run P w = .ok v' w' ∧ w'.ownsRow base e 1 v' (n + m) (xs ++ news) ∧ w.grownBy w' v.ownBlock ∧
      (v'.ownBlock = v.ownBlock ∨ v'.ownBlock = some w.heap.size) := by
  have h63 : n + m ≤ maxLen := by
    have := Nat.le_mul_of_pos_right (n + m) hb0
    unfold maxLen; omega
  rcases A with _ | ad
  · have hm : m = 0 := by
      rcases Nat.eq_zero_or_pos m with h0 | h0
      · exact h0
      · obtain ⟨_, _, h, _⟩ := hr.2 h0
        cases h
    subst hm
    have hn : news = [] := List.eq_nil_of_length_eq_zero hr.1
    subst hn
    refine ⟨v, w, ?_, by simpa using hown, World.grownBy.refl w _, .inl rfl⟩
    rcases hown.2 with ⟨rfl, rfl⟩ | ⟨g, cap, cur, rfl, _, _, hnc, _⟩
    · simp [Builtin.append_, run_underlying ht, sizeOf, typeInfo, hi, Builtin.lenOf, Builtin.firstCells]
    · simp [Builtin.append_, run_underlying ht, sizeOf, typeInfo, hi, Builtin.lenOf, Builtin.firstCells, hnc, storeCells]
  · have hcells : ∀ j u, news[j]? = some u → w.cell? (ad.add j) = some u := by
      intro j u hu
      rcases Nat.eq_zero_or_pos m with h0 | h0
      · subst h0
        have hn : news = [] := List.eq_nil_of_length_eq_zero hr.1
        subst hn
        simp at hu
      · obtain ⟨b, o, h, _⟩ := hr.2 h0
        injection h with h
        subst h
        exact hr.news j u hu
    obtain ⟨v', w', hrun, h2, h3, _, h5⟩ := run_append_own_at (P := P) w base t ty e i z 1 bytes ht hi hz hsize hby hzs (by omega) v n xs hown ad m c news (by rw [hr.1]; omega) hcells h1 h63 hbytes hbase
    exact ⟨v', w', hrun, h2, h3, h5⟩

theorem wpList_app {ops : Array Oper} {rest : List Oper} {o : Oper} {a : Act} {Q : Exit → Act → World → Prop} (hgd : o.guard = none) (s x : Operand) (t : TypeId)
    (ho : o.op = .call { callee := .builtin .append, args := #[s, x], argTypes := #[t, t] })
    (base : Nat) (e : TypeId) (i : TypeInfo) (z : Value) (bytes : Nat) (ht : P.underlying t = some (.slice e)) (hi : P.info? e = some i) (hz : i.zero = some z)
    (hsize : i.size = 1) (hby : i.bytes = bytes) (hzs : z.cells.size = 1)
    (v : Value) (n : Nat) (xs : List Value) (hs : a.eval s = v) (hown : w.ownsRow base e 1 v n xs)
    (A : Option Addr) (m c : Nat) (news : List Value) (hx : a.eval x = .slice A m c) (hr : Sl w A m news) (h1 : ∀ u ∈ news, u.oneCell' = true)
    (hbytes : (n + m) * bytes ≤ 140737488355328) (hb0 : 0 < bytes) (hbase : base ≤ w.heap.size)
    (h : ∀ A' c' w', w'.ownsRow base e 1 (.slice A' (n + m) c') (n + m) (xs ++ news) → w.grownBy w' v.ownBlock → wpList P ops Q rest (a.put o.dst (.slice A' (n + m) c')) w') : wpList P ops Q (o :: rest) a w :=
  wpList_plain hgd fun K hK => by
    obtain ⟨v', w', hrun, h2, h3, _⟩ := run_app (P := P) w base t o.type e i z bytes ht hi hz hsize hby hzs v n xs hown A m c news hr h1 hbytes hb0 hbase
    obtain ⟨A', c', rfl, h2⟩ := own_form h2
    unfold Oper.wp execOp
    simp only [ho, resolve, invoke, builtin, Sem.run_bind, Sem.run_pure, Result.andThen_ok, List.map_toArray, List.map_cons, List.map_nil, hs, hx, hrun]
    exact hK _ _ (h A' c' w' h2 h3)
end

/-- Block g is the cells cs of element type t, none frozen. -/
def Blk (w : World) (g : Nat) (t : TypeId) (cs : Array Value) : Prop := w.heap[g]? = some (.cells cs t (0, 0))

section
variable {w w' : World} {g : Nat} {t : TypeId} {cs : Array Value}
theorem Blk.lt (h : Blk w g t cs) : g < w.heap.size := by
  rcases Nat.lt_or_ge g w.heap.size with hlt | hge
  · exact hlt
  · unfold Blk at h; rw [Array.getElem?_eq_none hge] at h; cases h
theorem Blk.cell (h : Blk w g t cs) (i : Nat) : w.cell? ⟨g, i, none⟩ = cs[i]? := cell_of_row w g i cs t (0, 0) h
theorem Blk.free (h : Blk w g t cs) (i : Nat) : w.frozen? ⟨g, i, none⟩ = false := frozen_of_row w g i cs t h
theorem Blk.fresh (w : World) (t : TypeId) (cs : Array Value) : Blk (w.alloc (.cells cs t)) w.heap.size t cs := heap_alloc_new w _
theorem Blk.drewN (h : Blk w g t cs) (n : Nat) : Blk (w.drewN n) g t cs := h
theorem Blk.alloc (h : Blk w g t cs) (o : Obj) : Blk (w.alloc o) g t cs := (Below.heap_alloc w o g h.lt).trans h
theorem Blk.put (h : Blk w g t cs) (i : Nat) (u : Value) : Blk (w.setCell ⟨g, i, none⟩ u) g t (cs.setIfInBounds i u) := by
  unfold Blk at h ⊢
  simp [World.setCell, Array.getElem?_modify, h]
theorem Blk.far (h : Blk w g t cs) {p : Addr} (hp : g ≠ p.block) (u : Value) : Blk (w.setCell p u) g t cs := (Below.heap_setCell w p u g hp).trans h
theorem Blk.below (h : Blk w g t cs) (hb : Below w.heap.size w w') : Blk w' g t cs := (hb.block g h.lt).trans h
theorem Blk.grown {row : Option Nat} (h : Blk w g t cs) (hb : w.grownBy w' row) (hg : some g ≠ row) : Blk w' g t cs := (hb.block g h.lt hg).trans h
end

theorem quiet_same_at {P : Program} {f : FuncId} {args : Array Value} {w : World} {v : Value} {n : Nat} (h : Calls P f args (w.drewN n) fun e w' => e = .returned v ∧ w.drewN n = w') :
    Calls P f args (w.drewN n) fun e w' => e = .returned v ∧ ∃ m, w' = w.drewN m := h.mono fun _ _ ⟨he, hm⟩ => ⟨he, n, hm.symm⟩
theorem quiet_drew_at {P : Program} {f : FuncId} {args : Array Value} {w : World} {v : Value} {n : Nat} (h : Calls P f args (w.drewN n) fun e w' => e = .returned v ∧ ∃ d, (w.drewN n).drewN d = w') :
    Calls P f args (w.drewN n) fun e w' => e = .returned v ∧ ∃ m, w' = w.drewN m := h.mono fun _ _ ⟨he, d, hm⟩ => ⟨he, n + d, by rw [← hm, World.drewN_drewN]⟩

/-- Only block g, and what is new, has turned: steps. -/
theorem only_drewN {a w : World} {row : Option Nat} (h : a.grownBy w row) (n : Nat) : a.grownBy (w.drewN n) row := ⟨h.os, h.tape, h.output, h.size, h.block⟩
theorem only_of_drewN {a w : World} {d : Nat} {row : Option Nat} (h : (a.drewN d).grownBy w row) : a.grownBy w row := ⟨h.os, h.tape, h.output, h.size, h.block⟩
theorem only_setCell {a w : World} {g : Nat} (h : a.grownBy w (some g)) {p : Addr} (hp : p.block = g ∨ a.heap.size ≤ p.block) (u : Value) : a.grownBy (w.setCell p u) (some g) :=
  ⟨h.os, h.tape, h.output, by simpa [World.setCell] using h.size, fun i hi hne => (Below.heap_setCell w p u i (by
    rintro rfl
    rcases hp with hp | hp
    · exact hne (by rw [hp])
    · omega)).trans (h.block i hi hne)⟩
theorem below_of_only {B : Nat} {a w : World} {g : Nat} (h : a.grownBy w (some g)) (hg : B ≤ g) (hB : B ≤ a.heap.size) : Below B a w :=
  ⟨h.os, h.tape, h.output, h.size, fun i hi => h.block i (by omega) (fun e => by injection e with e; omega)⟩
theorem below_drewN {B : Nat} {a w : World} (h : Below B a w) (n : Nat) : Below B a (w.drewN n) := ⟨h.os, h.tape, h.output, h.size, h.block⟩
theorem only_trans {a b c : World} {row : Option Nat} (h : a.grownBy b row) (k : b.grownBy c row) : a.grownBy c row :=
  ⟨k.os.trans h.os, k.tape.trans h.tape, k.output.trans h.output, Nat.le_trans h.size k.size, fun i hi hne => (k.block i (Nat.lt_of_lt_of_le hi h.size) hne).trans (h.block i hi hne)⟩
theorem own_mono {w : World} {base base' : Nat} {e : TypeId} {v : Value} {n : Nat} {xs : List Value} (h : w.ownsRow base e 1 v n xs) (hb : base' ≤ base) : w.ownsRow base' e 1 v n xs := by
  obtain ⟨h1, h2⟩ := h
  refine ⟨h1, ?_⟩
  rcases h2 with h2 | ⟨g, cap, cur, hv, hg, r⟩
  · exact .inl h2
  · exact .inr ⟨g, cap, cur, hv, by omega, r⟩
theorem only_none {a w : World} (h : a.grownBy w none) : Below a.heap.size a w := ⟨h.os, h.tape, h.output, h.size, fun i hi => h.block i hi (by simp)⟩
end Go.Proofs.YtiolfjhddbiglaaGreatDoor

/-
  What comes in, opened: bytes, flags and numbers of 64 bits, as slices that read as lists.
-/
namespace Go.Proofs.YtiolfjhddbiglaaGreatDoor
open Go.ChangeShapes Go.WideShapes Go.ChangeAt Go.RowKit

theorem sl_row {w : World} {a : Addr} {len : Nat} {xs : List Value} (hl : len ≤ xs.length) (hcell : ∀ i, i < xs.length → w.cell? (a.add i) = xs[i]?) : Sl w (some a) len (xs.take len) := by
  refine ⟨by rw [List.length_take]; omega, fun hn => ?_⟩
  have h0 := hcell 0 (by omega)
  rw [List.getElem?_eq_getElem (by omega)] at h0
  have hs := World.cell?_spot h0
  have ha : a.add 0 = a := by simp [Addr.add]
  rw [ha] at hs h0
  have hb := World.block_lt_of_cell? _ _ h0
  obtain ⟨b, o, s⟩ := a
  simp only at hs hb
  subst hs
  refine ⟨b, o, rfl, hb, fun j hj => ?_⟩
  rw [List.getElem?_take_of_lt hj, ← hcell j (by omega)]
  unfold Addr.add
  by_cases h : j = 0
  · subst h; simp
  · simp [h]

/-- bytes out of numbers that are bytes -/
def toBytes (zs : List Int) : List UInt8 := zs.map fun z => UInt8.ofNat z.toNat
theorem bv_toBytes {zs : List Int} (h : ∀ n ∈ zs, (Lit.int .u8 n).wf = true) : bv (toBytes zs) = zs.map (Value.int .u8) := by
  induction zs with
  | nil => rfl
  | cons z r ih =>
    have hz := bounds_u8 (h z (by simp))
    have hr := ih (fun n hn => h n (by simp [hn]))
    simp only [bv, toBytes, List.map_cons, List.cons.injEq]
    refine ⟨?_, hr⟩
    congr 1
    rw [UInt8.toNat_ofNat']
    omega

section
variable {H : Type} {enc : TypeId × Value → H} {P : Program} {w : World} {held : Bool}
theorem open_bytes {t e : TypeId} (ht : P.underlying t = some (.slice e)) (he : P.underlying e = some (.int .u8)) (hc : P.cellsOf e = 1)
    {A : Option Addr} {len cap : Nat} {d : DataW H} {ps : List MemPlace} (h : DataW.Trod enc P w 0 (fun _ => true) held t (.slice A len cap) d ps) :
    ∃ bs : List UInt8, Sl w A len (bv bs) ∧ len ≤ cap ∧ cap ≤ maxLen := by
  obtain ⟨fuel, hf⟩ := h
  rcases open_ints ht he hc hf with ⟨hcs, _⟩ | ⟨x, l, c, zs, hcs, _, hl, hm, hz, _, hcell, hwz⟩
  · simp [Value.cells] at hcs
    obtain ⟨rfl, rfl, rfl⟩ := hcs
    exact ⟨[], Sl.nil, Nat.le_refl _, by unfold maxLen; omega⟩
  · simp [Value.cells] at hcs
    obtain ⟨rfl, rfl, rfl⟩ := hcs
    simp only [if_true] at hz
    refine ⟨toBytes (zs.take len), ?_, hl, hm⟩
    rw [bv_toBytes (fun n hn => hwz n (List.mem_of_mem_take hn)), List.map_take]
    refine sl_row (xs := zs.map (Value.int .u8)) (by rw [List.length_map, hz]; exact hl) (fun i hi => ?_)
    simp only [List.length_map] at hi
    rw [hcell i hi]
    simp [List.getD, hi]
end
end Go.Proofs.YtiolfjhddbiglaaGreatDoor

/-
  The decoder of LZMA2 as numbers: its fields, what is left of the bytes, the bytes in the window; plain chunks.
-/
namespace Go.Proofs.YtiolfjhddbiglaaGreatDoor

/-- its fields; a source there is, or none; the block of a packed chunk's source -/
structure Ds where
  closed : Bool
  src : Bool
  ended : Bool
  nd : Nat
  a0 : Int
  a1 : Int
  a2 : Int
  a3 : Int
  left : Nat
  pk : Option Nat
def Ds.fail (s : Ds) : Ds := { s with src := false, pk := none, left := 0 }

/-- the fields, the bytes that are left, the bytes in the window -/
structure Lq where
  s : Ds
  r : List UInt8
  o : List UInt8
def Lq.fail (q : Lq) : Lq := { q with s := q.s.fail }
/-- the next byte that is read -/
def Lq.b (q : Lq) : UInt8 := if q.s.src = true then q.r.headD 0 else 0
def Lq.rd (q : Lq) : Lq := if q.s.src = true then (match q.r with | [] => q.fail | _ :: r => { q with r := r }) else q
/-- a number of bytes: one at least -/
def Lq.count (q : Lq) : Nat := q.b.toNat * 256 + q.rd.b.toNat + 1
def Lq.two (q : Lq) : Lq := q.rd.rd
def Lq.start (q : Lq) (n : Nat) : Lq := if q.s.src = true then { q with s := { q.s with left := n, pk := none } } else q
def Lq.plain (q : Lq) : Lq := q.two.start q.count
def Lq.end_ (q : Lq) : Lq := { q with s := { q.s with ended := true } }
def Lq.anew (q : Lq) : Lq := { q with s := { q.s with nd := 6 }, o := [] }
/-- what stands ahead of a chunk's bytes, of no packed one -/
def Lq.chunk (q : Lq) : Lq :=
  if q.rd.s.src = false then q.rd
  else if q.b = 0 then q.rd.end_
  else if q.b = 1 then q.rd.anew.plain
  else if q.b = 2 ∧ q.rd.s.nd % 2 = 0 then q.rd.plain
  else q.rd.fail
/-- a plain chunk's next byte -/
def Lq.told (q : Lq) (x : UInt8) : Lq := { q with s := { q.s with left := q.s.left - 1 }, o := q.o ++ [x] }
def Lq.byte (q : Lq) : Option UInt8 × Lq := if q.rd.s.src = false then (none, q.rd) else (some q.b, q.rd.told q.b)
def Lq.come (q : Lq) : Lq := if q.s.left = 0 ∧ q.s.ended = false then q.chunk else q
def Lq.next (q : Lq) : Option UInt8 × Lq := if q.come.s.left = 0 then (none, q.come) else q.come.byte
/-- no packed chunk comes now -/
def Lq.Flat (q : Lq) : Prop := q.s.left = 0 → q.s.ended = false → q.b.toNat < 128
/-- whether the stream ends -/
def Lq.at_ (q : Lq) : Lq := if q.s.ended = true then q else q.rd
def Lq.last (q : Lq) : UInt8 := if q.s.ended = true then 0 else q.b
def Lq.ends (q : Lq) : Bool := decide (q.s.left = 0) && (q.at_.s.src && decide (q.last = 0) && q.at_.r.isEmpty)
/-- so many bytes, and the end -/
def Lq.go : Nat → Lq → Option (List UInt8)
  | 0, q => if q.ends = true then some [] else none
  | n + 1, q => match q.next with
    | (none, _) => none
    | (some b, q') => (Lq.go n q').map (b :: ·)
def Lq.Flats : Nat → Lq → Prop
  | 0, _ => True
  | n + 1, q => q.Flat ∧ ∀ b, q.next.1 = some b → Lq.Flats n q.next.2

theorem rd_fail {q : Lq} (h : q.s.src = true) (hr : q.r = []) : q.rd = q.fail := by
  unfold Lq.rd; rw [if_pos h, hr]
theorem rd_more {q : Lq} {x : UInt8} {r : List UInt8} (h : q.s.src = true) (hr : q.r = x :: r) : q.rd = { q with r := r } := by
  unfold Lq.rd; rw [if_pos h, hr]
theorem rd_none {q : Lq} (h : q.s.src = false) : q.rd = q := by
  unfold Lq.rd; rw [if_neg (by simp [h])]
theorem b_none {q : Lq} (h : q.s.src = false) : q.b = 0 := by
  unfold Lq.b; rw [if_neg (by simp [h])]
theorem b_end {q : Lq} (h : q.s.src = true) (hr : q.r = []) : q.b = 0 := by
  unfold Lq.b; rw [if_pos h, hr]; rfl
theorem b_more {q : Lq} {x : UInt8} {r : List UInt8} (h : q.s.src = true) (hr : q.r = x :: r) : q.b = x := by
  unfold Lq.b; rw [if_pos h, hr]; rfl
theorem rd_o (q : Lq) : q.rd.o = q.o := by
  unfold Lq.rd
  split
  · split <;> rfl
  · rfl
theorem start_on {q : Lq} {n : Nat} (h : q.s.src = true) : q.start n = { q with s := { q.s with left := n, pk := none } } := by unfold Lq.start; rw [if_pos h]
theorem start_off {q : Lq} {n : Nat} (h : q.s.src = false) : q.start n = q := by unfold Lq.start; rw [if_neg (by simp [h])]
theorem rd_left (q : Lq) : q.rd.s.left = q.s.left ∨ q.rd.s.left = 0 := by
  unfold Lq.rd
  split
  · split
    · exact .inr rfl
    · exact .inl rfl
  · exact .inl rfl
theorem rd_left0 {q : Lq} (h : q.s.left = 0) : q.rd.s.left = 0 := (rd_left q).elim (fun e => e.trans h) id
theorem count_small (q : Lq) : q.count ≤ 65536 := by
  have := q.b.toNat_lt
  have := q.rd.b.toNat_lt
  unfold Lq.count
  omega
theorem plain_left {q : Lq} (h : q.s.left = 0) : q.plain.s.left = 0 ∨ (q.plain.s.pk = none ∧ q.plain.s.left ≤ 65536) := by
  have h2 : q.two.s.left = 0 := rd_left0 (rd_left0 h)
  cases hs : q.two.s.src with
  | true =>
    right
    unfold Lq.plain
    rw [start_on hs]
    exact ⟨rfl, count_small q⟩
  | false =>
    left
    unfold Lq.plain
    rw [start_off hs]
    exact h2
theorem chunk_left {q : Lq} (h : q.s.left = 0) : q.chunk.s.left = 0 ∨ (q.chunk.s.pk = none ∧ q.chunk.s.left ≤ 65536) := by
  have h1 := rd_left0 h
  unfold Lq.chunk
  split
  · exact .inl h1
  · split
    · exact .inl h1
    · split
      · exact plain_left h1
      · split
        · exact plain_left h1
        · exact .inl rfl
theorem chunk_o (q : Lq) : q.chunk.o.length ≤ q.o.length := by
  have h1 := rd_o q
  have hp : ∀ q : Lq, q.plain.o = q.o := fun q => by
    unfold Lq.plain Lq.start Lq.two
    split
    · exact (rd_o _).trans (rd_o _)
    · exact (rd_o _).trans (rd_o _)
  unfold Lq.chunk
  split
  · rw [h1]; exact Nat.le_refl _
  · split
    · show q.rd.o.length ≤ _; rw [h1]; exact Nat.le_refl _
    · split
      · rw [hp]; exact Nat.zero_le _
      · split
        · rw [hp, h1]; exact Nat.le_refl _
        · show q.rd.o.length ≤ _; rw [h1]; exact Nat.le_refl _
/-- between two bytes -/
def Lq.Mid (q : Lq) : Prop := q.s.left ≤ 65536 ∧ (q.s.left ≠ 0 → q.s.pk = none)
theorem come_mid {q : Lq} (h : q.Mid) : q.come.Mid := by
  unfold Lq.come
  split
  · rename_i hc
    rcases chunk_left hc.1 with h1 | h1
    · exact ⟨by omega, fun h2 => absurd h1 h2⟩
    · exact ⟨h1.2, fun _ => h1.1⟩
  · exact h
theorem rd_mid {q : Lq} (h : q.Mid) : q.rd.Mid := by
  unfold Lq.rd
  split
  · split
    · exact ⟨Nat.zero_le _, fun h2 => absurd rfl h2⟩
    · exact h
  · exact h
theorem next_mid {q : Lq} (h : q.Mid) : q.next.2.Mid := by
  have h1 := come_mid h
  unfold Lq.next
  split
  · exact h1
  · unfold Lq.byte
    have h2 := rd_mid h1
    split
    · exact h2
    · refine ⟨?_, fun hh => h2.2 (fun e => hh ?_)⟩
      · have := h2.1
        show q.come.rd.s.left - 1 ≤ _
        omega
      · show q.come.rd.s.left - 1 = 0
        omega
theorem next_o {q : Lq} : q.next.2.o.length ≤ q.o.length + 1 := by
  have h1 : q.come.o.length ≤ q.o.length := by
    unfold Lq.come
    split
    · exact chunk_o q
    · exact Nat.le_refl _
  unfold Lq.next
  split
  · show q.come.o.length ≤ _; omega
  · unfold Lq.byte
    have h2 := rd_o q.come
    split
    · show q.come.rd.o.length ≤ _; rw [h2]; omega
    · show (q.come.rd.o ++ [q.come.b]).length ≤ _
      rw [h2]
      simp
      omega
theorem go_some {n : Nat} {q : Lq} {b : UInt8} (h : q.next.1 = some b) : Lq.go (n + 1) q = (Lq.go n q.next.2).map (b :: ·) := by
  rw [Lq.go]
  split
  · rename_i e
    rw [e] at h
    cases h
  · rename_i b' q' e
    rw [e] at h ⊢
    obtain rfl : b' = b := by injection h
    rfl
end Go.Proofs.YtiolfjhddbiglaaGreatDoor

/-
  What was there is as it was, but for the blocks of a set.
-/
namespace Go.Proofs.YtiolfjhddbiglaaGreatDoor
open Go.RowKit

structure Only (S : Nat → Prop) (a w : World) : Prop where
  os : w.os = a.os
  tape : w.tape = a.tape
  output : w.output = a.output
  size : a.heap.size ≤ w.heap.size
  block : ∀ i, i < a.heap.size → ¬ S i → w.heap[i]? = a.heap[i]?

section
variable {S S' : Nat → Prop} {a b c w w' : World}
theorem Only.refl (S : Nat → Prop) (w : World) : Only S w w := ⟨rfl, rfl, rfl, Nat.le_refl _, fun _ _ _ => rfl⟩
theorem Only.trans (h : Only S a b) (k : Only S b c) : Only S a c :=
  ⟨k.os.trans h.os, k.tape.trans h.tape, k.output.trans h.output, Nat.le_trans h.size k.size, fun i hi hn => (k.block i (Nat.lt_of_lt_of_le hi h.size) hn).trans (h.block i hi hn)⟩
theorem Only.mono (h : Only S a w) (hS : ∀ i, S i → S' i) : Only S' a w := ⟨h.os, h.tape, h.output, h.size, fun i hi hn => h.block i hi fun hs => hn (hS i hs)⟩
theorem Only.drewN (h : Only S a w) (n : Nat) : Only S a (w.drewN n) := ⟨h.os, h.tape, h.output, h.size, h.block⟩
theorem Only.drew (h : Only S a w) : Only S a w.drew := ⟨h.os, h.tape, h.output, h.size, h.block⟩
theorem Only.of_drewN {n : Nat} (h : Only S (a.drewN n) w) : Only S a w := ⟨h.os, h.tape, h.output, h.size, h.block⟩
theorem Only.setCell (h : Only S a w) {p : Addr} (hp : S p.block ∨ a.heap.size ≤ p.block) (u : Value) : Only S a (w.setCell p u) :=
  ⟨h.os, h.tape, h.output, by simpa [World.setCell] using h.size, fun i hi hn => (Below.heap_setCell w p u i (by
    rintro rfl
    rcases hp with hp | hp
    · exact hn hp
    · omega)).trans (h.block i hi hn)⟩
theorem Only.alloc (h : Only S a w) (o : Obj) : Only S a (w.alloc o) :=
  ⟨h.os, h.tape, h.output, Nat.le_trans h.size (by simp), fun i hi hn => (Below.heap_alloc w o i (Nat.lt_of_lt_of_le hi h.size)).trans (h.block i hi hn)⟩
theorem Only.of_grown {g : Nat} (h : a.grownBy w (some g)) (hg : S g) : Only S a w := ⟨h.os, h.tape, h.output, h.size, fun i hi hn => h.block i hi fun e => by injection e with e; exact hn (e ▸ hg)⟩
theorem Only.of_below (h : Below a.heap.size a w) : Only S a w := ⟨h.os, h.tape, h.output, h.size, fun i hi _ => h.block i hi⟩
theorem Only.then (h : Only S a b) (k : Below b.heap.size b c) : Only S a c := h.trans (Only.of_below k)
theorem Only.below {B : Nat} (h : Only S a w) (hB : B ≤ a.heap.size) (hS : ∀ i, S i → B ≤ i) : Below B a w :=
  ⟨h.os, h.tape, h.output, h.size, fun i hi => h.block i (by omega) fun hs => by have := hS i hs; omega⟩
theorem Only.trans' (h : Only S a b) (k : Only S' b c) (hS : ∀ i, S' i → S i ∨ a.heap.size ≤ i) : Only S a c :=
  ⟨k.os.trans h.os, k.tape.trans h.tape, k.output.trans h.output, Nat.le_trans h.size k.size, fun i hi hn => (k.block i (Nat.lt_of_lt_of_le hi h.size) (fun hs => by
    rcases hS i hs with h1 | h1
    · exact hn h1
    · omega)).trans (h.block i hi hn)⟩
theorem Only.cell (h : Only S w w') {p : Addr} (hp : p.block < w.heap.size) (hn : ¬ S p.block) : w'.cell? p = w.cell? p := World.cell?_of_block (h.block _ hp hn)
theorem Blk.only {g : Nat} {t : TypeId} {cs : Array Value} (h : Blk w g t cs) (hb : Only S w w') (hg : ¬ S g) : Blk w' g t cs := (hb.block g h.lt hg).trans h
theorem Sl.only {A : Option Addr} {n : Nat} {xs : List Value} (h : Sl w A n xs) (hb : Only S w w') (hne : 0 < n → ∀ b o, A = some ⟨b, o, none⟩ → ¬ S b) : Sl w' A n xs :=
  h.keep hb.size fun hn b o e hlt => hb.block b hlt (hne hn b o e)
theorem own_only {base : Nat} {e : TypeId} {g n c : Nat} {xs : List Value} (h : w.ownsRow base e 1 (.slice (some ⟨g, 0, none⟩) n c) n xs) (hb : Only S w w') (hg : ¬ S g) : w'.ownsRow base e 1 (.slice (some ⟨g, 0, none⟩) n c) n xs := by
  refine ⟨h.1, ?_⟩
  rcases h.2 with ⟨hv, _⟩ | ⟨g', cap, cur, hv, hb', hh, r⟩
  · cases hv
  · refine .inr ⟨g', cap, cur, hv, hb', ?_, r⟩
    injection hv with h1
    injection h1 with h1
    injection h1 with h1
    subst h1
    have hlt : g < w.heap.size := by
      rcases Nat.lt_or_ge g w.heap.size with hlt | hge
      · exact hlt
      · rw [Array.getElem?_eq_none hge] at hh; cases hh
    exact (hb.block g hlt hg).trans hh
end
end Go.Proofs.YtiolfjhddbiglaaGreatDoor

/-
  Probabilities in memory, wherever each lies.
-/
namespace Go.Proofs.YtiolfjhddbiglaaGreatDoor
open Go.RowKit

/-- Probabilities in memory: where each lies (ad), in which blocks (B), so many (L). -/
structure Prb (R : World → List Nat → Prop) (B : Nat → Prop) (ad : Nat → Nat × Nat) (L : Nat) : Prop where
  blk : ∀ {a}, a < L → B (ad a).1
  cell : ∀ {w ps a}, R w ps → a < L → w.cell? ⟨(ad a).1, (ad a).2, none⟩ = some (.int .u16 ((ps.getD a 0 : Nat) : Int))
  free : ∀ {w ps a}, R w ps → a < L → w.frozen? ⟨(ad a).1, (ad a).2, none⟩ = false
  put : ∀ {w ps a}, R w ps → a < L → ∀ q : Nat, R (w.setCell ⟨(ad a).1, (ad a).2, none⟩ (.int .u16 (q : Int))) (ps.set a q)
  only : ∀ {w w' ps} {S : Nat → Prop}, R w ps → Only S w w' → (∀ i, B i → ¬ S i) → R w' ps
  len : ∀ {w ps}, R w ps → ps.length = L
  old : ∀ {w ps i}, R w ps → B i → i < w.heap.size
end Go.Proofs.YtiolfjhddbiglaaGreatDoor

/-
  The program's probabilities of packets: where the one with the document's number lies, behind the first.
-/
namespace Go.Proofs.YtiolfjhddbiglaaGreatDoor
open Go.RowKit

/-- where the probability with the document's number lies -/
def sg (a : Nat) : Nat := if a < 192 then a else if a < 240 then a + 192 else if a < 432 then a - 48 else if a < 688 then a + 1159 else a - 256
theorem sg_lt {a : Nat} (h : a < 1847) : sg a < 1847 := by unfold sg; repeat' split
                                                           all_goals omega
theorem sg_inj {a b : Nat} (ha : a < 1847) (hb : b < 1847) (h : sg a = sg b) : a = b := by
  unfold sg at h
  repeat' split at h
  all_goals omega
theorem sg_low {a : Nat} (h : a < 192) : sg a = a := by unfold sg; rw [if_pos h]
theorem sg_rep {a : Nat} (h : 192 ≤ a) (h1 : a < 240) : sg a = a + 192 := by unfold sg; rw [if_neg (by omega), if_pos h1]
theorem sg_long {a : Nat} (h : 240 ≤ a) (h1 : a < 432) : sg a = a - 48 := by unfold sg; rw [if_neg (by omega), if_neg (by omega), if_pos h1]
theorem sg_slot {a : Nat} (h : 432 ≤ a) (h1 : a < 688) : sg a = a + 1159 := by unfold sg; rw [if_neg (by omega), if_neg (by omega), if_neg (by omega), if_pos h1]
theorem sg_rest {a : Nat} (h : 688 ≤ a) : sg a = a - 256 := by unfold sg; rw [if_neg (by omega), if_neg (by omega), if_neg (by omega), if_neg (by omega)]

/-- all probabilities but literals' lie in the block g, from o0 on -/
def Lay (ad : Nat → Nat × Nat) (g o0 : Nat) : Prop := ∀ a, a < 1847 → ad a = (g, o0 + sg a)
section
variable {ad : Nat → Nat × Nat} {g o0 a i : Nat}
theorem Lay.low (h : Lay ad g o0) (h0 : a < 192) (hi : i = o0 + a) : ad a = (g, i) := by rw [h a (by omega), sg_low h0, hi]
theorem Lay.rep (h : Lay ad g o0) (h0 : 192 ≤ a) (h1 : a < 240) (hi : i = o0 + (a + 192)) : ad a = (g, i) := by rw [h a (by omega), sg_rep h0 h1, hi]
theorem Lay.long (h : Lay ad g o0) (h0 : 240 ≤ a) (h1 : a < 432) (hi : i = o0 + (a - 48)) : ad a = (g, i) := by rw [h a (by omega), sg_long h0 h1, hi]
theorem Lay.slot (h : Lay ad g o0) (h0 : 432 ≤ a) (h1 : a < 688) (hi : i = o0 + (a + 1159)) : ad a = (g, i) := by rw [h a (by omega), sg_slot h0 h1, hi]
theorem Lay.rest (h : Lay ad g o0) (h0 : 688 ≤ a) (h1 : a < 1847) (hi : i = o0 + (a - 256)) : ad a = (g, i) := by rw [h a h1, sg_rest h0, hi]
end
end Go.Proofs.YtiolfjhddbiglaaGreatDoor

/-
  Numbers and rows as the document has them, over lists of bytes: plain mathematics, no program.
-/
namespace Go.Proofs.YtiolfjhddbiglaaGreatDoor

/-- bytes as a number, the least first -/
def leVal : List UInt8 → Nat
  | [] => 0
  | b :: r => b.toNat + 256 * leVal r

theorem leVal_snoc (l : List UInt8) (b : UInt8) : leVal (l ++ [b]) = leVal l + b.toNat * 256 ^ l.length := by
  induction l with
  | nil => simp [leVal]
  | cons a r ih =>
    simp only [List.cons_append, leVal, ih, List.length_cons, Nat.pow_succ, Nat.mul_add]
    have : 256 * (b.toNat * 256 ^ r.length) = b.toNat * (256 ^ r.length * 256) := by
      rw [Nat.mul_comm 256, Nat.mul_assoc]
    omega
theorem leVal_lt (l : List UInt8) : leVal l < 256 ^ l.length := by
  induction l with
  | nil => simp [leVal]
  | cons a r ih =>
    have := a.toNat_lt
    simp only [leVal, List.length_cons, Nat.pow_succ]
    omega
theorem take_snoc {α : Type} (l : List α) (k : Nat) (h : k < l.length) (d : α) : l.take (k + 1) = l.take k ++ [l.getD k d] := by
  rw [List.take_succ_eq_append_getElem h]
  simp [List.getD, h]
theorem leVal_take (l : List UInt8) (k : Nat) (h : k < l.length) : leVal (l.take (k + 1)) = leVal (l.take k) + (l.getD k 0).toNat * 256 ^ k := by
  rw [take_snoc l k h 0, leVal_snoc]
  simp [Nat.min_eq_left (Nat.le_of_lt h)]
theorem leVal_take_lt (l : List UInt8) (k : Nat) : leVal (l.take k) < 256 ^ k := by
  have h := leVal_lt (l.take k)
  have : (256 : Nat) ^ (l.take k).length ≤ 256 ^ k := Nat.pow_le_pow_right (by omega) (by simp; omega)
  omega
theorem pow256 (k : Nat) : (256 : Nat) ^ k = 2 ^ (8 * k) := by
  rw [Nat.pow_mul]
/-- the size least bytes of v, the least first -/
def leBytes (size v : Nat) : List UInt8 := (List.range size).map fun i => UInt8.ofNat (v / 256 ^ i % 256)
/-- how many bytes follow the first of the shortest short number that is v: k -/
structure IsFol (v k : Nat) : Prop where
  le : k ≤ 8
  lt : k < 8 → v < 2 ^ (7 * k + 7)
  ge : ∀ j, j < k → 2 ^ (7 * j + 7) ≤ v
def folAux (v : Nat) : Nat → Nat → Nat
  | 0, k => k
  | f + 1, k => if v < 2 ^ (7 * k + 7) then k else folAux v f (k + 1)
def fol (v : Nat) : Nat := folAux v 8 0
/-- the shortest short number that is v -/
def shortBytes (v : Nat) : List UInt8 := UInt8.ofNat (256 - 2 ^ (8 - fol v) + v / 256 ^ fol v) :: leBytes (fol v) v
end Go.Proofs.YtiolfjhddbiglaaGreatDoor

/-
  Arithmetic of fixed width as the walk writes it: shifts, or, and, and sums that do not wrap.
-/
namespace Go.Proofs.YtiolfjhddbiglaaGreatDoor
open Go.RowKit

theorem u64_in (x : Nat) (h : x < 18446744073709551616) : IntKind.u64.wrap (x : Int) = (x : Int) := by
  rw [IntKind.wrap_u64]; omega
theorem u64_of (x : Int) (h0 : 0 ≤ x) (h : x < 18446744073709551616) : IntKind.u64.wrap x = x := by
  rw [IntKind.wrap_u64]; omega
theorem cast_pow2 (k : Nat) : ((2 : Int) ^ k) = ((2 ^ k : Nat) : Int) := by
  rw [Int.natCast_pow]; rfl

/-- a byte shifted to its place, or-ed onto the lesser ones -/
theorem or_step (v x k : Nat) (hv : v < 256 ^ k) (hx : x < 256) (hk : k < 8) :
    bits .or .u64 (v : Int) (IntKind.u64.wrap (IntKind.u64.wrap (x : Int) * 2 ^ (8 * k))) = ((v + x * 256 ^ k : Nat) : Int) := by
  have h256 : (256 : Nat) ^ k ≤ 256 ^ 7 := Nat.pow_le_pow_right (by omega) (by omega)
  have hp : x * 256 ^ k ≤ 255 * 256 ^ k := Nat.mul_le_mul_right _ (by omega)
  have hlt : x * 256 ^ k < 18446744073709551616 := by omega
  rw [u64_in x (by omega), cast_pow2, ← pow256, ← Int.natCast_mul, u64_in _ hlt, u64_or_nat _ _ (by omega) hlt]
  congr 1
  rw [Nat.or_comm, nat_join (8 * k) (x * 256 ^ k) v (by rw [pow256]; exact Nat.mul_mod_left _ _) (by rw [← pow256]; exact hv)]
  omega

end Go.Proofs.YtiolfjhddbiglaaGreatDoor

/-
  What a type's facts say, in parts.
-/
namespace Go.Proofs.YtiolfjhddbiglaaGreatDoor
open Go.RowKit

theorem info_parts {P : Program} {t : TypeId} {z : Value} {s b : Nat} (h : (P.info? t).map (fun i => (i.zero, i.size, i.bytes)) = some (some z, s, b)) : ∃ i, P.info? t = some i ∧ i.zero = some z ∧ i.size = s ∧ i.bytes = b := by
  cases hi : P.info? t with
  | none => rw [hi] at h; cases h
  | some i =>
    rw [hi] at h
    simp only [Option.map_some, Option.some.injEq, Prod.mk.injEq] at h
    exact ⟨i, rfl, h.1, h.2.1, h.2.2⟩
theorem info_u8 : (Tryz.prog.info? 5).map (fun i => (i.zero, i.size, i.bytes)) = some (some (.int .u8 0), 1, 1) := by kernel_rfl

end Go.Proofs.YtiolfjhddbiglaaGreatDoor

/-
  A feed: made of bytes, it gives each once, in order. Its row lies from block lo on, ahead of its own block.
-/
namespace Go.Proofs.YtiolfjhddbiglaaGreatDoor
open Go.RowKit

set_option maxRecDepth 100000 in
set_option maxHeartbeats 2000000 in
theorem clone_any {A : Option Addr} {n c : Nat} {bs : List UInt8} {w : World} (hS : Sl w A n (bv bs)) (hm : n ≤ 1000000000) :
    Calls Tryz.prog 41 #[.slice A n c] w fun e w' =>
      ∃ A' c', e = .returned (.slice A' n c') ∧ w'.ownsRow w.heap.size 5 1 (.slice A' n c') n (bv bs) ∧ Below w.heap.size w w' := by
  obtain ⟨i, hi, hz0, hz1, hz2⟩ := info_parts info_u8
  have hq := fun (w : World) (A : Option Addr) (n c : Nat) => Lib.run_eql_slice_nil (P := Tryz.prog) w 22 5 A n c 0 0 Tryz.underlying22
  go_enter Tryz.func41, Tryz.ntmps41
  go_wp2_with (at_builtin; refine wpList_app _ rfl (.tmp 5) (.tmp 6) 22 rfl w.heap.size 5 i _ 1 Tryz.underlying22 hi hz0 hz1 hz2 rfl _ 0 [] rfl (own_empty w (Nat.le_refl _) _) A n c (bv bs) rfl (hS.alloc _) (bv_one bs) (by omega) (by omega) (by simp) ?_)
  · go_ret
    rename_i hA
    have hA' : A = none := by simpa using hA
    have hn : n = 0 := by
      rcases Nat.eq_zero_or_pos n with h | h
      · exact h
      · obtain ⟨_, _, e, _⟩ := hS.2 h
        rw [hA'] at e; cases e
    subst hn
    have hb : bv bs = [] := List.eq_nil_of_length_eq_zero hS.1
    rw [hb]
    exact ⟨none, 0, rfl, World.ownsRow_nil w _ _ 1, Below.refl _ _⟩
  · intro A' c' w' ho hg
    have HO := Lib.hid ho
    have HG := Lib.hid hg
    clear ho hg
    go_wp2
    go_ret
    have ho := HO.out
    simp only [] at ho ⊢
    refine ⟨A', c', rfl, ho, ?_⟩
    exact ((Below.refl _ _).alloc (Nat.le_refl _) _).trans (below_of_only HG.out (Nat.le_refl _) (by simp))

/-- At block g stands a feed over the bytes bs, whose row lies from block lo on and ahead of g; k were given. -/
def Feed (w : World) (g lo : Nat) (bs : List UInt8) (k : Nat) : Prop :=
  ∃ A c, Blk w g 108 #[.slice A bs.length c, .int .i64 (k : Int)] ∧ Sl w A bs.length (bv bs) ∧ bs.length ≤ c ∧ c ≤ maxLen ∧ k ≤ bs.length ∧ lo ≤ g ∧ (0 < bs.length → ∀ b o, A = some ⟨b, o, none⟩ → lo ≤ b ∧ b < g)

theorem Feed.lt {w : World} {g lo : Nat} {bs : List UInt8} {k : Nat} (h : Feed w g lo bs k) : g < w.heap.size := by
  obtain ⟨_, _, hB, _⟩ := h
  exact hB.lt
theorem Feed.le {w : World} {g lo : Nat} {bs : List UInt8} {k : Nat} (h : Feed w g lo bs k) : k ≤ bs.length := by
  obtain ⟨_, _, _, _, _, _, h, _⟩ := h
  exact h
theorem Feed.lo {w : World} {g lo : Nat} {bs : List UInt8} {k : Nat} (h : Feed w g lo bs k) : lo ≤ g := by
  obtain ⟨_, _, _, _, _, _, _, h, _⟩ := h
  exact h
theorem Feed.drewN {w : World} {g lo : Nat} {bs : List UInt8} {k : Nat} (h : Feed w g lo bs k) (n : Nat) : Feed (w.drewN n) g lo bs k := h
theorem Feed.only {S : Nat → Prop} {w w' : World} {g lo : Nat} {bs : List UInt8} {k : Nat} (h : Feed w g lo bs k) (hb : Only S w w') (hS : ∀ i, S i → i < lo ∨ g < i) : Feed w' g lo bs k := by
  obtain ⟨A, c, hB, hs, h1, h2, h3, h4, h5⟩ := h
  refine ⟨A, c, hB.only hb (fun h => ?_), hs.only hb (fun hn b o e h => ?_), h1, h2, h3, h4, h5⟩
  · have := hS g h; omega
  · have := hS b h
    have := h5 hn b o e
    omega

set_option maxHeartbeats 400000 in
theorem newFeed_any {A : Option Addr} {n c : Nat} {bs : List UInt8} {w : World} (hS : Sl w A n (bv bs)) (hm : n ≤ 1000000000) :
    Calls Tryz.prog 20 #[.slice A n c] w fun e w' =>
      ∃ g, e = .returned (.pointer (some ⟨g, 0, none⟩)) ∧ w.heap.size ≤ g ∧ Feed w' g w.heap.size bs 0 ∧ Below w.heap.size w w' := by
  go_enter Tryz.func20, Tryz.ntmps20
  go_wp2_with (go_at_call 41; refine (clone_any hS hm).mono ?_; rintro e w' ⟨A', c', rfl, ho, hb⟩; have HO := Lib.hid ho; have HB := Lib.hid hb; clear ho hb)
  go_ret
  have hl : n = bs.length := by rw [← hS.1, bv_length]
  subst hl
  obtain ⟨h1, h2, h3, h4⟩ := own_facts HO.out
  exact ⟨_, rfl, HB.out.size, ⟨A', c', Blk.fresh _ _ _, h1.alloc _, h2, h3, by omega, HB.out.size, fun _ b o e => h4 b o e⟩, HB.out.alloc HB.out.size _⟩

set_option maxHeartbeats 400000 in
theorem feed_end {g lo : Nat} {bs : List UInt8} {w : World} (h : Feed w g lo bs bs.length) :
    Calls Tryz.prog 222 #[.pointer (some ⟨g, 0, none⟩)] w fun e w' => e = .returned (.tuple #[.int .u8 0, .bool false]) ∧ ∃ d, w.drewN d = w' := by
  obtain ⟨A, c, hB, hS, h1, h2, h3, h4, h5⟩ := h
  unfold maxLen at h2
  have c0 : w.cell? ⟨g, 0, none⟩ = some (.slice A bs.length c) := hB.cell 0
  have c1 : w.cell? ⟨g, 1, none⟩ = some (.int .i64 (bs.length : Int)) := hB.cell 1
  clear hB hS h4 h5
  go_enter Tryz.func222, Tryz.ntmps222
  go_wp2
  go_quiet (fail)
  go_wp2
  go_ret2
  exact ⟨rfl, _, rfl⟩

set_option maxHeartbeats 400000 in
theorem feed_more {g lo : Nat} {bs : List UInt8} {k : Nat} {w : World} (h : Feed w g lo bs k) (hk : k < bs.length) :
    Calls Tryz.prog 222 #[.pointer (some ⟨g, 0, none⟩)] w fun e w' => e = .returned (.tuple #[.int .u8 ((bs.getD k 0).toNat : Int), .bool true]) ∧ Feed w' g lo bs (k + 1) ∧ w.grownBy w' (some g) := by
  obtain ⟨A, c, hB, hS, h1, h2, h3, h4, h5⟩ := h
  have hm := h2
  unfold maxLen at hm
  obtain ⟨b, o, rfl, hlt, hc⟩ := hS.2 (by omega)
  have hbg : b ≠ g := by have := (h5 (by omega) b o rfl).2; omega
  have c0 : w.cell? ⟨g, 0, none⟩ = some (.slice (some ⟨b, o, none⟩) bs.length c) := hB.cell 0
  have c1 : w.cell? ⟨g, 1, none⟩ = some (.int .i64 (k : Int)) := hB.cell 1
  have f1 : w.frozen? ⟨g, 1, none⟩ = false := hB.free 1
  have cx : w.cell? ⟨b, o + k, none⟩ = some (.int .u8 ((bs.getD k 0).toNat : Int)) := by rw [hc k hk, bv_get _ _ hk]
  generalize bs.getD k 0 = x at cx
  have hne : ((k : Int) == (bs.length : Int)) = false := by simp; omega
  have HB := Lib.hid hB
  have HS := Lib.hid hS
  have H5 := Lib.hid h5
  generalize hn : bs.length = n at *
  have HN := Lib.hid hn
  clear hB hS h5 hc hn
  go_enter Tryz.func222, Tryz.ntmps222
  go_wp2
  go_quiet (fail)
  go_wp2
  go_quiet (fail)
  go_wp2
  go_ret2
  refine ⟨rfl, ?_, ?_⟩
  · have hn := HN.out
    subst hn
    refine ⟨some ⟨b, o, none⟩, c, ?_, ?_, h1, h2, by omega, h4, H5.out⟩
    · exact (HB.out.drewN _).put 1 _
    · exact (HS.out.drewN _).grown (only_setCell (World.grownBy.refl _ _) (.inl rfl) _) (fun hn b' o' e => Nat.ne_of_lt (H5.out hn b' o' e).2)
  · exact only_of_drewN (only_setCell (World.grownBy.refl _ _) (.inl rfl) _)
theorem feed_method (a : Addr) (w : World) : (method 358 52 (.pointer (some a)) "Next").run Tryz.prog w = .ok (222, .pointer (some a)) w := by kernel_rfl
end Go.Proofs.YtiolfjhddbiglaaGreatDoor

/-
  A source of bytes, whatever it is: which blocks it holds, which of them a call turns, how many bytes were given.
-/
namespace Go.Proofs.YtiolfjhddbiglaaGreatDoor
open Go.RowKit

/-- a source at block f: At w bs k: of the bytes bs k were given -/
structure Sc where
  f : Nat
  At : World → List UInt8 → Nat → Prop
  hold : Nat → Prop
  turn : Nat → Prop
/-- what it owes -/
structure ScOk (S : Sc) : Prop where
  tf : ∀ i, S.turn i → S.hold i
  only : ∀ {T : Nat → Prop} {w w' : World} {bs : List UInt8} {k : Nat}, S.At w bs k → Only T w w' → (∀ i, T i → ¬ S.hold i) → S.At w' bs k
  le : ∀ {w : World} {bs : List UInt8} {k : Nat}, S.At w bs k → k ≤ bs.length
  old : ∀ {w : World} {bs : List UInt8} {k i : Nat}, S.At w bs k → S.hold i → i < w.heap.size
  more : ∀ {w : World} {bs : List UInt8} {k : Nat}, S.At w bs k → k < bs.length →
    Calls Tryz.prog 224 #[.pointer (some ⟨S.f, 0, none⟩)] w fun e w' => e = .returned (.tuple #[.int .u8 ((bs.getD k 0).toNat : Int), .bool true]) ∧ S.At w' bs (k + 1) ∧ Only S.turn w w'
  done : ∀ {w : World} {bs : List UInt8}, S.At w bs bs.length →
    Calls Tryz.prog 224 #[.pointer (some ⟨S.f, 0, none⟩)] w fun e w' => e = .returned (.tuple #[.int .u8 0, .bool false]) ∧ S.At w' bs bs.length ∧ Only S.turn w w'

/-- A packed chunk's source: of the feed's bytes all, from the place a on, m of them at most. -/
structure PkAt (p fe lo : Nat) (all : List UInt8) (a m : Nat) (w : World) (bs : List UInt8) (k : Nat) : Prop where
  bytes : bs = (all.drop a).take m
  le : k ≤ bs.length
  blk : ∃ left : Nat, Blk w p 178 #[.iface 52 (.pointer (some ⟨fe, 0, none⟩)), .int .i64 (left : Int)] ∧ (k < bs.length → left = m - k) ∧ left ≤ m - k
  feed : Feed w fe lo all (a + k)
  am : m ≤ 1000000
  apart : lo ≤ fe ∧ fe < p
def pkSc (p fe lo : Nat) (all : List UInt8) (a m : Nat) : Sc := ⟨p, PkAt p fe lo all a m, fun i => i = p ∨ (lo ≤ i ∧ i ≤ fe), fun i => i = p ∨ i = fe⟩

theorem pk_bytes {all bs : List UInt8} {a m k : Nat} (h : bs = (all.drop a).take m) (hk : k < bs.length) : k < m ∧ a + k < all.length ∧ all.getD (a + k) 0 = bs.getD k 0 := by
  have hl : bs.length = min m (all.length - a) := by rw [h, List.length_take, List.length_drop]
  refine ⟨by omega, by omega, ?_⟩
  rw [h, List.getD_eq_getElem?_getD, List.getD_eq_getElem?_getD, List.getElem?_take_of_lt (by omega), List.getElem?_drop]

set_option maxRecDepth 100000 in
set_option maxHeartbeats 2000000 in
theorem pk_more {p fe lo : Nat} {all bs : List UInt8} {a m k : Nat} {w : World} (h : PkAt p fe lo all a m w bs k) (hk : k < bs.length) :
    Calls Tryz.prog 224 #[.pointer (some ⟨p, 0, none⟩)] w fun e w' => e = .returned (.tuple #[.int .u8 ((bs.getD k 0).toNat : Int), .bool true]) ∧ PkAt p fe lo all a m w' bs (k + 1) ∧ Only (fun i => i = p ∨ i = fe) w w' := by
  obtain ⟨left, hB, hl1, hl2⟩ := h.blk
  obtain ⟨g1, g2, g3⟩ := pk_bytes h.bytes hk
  have hleft := hl1 hk
  have ham := h.am
  have hap := h.apart
  have c0 : w.cell? ⟨p, 0, none⟩ = some (.iface 52 (.pointer (some ⟨fe, 0, none⟩))) := hB.cell 0
  have c1 : w.cell? ⟨p, 1, none⟩ = some (.int .i64 (left : Int)) := hB.cell 1
  have z1 := hB.free 1
  have hz : ((left : Int) == 0) = false := by simp; omega
  have e1 : IntKind.i64.wrap ((left : Int) - 1) = (left : Int) - 1 := IntWalk.i64_in _ (by omega)
  have hOp := (Only.refl (fun i => i = p) w).setCell (p := ⟨p, 1, none⟩) (.inl rfl) (.int .i64 ((left : Int) - 1))
  have hB1 := hB.put 1 (.int .i64 ((left : Int) - 1))
  have hF1 := h.feed.only hOp (fun i hi => by omega)
  have KF := feed_more hF1 g2
  rw [g3] at KF
  have KF := Lib.hid KF
  have hm := feed_method
  have HH := Lib.hid (And.intro h (And.intro hOp (And.intro hB1 (show (left : Int) - 1 = ((left - 1 : Nat) : Int) ∧ left - 1 = m - (k + 1) by omega))))
  have HK := Lib.hid hk
  generalize bs.getD k 0 = x at *
  clear h hB hl1 hl2 g1 g2 g3 hleft ham hap hOp hB1 hF1 hk
  go_enter Tryz.func224, Tryz.ntmps224
  go_wp2_with fail
  refine KF.out.mono ?_
  rintro e w1 ⟨rfl, hF2, hg2⟩
  have HF2 := Lib.hid (And.intro hF2 hg2)
  clear hF2 hg2 KF c0 c1
  go_wp2_with fail
  go_ret2
  obtain ⟨h, hOp, hB1, e2, e3⟩ := HH.out
  obtain ⟨hF2, hg2⟩ := HF2.out
  have hap := h.apart
  have hk := HK.out
  have hB2 := hB1.grown hg2 (fun e => by injection e with e; omega)
  rw [e2] at hB2
  refine ⟨rfl, ⟨h.bytes, hk, ⟨left - 1, hB2, fun _ => e3, by omega⟩, by rw [show a + (k + 1) = a + k + 1 by omega]; exact hF2, h.am, h.apart⟩, (hOp.mono fun i hi => .inl hi).trans ((Only.of_grown (S := fun i => i = fe) hg2 rfl).mono fun i hi => .inr hi)⟩

set_option maxRecDepth 100000 in
set_option maxHeartbeats 2000000 in
theorem pk_done {p fe lo : Nat} {all bs : List UInt8} {a m : Nat} {w : World} (h : PkAt p fe lo all a m w bs bs.length) :
    Calls Tryz.prog 224 #[.pointer (some ⟨p, 0, none⟩)] w fun e w' => e = .returned (.tuple #[.int .u8 0, .bool false]) ∧ PkAt p fe lo all a m w' bs bs.length ∧ Only (fun i => i = p ∨ i = fe) w w' := by
  obtain ⟨left, hB, hl1, hl2⟩ := h.blk
  have ham := h.am
  have hap := h.apart
  have c0 : w.cell? ⟨p, 0, none⟩ = some (.iface 52 (.pointer (some ⟨fe, 0, none⟩))) := hB.cell 0
  have c1 : w.cell? ⟨p, 1, none⟩ = some (.int .i64 (left : Int)) := hB.cell 1
  have z1 := hB.free 1
  have hl : bs.length = min m (all.length - a) := by rw [h.bytes, List.length_take, List.length_drop]
  by_cases h0 : left = 0
  · subst h0
    change w.cell? ⟨p, 1, none⟩ = some (.int .i64 0) at c1
    have HH := Lib.hid h
    clear h hB hl1 hl2 ham hap hl
    go_enter Tryz.func224, Tryz.ntmps224
    go_wp2_with fail
    go_ret2
    exact ⟨rfl, HH.out, Only.refl _ _⟩
  · have hz : ((left : Int) == 0) = false := by simp; omega
    have e1 : IntKind.i64.wrap ((left : Int) - 1) = (left : Int) - 1 := IntWalk.i64_in _ (by omega)
    have hOp := (Only.refl (fun i => i = p) w).setCell (p := ⟨p, 1, none⟩) (.inl rfl) (.int .i64 ((left : Int) - 1))
    have hB1 := hB.put 1 (.int .i64 ((left : Int) - 1))
    have hF1 := h.feed.only hOp (fun i hi => by omega)
    have hle := h.feed.le
    have hend : a + bs.length = all.length := by omega
    rw [hend] at hF1
    have KF := Lib.hid (feed_end hF1)
    have hm := feed_method
    have HH := Lib.hid (And.intro h (And.intro hOp (And.intro hB1 (And.intro hF1 (And.intro hend (show (left : Int) - 1 = ((left - 1 : Nat) : Int) ∧ left - 1 ≤ m - bs.length by omega))))))
    clear h hB hl1 hl2 ham hap hOp hB1 hF1 hle hend hl h0
    go_enter Tryz.func224, Tryz.ntmps224
    go_wp2_with fail
    refine KF.out.mono ?_
    rintro e w1 ⟨rfl, n, rfl⟩
    clear KF c0 c1
    go_wp2_with fail
    go_ret2
    obtain ⟨h, hOp, hB1, hF1, hend, e2, e3⟩ := HH.out
    rw [e2] at hB1 hOp hF1 ⊢
    exact ⟨rfl, ⟨h.bytes, h.le, ⟨left - 1, hB1.drewN n, fun hh => absurd hh (Nat.lt_irrefl _), e3⟩, by rw [hend]; exact hF1.drewN n, h.am, h.apart⟩, (hOp.mono fun i hi => .inl hi).drewN n⟩

theorem pk_ok {p fe lo : Nat} {all : List UInt8} {a m : Nat} (hlo : lo ≤ fe) : ScOk (pkSc p fe lo all a m) where
  tf i hi := hi.elim .inl (fun e => .inr (by subst e; exact ⟨hlo, Nat.le_refl _⟩))
  only := by
    intro T w w' bs k h hO hT
    obtain ⟨left, hB, hl1, hl2⟩ := h.blk
    refine ⟨h.bytes, h.le, ⟨left, hB.only hO (fun hh => hT _ hh (.inl rfl)), hl1, hl2⟩, h.feed.only hO (fun i hi => ?_), h.am, h.apart⟩
    have h1 : ¬ (lo ≤ i ∧ i ≤ fe) := fun hh => hT i hi (.inr hh)
    omega
  le h := h.le
  old := by
    intro w bs k i h hi
    obtain ⟨left, hB, _⟩ := h.blk
    rcases hi with rfl | ⟨_, hi⟩
    · exact hB.lt
    · have := h.feed.lt
      omega
  more h hk := pk_more h hk
  done h := pk_done h
end Go.Proofs.YtiolfjhddbiglaaGreatDoor

/-
  The range decoder as numbers: bad, or its range, its code, and the bytes that it has not asked for.
-/
namespace Go.Proofs.YtiolfjhddbiglaaGreatDoor

abbrev Dc := Option (Nat × Nat × List UInt8)

/-- evened out -/
def lvl (r c : Nat) (s : List UInt8) : Dc :=
  if r < 16777216 then
    match s with
    | [] => none
    | b :: t => some (r * 256, c * 256 + b.toNat, t)
  else some (r, c, s)

/-- five bytes make a decoder -/
def started : List UInt8 → Dc
  | z :: a :: b :: c :: d :: t =>
    if z.toNat = 0 ∧ ((a.toNat * 256 + b.toNat) * 256 + c.toNat) * 256 + d.toNat < 4294967295 then some (4294967295, ((a.toNat * 256 + b.toNat) * 256 + c.toNat) * 256 + d.toNat, t) else none
  | _ => none

def DcOk (d : Dc) : Prop := ∀ r c s, d = some (r, c, s) → 16777216 ≤ r ∧ r < 4294967296 ∧ c < r
def POk (p : Nat) : Prop := 31 ≤ p ∧ p ≤ 2017
def PsOk (ps : List Nat) : Prop := ∀ p ∈ ps, POk p

theorem dcOk_none : DcOk none := fun _ _ _ h => by cases h
theorem dcOk_started (s : List UInt8) : DcOk (started s) := by
  intro r c t h
  unfold started at h
  split at h
  · split at h
    · injection h with h
      injection h with h1 h
      injection h with h2 h3
      omega
    · cases h
  · cases h

theorem dcOk_lvl {r c : Nat} {s : List UInt8} (h0 : 65536 ≤ r) (h1 : r < 4294967296) (h2 : c < r) : DcOk (lvl r c s) := by
  intro r' c' s' h
  unfold lvl at h
  split at h
  · split at h
    · cases h
    · rename_i b t
      have := b.toNat_lt
      injection h with h
      injection h with h3 h
      injection h with h4 h5
      omega
  · injection h with h
    injection h with h3 h
    injection h with h4 h5
    omega

def up0 (p : Nat) : Nat := p + (2048 - p) / 32
def up1 (p : Nat) : Nat := p - p / 32
theorem pOk_up0 {p : Nat} (h : POk p) : POk (up0 p) := by unfold POk up0 at *; omega
theorem pOk_up1 {p : Nat} (h : POk p) : POk (up1 p) := by unfold POk up1 at *; omega
theorem pOk_fresh : POk 1024 := by unfold POk; omega

/-- a bit, its probability then, and the decoder -/
def bitD (d : Dc) (p : Nat) : Nat × Nat × Dc :=
  match d with
  | none => (0, p, none)
  | some (r, c, s) =>
    if c < r / 2048 * p then (0, up0 p, lvl (r / 2048 * p) c s)
    else
      match lvl (r - r / 2048 * p) (c - r / 2048 * p) s with
      | none => (0, up1 p, none)
      | some t => (1, up1 p, some t)

theorem bound_in {r p : Nat} (h0 : 16777216 ≤ r) (h1 : r < 4294967296) (hp : POk p) : 253952 ≤ r / 2048 * p ∧ r / 2048 * p + 253952 ≤ r := by
  obtain ⟨p0, p1⟩ := hp
  have a : 8192 ≤ r / 2048 := by omega
  have b : r / 2048 * 2048 ≤ r := by omega
  have c : r / 2048 * 31 ≤ r / 2048 * p := Nat.mul_le_mul_left _ p0
  have d : r / 2048 * p ≤ r / 2048 * 2017 := Nat.mul_le_mul_left _ p1
  omega

theorem bitD_ok {d : Dc} {p : Nat} (hd : DcOk d) (hp : POk p) : (bitD d p).1 ≤ 1 ∧ POk (bitD d p).2.1 ∧ DcOk (bitD d p).2.2 := by
  unfold bitD
  split
  · exact ⟨by simp, hp, dcOk_none⟩
  · rename_i r c s
    obtain ⟨h0, h1, h2⟩ := hd r c s rfl
    obtain ⟨b0, b1⟩ := bound_in h0 h1 hp
    generalize r / 2048 * p = b at *
    by_cases hc : c < b
    · rw [if_pos hc]
      exact ⟨by simp, pOk_up0 hp, dcOk_lvl (by omega) (by omega) hc⟩
    · rw [if_neg hc]
      have hl : DcOk (lvl (r - b) (c - b) s) := dcOk_lvl (by omega) (by omega) (by omega)
      split
      · exact ⟨by simp, pOk_up1 hp, dcOk_none⟩
      · rename_i t ht
        rw [ht] at hl
        exact ⟨by simp, pOk_up1 hp, hl⟩

/-- a bit told straight: the range is halved -/
def oneD (d : Dc) : Nat × Dc :=
  match d with
  | none => (0, none)
  | some (r, c, s) =>
    if c < r / 2 then (0, lvl (r / 2) c s)
    else if c - r / 2 < r / 2 then (1, lvl (r / 2) (c - r / 2) s) else (0, none)

theorem oneD_ok {d : Dc} (hd : DcOk d) : (oneD d).1 ≤ 1 ∧ DcOk (oneD d).2 := by
  unfold oneD
  split
  · exact ⟨by simp, dcOk_none⟩
  · rename_i r c s
    obtain ⟨h0, h1, h2⟩ := hd r c s rfl
    split
    · rename_i hc
      exact ⟨by simp, dcOk_lvl (by omega) (by omega) hc⟩
    · split
      · rename_i hc
        exact ⟨by simp, dcOk_lvl (by omega) (by omega) hc⟩
      · exact ⟨by simp, dcOk_none⟩

/-- n bits straight -/
def straightGo (d : Dc) : Nat → Nat × Dc
  | 0 => (0, d)
  | n + 1 => (2 * (straightGo d n).1 + (oneD (straightGo d n).2).1, (oneD (straightGo d n).2).2)
def straightD (n : Nat) (d : Dc) : Nat × Dc := (if (straightGo d n).2 = none then 0 else (straightGo d n).1, (straightGo d n).2)

theorem straightGo_ok {d : Dc} (hd : DcOk d) (n : Nat) : DcOk (straightGo d n).2 ∧ (straightGo d n).1 < 2 ^ n := by
  induction n with
  | zero => exact ⟨hd, by simp [straightGo]⟩
  | succ n ih =>
    obtain ⟨h1, h2⟩ := oneD_ok ih.1
    refine ⟨h2, ?_⟩
    show 2 * (straightGo d n).1 + _ < _
    have := ih.2
    rw [Nat.pow_succ]
    omega
theorem straightGo_none (n : Nat) : (straightGo none n).2 = none := by
  induction n with
  | zero => rfl
  | succ n ih => show (oneD (straightGo none n).2).2 = none; rw [ih]; rfl
theorem straightD_none (n : Nat) : straightD n none = (0, none) := by
  unfold straightD
  rw [straightGo_none, if_pos rfl]
theorem straightD_ok {n : Nat} {d : Dc} (hd : DcOk d) : DcOk (straightD n d).2 ∧ (straightD n d).1 < 2 ^ n := by
  have h := straightGo_ok hd n
  unfold straightD
  refine ⟨h.1, ?_⟩
  show (if _ then _ else _) < _
  split
  · exact Nat.two_pow_pos n
  · exact h.2

/-- a tree on its way: the number that its bits make; the bits the other way round, and what the next one weighs; the probabilities; the decoder -/
structure Tr where
  m : Nat
  o : Nat
  v : Nat
  ps : List Nat
  d : Dc

def Tr.bit (t : Tr) (a : Nat) : Nat × Nat × Dc := bitD t.d (t.ps.getD (a + t.m) 0)
def Tr.step (a : Nat) (t : Tr) : Tr := ⟨2 * t.m + (t.bit a).1, t.o + (t.bit a).1 * t.v, 2 * t.v, t.ps.set (a + t.m) (t.bit a).2.1, (t.bit a).2.2⟩
def Tr.go (a : Nat) (t : Tr) : Nat → Tr
  | 0 => t
  | n + 1 => (Tr.go a t n).step a
def Tr.begin (ps : List Nat) (d : Dc) : Tr := ⟨1, 0, 1, ps, d⟩

theorem set_same_get (ps : List Nat) (i : Nat) (h : i < ps.length) : ps.set i (ps.getD i 0) = ps := by
  refine List.ext_getElem? fun j => ?_
  rw [List.getElem?_set]
  split
  · rename_i hij
    subst hij
    simp [h, List.getD]
  · rfl
theorem getD_ok {ps : List Nat} (h : PsOk ps) {i : Nat} (hi : i < ps.length) : POk (ps.getD i 0) := by
  have : ps.getD i 0 = ps[i] := by simp [List.getD, hi]
  rw [this]
  exact h _ (List.getElem_mem hi)
theorem psOk_set {ps : List Nat} (h : PsOk ps) (i : Nat) {p : Nat} (hp : POk p) : PsOk (ps.set i p) := by
  intro q hq
  rcases List.mem_or_eq_of_mem_set hq with h1 | h1
  · exact h q h1
  · rw [h1]; exact hp

/-- what is told of a question, the probabilities, the decoder -/
def askD (ps : List Nat) (d : Dc) (k a n : Nat) : Nat × List Nat × Dc :=
  if k = 0 then ((bitD d (ps.getD a 0)).1, ps.set a (bitD d (ps.getD a 0)).2.1, (bitD d (ps.getD a 0)).2.2)
  else if k = 3 then ((straightD n d).1, ps, (straightD n d).2)
  else (if (Tr.go a (Tr.begin ps d) n).d = none then 0 else if k = 1 then (Tr.go a (Tr.begin ps d) n).m - 2 ^ n else (Tr.go a (Tr.begin ps d) n).o, (Tr.go a (Tr.begin ps d) n).ps, (Tr.go a (Tr.begin ps d) n).d)

/-- a question that may be asked, with 600 probabilities -/
def RightD (k a n : Nat) : Prop := (k = 0 ∧ a < 600) ∨ ((k = 1 ∨ k = 2) ∧ a < 340 ∧ 1 ≤ n ∧ n ≤ 8) ∨ (k = 3 ∧ n ≤ 32)

theorem pow8 {n : Nat} (h : n ≤ 8) : 2 ^ n ≤ 256 := Nat.le_trans (Nat.pow_le_pow_right (by omega) h) (by decide)

/-- with more bytes behind -/
def ext (more : List UInt8) (d : Dc) : Dc := d.map fun x => (x.1, x.2.1, x.2.2 ++ more)

theorem ext_some (more : List UInt8) (r c : Nat) (s : List UInt8) : ext more (some (r, c, s)) = some (r, c, s ++ more) := rfl
theorem lvl_ext {r c : Nat} {s more : List UInt8} (h : lvl r c s ≠ none) : lvl r c (s ++ more) = ext more (lvl r c s) := by
  unfold lvl at *
  split
  · rename_i hr
    rw [if_pos hr] at h
    cases s with
    | nil => exact absurd rfl h
    | cons b t => rfl
  · rfl
theorem bitD_ext {d : Dc} {p : Nat} {more : List UInt8} (h : (bitD d p).2.2 ≠ none) : bitD (ext more d) p = ((bitD d p).1, (bitD d p).2.1, ext more (bitD d p).2.2) := by
  cases d with
  | none => exact absurd rfl h
  | some x =>
    obtain ⟨r, c, s⟩ := x
    rw [ext_some]
    unfold bitD at *
    simp only [] at *
    split
    · rename_i hc
      rw [if_pos hc] at h
      rw [lvl_ext h]
    · rename_i hc
      rw [if_neg hc] at h
      have hn : lvl (r - r / 2048 * p) (c - r / 2048 * p) s ≠ none := by
        intro h0
        rw [h0] at h
        exact h rfl
      rw [lvl_ext hn]
      cases hl : lvl (r - r / 2048 * p) (c - r / 2048 * p) s with
      | none => exact absurd hl hn
      | some t => rfl
theorem oneD_ext {d : Dc} {more : List UInt8} (h : (oneD d).2 ≠ none) : oneD (ext more d) = ((oneD d).1, ext more (oneD d).2) := by
  cases d with
  | none => exact absurd rfl h
  | some x =>
    obtain ⟨r, c, s⟩ := x
    rw [ext_some]
    unfold oneD at *
    simp only [] at *
    split
    · rename_i hc
      rw [if_pos hc] at h
      rw [lvl_ext h]
    · rename_i hc
      rw [if_neg hc] at h
      split
      · rename_i hc2
        rw [if_pos hc2] at h
        rw [lvl_ext h]
      · rename_i hc2
        rw [if_neg hc2] at h
        exact absurd rfl h
theorem straightGo_ext {d : Dc} {more : List UInt8} : ∀ n, (straightGo d n).2 ≠ none → straightGo (ext more d) n = ((straightGo d n).1, ext more (straightGo d n).2)
  | 0, _ => rfl
  | n + 1, h => by
    have h0 : (straightGo d n).2 ≠ none := by
      intro h0
      apply h
      show (oneD (straightGo d n).2).2 = none
      rw [h0]
      rfl
    have ih := straightGo_ext (more := more) n h0
    show (2 * (straightGo (ext more d) n).1 + (oneD (straightGo (ext more d) n).2).1, (oneD (straightGo (ext more d) n).2).2) = _
    rw [ih, oneD_ext h]
    rfl
theorem tr_ext {ps : List Nat} {d : Dc} {a : Nat} {more : List UInt8} : ∀ n, (Tr.go a (Tr.begin ps d) n).d ≠ none →
    Tr.go a (Tr.begin ps (ext more d)) n = { Tr.go a (Tr.begin ps d) n with d := ext more (Tr.go a (Tr.begin ps d) n).d }
  | 0, _ => rfl
  | n + 1, h => by
    have h0 : (Tr.go a (Tr.begin ps d) n).d ≠ none := by
      intro h0
      apply h
      show (bitD (Tr.go a (Tr.begin ps d) n).d _).2.2 = none
      rw [h0]
      rfl
    have ih := tr_ext (more := more) n h0
    show Tr.step a (Tr.go a (Tr.begin ps (ext more d)) n) = _
    rw [ih]
    have hb := bitD_ext (d := (Tr.go a (Tr.begin ps d) n).d) (p := (Tr.go a (Tr.begin ps d) n).ps.getD (a + (Tr.go a (Tr.begin ps d) n).m) 0) (more := more) h
    unfold Tr.step Tr.bit
    simp only []
    rw [hb]
    rfl
/-- of bytes 0, j steps gone: how many bytes were asked for at most, and the least range -/
def ZOk (j : Nat) (d : Dc) : Prop :=
  ∃ r k i, d = some (r, 0, List.replicate (2995 - k) 0) ∧ i ≤ 6 ∧ 7 * k + i ≤ j ∧ 16781312 * 2 ^ (6 - i) ≤ r + 4096 ∧ r < 4294967296
def PZ (p : Nat) : Prop := 1024 ≤ p ∧ p ≤ 2017

theorem ZOk.mono {j j' : Nat} {d : Dc} (h : ZOk j d) (hj : j ≤ j') : ZOk j' d := by
  obtain ⟨r, k, i, h1, h2, h3, h4⟩ := h
  exact ⟨r, k, i, h1, h2, by omega, h4⟩
theorem pow6 (i : Nat) : 1 ≤ 2 ^ (6 - i) := Nat.two_pow_pos _

theorem zlvl {j r k i r' : Nat} (hj : j ≤ 16100) (h2 : i ≤ 6) (h3 : 7 * k + i ≤ j) (h4 : 16781312 * 2 ^ (6 - i) ≤ r + 4096) (h5 : r < 4294967296) (h6 : r ≤ 2 * r' + 2049) (h7 : r' ≤ r) :
    ZOk (j + 1) (lvl r' 0 (List.replicate (2995 - k) 0)) := by
  unfold lvl
  by_cases hi : i < 6
  · have e : 2 ^ (6 - i) = 2 * 2 ^ (6 - (i + 1)) := by
      rw [show 6 - i = (6 - (i + 1)) + 1 by omega, Nat.pow_succ, Nat.mul_comm]
    have := pow6 (i + 1)
    rw [e] at h4
    obtain ⟨y, hy⟩ : ∃ y, y = 2 ^ (6 - (i + 1)) := ⟨_, rfl⟩
    rw [← hy] at h4 this
    rw [if_neg (by omega)]
    exact ⟨r', k, i + 1, rfl, by omega, by omega, by rw [← hy]; omega, by omega⟩
  · have hi6 : i = 6 := by omega
    subst hi6
    have e : 2 ^ (6 - 6) = 1 := rfl
    rw [e] at h4
    by_cases hr : r' < 16777216
    · rw [if_pos hr]
      obtain ⟨z, hz⟩ : ∃ z, 2995 - k = z + 1 := ⟨2995 - k - 1, by omega⟩
      rw [hz, List.replicate_succ]
      refine ⟨r' * 256, k + 1, 0, ?_, by omega, by omega, ?_, by omega⟩
      · rw [show 2995 - (k + 1) = z by omega]
        rfl
      · show 16781312 * 64 ≤ _
        omega
    · rw [if_neg hr]
      exact ⟨r', k, 6, rfl, by omega, by omega, by rw [e]; omega, by omega⟩

theorem zOk_range {j : Nat} {d : Dc} (h : ZOk j d) : ∃ r k i, d = some (r, 0, List.replicate (2995 - k) 0) ∧ i ≤ 6 ∧ 7 * k + i ≤ j ∧ 16781312 * 2 ^ (6 - i) ≤ r + 4096 ∧ r < 4294967296 ∧ 16777216 ≤ r := by
  obtain ⟨r, k, i, h1, h2, h3, h4, h5⟩ := h
  have := pow6 i
  exact ⟨r, k, i, h1, h2, h3, h4, h5, by omega⟩

theorem zbit {j p : Nat} {d : Dc} (h : ZOk j d) (hj : j ≤ 16100) (hp : PZ p) : (bitD d p).1 = 0 ∧ PZ (bitD d p).2.1 ∧ ZOk (j + 1) (bitD d p).2.2 := by
  obtain ⟨r, k, i, rfl, h2, h3, h4, h5, h6⟩ := zOk_range h
  obtain ⟨p0, p1⟩ := hp
  have b0 : r / 2048 * 1024 ≤ r / 2048 * p := Nat.mul_le_mul_left _ p0
  have b1 : r / 2048 * p ≤ r / 2048 * 2017 := Nat.mul_le_mul_left _ p1
  have hpos : 0 < r / 2048 * p := by omega
  unfold bitD
  simp only []
  rw [if_pos hpos]
  exact ⟨rfl, (show PZ (up0 p) by unfold PZ up0; omega), zlvl hj h2 h3 h4 h5 (by omega) (by omega)⟩
theorem zone {j : Nat} {d : Dc} (h : ZOk j d) (hj : j ≤ 16100) : (oneD d).1 = 0 ∧ ZOk (j + 1) (oneD d).2 := by
  obtain ⟨r, k, i, rfl, h2, h3, h4, h5, h6⟩ := zOk_range h
  unfold oneD
  simp only []
  rw [if_pos (by omega)]
  exact ⟨rfl, zlvl hj h2 h3 h4 h5 (by omega) (by omega)⟩
theorem zstraight {j : Nat} {d : Dc} (h : ZOk j d) : ∀ n, j + n ≤ 16100 → (straightGo d n).1 = 0 ∧ ZOk (j + n) (straightGo d n).2
  | 0, _ => ⟨rfl, h⟩
  | n + 1, hn => by
    obtain ⟨h1, h2⟩ := zstraight h n (by omega)
    obtain ⟨h3, h4⟩ := zone h2 (by omega)
    refine ⟨?_, h4⟩
    show 2 * (straightGo d n).1 + (oneD (straightGo d n).2).1 = 0
    rw [h1, h3]
theorem ztree {j a n : Nat} {ps : List Nat} {d : Dc} (h : ZOk j d) (hp : ∀ p ∈ ps, PZ p) (hl : a + 2 ^ n ≤ ps.length) : ∀ i, i ≤ n → j + i ≤ 16100 →
    (Tr.go a (Tr.begin ps d) i).m = 2 ^ i ∧ (Tr.go a (Tr.begin ps d) i).o = 0 ∧ (Tr.go a (Tr.begin ps d) i).ps.length = ps.length ∧ (∀ p ∈ (Tr.go a (Tr.begin ps d) i).ps, PZ p) ∧ ZOk (j + i) (Tr.go a (Tr.begin ps d) i).d
  | 0, _, _ => ⟨rfl, rfl, rfl, hp, h⟩
  | i + 1, hi, hj => by
    obtain ⟨h1, h2, h3, h4, h5⟩ := ztree h hp hl i (by omega) (by omega)
    show (Tr.step a _).m = _ ∧ (Tr.step a _).o = _ ∧ (Tr.step a _).ps.length = _ ∧ (∀ p ∈ (Tr.step a _).ps, PZ p) ∧ ZOk (j + (i + 1)) (Tr.step a _).d
    generalize Tr.go a (Tr.begin ps d) i = t at *
    have hpow : 2 ^ (i + 1) ≤ 2 ^ n := Nat.pow_le_pow_right (by omega) hi
    have e' : 2 ^ (i + 1) = 2 * 2 ^ i := by rw [Nat.pow_succ, Nat.mul_comm]
    have := Nat.two_pow_pos i
    have hlt : a + t.m < t.ps.length := by omega
    have hg : PZ (t.ps.getD (a + t.m) 0) := by
      have : t.ps.getD (a + t.m) 0 = t.ps[a + t.m] := by simp [List.getD, hlt]
      rw [this]
      exact h4 _ (List.getElem_mem hlt)
    obtain ⟨b1, b2, b3⟩ := zbit h5 (by omega) hg
    refine ⟨?_, ?_, by simp [Tr.step, h3], ?_, b3⟩
    · show 2 * t.m + (bitD t.d _).1 = _
      rw [b1]
      omega
    · show t.o + (bitD t.d _).1 * t.v = _
      rw [b1]
      omega
    · intro p hpm
      rcases List.mem_or_eq_of_mem_set hpm with h | h
      · exact h4 p h
      · rw [h]; exact b2

end Go.Proofs.YtiolfjhddbiglaaGreatDoor

/-
  The decoder's small calls: a byte comes in, the decoder is refused, what it told.
-/
namespace Go.Proofs.YtiolfjhddbiglaaGreatDoor
open Go.RowKit

def pdCells (f r c : Nat) (bad : Bool) : Array Value := #[.iface 103 (.pointer (some ⟨f, 0, none⟩)), .int .u32 (r : Int), .int .u32 (c : Int), .bool bad]

/-- what state cells tell -/
def Told (bs : List UInt8) (d : Dc) (at_ r k : Nat) (bad : Bool) : Prop :=
  at_ ≤ bs.length ∧ r < 4294967296 ∧ k < 4294967296 ∧ ((bad = true ∧ d = none) ∨ (bad = false ∧ d = some (r, k, bs.drop at_)))

/-- Block g is the decoder over the source S; its state is d. -/
def Pd (w : World) (g : Nat) (S : Sc) (bs : List UInt8) (d : Dc) : Prop :=
  ∃ at_ r c bad, Blk w g 228 (pdCells S.f r c bad) ∧ S.At w bs at_ ∧ ¬ S.hold g ∧ Told bs d at_ r c bad

/-- the decoder's own blocks, and those that its source turns -/
def two (S : Sc) (g : Nat) : Nat → Prop := fun i => S.turn i ∨ i = g
theorem u32_of (x : Int) (h0 : 0 ≤ x) (h : x < 4294967296) : IntKind.u32.wrap x = x := by
  simp [IntKind.wrap, IntKind.bits, IntKind.signed]; omega
theorem u32_or_byte (c x : Nat) (hc : c < 16777216) (hx : x < 256) : bits .or .u32 ((c : Int) * 256) (x : Int) = ((c * 256 + x : Nat) : Int) := by
  rw [show (c : Int) * 256 = ((c * 256 : Nat) : Int) by omega, u32_or_nat _ _ (by omega) (by omega)]
  congr 1
  rw [Nat.or_comm]
  exact nat_join 8 (c * 256) x (by omega) (by omega) |> fun h => by rw [Nat.or_comm]; exact h

theorem method_next (a : Addr) (w : World) : (method 358 103 (.pointer (some a)) "Next").run Tryz.prog w = .ok (224, .pointer (some a)) w := by kernel_rfl

section
variable {g r c at_ : Nat} {w : World} {bs : List UInt8} {S : Sc}

set_option maxHeartbeats 1000000 in
theorem shift_bad {f : Nat} (hB : Blk w g 228 (pdCells f r c true)) :
    Calls Tryz.prog 176 #[.pointer (some ⟨g, 0, none⟩)] w fun e w' => e = .returned (.tuple #[]) ∧ w = w' := by
  have h3 : w.cell? ⟨g, 3, none⟩ = some (.bool true) := hB.cell 3
  clear hB
  go_enter Tryz.func176, Tryz.ntmps176
  go_wp2_with fail
  first | go_end0 | refine bodyPost_ret (results_none rfl _ _ _) rfl ?_
  exact ⟨rfl, rfl⟩

theorem not_turn {S : Sc} {g : Nat} (hS : ScOk S) (hg : ¬ S.hold g) : ¬ S.turn g := fun h => hg (hS.tf _ h)

set_option maxHeartbeats 1000000 in
theorem shift_end (hS : ScOk S) (hB : Blk w g 228 (pdCells S.f r c false)) (hF : S.At w bs bs.length) (hg : ¬ S.hold g) :
    Calls Tryz.prog 176 #[.pointer (some ⟨g, 0, none⟩)] w fun e w' => e = .returned (.tuple #[]) ∧ Blk w' g 228 (pdCells S.f r c true) ∧ S.At w' bs bs.length ∧ Only (two S g) w w' := by
  have h3 : w.cell? ⟨g, 3, none⟩ = some (.bool false) := hB.cell 3
  have h0 : w.cell? ⟨g, 0, none⟩ = some (.iface 103 (.pointer (some ⟨S.f, 0, none⟩))) := hB.cell 0
  have K := Lib.hid (hS.done hF)
  have hm := method_next
  have HB := Lib.hid (And.intro hB (And.intro hg hS))
  clear hB hF hg hS
  go_enter Tryz.func176, Tryz.ntmps176
  go_wp2_with fail
  refine K.out.mono ?_
  rintro e w1 ⟨rfl, hF1, hO1⟩
  have hB1 := HB.out.1.only hO1 (not_turn HB.out.2.2 HB.out.2.1)
  have c3 : w1.cell? ⟨g, 3, none⟩ = some (.bool false) := hB1.cell 3
  have f3 : w1.frozen? ⟨g, 3, none⟩ = false := hB1.free 3
  have HF1 := Lib.hid (And.intro hF1 (And.intro hO1 hB1))
  clear hF1 hO1 hB1 h3 h0 K
  go_wp2_with fail
  first | go_end0 | refine bodyPost_ret (results_none rfl _ _ _) rfl ?_
  obtain ⟨hF1, hO1, hB1⟩ := HF1.out
  exact ⟨rfl, hB1.put 3 _, HB.out.2.2.only hF1 ((Only.refl (fun i => i = g) w1).setCell (p := ⟨g, 3, none⟩) (.inl rfl) _) (fun i hi => hi ▸ HB.out.2.1), (hO1.mono fun i hi => .inl hi).setCell (p := ⟨g, 3, none⟩) (.inl (.inr rfl)) _⟩

set_option maxHeartbeats 1000000 in
theorem shift_more (hS : ScOk S) (hB : Blk w g 228 (pdCells S.f r c false)) (hF : S.At w bs at_) (hg : ¬ S.hold g) (ha : at_ < bs.length) (hc : c < 16777216) :
    Calls Tryz.prog 176 #[.pointer (some ⟨g, 0, none⟩)] w fun e w' => e = .returned (.tuple #[]) ∧ Blk w' g 228 (pdCells S.f r (c * 256 + (bs.getD at_ 0).toNat) false) ∧ S.At w' bs (at_ + 1) ∧ Only (two S g) w w' := by
  have h3 : w.cell? ⟨g, 3, none⟩ = some (.bool false) := hB.cell 3
  have h0 : w.cell? ⟨g, 0, none⟩ = some (.iface 103 (.pointer (some ⟨S.f, 0, none⟩))) := hB.cell 0
  have K := Lib.hid (hS.more hF ha)
  have hm := method_next
  have HB := Lib.hid (And.intro hB (And.intro hg hS))
  clear hB hF hg hS
  have hx := (bs.getD at_ 0).toNat_lt
  generalize bs.getD at_ 0 = x at *
  have e1 : IntKind.u32.wrap ((c : Int) * 256) = (c : Int) * 256 := u32_of _ (by omega) (by omega)
  have e2 := u32_or_byte c x.toNat hc (by omega)
  have e3 : IntKind.u32.wrap (x.toNat : Int) = (x.toNat : Int) := u32_of _ (by omega) (by omega)
  go_enter Tryz.func176, Tryz.ntmps176
  go_wp2_with fail
  refine K.out.mono ?_
  rintro e w1 ⟨rfl, hF1, hO1⟩
  have hB1 := HB.out.1.only hO1 (not_turn HB.out.2.2 HB.out.2.1)
  have j2 : w1.cell? ⟨g, 2, none⟩ = some (.int .u32 (c : Int)) := hB1.cell 2
  have z2 : w1.frozen? ⟨g, 2, none⟩ = false := hB1.free 2
  have HF1 := Lib.hid (And.intro hF1 (And.intro hO1 hB1))
  clear hF1 hO1 hB1 h0 h3 K
  go_wp2_with fail
  first | go_end0 | refine bodyPost_ret (results_none rfl _ _ _) rfl ?_
  obtain ⟨hF1, hO1, hB1⟩ := HF1.out
  exact ⟨rfl, hB1.put 2 _, HB.out.2.2.only hF1 ((Only.refl (fun i => i = g) w1).setCell (p := ⟨g, 2, none⟩) (.inl rfl) _) (fun i hi => hi ▸ HB.out.2.1), (hO1.mono fun i hi => .inl hi).setCell (p := ⟨g, 2, none⟩) (.inl (.inr rfl)) _⟩

set_option maxHeartbeats 1000000 in
theorem refuse_any {f : Nat} {bad so : Bool} (hB : Blk w g 228 (pdCells f r c bad)) :
    Calls Tryz.prog 177 #[.pointer (some ⟨g, 0, none⟩), .bool so] w fun e w' => e = .returned (.tuple #[]) ∧ Blk w' g 228 (pdCells f r c (bad || so)) ∧ w.grownBy w' (some g) := by
  have h3 : w.cell? ⟨g, 3, none⟩ = some (.bool bad) := hB.cell 3
  have z3 : w.frozen? ⟨g, 3, none⟩ = false := hB.free 3
  have HB := Lib.hid hB
  clear hB
  cases bad
  · go_enter Tryz.func177, Tryz.ntmps177
    go_wp2_with fail
    first | go_end0 | refine bodyPost_ret (results_none rfl _ _ _) rfl ?_
    exact ⟨rfl, HB.out.put 3 _, only_setCell (World.grownBy.refl w _) (.inl rfl) _⟩
  · go_enter Tryz.func177, Tryz.ntmps177
    go_wp2_with fail
    first | go_end0 | refine bodyPost_ret (results_none rfl _ _ _) rfl ?_
    exact ⟨rfl, HB.out.put 3 _, only_setCell (World.grownBy.refl w _) (.inl rfl) _⟩

set_option maxHeartbeats 1000000 in
theorem told_any {f : Nat} {bad : Bool} {x : Int} (hB : Blk w g 228 (pdCells f r c bad)) :
    Calls Tryz.prog 179 #[.pointer (some ⟨g, 0, none⟩), .int .i64 x] w fun e w' => e = .returned (.int .i64 (if bad = true then 0 else x)) ∧ w = w' := by
  have h3 : w.cell? ⟨g, 3, none⟩ = some (.bool bad) := hB.cell 3
  clear hB
  cases bad
  all_goals
    go_enter Tryz.func179, Tryz.ntmps179
    go_wp2_with fail
    go_ret
    exact ⟨rfl, rfl⟩

set_option maxHeartbeats 1000000 in
theorem bad_any {f : Nat} {bad : Bool} (hB : Blk w g 228 (pdCells f r c bad)) :
    Calls Tryz.prog 133 #[.pointer (some ⟨g, 0, none⟩)] w fun e w' => e = .returned (.bool bad) ∧ w = w' := by
  have h3 : w.cell? ⟨g, 3, none⟩ = some (.bool bad) := hB.cell 3
  clear hB
  go_enter Tryz.func133, Tryz.ntmps133
  go_wp2_with fail
  go_ret
  exact ⟨rfl, rfl⟩

set_option maxHeartbeats 1000000 in
theorem done_any {f : Nat} {bad : Bool} (hB : Blk w g 228 (pdCells f r c bad)) :
    Calls Tryz.prog 147 #[.pointer (some ⟨g, 0, none⟩)] w fun e w' => e = .returned (.bool (!bad && decide (c = 0))) ∧ w = w' := by
  have h3 : w.cell? ⟨g, 3, none⟩ = some (.bool bad) := hB.cell 3
  have h2 : w.cell? ⟨g, 2, none⟩ = some (.int .u32 (c : Int)) := hB.cell 2
  clear hB
  cases bad
  · go_enter Tryz.func147, Tryz.ntmps147
    go_wp2_with fail
    go_ret
    exact ⟨ret_bool (by rw [Bool.eq_iff_iff]; simp), rfl⟩
  · go_enter Tryz.func147, Tryz.ntmps147
    go_wp2_with fail
    go_ret
    exact ⟨rfl, rfl⟩
end

/-- A byte comes in, ahead of which the state is not bad. -/
theorem shift_any {g r c at_ : Nat} {w : World} {bs : List UInt8} {S : Sc} (hS : ScOk S) (hB : Blk w g 228 (pdCells S.f r c false)) (hF : S.At w bs at_) (hg : ¬ S.hold g) (hc : c < 16777216) :
    Calls Tryz.prog 176 #[.pointer (some ⟨g, 0, none⟩)] w fun e w' => e = .returned (.tuple #[]) ∧
      ∃ at' c' bad', Blk w' g 228 (pdCells S.f r c' bad') ∧ S.At w' bs at' ∧ Only (two S g) w w' ∧
        ((bad' = true ∧ c' = c ∧ bs.drop at_ = []) ∨ ∃ x, bad' = false ∧ c' = c * 256 + x.toNat ∧ bs.drop at_ = x :: bs.drop at') := by
  by_cases hlt : at_ < bs.length
  · have hd : bs.drop at_ = bs[at_] :: bs.drop (at_ + 1) := List.drop_eq_getElem_cons hlt
    have hx : bs.getD at_ 0 = bs[at_] := by simp [List.getD, hlt]
    refine (shift_more hS hB hF hg hlt hc).mono ?_
    rintro e w' ⟨rfl, h1, h2, h3⟩
    rw [hx] at h1
    exact ⟨rfl, _, _, _, h1, h2, h3, .inr ⟨_, rfl, rfl, hd⟩⟩
  · have := hS.le hF
    obtain rfl : at_ = bs.length := by omega
    refine (shift_end hS hB hF hg).mono ?_
    rintro e w' ⟨rfl, h1, h2, h3⟩
    exact ⟨rfl, _, _, _, h1, h2, h3, .inl ⟨rfl, rfl, by simp⟩⟩
end Go.Proofs.YtiolfjhddbiglaaGreatDoor

/-
  The decoder is evened out, and tells a bit straight.
-/
namespace Go.Proofs.YtiolfjhddbiglaaGreatDoor
open Go.RowKit

theorem Pd.only {S : Sc} {T : Nat → Prop} {w w' : World} {g : Nat} {bs : List UInt8} {d : Dc} (hS : ScOk S) (h : Pd w g S bs d) (hb : Only T w w') (hT : ∀ i, T i → ¬ S.hold i ∧ i ≠ g) : Pd w' g S bs d := by
  obtain ⟨at_, r, c, bad, hB, hF, hg, ht⟩ := h
  exact ⟨at_, r, c, bad, hB.only hb (fun h => (hT _ h).2 rfl), hS.only hF hb (fun i hi => (hT i hi).1), hg, ht⟩
theorem Pd.drewN {S : Sc} {w : World} {g : Nat} {bs : List UInt8} {d : Dc} (hS : ScOk S) (h : Pd w g S bs d) (n : Nat) : Pd (w.drewN n) g S bs d :=
  h.only hS ((Only.refl (fun _ => False) w).drewN n) (fun _ hh => hh.elim)
theorem Pd.lt {S : Sc} {w : World} {g : Nat} {bs : List UInt8} {d : Dc} (h : Pd w g S bs d) : g < w.heap.size := by
  obtain ⟨_, _, _, _, hB, _⟩ := h
  exact hB.lt
theorem Pd.old {S : Sc} {w : World} {g i : Nat} {bs : List UInt8} {d : Dc} (hS : ScOk S) (h : Pd w g S bs d) (hi : S.hold i) : i < w.heap.size := by
  obtain ⟨_, _, _, _, _, hF, _, _⟩ := h
  exact hS.old hF hi

section
variable {g r c at_ : Nat} {w : World} {bs : List UInt8} {S : Sc}

set_option maxRecDepth 100000 in
set_option maxHeartbeats 1000000 in
theorem even_high {f : Nat} (hB : Blk w g 228 (pdCells f r c false)) (hr : ¬ r < 16777216) :
    Calls Tryz.prog 178 #[.pointer (some ⟨g, 0, none⟩)] w fun e w' => e = .returned (.tuple #[]) ∧ w = w' := by
  have h1 : w.cell? ⟨g, 1, none⟩ = some (.int .u32 (r : Int)) := hB.cell 1
  have hr' : ¬ (r : Int) < 16777216 := by omega
  clear hB
  go_enter Tryz.func178, Tryz.ntmps178
  go_wp2_with fail
  first | go_end0 | refine bodyPost_ret (results_none rfl _ _ _) rfl ?_
  exact ⟨rfl, rfl⟩

set_option maxRecDepth 100000 in
set_option maxHeartbeats 1000000 in
theorem even_any (hB : Blk w g 228 (pdCells S.f r c false)) (hS : ScOk S) (hF : S.At w bs at_) (hg : ¬ S.hold g) (hr : r < 4294967296) (hc : c ≤ r) :
    Calls Tryz.prog 178 #[.pointer (some ⟨g, 0, none⟩)] w fun e w' => e = .returned (.tuple #[]) ∧ Pd w' g S bs (lvl r c (bs.drop at_)) ∧ Only (two S g) w w' := by
  by_cases hlow : r < 16777216
  · have h1 : w.cell? ⟨g, 1, none⟩ = some (.int .u32 (r : Int)) := hB.cell 1
    have z1 : w.frozen? ⟨g, 1, none⟩ = false := hB.free 1
    have hr' : (r : Int) < 16777216 := by omega
    have e1 : IntKind.u32.wrap ((r : Int) * 256) = (r : Int) * 256 := u32_of _ (by omega) (by omega)
    have hO : Only (fun i => i = g) w (w.setCell ⟨g, 1, none⟩ (.int .u32 ((r : Int) * 256))) := (Only.refl (fun i => i = g) w).setCell (.inl rfl) _
    have hB1 : Blk (w.setCell ⟨g, 1, none⟩ (.int .u32 ((r : Int) * 256))) g 228 (pdCells S.f (r * 256) c false) := by
      have := hB.put 1 (.int .u32 ((r : Int) * 256))
      rw [← show ((r * 256 : Nat) : Int) = (r : Int) * 256 by omega] at this ⊢
      exact this
    have K := Lib.hid (shift_any hS hB1 (hS.only hF hO (fun i hi => hi ▸ hg)) hg (by omega))
    have HO := Lib.hid hO
    have hle := hS.le hF
    have HSG := Lib.hid (And.intro hS hg)
    clear hB hF hO hB1
    go_enter Tryz.func178, Tryz.ntmps178
    go_wp2_with fail
    refine K.out.mono ?_
    rintro e w1 ⟨rfl, at', c', bad', hB2, hF2, hO2, hx⟩
    have HB2 := Lib.hid hB2
    have HF2 := Lib.hid hF2
    have HO2 := Lib.hid hO2
    have HX := Lib.hid hx
    clear hB2 hF2 hO2 hx
    go_wp2_with fail
    first | go_end0 | refine bodyPost_ret (results_none rfl _ _ _) rfl ?_
    refine ⟨rfl, ⟨at', r * 256, c', bad', HB2.out, HF2.out, hg, hS.le HF2.out, by omega, ?_⟩, (HO.out.mono (fun i hi => .inr hi)).trans HO2.out⟩
    rcases HX.out with ⟨rfl, rfl, h⟩ | ⟨x, rfl, rfl, h⟩
    · refine ⟨by omega, .inl ⟨rfl, ?_⟩⟩
      unfold lvl
      rw [if_pos hlow, h]
    · have := x.toNat_lt
      refine ⟨by omega, .inr ⟨rfl, ?_⟩⟩
      unfold lvl
      rw [if_pos hlow, h]
  · refine (even_high hB hlow).mono ?_
    rintro e w' ⟨rfl, rfl⟩
    refine ⟨rfl, ⟨at_, r, c, false, hB, hF, hg, hS.le hF, hr, by omega, .inr ⟨rfl, ?_⟩⟩, Only.refl _ _⟩
    unfold lvl
    rw [if_neg hlow]

/-- Straight, and the decoder refused, if it must be. -/
def OnePost (w : World) (g : Nat) (S : Sc) (bs : List UInt8) (d : Dc) (e : Ending) (w' : World) : Prop :=
  ∃ v : Nat, e = .returned (.int .u32 (v : Int)) ∧ v ≤ 1 ∧ ((oneD d).2 ≠ none → v = (oneD d).1) ∧ Pd w' g S bs (oneD d).2 ∧ Only (two S g) w w'

set_option maxRecDepth 100000 in
set_option maxHeartbeats 1000000 in
theorem one_bad {f : Nat} (hB : Blk w g 228 (pdCells f r c true)) :
    Calls Tryz.prog 203 #[.pointer (some ⟨g, 0, none⟩)] w fun e w' => e = .returned (.int .u32 0) ∧ w = w' := by
  have h3 : w.cell? ⟨g, 3, none⟩ = some (.bool true) := hB.cell 3
  clear hB
  go_enter Tryz.func203, Tryz.ntmps203
  go_wp2_with fail
  go_ret
  exact ⟨rfl, rfl⟩

theorem lvl_ge {h k r' k' : Nat} {s s' : List UInt8} (hl : lvl h k s = some (r', k', s')) (hk : h ≤ k) : r' ≤ k' := by
  unfold lvl at hl
  split at hl
  · split at hl
    · cases hl
    · simp only [Option.some.injEq, Prod.mk.injEq] at hl
      omega
  · simp only [Option.some.injEq, Prod.mk.injEq] at hl
    omega
theorem one_told {bs s : List UInt8} {at' r' c' h c1 : Nat} {bad' : Bool} (ht : Told bs (lvl h c1 s) at' r' c' bad') (h0 : 65536 ≤ h) (h1 : h < 4294967296) :
    Told bs (if c1 < h then lvl h c1 s else none) at' r' c' (bad' || decide (r' ≤ c')) := by
  obtain ⟨t0, t1, t2, t3⟩ := ht
  refine ⟨t0, t1, t2, ?_⟩
  rcases t3 with ⟨rfl, t3⟩ | ⟨rfl, t3⟩
  · left
    rw [t3]
    exact ⟨rfl, by split <;> rfl⟩
  · by_cases hc : c1 < h
    · right
      have := dcOk_lvl h0 h1 hc _ _ _ t3
      rw [if_pos hc]
      exact ⟨by simp; omega, t3⟩
    · left
      have := lvl_ge t3 (by omega)
      rw [if_neg hc]
      exact ⟨by simp; omega, rfl⟩

set_option maxRecDepth 100000 in
set_option maxHeartbeats 2000000 in
theorem one_low (hB : Blk w g 228 (pdCells S.f r c false)) (hS : ScOk S) (hF : S.At w bs at_) (hg : ¬ S.hold g) (hr0 : 16777216 ≤ r) (hr : r < 4294967296) (hc : c < r / 2) :
    Calls Tryz.prog 203 #[.pointer (some ⟨g, 0, none⟩)] w fun e w' => e = .returned (.int .u32 0) ∧ Pd w' g S bs (lvl (r / 2) c (bs.drop at_)) ∧ Only (two S g) w w' := by
  have h1 : w.cell? ⟨g, 1, none⟩ = some (.int .u32 (r : Int)) := hB.cell 1
  have h2 : w.cell? ⟨g, 2, none⟩ = some (.int .u32 (c : Int)) := hB.cell 2
  have h3 : w.cell? ⟨g, 3, none⟩ = some (.bool false) := hB.cell 3
  have z1 : w.frozen? ⟨g, 1, none⟩ = false := hB.free 1
  have hr2 : (r : Int) / 2 = ((r / 2 : Nat) : Int) := by omega
  have hle : r / 2 ≤ r := Nat.div_le_self _ _
  have hge : 8388608 ≤ r / 2 := by omega
  generalize r / 2 = h at *
  have e1 : IntKind.u32.wrap ((r : Int) / 2) = (h : Int) := by rw [hr2]; exact u32_of _ (by omega) (by omega)
  have hO : Only (fun i => i = g) w (w.setCell ⟨g, 1, none⟩ (.int .u32 (h : Int))) := (Only.refl (fun i => i = g) w).setCell (.inl rfl) _
  have hB1 : Blk (w.setCell ⟨g, 1, none⟩ (.int .u32 (h : Int))) g 228 (pdCells S.f h c false) := hB.put 1 _
  have K := Lib.hid (fun n => even_any (hB1.drewN n) hS (hS.only hF (hO.drewN n) (fun i hi => hi ▸ hg)) hg (by omega) (Nat.le_of_lt hc))
  have HO := Lib.hid (fun n => hO.drewN n)
  have hlt : ¬ (c : Int) ≥ (h : Int) := by omega
  clear hB hF hO hB1 
  go_enter Tryz.func203, Tryz.ntmps203
  go_wp2_with fail
  go_quiet (fail)
  go_wp2_with fail
  refine (K.out nq).mono ?_
  rintro e w1 ⟨rfl, ⟨at', r', c', bad', hB2, hF2, _, ht⟩, hO2⟩
  have j1 : w1.drew.cell? ⟨g, 1, none⟩ = some (.int .u32 (r' : Int)) := hB2.cell 1
  have j2 : w1.drew.cell? ⟨g, 2, none⟩ = some (.int .u32 (c' : Int)) := hB2.cell 2
  have HB2 := Lib.hid (fun so => refuse_any (so := so) (show Blk w1.drew g 228 (pdCells S.f r' c' bad') from hB2))
  have HF2 := Lib.hid (show S.At w1.drew bs at' from hS.only hF2 ((Only.refl (fun _ => False) w1).drew) (fun _ hh => hh.elim))
  have HT := Lib.hid ht
  have HO2 := Lib.hid (((HO.out nq).mono (fun i hi => .inr hi)).trans hO2.drew : Only (two S g) w w1.drew)
  clear hB2 hF2 ht hO2 HO K h1 h2 h3 z1
  go_wp2_with fail
  go_still_tail 10, (by kernel_rfl)
  change wpList _ _ _ _ _ w1.drew
  generalize w1.drew = w2 at *
  go_wp2_with fail
  refine (HB2.out _).mono ?_
  rintro e w3 ⟨rfl, hB3, hg3⟩
  have HB3 := Lib.hid hB3
  have HG3 := Lib.hid (Only.of_grown (S := fun i => i = g) hg3 rfl)
  clear hB3 hg3
  go_wp2_with fail
  go_ret
  refine ⟨rfl, ⟨at', r', c', _, HB3.out, hS.only HF2.out HG3.out (fun i hi => hi ▸ hg), hg, ?_⟩, HO2.out.trans (HG3.out.mono (fun i hi => .inr hi))⟩
  have := one_told HT.out (by omega) (by omega)
  rw [if_pos hc] at this
  exact this

/-- Behind a definition, so that no walk looks into it. -/
def HighPost (w : World) (g : Nat) (S : Sc) (bs s : List UInt8) (h k : Nat) (e : Ending) (w' : World) : Prop :=
  e = .returned (.int .u32 1) ∧ Pd w' g S bs (if k < h then lvl h k s else none) ∧ Only (two S g) w w'

set_option maxRecDepth 100000 in
set_option maxHeartbeats 2000000 in
theorem one_high (hB : Blk w g 228 (pdCells S.f r c false)) (hS : ScOk S) (hF : S.At w bs at_) (hg : ¬ S.hold g) (hr0 : 16777216 ≤ r) (hr : r < 4294967296) (hcr : c < r) (hc : ¬ c < r / 2) :
    Calls Tryz.prog 203 #[.pointer (some ⟨g, 0, none⟩)] w (HighPost w g S bs (bs.drop at_) (r / 2) (c - r / 2)) := by
  have h1 : w.cell? ⟨g, 1, none⟩ = some (.int .u32 (r : Int)) := hB.cell 1
  have h2 : w.cell? ⟨g, 2, none⟩ = some (.int .u32 (c : Int)) := hB.cell 2
  have h3 : w.cell? ⟨g, 3, none⟩ = some (.bool false) := hB.cell 3
  have z1 : w.frozen? ⟨g, 1, none⟩ = false := hB.free 1
  have z2 : w.frozen? ⟨g, 2, none⟩ = false := hB.free 2
  have hr2 : (r : Int) / 2 = ((r / 2 : Nat) : Int) := by omega
  have hle : r / 2 ≤ r := Nat.div_le_self _ _
  have hge : 8388608 ≤ r / 2 := by omega
  have hch : c - r / 2 ≤ r / 2 := by omega
  generalize r / 2 = h at *
  have e1 : IntKind.u32.wrap ((r : Int) / 2) = (h : Int) := by rw [hr2]; exact u32_of _ (by omega) (by omega)
  have e2 : IntKind.u32.wrap ((c : Int) - (h : Int)) = ((c - h : Nat) : Int) := by rw [show (c : Int) - (h : Int) = ((c - h : Nat) : Int) by omega]; exact u32_of _ (by omega) (by omega)
  have hO : ∀ n, Only (fun i => i = g) w (((w.setCell ⟨g, 1, none⟩ (.int .u32 (h : Int))).drewN n).setCell ⟨g, 2, none⟩ (.int .u32 ((c - h : Nat) : Int))) := fun n => (((Only.refl (fun i => i = g) w).setCell (p := ⟨g, 1, none⟩) (.inl rfl) _).drewN n).setCell (p := ⟨g, 2, none⟩) (.inl rfl) _
  have hB1 : ∀ n, Blk (((w.setCell ⟨g, 1, none⟩ (.int .u32 (h : Int))).drewN n).setCell ⟨g, 2, none⟩ (.int .u32 ((c - h : Nat) : Int))) g 228 (pdCells S.f h (c - h) false) := fun n => ((hB.put 1 _).drewN n).put 2 _
  have K := Lib.hid (fun n => even_any (hB1 n) hS (hS.only hF (hO n) (fun i hi => hi ▸ hg)) hg (by omega) hch)
  have HO := Lib.hid hO
  have hlt : (c : Int) ≥ (h : Int) := by omega
  clear hB hF hO hB1
  go_enter Tryz.func203, Tryz.ntmps203
  go_wp2_with fail
  go_quiet (fail)
  go_wp2_with fail
  go_region
  all_goals go_wp2_with fail
  refine (K.out (nq + 1)).mono ?_
  rintro e w1 ⟨rfl, ⟨at', r', c', bad', hB2, hF2, _, ht⟩, hO2⟩
  have j1 : w1.drew.cell? ⟨g, 1, none⟩ = some (.int .u32 (r' : Int)) := hB2.cell 1
  have j2 : w1.drew.cell? ⟨g, 2, none⟩ = some (.int .u32 (c' : Int)) := hB2.cell 2
  have HB2 := Lib.hid (fun so => refuse_any (so := so) (show Blk w1.drew g 228 (pdCells S.f r' c' bad') from hB2))
  have HF2 := Lib.hid (show S.At w1.drew bs at' from hS.only hF2 ((Only.refl (fun _ => False) w1).drew) (fun _ hh => hh.elim))
  have HT := Lib.hid ht
  have HO2 := Lib.hid (((HO.out (nq + 1)).mono (fun i hi => .inr hi)).trans hO2.drew : Only (two S g) w w1.drew)
  clear hB2 hF2 ht hO2 HO K h1 h2 h3 z1 z2
  go_wp2_with fail
  go_still_tail 10, (by kernel_rfl)
  change wpList _ _ _ _ _ w1.drew
  generalize w1.drew = w2 at *
  go_wp2_with fail
  refine (HB2.out _).mono ?_
  rintro e w3 ⟨rfl, hB3, hg3⟩
  have HB3 := Lib.hid hB3
  have HG3 := Lib.hid (Only.of_grown (S := fun i => i = g) hg3 rfl)
  clear hB3 hg3
  go_wp2_with fail
  go_ret
  refine ⟨rfl, ⟨at', r', c', _, HB3.out, hS.only HF2.out HG3.out (fun i hi => hi ▸ hg), hg, ?_⟩, HO2.out.trans (HG3.out.mono (fun i hi => .inr hi))⟩
  exact one_told HT.out (by omega) (by omega)

/-- A bit told straight. -/
theorem one_any {d : Dc} (hS : ScOk S) (h : Pd w g S bs d) (hd : DcOk d) :
    Calls Tryz.prog 203 #[.pointer (some ⟨g, 0, none⟩)] w (OnePost w g S bs d) := by
  obtain ⟨at_, r, c, bad, hB, hF, hg, h0, h1, h2, h3⟩ := h
  rcases h3 with ⟨rfl, rfl⟩ | ⟨rfl, rfl⟩
  · refine (one_bad hB).mono ?_
    rintro e w' ⟨rfl, rfl⟩
    exact ⟨0, rfl, by omega, fun _ => rfl, ⟨at_, r, c, true, hB, hF, hg, h0, h1, h2, .inl ⟨rfl, rfl⟩⟩, Only.refl _ _⟩
  · obtain ⟨d0, d1, d2⟩ := hd _ _ _ rfl
    by_cases hc : c < r / 2
    · refine (one_low hB hS hF hg d0 d1 hc).mono ?_
      rintro e w' ⟨rfl, k1, k2⟩
      have e1 : oneD (some (r, c, bs.drop at_)) = (0, lvl (r / 2) c (bs.drop at_)) := by unfold oneD; simp only []; rw [if_pos hc]
      refine ⟨0, rfl, by omega, fun _ => by rw [e1], ?_, k2⟩
      rw [e1]
      exact k1
    · refine (one_high hB hS hF hg d0 d1 d2 hc).mono ?_
      rintro e w' ⟨rfl, k1, k2⟩
      by_cases hc2 : c - r / 2 < r / 2
      · have e1 : oneD (some (r, c, bs.drop at_)) = (1, lvl (r / 2) (c - r / 2) (bs.drop at_)) := by unfold oneD; simp only []; rw [if_neg hc, if_pos hc2]
        refine ⟨1, rfl, by omega, fun _ => by rw [e1], ?_, k2⟩
        rw [e1]
        rw [if_pos hc2] at k1
        exact k1
      · have e1 : oneD (some (r, c, bs.drop at_)) = (0, none) := by unfold oneD; simp only []; rw [if_neg hc, if_neg hc2]
        refine ⟨1, rfl, by omega, fun h => by rw [e1] at h; exact absurd rfl h, ?_, k2⟩
        rw [e1]
        rw [if_neg hc2] at k1
        exact k1
end
end Go.Proofs.YtiolfjhddbiglaaGreatDoor

/-
  Probabilities in a block of their own.
-/
namespace Go.Proofs.YtiolfjhddbiglaaGreatDoor
open Go.RowKit

/-- probabilities as cells -/
def pv (ps : List Nat) : List Value := ps.map fun (p : Nat) => Value.int .u16 (p : Int)
theorem pv_length (ps : List Nat) : (pv ps).length = ps.length := by simp [pv]
theorem pv_get (ps : List Nat) (i : Nat) (h : i < ps.length) : (pv ps)[i]? = some (.int .u16 ((ps.getD i 0 : Nat) : Int)) := by
  simp [pv, List.getD, h]
theorem pv_set (ps : List Nat) (i q : Nat) : (pv ps).set i (.int .u16 (q : Int)) = pv (ps.set i q) := by
  simp [pv, List.map_set]

/-- Block b holds the probabilities ps. -/
def Row (w : World) (b : Nat) (ps : List Nat) (c : Nat) : Prop := w.ownsRow 0 35 1 (.slice (some ⟨b, 0, none⟩) ps.length c) ps.length (pv ps)

section
variable {w w' : World} {b c : Nat} {ps : List Nat}
theorem Row.cell (h : Row w b ps c) {i : Nat} (hi : i < ps.length) : w.cell? ⟨b, i, none⟩ = some (.int .u16 ((ps.getD i 0 : Nat) : Int)) := by
  rw [World.ownsRow.cellAt h i (by omega), pv_get ps i hi]
theorem Row.free (h : Row w b ps c) (i : Nat) : w.frozen? ⟨b, i, none⟩ = false := World.ownsRow.frozenAt h i
theorem Row.put (h : Row w b ps c) (i q : Nat) : Row (w.setCell ⟨b, i, none⟩ (.int .u16 (q : Int))) b (ps.set i q) c := by
  have := (World.ownsRow.stored h i (.int .u16 (q : Int))).1
  rw [pv_set] at this
  unfold Row
  rw [List.length_set]
  exact this
theorem Row.drewN (h : Row w b ps c) (n : Nat) : Row (w.drewN n) b ps c := h
theorem Row.only {S : Nat → Prop} (h : Row w b ps c) (hb : Only S w w') (hS : ¬ S b) : Row w' b ps c := own_only h hb hS
theorem Row.lt (h : Row w b ps c) : b < w.heap.size := (World.ownsRow.lt h b rfl).2
theorem Row.cap (h : Row w b ps c) : ps.length ≤ c ∧ c ≤ maxLen := by
  obtain ⟨_, h2, h3, _⟩ := own_facts h
  exact ⟨h2, h3⟩
end

end Go.Proofs.YtiolfjhddbiglaaGreatDoor

/-
  The decoder tells a bit with a probability.
-/
namespace Go.Proofs.YtiolfjhddbiglaaGreatDoor
open Go.RowKit

def three (S : Sc) (g b : Nat) : Nat → Prop := fun i => S.turn i ∨ i = g ∨ i = b
theorem u16_in (x : Int) (h : 0 ≤ x ∧ x < 65536) : IntKind.u16.wrap x = x := by
  simp [IntKind.wrap, IntKind.bits, IntKind.signed]
  omega

/-- What a bit leaves: behind a definition, so that no walk looks into it. -/
def TellPost (w : World) (g : Nat) (S : Sc) (b : Nat) (bs : List UInt8) (ps : List Nat) (pc v : Nat) (d : Dc) (e : Ending) (w' : World) : Prop :=
  e = .returned (.int .i64 (v : Int)) ∧ Pd w' g S bs d ∧ Row w' b ps pc ∧ Only (three S g b) w w'

section
variable {g r c at_ b i p pc : Nat} {w : World} {bs : List UInt8} {ps : List Nat} {S : Sc}

set_option maxRecDepth 100000 in
set_option maxHeartbeats 1000000 in
theorem bit_bad {f : Nat} {a : Addr} (hB : Blk w g 228 (pdCells f r c true)) :
    Calls Tryz.prog 134 #[.pointer (some ⟨g, 0, none⟩), .pointer (some a)] w fun e w' => e = .returned (.int .i64 0) ∧ w = w' := by
  have h3 : w.cell? ⟨g, 3, none⟩ = some (.bool true) := hB.cell 3
  clear hB
  go_enter Tryz.func134, Tryz.ntmps134
  go_wp2_with fail
  go_ret
  exact ⟨rfl, rfl⟩

end
end Go.Proofs.YtiolfjhddbiglaaGreatDoor

/-
  The decoder tells numbers: straight, by a tree.
-/
namespace Go.Proofs.YtiolfjhddbiglaaGreatDoor
open Go.RowKit

/-- What a number told straight leaves. -/
def NumPost (w : World) (g : Nat) (S : Sc) (bs : List UInt8) (v : Nat) (d : Dc) (e : Ending) (w' : World) : Prop :=
  e = .returned (.int .u32 (v : Int)) ∧ Pd w' g S bs d ∧ Only (two S g) w w'

section
variable {g b pc : Nat} {w : World} {bs : List UInt8} {ps : List Nat} {S : Sc}

set_option maxRecDepth 100000 in
set_option maxHeartbeats 2000000 in
theorem straight_any {d : Dc} {n : Nat} (hS : ScOk S) (h : Pd w g S bs d) (hd : DcOk d) (hn : n ≤ 32) :
    Calls Tryz.prog 199 #[.pointer (some ⟨g, 0, none⟩), .int .i64 (n : Int)] w (NumPost w g S bs (straightD n d).1 (straightD n d).2) := by
  have HP := Lib.hid h
  have HD := Lib.hid hd
  clear h hd
  go_enter Tryz.func199, Tryz.ntmps199
  go_wp2_with fail
  go_loopw [5, 7] (fun v i wr => ∃ (j x : Nat), j ≤ n ∧ i = .int .i64 (j : Int) ∧ v = .int .u32 (x : Int) ∧ x < 2 ^ j ∧ ((straightGo d j).2 ≠ none → x = (straightGo d j).1) ∧ Pd wr g S bs (straightGo d j).2 ∧ Only (two S g) w wr) (fun _ i _ => n - (intOf i).toNat)
  case atStart => exact ⟨0, 0, Nat.zero_le _, rfl, rfl, by decide, fun _ => rfl, HP.out, Only.refl _ _⟩
  case round =>
    clear HP
    obtain ⟨j, x, hj, rfl, rfl, hx, hv, hp, ho⟩ := hrel
    have HV := Lib.hid hv
    have HO := Lib.hid ho
    clear hv ho
    by_cases hlt : j < n
    · have K := Lib.hid (one_any hS hp (straightGo_ok HD.out j).1)
      have hx31 : x < 2147483648 := Nat.lt_of_lt_of_le hx (Nat.pow_le_pow_right (n := 2) (by omega) (show j ≤ 31 by omega))
      have hx2 : 2 * x + 1 < 2 ^ (j + 1) := by rw [Nat.pow_succ]; omega
      have HX2 := Lib.hid hx2
      have e1 : IntKind.u32.wrap (2 * (x : Int)) = 2 * (x : Int) := u32_of _ (by omega) (by omega)
      have hlt' : (j : Int) < (n : Int) := by omega
      clear hx hx2 hp
      go_wp2_with fail
      refine K.out.mono ?_
      rintro e w1 ⟨v, rfl, hv1, hv2, hp1, ho1⟩
      have e2 : IntKind.u32.wrap (2 * (x : Int) + (v : Int)) = ((2 * x + v : Nat) : Int) := by rw [show 2 * (x : Int) + (v : Int) = ((2 * x + v : Nat) : Int) by omega]; exact u32_of _ (by omega) (by omega)
      have HV2 := Lib.hid hv2
      have HP1 := Lib.hid hp1
      have HO1 := Lib.hid (HO.out.trans ho1)
      clear hv2 hp1 ho1 HO K
      go_wp2_with fail
      go_roundw
      case rel =>
        refine ⟨j + 1, 2 * x + v, by omega, by go_num, rfl, by have := HX2.out; omega, fun h => ?_, HP1.out, HO1.out⟩
        show _ = 2 * (straightGo d j).1 + (oneD (straightGo d j).2).1
        rw [HV2.out h, HV.out (fun h0 => h (by show (oneD (straightGo d j).2).2 = none; rw [h0]; rfl))]
      case measure => simp [intOf]; omega
    · obtain rfl : j = n := by omega
      obtain ⟨at_, r, c, bad, hB, hF, hg, ht⟩ := hp
      have j3 : wr.cell? ⟨g, 3, none⟩ = some (.bool bad) := hB.cell 3
      have HB := Lib.hid hB
      have HF := Lib.hid hF
      have HT := Lib.hid ht
      clear hB hF ht hx
      cases bad
      · go_wp2_with fail
        go_ret
        refine ⟨?_, ⟨at_, r, c, _, HB.out, HF.out, hg, HT.out⟩, HO.out⟩
        have hne : (straightGo d j).2 ≠ none := by
          rcases HT.out.2.2.2 with ⟨h, _⟩ | ⟨_, h⟩
          · cases h
          · rw [h]; simp
        unfold straightD
        rw [if_neg hne, ← HV.out hne]
        rfl
      · go_wp2_with fail
        go_ret
        refine ⟨?_, ⟨at_, r, c, _, HB.out, HF.out, hg, HT.out⟩, HO.out⟩
        have hne : (straightGo d j).2 = none := by
          rcases HT.out.2.2.2 with ⟨_, h⟩ | ⟨h, _⟩
          · exact h
          · cases h
        unfold straightD
        rw [if_pos hne]
        rfl

end
end Go.Proofs.YtiolfjhddbiglaaGreatDoor

/-
  The decoder tells a number by a reverse tree.
-/
namespace Go.Proofs.YtiolfjhddbiglaaGreatDoor
open Go.RowKit

section
variable {g b pc : Nat} {w : World} {bs : List UInt8} {ps : List Nat} {S : Sc}

theorem ofInt_u64' (a : Nat) (h : a < 18446744073709551616) : (BitVec.ofInt 64 (a : Int)).toNat = a := by simp; omega
theorem i64_or_nat (a b : Nat) (ha : a < 9223372036854775808) (hb : b < 9223372036854775808) : bits .or .i64 (a : Int) (b : Int) = ((a ||| b : Nat) : Int) := by
  have hx : a ||| b < 2 ^ 63 := Nat.or_lt_two_pow (by omega) (by omega)
  show IntKind.i64.wrap ((BitVec.ofInt 64 (a : Int) ||| BitVec.ofInt 64 (b : Int)).toNat : Int) = _
  rw [BitVec.toNat_or, ofInt_u64' a (by omega), ofInt_u64' b (by omega)]
  exact IntWalk.i64_in _ (by omega)
theorem i64_or_shift (o u j : Nat) (ho : o < 2 ^ j) (hu : u ≤ 1) (hj : j < 8) : bits .or .i64 (o : Int) (wrap64 ((u : Int) * 2 ^ j)) = ((o + u * 2 ^ j : Nat) : Int) := by
  have hp : 2 ^ j ≤ 2 ^ 7 := Nat.pow_le_pow_right (n := 2) (by omega) (show j ≤ 7 by omega)
  have hm : u * 2 ^ j ≤ 1 * 2 ^ j := Nat.mul_le_mul_right _ hu
  have hw : wrap64 (((u * 2 ^ j : Nat) : Int)) = ((u * 2 ^ j : Nat) : Int) := by
    unfold wrap64
    generalize u * 2 ^ j = y at *
    omega
  rw [cast_pow2, ← Int.natCast_mul, hw, i64_or_nat _ _ (by omega) (by omega)]
  congr 1
  rw [Nat.or_comm, nat_join j (u * 2 ^ j) o (Nat.mul_mod_left _ _) ho]
  omega

end
end Go.Proofs.YtiolfjhddbiglaaGreatDoor

/-
  Bytes as a number, the greatest first.
-/
namespace Go.Proofs.YtiolfjhddbiglaaGreatDoor

/-- bytes as a number, the greatest first -/
def be (l : List UInt8) : Nat := l.foldl (fun a b => a * 256 + b.toNat) 0
theorem be_snoc (l : List UInt8) (x : UInt8) : be (l ++ [x]) = be l * 256 + x.toNat := by simp [be]
theorem be_append (l k : List UInt8) : be (l ++ k) = be l * 256 ^ k.length + be k := by
  generalize hn : k.length = n
  induction n generalizing k with
  | zero => rw [List.eq_nil_of_length_eq_zero hn]; simp [be]
  | succ n ih =>
    have hne : k ≠ [] := by intro e; rw [e] at hn; cases hn
    rw [← List.dropLast_concat_getLast hne, ← List.append_assoc, be_snoc, be_snoc, ih k.dropLast (by simp [hn]), Nat.pow_succ, ← Nat.mul_assoc, Nat.add_mul]
    omega
theorem be_lt (l : List UInt8) : ∀ n, l.length = n → be l < 256 ^ n := by
  intro n
  induction n generalizing l with
  | zero => intro h; rw [List.eq_nil_of_length_eq_zero h]; decide
  | succ n ih =>
    intro h
    have hne : l ≠ [] := by intro e; rw [e] at h; cases h
    rw [← List.dropLast_concat_getLast hne, be_snoc, Nat.pow_succ]
    have := ih l.dropLast (by simp [h])
    have := (l.getLast hne).toNat_lt
    omega
/-- the first l of the bytes, and what is behind -/
theorem be_take (bs : List UInt8) (l : Nat) : be (bs.take l) * 256 ^ (bs.length - l) ≤ be bs ∧ be bs < (be (bs.take l) + 1) * 256 ^ (bs.length - l) := by
  have e := be_append (bs.take l) (bs.drop l)
  rw [List.take_append_drop, List.length_drop] at e
  have h := be_lt (bs.drop l) (bs.length - l) (by simp)
  rw [Nat.add_mul]
  omega
theorem be_take_succ {bs : List UInt8} {l : Nat} (h : l < bs.length) : be (bs.take (l + 1)) = be (bs.take l) * 256 + (bs[l]).toNat := by
  rw [List.take_succ_eq_append_getElem h, be_snoc]
end Go.Proofs.YtiolfjhddbiglaaGreatDoor

/-
  How a decoder of ranges begins, as numbers (cut out of RdNew).
-/
namespace Go.Proofs.YtiolfjhddbiglaaGreatDoor

/-- behind the first byte and j more -/
def Begun (bs : List UInt8) (j c : Nat) : Prop := j + 1 ≤ bs.length ∧ (bs.getD 0 0).toNat = 0 ∧ c = be ((bs.drop 1).take j)

theorem started_short {bs : List UInt8} (h : bs.length < 5) : started bs = none := by
  unfold started
  split
  · simp only [List.length_cons] at h; omega
  · rfl
theorem started_head {bs : List UInt8} (h : (bs.getD 0 0).toNat ≠ 0) : started bs = none := by
  unfold started
  split
  · rename_i z a b c d t
    rw [if_neg]
    rintro ⟨h1, _⟩
    exact h h1
  · rfl
theorem started_begun {bs : List UInt8} {c : Nat} (h : Begun bs 4 c) : started bs = if c < 4294967295 then some (4294967295, c, bs.drop 5) else none := by
  obtain ⟨h1, h2, h3⟩ := h
  match bs, h1 with
  | z :: a :: b :: x :: d :: t, _ =>
    have e : c = ((a.toNat * 256 + b.toNat) * 256 + x.toNat) * 256 + d.toNat := by rw [h3]; simp [be]
    have hz : z.toNat = 0 := h2
    show (if z.toNat = 0 ∧ ((a.toNat * 256 + b.toNat) * 256 + x.toNat) * 256 + d.toNat < 4294967295 then some (4294967295, ((a.toNat * 256 + b.toNat) * 256 + x.toNat) * 256 + d.toNat, t) else none) = if c < 4294967295 then some (4294967295, c, t) else none
    rw [← e]
    by_cases hc : c < 4294967295
    · rw [if_pos ⟨hz, hc⟩, if_pos hc]
    · rw [if_neg (fun h => hc h.2), if_neg hc]
theorem begun_next {bs : List UInt8} {j c : Nat} {x : UInt8} {t : List UInt8} (h : Begun bs j c) (hd : bs.drop (j + 1) = x :: t) : Begun bs (j + 1) (c * 256 + x.toNat) := by
  obtain ⟨h1, h2, h3⟩ := h
  have hlt : j + 1 < bs.length := by
    rcases Nat.lt_or_ge (j + 1) bs.length with h | h
    · exact h
    · rw [List.drop_eq_nil_of_le h] at hd; cases hd
  have hx : bs[j + 1] = x := by
    have := List.drop_eq_getElem_cons hlt
    rw [hd] at this
    injection this with this
    exact this.symm
  refine ⟨hlt, h2, ?_⟩
  have hl : j < (bs.drop 1).length := by rw [List.length_drop]; omega
  rw [List.take_succ_eq_append_getElem hl, be_snoc, ← h3, List.getElem_drop]
  congr 2
  rw [← hx]
  congr 1
  simp only [Nat.add_comm]
theorem begun_lt {bs : List UInt8} {j c : Nat} (h : Begun bs j c) : c < 256 ^ j := by
  rw [h.2.2]
  refine be_lt _ _ ?_
  rw [List.length_take, List.length_drop]
  have := h.1
  omega

theorem info_u16 : (Tryz.prog.info? 35).map (fun i => (i.zero, i.size, i.bytes)) = some (some (.int .u16 0), 1, 2) := by kernel_rfl
end Go.Proofs.YtiolfjhddbiglaaGreatDoor
