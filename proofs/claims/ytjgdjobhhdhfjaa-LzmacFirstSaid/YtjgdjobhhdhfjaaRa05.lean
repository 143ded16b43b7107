/-
  CwRun, Mem, Only, Pure, Arith, Info, SrcFeed, BytN, Byt, OwnRow, PcPure, RdDec, RdEven, Prow, RdTell: put together.
-/
import Derived.Test.YtjgdjobhhdhfjaaRa04
import Derived.WalkKit
import Derived.WalkSpells
import Derived.WalkLawsBesides
import Derived.Deep.Draws
import Derived.Deep.AppendLies
import Derived.Maps.AppendAt
import Derived.Lib.Hide
import Derived.Laws.BitsAllLaws
import Derived.Laws.BitsLemmas
import Derived.Test.YtjgdjobhhdhfjaaRows
import Derived.Tactics
import Derived.Tactics2
import Derived.Laws.Pointers
import Derived.RegionTactic
import Derived.RegionCalls
import Derived.BigQuiet
import Derived.Lib.SliceRun
import Derived.Test.YtjgdjobhhdhfjaaRa01
import Derived.LoopTactic
import Derived.Deep.RegionLaw
import Derived.Deep.RegionHeld3
import Derived.StillTailTactics
set_option linter.unusedVariables false
set_option linter.unusedSimpArgs false
/-
  Packets one behind the other, each coded if it fits: numbers.
-/
namespace Go.Proofs.Ytjgdjobhhdhfjaa
open Go.RowKit

/-- the greatest number: no packet is left out as it tells too much -/
def mostI : Int := 9223372036854775807
theorem takes_all (z : Lzs) (q : Pq) : takesP mostI z q = fitsP z q.k q.v.toNat q.n := by
  unfold takesP mostI
  have h : ∀ x : Int, IntKind.i64.wrap x ≤ 9223372036854775807 := fun x => by
    rw [IntWalk.i64_left]
    unfold wrap64
    omega
  rw [decide_eq_true (h _), Bool.and_true]
theorem codeS_fits (s : Lzs × Pm En) (q : Pq) : codeS mostI s q = if fitsP s.1 q.pk.kind q.pk.dist q.pk.len = true then (packP encM s.1 s.2 q.pk).2 else s := by
  unfold codeS
  rw [takes_all]
  rfl
/-- behind the first j of a list -/
def runG (qs : Nat → Pq) (s : Lzs × Pm En) (j : Nat) : Lzs × Pm En := codeG mostI qs s j
/-- a coder that begins, as numbers -/
def freshS (lc lp pb dict : Nat) : Lzs × Pm En := (Lzs.start lc lp pb dict, ⟨List.replicate (probsN lc lp) 1024, En.new⟩)
theorem fresh_near {lc lp pb dict : Nat} (h : SetOk lc lp pb dict) : ZNear (freshS lc lp pb dict).1 (probsN lc lp) 0 :=
  ⟨h.1, h.2.1, h.2.2.1, h.2.2.2.2, Nat.le_refl _, (show 0 ≤ 11 by decide), (show 0 < 4294967296 by decide), (show 0 < 4294967296 by decide), (show 0 < 4294967296 by decide), (show 0 < 4294967296 by decide), rfl⟩
theorem fresh_pm {lc lp pb dict m : Nat} (hm : m ≤ 1000000) : PmOk okE (probsN lc lp) m (freshS lc lp pb dict).2 :=
  ⟨fun p hp => by rw [List.eq_of_mem_replicate hp]; exact ⟨by decide, by decide⟩, by show (List.replicate _ _).length = _; simp, enOk_new, by show 5 + 32 * m ≤ _; omega⟩

section
variable {qs : Nat → Pq} {lc lp pb dict n : Nat}
theorem run_ok (h : SetOk lc lp pb dict) (hq : ∀ i, i < n → PqLit (qs i)) (hn : n ≤ 10000) (j : Nat) (hj : j ≤ n) :
    ZNear (runG qs (freshS lc lp pb dict) j).1 (probsN lc lp) (273 * j) ∧ PmOk okE (probsN lc lp) (27 * (n - j)) (runG qs (freshS lc lp pb dict) j).2 := by
  obtain ⟨a, b⟩ := codeG_ok (most := mostI) (s := freshS lc lp pb dict) (k := 0) (m := n) hq (fresh_near h) (fresh_pm (m := 0 + 27 * n) (by omega)) j hj
  exact ⟨a.more (by omega), b.mono encM_ok (by omega)⟩
theorem run_succ (s : Lzs × Pm En) (j : Nat) : runG qs s (j + 1) = if fitsP (runG qs s j).1 (qs j).pk.kind (qs j).pk.dist (qs j).pk.len = true then (packP encM (runG qs s j).1 (runG qs s j).2 (qs j).pk).2 else runG qs s j :=
  codeS_fits (runG qs s j) (qs j)
theorem run_bad (h : SetOk lc lp pb dict) (hq : ∀ i, i < n → PqLit (qs i)) (hn : n ≤ 3000) : ∀ j, j ≤ n → (runG qs (freshS lc lp pb dict) j).1.bad = false
  | 0, _ => rfl
  | j + 1, hj => by
    have ih := run_bad h hq hn j (by omega)
    obtain ⟨h1, h2⟩ := run_ok h hq (by omega) j (by omega)
    rw [run_succ]
    split
    · rename_i hf
      obtain ⟨p1, p2⟩ := pack_enc (k := 0) h1 (h2.mono encM_ok (by omega)) (hq j (by omega)) hf ih
      by_cases hk : (qs j).k = 7
      · exact (p2 hk).1
      · exact (p1 hk).1
    · exact ih
/-- behind an end mark no packet fits -/
theorem run_ended (s : Lzs × Pm En) {j : Nat} (h : (runG qs s j).1.ended = true) : ∀ m, runG qs s (j + m) = runG qs s j
  | 0 => rfl
  | m + 1 => by
    have ih := run_ended s h m
    rw [show j + (m + 1) = (j + m) + 1 by omega, run_succ, ih]
    have : fitsP (runG qs s j).1 (qs (j + m)).pk.kind (qs (j + m)).pk.dist (qs (j + m)).pk.len = false := by unfold fitsP lateP; rw [h]; rfl
    rw [this]
    rfl
end
end Go.Proofs.Ytjgdjobhhdhfjaa

/-
  What the walks of this seat say of memory: a slice that reads as a list, a block that is known whole, and what stays.
-/
namespace Go.Proofs.Ytjgdjobhhdhfjaa
open Go.RowKit

/-- bytes as cells -/
def bv (l : List UInt8) : List Value := l.map fun b => Value.int .u8 (b.toNat : Int)
/-- flags as cells -/
def fv (l : List Bool) : List Value := l.map Value.bool

theorem bv_length (l : List UInt8) : (bv l).length = l.length := by simp [bv]
theorem bv_get (l : List UInt8) (i : Nat) (h : i < l.length) : (bv l)[i]? = some (.int .u8 ((l.getD i 0).toNat : Int)) := by
  simp [bv, List.getD, h]
theorem bv_append (a b : List UInt8) : bv (a ++ b) = bv a ++ bv b := by simp [bv]
theorem ret_int {k : IntKind} {a b : Int} (h : a = b) : Ending.returned (.int k a) = .returned (.int k b) := by rw [h]

/-- The slice (A, n) reads as the cells xs, one an element, in the world w. -/
def Sl (w : World) (A : Option Addr) (n : Nat) (xs : List Value) : Prop :=
  xs.length = n ∧ (0 < n → ∃ b o, A = some ⟨b, o, none⟩ ∧ b < w.heap.size ∧ ∀ j, j < n → w.cell? ⟨b, o + j, none⟩ = xs[j]?)

section
variable {w w' : World} {A : Option Addr} {n : Nat} {xs : List Value}
theorem Sl.len (h : Sl w A n xs) : xs.length = n := h.1
theorem Sl.nil : Sl w A 0 [] := ⟨rfl, fun h => absurd h (by omega)⟩
theorem Sl.at_ (h : Sl w A n xs) (hn : 0 < n) : ∃ b o, A = some ⟨b, o, none⟩ ∧ b < w.heap.size ∧ ∀ j, j < n → w.cell? ⟨b, o + j, none⟩ = xs[j]? := h.2 hn
/-- It reads so in each later world in which the old blocks are what they were. -/
theorem Sl.keep (h : Sl w A n xs) (hz : w.heap.size ≤ w'.heap.size) (hk : 0 < n → ∀ b o, A = some ⟨b, o, none⟩ → b < w.heap.size → w'.heap[b]? = w.heap[b]?) : Sl w' A n xs := by
  refine ⟨h.1, fun hn => ?_⟩
  obtain ⟨b, o, e, hb, hc⟩ := h.2 hn
  refine ⟨b, o, e, by omega, fun j hj => ?_⟩
  rw [← hc j hj]
  exact World.cell?_of_block (hk hn b o e hb)
theorem Sl.below (h : Sl w A n xs) (hb : Below w.heap.size w w') : Sl w' A n xs := h.keep hb.size fun _ b _ _ hlt => hb.block b hlt
theorem Sl.drewN (h : Sl w A n xs) (k : Nat) : Sl (w.drewN k) A n xs := h
theorem Sl.alloc (h : Sl w A n xs) (o : Obj) : Sl (w.alloc o) A n xs := h.below ((Below.refl _ _).alloc (Nat.le_refl _) _)
theorem Sl.grown (h : Sl w A n xs) {g : Nat} (hg : w.grownBy w' (some g)) (hne : 0 < n → ∀ b o, A = some ⟨b, o, none⟩ → b ≠ g) : Sl w' A n xs :=
  h.keep hg.size fun hn b o e hlt => hg.block b hlt (fun e' => by injection e' with e'; exact hne hn b o e e')
/-- A cut from k on. -/
theorem Sl.cut (h : Sl w A n xs) {k cap : Nat} (hk : k ≤ n) (hc : n ≤ cap) :
    Sl w (if cap = k then A else A.map (·.add k)) (n - k) (xs.drop k) := by
  refine ⟨by rw [List.length_drop, h.1], fun hn => ?_⟩
  obtain ⟨b, o, rfl, hb, hcell⟩ := h.2 (by omega)
  rw [if_neg (by omega)]
  refine ⟨b, o + k, ?_, hb, fun j hj => ?_⟩
  · unfold Addr.add
    by_cases h0 : k = 0
    · subst h0; simp
    · simp [h0]
  · rw [List.getElem?_drop, ← hcell (k + j) (by omega), Nat.add_assoc]
/-- The first k. -/
theorem Sl.first (h : Sl w A n xs) {k : Nat} (hk : k ≤ n) : Sl w A k (xs.take k) := by
  refine ⟨by rw [List.length_take, h.1]; omega, fun hn => ?_⟩
  obtain ⟨b, o, rfl, hb, hcell⟩ := h.2 (by omega)
  refine ⟨b, o, rfl, hb, fun j hj => ?_⟩
  rw [List.getElem?_take_of_lt hj]
  exact hcell j (by omega)
theorem Sl.of_own {base : Nat} {e : TypeId} {c : Nat} (h : w.ownsRow base e 1 (.slice A n c) n xs) : Sl w A n xs := by
  refine ⟨by rw [h.1]; omega, fun hn => ?_⟩
  obtain ⟨g, cap, hv, _, hlt⟩ := h.form hn
  injection hv with hA hc
  subst hA
  refine ⟨g, 0, rfl, hlt, fun j hj => ?_⟩
  have hl := h.1
  have hj' : j < xs.length := by omega
  have := h.cells (g := g) rfl j xs[j] (List.getElem?_eq_getElem hj')
  rw [List.getElem?_eq_getElem hj', ← this]
  unfold Addr.add
  by_cases h0 : j = 0
  · subst h0; simp
  · simp [h0]
/-- The source of an append, as the library's laws ask it. -/
theorem Sl.news {b o : Nat} (h : Sl w (some ⟨b, o, none⟩) n xs) : ∀ j u, xs[j]? = some u → w.cell? ((⟨b, o, none⟩ : Addr).add j) = some u := by
  intro j u hu
  have hj : j < xs.length := (List.getElem?_eq_some_iff.1 hu).1
  have hl := h.1
  obtain ⟨b', o', e, _, hc⟩ := h.2 (by omega)
  injection e with e
  injection e with e1 e2
  subst e1 e2
  rw [← hu, ← hc j (by omega)]
  unfold Addr.add
  by_cases h0 : j = 0
  · subst h0; simp
  · simp [h0]
end

theorem own_facts {w : World} {base : Nat} {e : TypeId} {A : Option Addr} {n c : Nat} {xs : List Value} (h : w.ownsRow base e 1 (.slice A n c) n xs) :
    Sl w A n xs ∧ n ≤ c ∧ c ≤ maxLen ∧ ∀ b o, A = some ⟨b, o, none⟩ → base ≤ b ∧ b < w.heap.size := by
  refine ⟨Sl.of_own h, ?_⟩
  rcases h.2 with ⟨hv, rfl⟩ | ⟨g, cap, cur, hv, hb, hh, hnc, hc, _⟩
  · injection hv with e1 e2 e3
    subst e1 e3
    exact ⟨Nat.le_refl _, by unfold maxLen; omega, fun b o e => by cases e⟩
  · injection hv with e1 e2 e3
    subst e1 e3
    refine ⟨hnc, hc, fun b o e => ?_⟩
    injection e with e
    injection e with e
    subst e
    refine ⟨hb, ?_⟩
    rcases Nat.lt_or_ge g w.heap.size with hlt | hge
    · exact hlt
    · rw [Array.getElem?_eq_none hge] at hh; cases hh
theorem own_form {w : World} {base : Nat} {e : TypeId} {v : Value} {n : Nat} {xs : List Value} (h : w.ownsRow base e 1 v n xs) :
    ∃ A c, v = .slice A n c ∧ w.ownsRow base e 1 (.slice A n c) n xs := by
  rcases h.2 with ⟨rfl, rfl⟩ | ⟨g, cap, cur, rfl, _⟩
  · exact ⟨_, _, rfl, h⟩
  · exact ⟨_, _, rfl, h⟩
theorem own_one (w : World) {base : Nat} (hb : base ≤ w.heap.size) (e : TypeId) (u : Value) : (w.alloc (.cells #[u] e)).ownsRow base e 1 (.slice (some ⟨w.heap.size, 0, none⟩) 1 1) 1 [u] :=
  ⟨rfl, .inr ⟨w.heap.size, 1, #[u], rfl, hb, heap_alloc_new w _, Nat.le_refl _, by unfold maxLen; omega, rfl, rfl⟩⟩

theorem sl_one (w : World) (e : TypeId) (u : Value) : Sl (w.alloc (.cells #[u] e)) (some ⟨w.heap.size, 0, none⟩) 1 [u] := Sl.of_own (own_one w (Nat.le_refl _) e u)
theorem sl_lit (w : World) (e : TypeId) (cs : Array Value) (hm : cs.size ≤ 1000000000) : Sl (w.alloc (.cells cs e)) (some ⟨w.heap.size, 0, none⟩) cs.size cs.toList :=
  Sl.of_own (base := w.heap.size) (c := cs.size) (e := e) ⟨by simp, .inr ⟨w.heap.size, cs.size, cs, rfl, Nat.le_refl _, heap_alloc_new w _, Nat.le_refl _, by unfold maxLen; omega, by omega, by rw [Nat.mul_one]; exact List.take_of_length_le (by simp)⟩⟩
theorem one_one (k : IntKind) (x : Int) : ∀ u ∈ [Value.int k x], u.oneCell' = true := by
  intro u hu
  rw [List.mem_singleton.1 hu]; rfl

section
variable {P : Program} (w : World)
/-- append onto a row of the call's own, from whatever slice, one cell an element. -/
theorem run_app (base : Nat) (t ty e : TypeId) (i : TypeInfo) (z : Value) (bytes : Nat) (ht : P.underlying t = some (.slice e)) (hi : P.info? e = some i) (hz : i.zero = some z)
    (hsize : i.size = 1) (hby : i.bytes = bytes) (hzs : z.cells.size = 1)
    (v : Value) (n : Nat) (xs : List Value) (hown : w.ownsRow base e 1 v n xs)
    (A : Option Addr) (m c : Nat) (news : List Value) (hr : Sl w A m news) (h1 : ∀ u ∈ news, u.oneCell' = true)
    (hbytes : (n + m) * bytes ≤ 140737488355328) (hb0 : 0 < bytes) (hbase : base ≤ w.heap.size) :
    ∃ v' w', (Builtin.append_ #[t, t] ty #[v, .slice A m c]).run P w = .ok v' w' ∧ w'.ownsRow base e 1 v' (n + m) (xs ++ news) ∧ w.grownBy w' v.ownBlock ∧
      (v'.ownBlock = v.ownBlock ∨ v'.ownBlock = some w.heap.size) := by
  have h63 : n + m ≤ maxLen := by
    have := Nat.le_mul_of_pos_right (n + m) hb0
    unfold maxLen; omega
  rcases A with _ | ad
  · have hm : m = 0 := by
      rcases Nat.eq_zero_or_pos m with h0 | h0
      · exact h0
      · obtain ⟨_, _, h, _⟩ := hr.2 h0
        cases h
    subst hm
    have hn : news = [] := List.eq_nil_of_length_eq_zero hr.1
    subst hn
    refine ⟨v, w, ?_, by simpa using hown, World.grownBy.refl w _, .inl rfl⟩
    rcases hown.2 with ⟨rfl, rfl⟩ | ⟨g, cap, cur, rfl, _, _, hnc, _⟩
    · simp [Builtin.append_, run_underlying ht, sizeOf, typeInfo, hi, Builtin.lenOf, Builtin.firstCells]
    · simp [Builtin.append_, run_underlying ht, sizeOf, typeInfo, hi, Builtin.lenOf, Builtin.firstCells, hnc, storeCells]
  · have hcells : ∀ j u, news[j]? = some u → w.cell? (ad.add j) = some u := by
      intro j u hu
      rcases Nat.eq_zero_or_pos m with h0 | h0
      · subst h0
        have hn : news = [] := List.eq_nil_of_length_eq_zero hr.1
        subst hn
        simp at hu
      · obtain ⟨b, o, h, _⟩ := hr.2 h0
        injection h with h
        subst h
        exact hr.news j u hu
    obtain ⟨v', w', hrun, h2, h3, _, h5⟩ := run_append_own_at (P := P) w base t ty e i z 1 bytes ht hi hz hsize hby hzs (by omega) v n xs hown ad m c news (by rw [hr.1]; omega) hcells h1 h63 hbytes hbase
    exact ⟨v', w', hrun, h2, h3, h5⟩

end

/-- Block g is the cells cs of element type t, none frozen. -/
def Blk (w : World) (g : Nat) (t : TypeId) (cs : Array Value) : Prop := w.heap[g]? = some (.cells cs t (0, 0))

section
variable {w w' : World} {g : Nat} {t : TypeId} {cs : Array Value}
theorem Blk.lt (h : Blk w g t cs) : g < w.heap.size := by
  rcases Nat.lt_or_ge g w.heap.size with hlt | hge
  · exact hlt
  · unfold Blk at h; rw [Array.getElem?_eq_none hge] at h; cases h
theorem Blk.cell (h : Blk w g t cs) (i : Nat) : w.cell? ⟨g, i, none⟩ = cs[i]? := cell_of_row w g i cs t (0, 0) h
theorem Blk.free (h : Blk w g t cs) (i : Nat) : w.frozen? ⟨g, i, none⟩ = false := frozen_of_row w g i cs t h
theorem Blk.fresh (w : World) (t : TypeId) (cs : Array Value) : Blk (w.alloc (.cells cs t)) w.heap.size t cs := heap_alloc_new w _
theorem Blk.drewN (h : Blk w g t cs) (n : Nat) : Blk (w.drewN n) g t cs := h
theorem Blk.alloc (h : Blk w g t cs) (o : Obj) : Blk (w.alloc o) g t cs := (Below.heap_alloc w o g h.lt).trans h
theorem Blk.put (h : Blk w g t cs) (i : Nat) (u : Value) : Blk (w.setCell ⟨g, i, none⟩ u) g t (cs.setIfInBounds i u) := by
  unfold Blk at h ⊢
  simp [World.setCell, Array.getElem?_modify, h]
theorem Blk.far (h : Blk w g t cs) {p : Addr} (hp : g ≠ p.block) (u : Value) : Blk (w.setCell p u) g t cs := (Below.heap_setCell w p u g hp).trans h
theorem Blk.below (h : Blk w g t cs) (hb : Below w.heap.size w w') : Blk w' g t cs := (hb.block g h.lt).trans h
theorem Blk.grown {row : Option Nat} (h : Blk w g t cs) (hb : w.grownBy w' row) (hg : some g ≠ row) : Blk w' g t cs := (hb.block g h.lt hg).trans h
end

theorem own_mono {w : World} {base base' : Nat} {e : TypeId} {v : Value} {n : Nat} {xs : List Value} (h : w.ownsRow base e 1 v n xs) (hb : base' ≤ base) : w.ownsRow base' e 1 v n xs := by
  obtain ⟨h1, h2⟩ := h
  refine ⟨h1, ?_⟩
  rcases h2 with h2 | ⟨g, cap, cur, hv, hg, r⟩
  · exact .inl h2
  · exact .inr ⟨g, cap, cur, hv, by omega, r⟩
theorem only_none {a w : World} (h : a.grownBy w none) : Below a.heap.size a w := ⟨h.os, h.tape, h.output, h.size, fun i hi => h.block i hi (by simp)⟩
end Go.Proofs.Ytjgdjobhhdhfjaa

/-
  What was there is as it was, but for the blocks of a set.
-/
namespace Go.Proofs.Ytjgdjobhhdhfjaa
open Go.RowKit

structure Only (S : Nat → Prop) (a w : World) : Prop where
  os : w.os = a.os
  tape : w.tape = a.tape
  output : w.output = a.output
  size : a.heap.size ≤ w.heap.size
  block : ∀ i, i < a.heap.size → ¬ S i → w.heap[i]? = a.heap[i]?

section
variable {S S' : Nat → Prop} {a b c w w' : World}
theorem Only.refl (S : Nat → Prop) (w : World) : Only S w w := ⟨rfl, rfl, rfl, Nat.le_refl _, fun _ _ _ => rfl⟩
theorem Only.trans (h : Only S a b) (k : Only S b c) : Only S a c :=
  ⟨k.os.trans h.os, k.tape.trans h.tape, k.output.trans h.output, Nat.le_trans h.size k.size, fun i hi hn => (k.block i (Nat.lt_of_lt_of_le hi h.size) hn).trans (h.block i hi hn)⟩
theorem Only.mono (h : Only S a w) (hS : ∀ i, S i → S' i) : Only S' a w := ⟨h.os, h.tape, h.output, h.size, fun i hi hn => h.block i hi fun hs => hn (hS i hs)⟩
theorem Only.drewN (h : Only S a w) (n : Nat) : Only S a (w.drewN n) := ⟨h.os, h.tape, h.output, h.size, h.block⟩
theorem Only.drew (h : Only S a w) : Only S a w.drew := ⟨h.os, h.tape, h.output, h.size, h.block⟩
theorem Only.of_drewN {n : Nat} (h : Only S (a.drewN n) w) : Only S a w := ⟨h.os, h.tape, h.output, h.size, h.block⟩
theorem Only.setCell (h : Only S a w) {p : Addr} (hp : S p.block ∨ a.heap.size ≤ p.block) (u : Value) : Only S a (w.setCell p u) :=
  ⟨h.os, h.tape, h.output, by simpa [World.setCell] using h.size, fun i hi hn => (Below.heap_setCell w p u i (by
    rintro rfl
    rcases hp with hp | hp
    · exact hn hp
    · omega)).trans (h.block i hi hn)⟩
theorem Only.alloc (h : Only S a w) (o : Obj) : Only S a (w.alloc o) :=
  ⟨h.os, h.tape, h.output, Nat.le_trans h.size (by simp), fun i hi hn => (Below.heap_alloc w o i (Nat.lt_of_lt_of_le hi h.size)).trans (h.block i hi hn)⟩
theorem Only.of_below (h : Below a.heap.size a w) : Only S a w := ⟨h.os, h.tape, h.output, h.size, fun i hi _ => h.block i hi⟩
theorem Only.then (h : Only S a b) (k : Below b.heap.size b c) : Only S a c := h.trans (Only.of_below k)
theorem Only.below {B : Nat} (h : Only S a w) (hB : B ≤ a.heap.size) (hS : ∀ i, S i → B ≤ i) : Below B a w :=
  ⟨h.os, h.tape, h.output, h.size, fun i hi => h.block i (by omega) fun hs => by have := hS i hs; omega⟩
theorem Only.trans' (h : Only S a b) (k : Only S' b c) (hS : ∀ i, S' i → S i ∨ a.heap.size ≤ i) : Only S a c :=
  ⟨k.os.trans h.os, k.tape.trans h.tape, k.output.trans h.output, Nat.le_trans h.size k.size, fun i hi hn => (k.block i (Nat.lt_of_lt_of_le hi h.size) (fun hs => by
    rcases hS i hs with h1 | h1
    · exact hn h1
    · omega)).trans (h.block i hi hn)⟩
theorem Only.cell (h : Only S w w') {p : Addr} (hp : p.block < w.heap.size) (hn : ¬ S p.block) : w'.cell? p = w.cell? p := World.cell?_of_block (h.block _ hp hn)
theorem Blk.only {g : Nat} {t : TypeId} {cs : Array Value} (h : Blk w g t cs) (hb : Only S w w') (hg : ¬ S g) : Blk w' g t cs := (hb.block g h.lt hg).trans h
theorem Sl.only {A : Option Addr} {n : Nat} {xs : List Value} (h : Sl w A n xs) (hb : Only S w w') (hne : 0 < n → ∀ b o, A = some ⟨b, o, none⟩ → ¬ S b) : Sl w' A n xs :=
  h.keep hb.size fun hn b o e hlt => hb.block b hlt (hne hn b o e)
theorem own_only {base : Nat} {e : TypeId} {g n c : Nat} {xs : List Value} (h : w.ownsRow base e 1 (.slice (some ⟨g, 0, none⟩) n c) n xs) (hb : Only S w w') (hg : ¬ S g) : w'.ownsRow base e 1 (.slice (some ⟨g, 0, none⟩) n c) n xs := by
  refine ⟨h.1, ?_⟩
  rcases h.2 with ⟨hv, _⟩ | ⟨g', cap, cur, hv, hb', hh, r⟩
  · cases hv
  · refine .inr ⟨g', cap, cur, hv, hb', ?_, r⟩
    injection hv with h1
    injection h1 with h1
    injection h1 with h1
    subst h1
    have hlt : g < w.heap.size := by
      rcases Nat.lt_or_ge g w.heap.size with hlt | hge
      · exact hlt
      · rw [Array.getElem?_eq_none hge] at hh; cases hh
    exact (hb.block g hlt hg).trans hh
end
end Go.Proofs.Ytjgdjobhhdhfjaa

/-
  Numbers and rows as the document has them, over lists of bytes: plain mathematics, no program.
-/
namespace Go.Proofs.Ytjgdjobhhdhfjaa

/-- bytes as a number, the least first -/
def leVal : List UInt8 → Nat
  | [] => 0
  | b :: r => b.toNat + 256 * leVal r

/-- the size least bytes of v, the least first -/
def leBytes (size v : Nat) : List UInt8 := (List.range size).map fun i => UInt8.ofNat (v / 256 ^ i % 256)
/-- how many bytes follow the first of the shortest short number that is v: k -/
structure IsFol (v k : Nat) : Prop where
  le : k ≤ 8
  lt : k < 8 → v < 2 ^ (7 * k + 7)
  ge : ∀ j, j < k → 2 ^ (7 * j + 7) ≤ v
def folAux (v : Nat) : Nat → Nat → Nat
  | 0, k => k
  | f + 1, k => if v < 2 ^ (7 * k + 7) then k else folAux v f (k + 1)
def fol (v : Nat) : Nat := folAux v 8 0
/-- what stands above the following bytes -/
theorem IsFol.top {v k : Nat} (h : IsFol v k) (hv : v < 18446744073709551616) : v / 256 ^ k < 2 ^ (7 - k) ∧ (7 ≤ k → v / 256 ^ k = 0) := by
  have hk := h.le
  have h1 := h.lt
  have : k = 0 ∨ k = 1 ∨ k = 2 ∨ k = 3 ∨ k = 4 ∨ k = 5 ∨ k = 6 ∨ k = 7 ∨ k = 8 := by omega
  rcases this with rfl | rfl | rfl | rfl | rfl | rfl | rfl | rfl | rfl <;> simp at h1 ⊢ <;> omega
/-- the shortest short number that is v -/
def shortBytes (v : Nat) : List UInt8 := UInt8.ofNat (256 - 2 ^ (8 - fol v) + v / 256 ^ fol v) :: leBytes (fol v) v
end Go.Proofs.Ytjgdjobhhdhfjaa

/-
  Arithmetic of fixed width as the walk writes it: shifts, or, and, and sums that do not wrap.
-/
namespace Go.Proofs.Ytjgdjobhhdhfjaa
open Go.RowKit

theorem u64_in (x : Nat) (h : x < 18446744073709551616) : IntKind.u64.wrap (x : Int) = (x : Int) := by
  rw [IntKind.wrap_u64]; omega
theorem cast_pow2 (k : Nat) : ((2 : Int) ^ k) = ((2 ^ k : Nat) : Int) := by
  rw [Int.natCast_pow]; rfl

end Go.Proofs.Ytjgdjobhhdhfjaa

/-
  What a type's facts say, in parts.
-/
namespace Go.Proofs.Ytjgdjobhhdhfjaa
open Go.RowKit

theorem info_parts {P : Program} {t : TypeId} {z : Value} {s b : Nat} (h : (P.info? t).map (fun i => (i.zero, i.size, i.bytes)) = some (some z, s, b)) : ∃ i, P.info? t = some i ∧ i.zero = some z ∧ i.size = s ∧ i.bytes = b := by
  cases hi : P.info? t with
  | none => rw [hi] at h; cases h
  | some i =>
    rw [hi] at h
    simp only [Option.map_some, Option.some.injEq, Prod.mk.injEq] at h
    exact ⟨i, rfl, h.1, h.2.1, h.2.2⟩
theorem info_u8 : (Try.prog.info? 5).map (fun i => (i.zero, i.size, i.bytes)) = some (some (.int .u8 0), 1, 1) := by kernel_rfl

end Go.Proofs.Ytjgdjobhhdhfjaa

/-
  A feed: made of bytes, it gives each once, in order. Its row lies from block lo on, ahead of its own block.
-/
namespace Go.Proofs.Ytjgdjobhhdhfjaa
open Go.RowKit

/-- At block g stands a feed over the bytes bs, whose row lies from block lo on and ahead of g; k were given. -/
def Feed (w : World) (g lo : Nat) (bs : List UInt8) (k : Nat) : Prop :=
  ∃ A c, Blk w g 93 #[.slice A bs.length c, .int .i64 (k : Int)] ∧ Sl w A bs.length (bv bs) ∧ bs.length ≤ c ∧ c ≤ maxLen ∧ k ≤ bs.length ∧ lo ≤ g ∧ (0 < bs.length → ∀ b o, A = some ⟨b, o, none⟩ → lo ≤ b ∧ b < g)

theorem Feed.lt {w : World} {g lo : Nat} {bs : List UInt8} {k : Nat} (h : Feed w g lo bs k) : g < w.heap.size := by
  obtain ⟨_, _, hB, _⟩ := h
  exact hB.lt
theorem Feed.le {w : World} {g lo : Nat} {bs : List UInt8} {k : Nat} (h : Feed w g lo bs k) : k ≤ bs.length := by
  obtain ⟨_, _, _, _, _, _, h, _⟩ := h
  exact h
theorem Feed.lo {w : World} {g lo : Nat} {bs : List UInt8} {k : Nat} (h : Feed w g lo bs k) : lo ≤ g := by
  obtain ⟨_, _, _, _, _, _, _, h, _⟩ := h
  exact h
theorem Feed.drewN {w : World} {g lo : Nat} {bs : List UInt8} {k : Nat} (h : Feed w g lo bs k) (n : Nat) : Feed (w.drewN n) g lo bs k := h
theorem Feed.only {S : Nat → Prop} {w w' : World} {g lo : Nat} {bs : List UInt8} {k : Nat} (h : Feed w g lo bs k) (hb : Only S w w') (hS : ∀ i, S i → i < lo ∨ g < i) : Feed w' g lo bs k := by
  obtain ⟨A, c, hB, hs, h1, h2, h3, h4, h5⟩ := h
  refine ⟨A, c, hB.only hb (fun h => ?_), hs.only hb (fun hn b o e h => ?_), h1, h2, h3, h4, h5⟩
  · have := hS g h; omega
  · have := hS b h
    have := h5 hn b o e
    omega

end Go.Proofs.Ytjgdjobhhdhfjaa

/-
  A row of bytes of the call's own, its block named; rows compared.
-/
namespace Go.Proofs.Ytjgdjobhhdhfjaa
open Go.RowKit

/-- Block q holds the bytes bs. -/
def Byt (w : World) (q c : Nat) (bs : List UInt8) : Prop := w.ownsRow 0 5 1 (.slice (some ⟨q, 0, none⟩) bs.length c) bs.length (bv bs)

theorem bv_set (bs : List UInt8) (i : Nat) (y : UInt8) : (bv bs).set i (.int .u8 (y.toNat : Int)) = bv (bs.set i y) := by
  simp [bv, List.map_set]

section
variable {w w' : World} {q c : Nat} {bs : List UInt8}
theorem Byt.cell (h : Byt w q c bs) {i : Nat} (hi : i < bs.length) : w.cell? ⟨q, i, none⟩ = some (.int .u8 ((bs.getD i 0).toNat : Int)) := by
  rw [World.ownsRow.cellAt h i (by omega), bv_get bs i hi]
theorem Byt.free (h : Byt w q c bs) (i : Nat) : w.frozen? ⟨q, i, none⟩ = false := World.ownsRow.frozenAt h i
theorem Byt.put (h : Byt w q c bs) (i : Nat) (y : UInt8) : Byt (w.setCell ⟨q, i, none⟩ (.int .u8 (y.toNat : Int))) q c (bs.set i y) := by
  have := (World.ownsRow.stored h i (.int .u8 (y.toNat : Int))).1
  rw [bv_set] at this
  unfold Byt
  rw [List.length_set]
  exact this
theorem Byt.drewN (h : Byt w q c bs) (n : Nat) : Byt (w.drewN n) q c bs := h
theorem Byt.only {S : Nat → Prop} (h : Byt w q c bs) (hb : Only S w w') (hS : ¬ S q) : Byt w' q c bs := own_only h hb hS
theorem Byt.lt (h : Byt w q c bs) : q < w.heap.size := (World.ownsRow.lt h q rfl).2
theorem Byt.own (h : Byt w q c bs) : w.ownsRow 0 5 1 (.slice (some ⟨q, 0, none⟩) bs.length c) bs.length (bv bs) := h
theorem Byt.sl (h : Byt w q c bs) : Sl w (some ⟨q, 0, none⟩) bs.length (bv bs) := (own_facts h).1
theorem Byt.cap (h : Byt w q c bs) : bs.length ≤ c ∧ c ≤ maxLen := by
  obtain ⟨_, h2, h3, _⟩ := own_facts h
  exact ⟨h2, h3⟩
end

set_option maxHeartbeats 1000000 in
theorem bytesSame_any {A B : Option Addr} {n ca cb : Nat} {bs : List UInt8} {w : World} (hA : Sl w A n (bv bs)) (hB : Sl w B n (bv bs)) (hn : n ≤ 1000000000) :
    Calls Try.prog 20 #[.slice A n ca, .slice B n cb] w fun e w' => e = .returned (.bool true) ∧ ∃ d, w.drewN d = w' := by
  have HA := Lib.hid hA
  have HB := Lib.hid hB
  have hl : bs.length = n := by rw [← bv_length]; exact hA.1
  have HL := Lib.hid hl
  clear hA hB hl
  go_enter Try.func20, Try.ntmps20
  go_wp2_with fail
  go_loopw [5] (fun i wr => ∃ j k : Nat, j ≤ n ∧ i = .int .i64 (j : Int) ∧ wr = w.drewN k) (fun i _ => n - (intOf i).toNat)
  case atStart => exact ⟨0, 0, Nat.zero_le _, rfl, rfl⟩
  case round =>
    obtain ⟨j, k, hj, rfl, rfl⟩ := hrel
    by_cases hlt : j < n
    · obtain ⟨ba, oa, rfl, hba, hca⟩ := HA.out.2 (by omega)
      obtain ⟨bb, ob, rfl, hbb, hcb⟩ := HB.out.2 (by omega)
      have c1 : w.cell? ⟨ba, oa + j, none⟩ = some (.int .u8 ((bs.getD j 0).toNat : Int)) := by rw [hca j hlt, bv_get bs j (by have := HL.out; omega)]
      have c2 : w.cell? ⟨bb, ob + j, none⟩ = some (.int .u8 ((bs.getD j 0).toNat : Int)) := by rw [hcb j hlt, bv_get bs j (by have := HL.out; omega)]
      generalize bs.getD j 0 = x at *
      have i0 : (0 : Int) ≤ (j : Int) := by omega
      have i1 : (j : Int) < (n : Int) := by omega
      clear hca hcb
      go_wp2_with fail
      go_quiet (fail)
      go_wp2_with fail
      go_roundw
      case rel => exact ⟨j + 1, k + nq, by omega, by go_num, rfl⟩
      case measure => simp [intOf]; omega
    · obtain rfl : j = n := by omega
      go_wp2_with fail
      go_ret
      exact ⟨rfl, _, rfl⟩
end Go.Proofs.Ytjgdjobhhdhfjaa



/-
  An own row stays.
-/
namespace Go.Proofs.Ytjgdjobhhdhfjaa
open Go.RowKit

theorem own_only' {S : Nat → Prop} {w w' : World} {base : Nat} {e : TypeId} {v : Value} {n : Nat} {xs : List Value} (h : w.ownsRow base e 1 v n xs) (hb : Only S w w') (hg : ∀ i, v.ownBlock = some i → ¬ S i) : w'.ownsRow base e 1 v n xs := by
  refine ⟨h.1, ?_⟩
  rcases h.2 with hv | ⟨g', cap, cur, hv, hb', hh, r⟩
  · exact .inl hv
  · refine .inr ⟨g', cap, cur, hv, hb', ?_, r⟩
    subst hv
    have hlt : g' < w.heap.size := by
      rcases Nat.lt_or_ge g' w.heap.size with hlt | hge
      · exact hlt
      · rw [Array.getElem?_eq_none hge] at hh; cases hh
    exact (hb.block g' hlt (hg g' rfl)).trans hh
theorem own_old {w : World} {base : Nat} {e : TypeId} {v : Value} {n i : Nat} {xs : List Value} (h : w.ownsRow base e 1 v n xs) (hi : v.ownBlock = some i) : i < w.heap.size := (World.ownsRow.lt h i hi).2
end Go.Proofs.Ytjgdjobhhdhfjaa

/-
  The program's coder as numbers: the bytes that it gave, the byte that waits, the bytes FF behind it, low; and the one great number that it stands for.
-/
namespace Go.Proofs.Ytjgdjobhhdhfjaa

structure Co where
  gs : List UInt8
  wt : Nat
  fu : Nat
  lo : Nat

def Co.new : Co := ⟨[], 0, 0, 0⟩
/-- what waited is given, more by m -/
def Co.gave (c : Co) (m : Nat) : List UInt8 := c.gs ++ (UInt8.ofNat (c.wt + m) :: List.replicate c.fu (UInt8.ofNat (255 + m)))
/-- a byte is given -/
def Co.give (c : Co) : Co :=
  if 4294967296 ≤ c.lo then ⟨c.gave 1, c.lo / 16777216 % 256, 0, c.lo % 16777216 * 256⟩
  else if c.lo < 4278190080 then ⟨c.gave 0, c.lo / 16777216, 0, c.lo % 16777216 * 256⟩
  else ⟨c.gs, c.wt, c.fu + 1, c.lo % 16777216 * 256⟩

/-- the coder c stands for n, as long as l; what is added stays below r -/
structure CoN (c : Co) (n l r : Nat) : Prop where
  num : n + 4294967296 = (be c.gs * 256 + c.wt + 1) * 256 ^ c.fu * 4294967296 + c.lo
  len : l = c.gs.length + c.fu + 5
  wt : c.wt < 256
  top : c.lo + r ≤ 8589934592
  full : c.wt = 255 → c.lo + r ≤ 4294967296
  pos : 1 ≤ r

theorem coN_new : CoN Co.new 0 5 4294967295 := ⟨by decide, rfl, by decide, by decide, by decide, by decide⟩
theorem CoN.mono {c : Co} {n l r r' : Nat} (h : CoN c n l r) (hr : r' ≤ r) (h1 : 1 ≤ r') : CoN c n l r' :=
  ⟨h.num, h.len, h.wt, by have := h.top; omega, fun e => by have := h.full e; omega, h1⟩
theorem CoN.low {c : Co} {n l r : Nat} (h : CoN c n l r) : c.lo < 8589934592 := by have := h.top; have := h.pos; omega

/-- what is added -/
def Co.plus (c : Co) (z : Nat) : Co := ⟨c.gs, c.wt, c.fu, c.lo + z⟩
theorem CoN.plus {c : Co} {n l r r' z : Nat} (h : CoN c n l r) (hz : z + r' ≤ r) (h1 : 1 ≤ r') : CoN (c.plus z) (n + z) l r' :=
  ⟨by have := h.num; show n + z + 4294967296 = (be c.gs * 256 + c.wt + 1) * 256 ^ c.fu * 4294967296 + (c.lo + z); omega, h.len, h.wt, by have := h.top; show c.lo + z + r' ≤ _; omega, fun e => by have := h.full e; show c.lo + z + r' ≤ _; omega, h1⟩

theorem be_fulls : ∀ k : Nat, be (List.replicate k (UInt8.ofNat 255)) + 1 = 256 ^ k
  | 0 => rfl
  | k + 1 => by
    have := be_fulls k
    rw [List.replicate_succ', be_snoc, Nat.pow_succ]
    have e : (UInt8.ofNat 255).toNat = 255 := rfl
    rw [e]
    omega
theorem gave_len (c : Co) (m : Nat) : (c.gave m).length = c.gs.length + 1 + c.fu := by unfold Co.gave; simp; omega
theorem be_gave_zero (c : Co) (h : c.wt < 256) : be (c.gave 0) + 1 = (be c.gs * 256 + c.wt + 1) * 256 ^ c.fu := by
  have e : (UInt8.ofNat (c.wt + 0)).toNat = c.wt := by simp; omega
  have k := be_fulls c.fu
  have hc : UInt8.ofNat (c.wt + 0) :: List.replicate c.fu (UInt8.ofNat (255 + 0)) = [UInt8.ofNat (c.wt + 0)] ++ List.replicate c.fu (UInt8.ofNat 255) := rfl
  unfold Co.gave
  rw [hc, ← List.append_assoc, be_append, be_snoc, e, List.length_replicate, Nat.add_mul (be c.gs * 256 + c.wt) 1]
  omega
theorem be_gave_one (c : Co) (h : c.wt < 255) : be (c.gave 1) = (be c.gs * 256 + c.wt + 1) * 256 ^ c.fu := by
  have e : (UInt8.ofNat (c.wt + 1)).toNat = c.wt + 1 := by simp; omega
  have hc : UInt8.ofNat (c.wt + 1) :: List.replicate c.fu (UInt8.ofNat (255 + 1)) = [UInt8.ofNat (c.wt + 1)] ++ List.replicate c.fu 0 := rfl
  unfold Co.gave
  rw [hc, ← List.append_assoc, be_append, be_snoc, e, List.length_replicate, be_zeros, Nat.add_zero, Nat.add_assoc]

theorem give_carry {n X lo h m : Nat} (hn : n + 4294967296 = X * 4294967296 + lo) (hlo : lo = 4294967296 + h * 16777216 + m) : n * 256 + 4294967296 = (X * 256 + h + 1) * 4294967296 + m * 256 := by omega
theorem give_low {n X Y lo h m : Nat} (hn : n + 4294967296 = X * 4294967296 + lo) (hY : Y + 1 = X) (hlo : lo = h * 16777216 + m) : n * 256 + 4294967296 = (Y * 256 + h + 1) * 4294967296 + m * 256 := by omega
theorem give_full {n X lo m : Nat} (hn : n + 4294967296 = X * 4294967296 + lo) (hlo : lo = 255 * 16777216 + m) : n * 256 + 4294967296 = X * 256 * 4294967296 + m * 256 := by omega

theorem CoN.give {c : Co} {n l r : Nat} (h : CoN c n l r) (hr : r < 16777216) : CoN c.give (n * 256) (l + 1) (r * 256) := by
  obtain ⟨h1, h2, h3, h4, h5, h6⟩ := h
  unfold Co.give
  by_cases hc : 4294967296 ≤ c.lo
  · rw [if_pos hc]
    have hw : c.wt < 255 := by
      rcases Nat.lt_or_ge c.wt 255 with h | h
      · exact h
      · have := h5 (by omega)
        omega
    have hX := be_gave_one c hw
    rw [← hX] at h1
    refine ⟨?_, ?_, Nat.mod_lt _ (by decide), ?_, ?_, by omega⟩
    · show n * 256 + 4294967296 = (be (c.gave 1) * 256 + c.lo / 16777216 % 256 + 1) * 256 ^ 0 * 4294967296 + c.lo % 16777216 * 256
      rw [Nat.pow_zero, Nat.mul_one]
      exact give_carry h1 (by omega)
    · show l + 1 = (c.gave 1).length + 0 + 5
      rw [gave_len]
      omega
    · show c.lo % 16777216 * 256 + r * 256 ≤ _
      omega
    · show c.lo / 16777216 % 256 = 255 → c.lo % 16777216 * 256 + r * 256 ≤ _
      intro e
      omega
  · rw [if_neg hc]
    by_cases hl : c.lo < 4278190080
    · rw [if_pos hl]
      have hX := be_gave_zero c h3
      refine ⟨?_, ?_, ?_, ?_, ?_, by omega⟩
      · show n * 256 + 4294967296 = (be (c.gave 0) * 256 + c.lo / 16777216 + 1) * 256 ^ 0 * 4294967296 + c.lo % 16777216 * 256
        rw [Nat.pow_zero, Nat.mul_one]
        exact give_low h1 hX (by omega)
      · show l + 1 = (c.gave 0).length + 0 + 5
        rw [gave_len]
        omega
      · show c.lo / 16777216 < 256
        omega
      · show c.lo % 16777216 * 256 + r * 256 ≤ _
        omega
      · show c.lo / 16777216 = 255 → c.lo % 16777216 * 256 + r * 256 ≤ _
        intro e
        omega
    · rw [if_neg hl]
      refine ⟨?_, ?_, h3, ?_, ?_, by omega⟩
      · show n * 256 + 4294967296 = (be c.gs * 256 + c.wt + 1) * 256 ^ (c.fu + 1) * 4294967296 + c.lo % 16777216 * 256
        rw [Nat.pow_succ, ← Nat.mul_assoc]
        exact give_full h1 (by omega)
      · show l + 1 = c.gs.length + (c.fu + 1) + 5
        omega
      · show c.lo % 16777216 * 256 + r * 256 ≤ _
        omega
      · show c.wt = 255 → c.lo % 16777216 * 256 + r * 256 ≤ _
        intro e
        have := h5 e
        omega

/-- k bytes are given -/
def Co.gives (c : Co) : Nat → Co
  | 0 => c
  | k + 1 => (c.gives k).give
theorem give_lo (c : Co) : c.give.lo = c.lo % 16777216 * 256 := by
  unfold Co.give
  split
  · rfl
  · split <;> rfl
theorem give_zero {c : Co} (h : c.lo = 0) : c.give.fu = 0 ∧ c.give.wt = 0 ∧ c.give.lo = 0 := by
  unfold Co.give
  rw [if_neg (by omega), if_pos (by omega)]
  exact ⟨rfl, by show c.lo / 16777216 = 0; omega, by show c.lo % 16777216 * 256 = 0; omega⟩
theorem CoN.gives {c : Co} {n l : Nat} (h : CoN c n l 1) : ∀ k, CoN (c.gives k) (n * 256 ^ k) (l + k) 1
  | 0 => by rw [Nat.pow_zero, Nat.mul_one]; exact h
  | k + 1 => by
    have := (CoN.gives h k).give (by decide)
    rw [Nat.pow_succ, ← Nat.mul_assoc]
    exact this.mono (by decide) (by decide)
/-- In the end all is given. -/
theorem CoN.finish {c : Co} {n l r : Nat} (h : CoN c n l r) : be (c.gives 5).gs = n ∧ (c.gives 5).gs.length = l := by
  have h0 := h.low
  have h5 := (h.mono h.pos (Nat.le_refl 1)).gives 5
  have l1 : (c.gives 1).lo = c.lo % 16777216 * 256 := give_lo _
  have l2 : (c.gives 2).lo = (c.gives 1).lo % 16777216 * 256 := give_lo _
  have l3 : (c.gives 3).lo = (c.gives 2).lo % 16777216 * 256 := give_lo _
  have l4 : (c.gives 4).lo = (c.gives 3).lo % 16777216 * 256 := give_lo _
  obtain ⟨z1, z2, z3⟩ : (c.gives 5).fu = 0 ∧ (c.gives 5).wt = 0 ∧ (c.gives 5).lo = 0 := give_zero (c := c.gives 4) (by omega)
  obtain ⟨k1, k2, _⟩ := h5
  rw [z1, z2, z3, Nat.pow_zero] at k1
  rw [z1] at k2
  exact ⟨by omega, by omega⟩

theorem gives_succ (c : Co) (k : Nat) : c.gives (k + 1) = (c.gives k).give := rfl
theorem give_fu (c : Co) : c.give.gs.length + c.give.fu = c.gs.length + c.fu + 1 := by
  unfold Co.give
  split
  · show (c.gave 1).length + 0 = _; rw [gave_len]; omega
  · split
    · show (c.gave 0).length + 0 = _; rw [gave_len]; omega
    · show c.gs.length + (c.fu + 1) = _; omega
theorem gives_len (c : Co) : ∀ k, (c.gives k).gs.length + (c.gives k).fu = c.gs.length + c.fu + k
  | 0 => rfl
  | k + 1 => by have := give_fu (c.gives k); have := gives_len c k; rw [gives_succ]; omega
end Go.Proofs.Ytjgdjobhhdhfjaa

/-
  The decoder's small calls: a byte comes in, the decoder is refused, what it told.
-/
namespace Go.Proofs.Ytjgdjobhhdhfjaa
open Go.RowKit

def pdCells (f r c : Nat) (bad : Bool) : Array Value := #[.iface 35 (.pointer (some ⟨f, 0, none⟩)), .int .u32 (r : Int), .int .u32 (c : Int), .bool bad]

/-- what state cells tell -/
def Told (bs : List UInt8) (d : Dc) (at_ r k : Nat) (bad : Bool) : Prop :=
  at_ ≤ bs.length ∧ r < 4294967296 ∧ k < 4294967296 ∧ ((bad = true ∧ d = none) ∨ (bad = false ∧ d = some (r, k, bs.drop at_)))

/-- Block g is the decoder over the feed at block f; its state is d. -/
def Pd (w : World) (g f lo : Nat) (bs : List UInt8) (d : Dc) : Prop :=
  ∃ at_ r c bad, Blk w g 128 (pdCells f r c bad) ∧ Feed w f lo bs at_ ∧ f < g ∧ Told bs d at_ r c bad

/-- the decoder's own blocks -/
def two (f g : Nat) : Nat → Prop := fun i => i = f ∨ i = g

theorem u32_of (x : Int) (h0 : 0 ≤ x) (h : x < 4294967296) : IntKind.u32.wrap x = x := by
  simp [IntKind.wrap, IntKind.bits, IntKind.signed]; omega
section
variable {g f lo r c at_ : Nat} {w : World} {bs : List UInt8}

end

end Go.Proofs.Ytjgdjobhhdhfjaa

/-
  The decoder is evened out, and tells a bit straight.
-/
namespace Go.Proofs.Ytjgdjobhhdhfjaa
open Go.RowKit

theorem Pd.only {S : Nat → Prop} {w w' : World} {g f lo : Nat} {bs : List UInt8} {d : Dc} (h : Pd w g f lo bs d) (hb : Only S w w') (hS : ∀ i, S i → i < lo ∨ g < i) : Pd w' g f lo bs d := by
  obtain ⟨at_, r, c, bad, hB, hF, hfg, ht⟩ := h
  have := hF.lo
  exact ⟨at_, r, c, bad, hB.only hb (fun h => by have := hS _ h; omega), hF.only hb (fun i hi => by have := hS i hi; omega), hfg, ht⟩
theorem Pd.drewN {w : World} {g f lo : Nat} {bs : List UInt8} {d : Dc} (h : Pd w g f lo bs d) (n : Nat) : Pd (w.drewN n) g f lo bs d := h
theorem Pd.lt {w : World} {g f lo : Nat} {bs : List UInt8} {d : Dc} (h : Pd w g f lo bs d) : g < w.heap.size := by
  obtain ⟨_, _, _, _, hB, _⟩ := h
  exact hB.lt
theorem Pd.lo {w : World} {g f lo : Nat} {bs : List UInt8} {d : Dc} (h : Pd w g f lo bs d) : lo ≤ f ∧ f < g := by
  obtain ⟨_, _, _, _, _, hF, h, _⟩ := h
  exact ⟨hF.lo, h⟩

section
variable {g f lo r c at_ : Nat} {w : World} {bs : List UInt8}

/-- Straight, and the decoder refused, if it must be. -/
def OnePost (w : World) (g f lo : Nat) (bs : List UInt8) (d : Dc) (e : Ending) (w' : World) : Prop :=
  ∃ v : Nat, e = .returned (.int .u32 (v : Int)) ∧ v ≤ 1 ∧ ((oneD d).2 ≠ none → v = (oneD d).1) ∧ Pd w' g f lo bs (oneD d).2 ∧ Only (two f g) w w'

/-- Behind a definition, so that no walk looks into it. -/
def HighPost (w : World) (g f lo : Nat) (bs s : List UInt8) (h k : Nat) (e : Ending) (w' : World) : Prop :=
  e = .returned (.int .u32 1) ∧ Pd w' g f lo bs (if k < h then lvl h k s else none) ∧ Only (two f g) w w'

end
end Go.Proofs.Ytjgdjobhhdhfjaa

/-
  Probabilities in a block of their own.
-/
namespace Go.Proofs.Ytjgdjobhhdhfjaa
open Go.RowKit

/-- probabilities as cells -/
def pv (ps : List Nat) : List Value := ps.map fun (p : Nat) => Value.int .u16 (p : Int)
theorem pv_length (ps : List Nat) : (pv ps).length = ps.length := by simp [pv]
theorem pv_get (ps : List Nat) (i : Nat) (h : i < ps.length) : (pv ps)[i]? = some (.int .u16 ((ps.getD i 0 : Nat) : Int)) := by
  simp [pv, List.getD, h]
theorem pv_set (ps : List Nat) (i q : Nat) : (pv ps).set i (.int .u16 (q : Int)) = pv (ps.set i q) := by
  simp [pv, List.map_set]

/-- Block b holds the probabilities ps. -/
def Row (w : World) (b : Nat) (ps : List Nat) (c : Nat) : Prop := w.ownsRow 0 25 1 (.slice (some ⟨b, 0, none⟩) ps.length c) ps.length (pv ps)

section
variable {w w' : World} {b c : Nat} {ps : List Nat}
theorem Row.cell (h : Row w b ps c) {i : Nat} (hi : i < ps.length) : w.cell? ⟨b, i, none⟩ = some (.int .u16 ((ps.getD i 0 : Nat) : Int)) := by
  rw [World.ownsRow.cellAt h i (by omega), pv_get ps i hi]
theorem Row.free (h : Row w b ps c) (i : Nat) : w.frozen? ⟨b, i, none⟩ = false := World.ownsRow.frozenAt h i
theorem Row.put (h : Row w b ps c) (i q : Nat) : Row (w.setCell ⟨b, i, none⟩ (.int .u16 (q : Int))) b (ps.set i q) c := by
  have := (World.ownsRow.stored h i (.int .u16 (q : Int))).1
  rw [pv_set] at this
  unfold Row
  rw [List.length_set]
  exact this
theorem Row.drewN (h : Row w b ps c) (n : Nat) : Row (w.drewN n) b ps c := h
theorem Row.only {S : Nat → Prop} (h : Row w b ps c) (hb : Only S w w') (hS : ¬ S b) : Row w' b ps c := own_only h hb hS
theorem Row.lt (h : Row w b ps c) : b < w.heap.size := (World.ownsRow.lt h b rfl).2
theorem Row.cap (h : Row w b ps c) : ps.length ≤ c ∧ c ≤ maxLen := by
  obtain ⟨_, h2, h3, _⟩ := own_facts h
  exact ⟨h2, h3⟩
end

end Go.Proofs.Ytjgdjobhhdhfjaa

/-
  The decoder tells a bit with a probability.
-/
namespace Go.Proofs.Ytjgdjobhhdhfjaa
open Go.RowKit

def three (f g b : Nat) : Nat → Prop := fun i => i = f ∨ i = g ∨ i = b
theorem u16_in (x : Int) (h : 0 ≤ x ∧ x < 65536) : IntKind.u16.wrap x = x := by
  simp [IntKind.wrap, IntKind.bits, IntKind.signed]
  omega

/-- What a bit leaves: behind a definition, so that no walk looks into it. -/
def TellPost (w : World) (g f lo b : Nat) (bs : List UInt8) (ps : List Nat) (pc v : Nat) (d : Dc) (e : Ending) (w' : World) : Prop :=
  e = .returned (.int .i64 (v : Int)) ∧ Pd w' g f lo bs d ∧ Row w' b ps pc ∧ Only (three f g b) w w'

section
variable {g f lo r c at_ b i p pc : Nat} {w : World} {bs : List UInt8} {ps : List Nat}

end
end Go.Proofs.Ytjgdjobhhdhfjaa
