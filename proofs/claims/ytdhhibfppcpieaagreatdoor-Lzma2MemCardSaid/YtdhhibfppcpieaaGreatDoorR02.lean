/-
  LqNum, Only, Prb, PkLay, Pure, Arith, Info: put together.
-/
import Derived.Test.YtdhhibfppcpieaaGreatDoorR01
import Derived.WalkKit
import Derived.Laws.BitsAllLaws
import Derived.Laws.BitsLemmas
import Derived.Test.YtdhhibfppcpieaaGreatDoorRows
import Derived.Tactics
import Derived.Tactics2
import Derived.Laws.Pointers
import Derived.RegionTactic
import Derived.RegionCalls
import Derived.BigQuiet
import Derived.Lib.SliceRun
set_option linter.unusedVariables false
set_option linter.unusedSimpArgs false
/-
  The decoder of LZMA2 as numbers: its fields, what is left of the bytes, the bytes in the window; plain chunks.
-/
namespace Go.Proofs.YtdhhibfppcpieaaGreatDoor

/-- its fields; a source there is, or none; the block of a packed chunk's source -/
structure Ds where
  closed : Bool
  src : Bool
  ended : Bool
  nd : Nat
  a0 : Int
  a1 : Int
  a2 : Int
  a3 : Int
  left : Nat
  pk : Option Nat
def Ds.fail (s : Ds) : Ds := { s with src := false, pk := none, left := 0 }

/-- the fields, the bytes that are left, the bytes in the window -/
structure Lq where
  s : Ds
  r : List UInt8
  o : List UInt8
def Lq.fail (q : Lq) : Lq := { q with s := q.s.fail }
/-- the next byte that is read -/
def Lq.b (q : Lq) : UInt8 := if q.s.src = true then q.r.headD 0 else 0
def Lq.rd (q : Lq) : Lq := if q.s.src = true then (match q.r with | [] => q.fail | _ :: r => { q with r := r }) else q
/-- a number of bytes: one at least -/
def Lq.count (q : Lq) : Nat := q.b.toNat * 256 + q.rd.b.toNat + 1
def Lq.two (q : Lq) : Lq := q.rd.rd
def Lq.start (q : Lq) (n : Nat) : Lq := if q.s.src = true then { q with s := { q.s with left := n, pk := none } } else q
def Lq.plain (q : Lq) : Lq := q.two.start q.count
def Lq.end_ (q : Lq) : Lq := { q with s := { q.s with ended := true } }
def Lq.anew (q : Lq) : Lq := { q with s := { q.s with nd := 6 }, o := [] }
/-- what stands ahead of a chunk's bytes, of no packed one -/
def Lq.chunk (q : Lq) : Lq :=
  if q.rd.s.src = false then q.rd
  else if q.b = 0 then q.rd.end_
  else if q.b = 1 then q.rd.anew.plain
  else if q.b = 2 ∧ q.rd.s.nd % 2 = 0 then q.rd.plain
  else q.rd.fail
/-- a plain chunk's next byte -/
def Lq.told (q : Lq) (x : UInt8) : Lq := { q with s := { q.s with left := q.s.left - 1 }, o := q.o ++ [x] }
def Lq.byte (q : Lq) : Option UInt8 × Lq := if q.rd.s.src = false then (none, q.rd) else (some q.b, q.rd.told q.b)
def Lq.come (q : Lq) : Lq := if q.s.left = 0 ∧ q.s.ended = false then q.chunk else q
def Lq.next (q : Lq) : Option UInt8 × Lq := if q.come.s.left = 0 then (none, q.come) else q.come.byte
/-- no packed chunk comes now -/
def Lq.Flat (q : Lq) : Prop := q.s.left = 0 → q.s.ended = false → q.b.toNat < 128
/-- whether the stream ends -/
def Lq.at_ (q : Lq) : Lq := if q.s.ended = true then q else q.rd
def Lq.last (q : Lq) : UInt8 := if q.s.ended = true then 0 else q.b
def Lq.ends (q : Lq) : Bool := decide (q.s.left = 0) && (q.at_.s.src && decide (q.last = 0) && q.at_.r.isEmpty)
/-- so many bytes, and the end -/
def Lq.go : Nat → Lq → Option (List UInt8)
  | 0, q => if q.ends = true then some [] else none
  | n + 1, q => match q.next with
    | (none, _) => none
    | (some b, q') => (Lq.go n q').map (b :: ·)
def Lq.Flats : Nat → Lq → Prop
  | 0, _ => True
  | n + 1, q => q.Flat ∧ ∀ b, q.next.1 = some b → Lq.Flats n q.next.2

theorem rd_fail {q : Lq} (h : q.s.src = true) (hr : q.r = []) : q.rd = q.fail := by
  unfold Lq.rd; rw [if_pos h, hr]
theorem rd_more {q : Lq} {x : UInt8} {r : List UInt8} (h : q.s.src = true) (hr : q.r = x :: r) : q.rd = { q with r := r } := by
  unfold Lq.rd; rw [if_pos h, hr]
theorem rd_none {q : Lq} (h : q.s.src = false) : q.rd = q := by
  unfold Lq.rd; rw [if_neg (by simp [h])]
theorem b_none {q : Lq} (h : q.s.src = false) : q.b = 0 := by
  unfold Lq.b; rw [if_neg (by simp [h])]
theorem b_end {q : Lq} (h : q.s.src = true) (hr : q.r = []) : q.b = 0 := by
  unfold Lq.b; rw [if_pos h, hr]; rfl
theorem b_more {q : Lq} {x : UInt8} {r : List UInt8} (h : q.s.src = true) (hr : q.r = x :: r) : q.b = x := by
  unfold Lq.b; rw [if_pos h, hr]; rfl
theorem rd_o (q : Lq) : q.rd.o = q.o := by
  unfold Lq.rd
  split
  · split <;> rfl
  · rfl
theorem chunk_src {q : Lq} (h : q.rd.s.src = false) : q.chunk = q.rd := by unfold Lq.chunk; rw [if_pos h]
theorem chunk_zero {q : Lq} (h : q.rd.s.src = true) (hb : q.b = 0) : q.chunk = q.rd.end_ := by unfold Lq.chunk; rw [if_neg (by simp [h]), if_pos hb]
theorem chunk_anew {q : Lq} (h : q.rd.s.src = true) (hb : q.b = 1) : q.chunk = q.rd.anew.plain := by unfold Lq.chunk; rw [if_neg (by simp [h]), if_neg (by simp [hb]), if_pos hb]
theorem chunk_plain {q : Lq} (h : q.rd.s.src = true) (hb : q.b = 2) (hn : q.rd.s.nd % 2 = 0) : q.chunk = q.rd.plain := by unfold Lq.chunk; rw [if_neg (by simp [h]), if_neg (by simp [hb]), if_neg (by simp [hb]), if_pos ⟨hb, hn⟩]
theorem chunk_bad {q : Lq} (h : q.rd.s.src = true) (h0 : q.b ≠ 0) (h1 : q.b ≠ 1) (h2 : ¬ (q.b = 2 ∧ q.rd.s.nd % 2 = 0)) : q.chunk = q.rd.fail := by unfold Lq.chunk; rw [if_neg (by simp [h]), if_neg h0, if_neg h1, if_neg h2]
theorem start_on {q : Lq} {n : Nat} (h : q.s.src = true) : q.start n = { q with s := { q.s with left := n, pk := none } } := by unfold Lq.start; rw [if_pos h]
theorem start_off {q : Lq} {n : Nat} (h : q.s.src = false) : q.start n = q := by unfold Lq.start; rw [if_neg (by simp [h])]
theorem rd_left (q : Lq) : q.rd.s.left = q.s.left ∨ q.rd.s.left = 0 := by
  unfold Lq.rd
  split
  · split
    · exact .inr rfl
    · exact .inl rfl
  · exact .inl rfl
theorem rd_left0 {q : Lq} (h : q.s.left = 0) : q.rd.s.left = 0 := (rd_left q).elim (fun e => e.trans h) id
theorem count_small (q : Lq) : q.count ≤ 65536 := by
  have := q.b.toNat_lt
  have := q.rd.b.toNat_lt
  unfold Lq.count
  omega
theorem plain_left {q : Lq} (h : q.s.left = 0) : q.plain.s.left = 0 ∨ (q.plain.s.pk = none ∧ q.plain.s.left ≤ 65536) := by
  have h2 : q.two.s.left = 0 := rd_left0 (rd_left0 h)
  cases hs : q.two.s.src with
  | true =>
    right
    unfold Lq.plain
    rw [start_on hs]
    exact ⟨rfl, count_small q⟩
  | false =>
    left
    unfold Lq.plain
    rw [start_off hs]
    exact h2
theorem chunk_left {q : Lq} (h : q.s.left = 0) : q.chunk.s.left = 0 ∨ (q.chunk.s.pk = none ∧ q.chunk.s.left ≤ 65536) := by
  have h1 := rd_left0 h
  unfold Lq.chunk
  split
  · exact .inl h1
  · split
    · exact .inl h1
    · split
      · exact plain_left h1
      · split
        · exact plain_left h1
        · exact .inl rfl
theorem chunk_o (q : Lq) : q.chunk.o.length ≤ q.o.length := by
  have h1 := rd_o q
  have hp : ∀ q : Lq, q.plain.o = q.o := fun q => by
    unfold Lq.plain Lq.start Lq.two
    split
    · exact (rd_o _).trans (rd_o _)
    · exact (rd_o _).trans (rd_o _)
  unfold Lq.chunk
  split
  · rw [h1]; exact Nat.le_refl _
  · split
    · show q.rd.o.length ≤ _; rw [h1]; exact Nat.le_refl _
    · split
      · rw [hp]; exact Nat.zero_le _
      · split
        · rw [hp, h1]; exact Nat.le_refl _
        · show q.rd.o.length ≤ _; rw [h1]; exact Nat.le_refl _
/-- between two bytes -/
def Lq.Mid (q : Lq) : Prop := q.s.left ≤ 65536 ∧ (q.s.left ≠ 0 → q.s.pk = none)
theorem come_mid {q : Lq} (h : q.Mid) : q.come.Mid := by
  unfold Lq.come
  split
  · rename_i hc
    rcases chunk_left hc.1 with h1 | h1
    · exact ⟨by omega, fun h2 => absurd h1 h2⟩
    · exact ⟨h1.2, fun _ => h1.1⟩
  · exact h
theorem rd_mid {q : Lq} (h : q.Mid) : q.rd.Mid := by
  unfold Lq.rd
  split
  · split
    · exact ⟨Nat.zero_le _, fun h2 => absurd rfl h2⟩
    · exact h
  · exact h
theorem next_mid {q : Lq} (h : q.Mid) : q.next.2.Mid := by
  have h1 := come_mid h
  unfold Lq.next
  split
  · exact h1
  · unfold Lq.byte
    have h2 := rd_mid h1
    split
    · exact h2
    · refine ⟨?_, fun hh => h2.2 (fun e => hh ?_)⟩
      · have := h2.1
        show q.come.rd.s.left - 1 ≤ _
        omega
      · show q.come.rd.s.left - 1 = 0
        omega
theorem next_o {q : Lq} : q.next.2.o.length ≤ q.o.length + 1 := by
  have h1 : q.come.o.length ≤ q.o.length := by
    unfold Lq.come
    split
    · exact chunk_o q
    · exact Nat.le_refl _
  unfold Lq.next
  split
  · show q.come.o.length ≤ _; omega
  · unfold Lq.byte
    have h2 := rd_o q.come
    split
    · show q.come.rd.o.length ≤ _; rw [h2]; omega
    · show (q.come.rd.o ++ [q.come.b]).length ≤ _
      rw [h2]
      simp
      omega
theorem go_none {n : Nat} {q : Lq} (h : q.next.1 = none) : Lq.go (n + 1) q = none := by
  rw [Lq.go]
  split
  · rfl
  · rename_i b q' e
    rw [e] at h
    cases h
theorem go_some {n : Nat} {q : Lq} {b : UInt8} (h : q.next.1 = some b) : Lq.go (n + 1) q = (Lq.go n q.next.2).map (b :: ·) := by
  rw [Lq.go]
  split
  · rename_i e
    rw [e] at h
    cases h
  · rename_i b' q' e
    rw [e] at h ⊢
    obtain rfl : b' = b := by injection h
    rfl
end Go.Proofs.YtdhhibfppcpieaaGreatDoor

/-
  What was there is as it was, but for the blocks of a set.
-/
namespace Go.Proofs.YtdhhibfppcpieaaGreatDoor
open Go.RowKit

structure Only (S : Nat → Prop) (a w : World) : Prop where
  os : w.os = a.os
  tape : w.tape = a.tape
  output : w.output = a.output
  size : a.heap.size ≤ w.heap.size
  block : ∀ i, i < a.heap.size → ¬ S i → w.heap[i]? = a.heap[i]?

section
variable {S S' : Nat → Prop} {a b c w w' : World}
theorem Only.refl (S : Nat → Prop) (w : World) : Only S w w := ⟨rfl, rfl, rfl, Nat.le_refl _, fun _ _ _ => rfl⟩
theorem Only.trans (h : Only S a b) (k : Only S b c) : Only S a c :=
  ⟨k.os.trans h.os, k.tape.trans h.tape, k.output.trans h.output, Nat.le_trans h.size k.size, fun i hi hn => (k.block i (Nat.lt_of_lt_of_le hi h.size) hn).trans (h.block i hi hn)⟩
theorem Only.mono (h : Only S a w) (hS : ∀ i, S i → S' i) : Only S' a w := ⟨h.os, h.tape, h.output, h.size, fun i hi hn => h.block i hi fun hs => hn (hS i hs)⟩
theorem Only.drewN (h : Only S a w) (n : Nat) : Only S a (w.drewN n) := ⟨h.os, h.tape, h.output, h.size, h.block⟩
theorem Only.drew (h : Only S a w) : Only S a w.drew := ⟨h.os, h.tape, h.output, h.size, h.block⟩
theorem Only.of_drewN {n : Nat} (h : Only S (a.drewN n) w) : Only S a w := ⟨h.os, h.tape, h.output, h.size, h.block⟩
theorem Only.setCell (h : Only S a w) {p : Addr} (hp : S p.block ∨ a.heap.size ≤ p.block) (u : Value) : Only S a (w.setCell p u) :=
  ⟨h.os, h.tape, h.output, by simpa [World.setCell] using h.size, fun i hi hn => (Below.heap_setCell w p u i (by
    rintro rfl
    rcases hp with hp | hp
    · exact hn hp
    · omega)).trans (h.block i hi hn)⟩
theorem Only.alloc (h : Only S a w) (o : Obj) : Only S a (w.alloc o) :=
  ⟨h.os, h.tape, h.output, Nat.le_trans h.size (by simp), fun i hi hn => (Below.heap_alloc w o i (Nat.lt_of_lt_of_le hi h.size)).trans (h.block i hi hn)⟩
theorem Only.of_grown {g : Nat} (h : a.grownBy w (some g)) (hg : S g) : Only S a w := ⟨h.os, h.tape, h.output, h.size, fun i hi hn => h.block i hi fun e => by injection e with e; exact hn (e ▸ hg)⟩
theorem Only.of_below (h : Below a.heap.size a w) : Only S a w := ⟨h.os, h.tape, h.output, h.size, fun i hi _ => h.block i hi⟩
theorem Only.then (h : Only S a b) (k : Below b.heap.size b c) : Only S a c := h.trans (Only.of_below k)
theorem Only.below {B : Nat} (h : Only S a w) (hB : B ≤ a.heap.size) (hS : ∀ i, S i → B ≤ i) : Below B a w :=
  ⟨h.os, h.tape, h.output, h.size, fun i hi => h.block i (by omega) fun hs => by have := hS i hs; omega⟩
theorem Only.trans' (h : Only S a b) (k : Only S' b c) (hS : ∀ i, S' i → S i ∨ a.heap.size ≤ i) : Only S a c :=
  ⟨k.os.trans h.os, k.tape.trans h.tape, k.output.trans h.output, Nat.le_trans h.size k.size, fun i hi hn => (k.block i (Nat.lt_of_lt_of_le hi h.size) (fun hs => by
    rcases hS i hs with h1 | h1
    · exact hn h1
    · omega)).trans (h.block i hi hn)⟩
theorem Only.cell (h : Only S w w') {p : Addr} (hp : p.block < w.heap.size) (hn : ¬ S p.block) : w'.cell? p = w.cell? p := World.cell?_of_block (h.block _ hp hn)
theorem Blk.only {g : Nat} {t : TypeId} {cs : Array Value} (h : Blk w g t cs) (hb : Only S w w') (hg : ¬ S g) : Blk w' g t cs := (hb.block g h.lt hg).trans h
theorem Sl.only {A : Option Addr} {n : Nat} {xs : List Value} (h : Sl w A n xs) (hb : Only S w w') (hne : 0 < n → ∀ b o, A = some ⟨b, o, none⟩ → ¬ S b) : Sl w' A n xs :=
  h.keep hb.size fun hn b o e hlt => hb.block b hlt (hne hn b o e)
theorem own_only {base : Nat} {e : TypeId} {g n c : Nat} {xs : List Value} (h : w.ownsRow base e 1 (.slice (some ⟨g, 0, none⟩) n c) n xs) (hb : Only S w w') (hg : ¬ S g) : w'.ownsRow base e 1 (.slice (some ⟨g, 0, none⟩) n c) n xs := by
  refine ⟨h.1, ?_⟩
  rcases h.2 with ⟨hv, _⟩ | ⟨g', cap, cur, hv, hb', hh, r⟩
  · cases hv
  · refine .inr ⟨g', cap, cur, hv, hb', ?_, r⟩
    injection hv with h1
    injection h1 with h1
    injection h1 with h1
    subst h1
    have hlt : g < w.heap.size := by
      rcases Nat.lt_or_ge g w.heap.size with hlt | hge
      · exact hlt
      · rw [Array.getElem?_eq_none hge] at hh; cases hh
    exact (hb.block g hlt hg).trans hh
end
end Go.Proofs.YtdhhibfppcpieaaGreatDoor

/-
  Probabilities in memory, wherever each lies.
-/
namespace Go.Proofs.YtdhhibfppcpieaaGreatDoor
open Go.RowKit

/-- Probabilities in memory: where each lies (ad), in which blocks (B), so many (L). -/
structure Prb (R : World → List Nat → Prop) (B : Nat → Prop) (ad : Nat → Nat × Nat) (L : Nat) : Prop where
  blk : ∀ {a}, a < L → B (ad a).1
  cell : ∀ {w ps a}, R w ps → a < L → w.cell? ⟨(ad a).1, (ad a).2, none⟩ = some (.int .u16 ((ps.getD a 0 : Nat) : Int))
  free : ∀ {w ps a}, R w ps → a < L → w.frozen? ⟨(ad a).1, (ad a).2, none⟩ = false
  put : ∀ {w ps a}, R w ps → a < L → ∀ q : Nat, R (w.setCell ⟨(ad a).1, (ad a).2, none⟩ (.int .u16 (q : Int))) (ps.set a q)
  only : ∀ {w w' ps} {S : Nat → Prop}, R w ps → Only S w w' → (∀ i, B i → ¬ S i) → R w' ps
  len : ∀ {w ps}, R w ps → ps.length = L
  old : ∀ {w ps i}, R w ps → B i → i < w.heap.size
end Go.Proofs.YtdhhibfppcpieaaGreatDoor

/-
  The program's probabilities of packets: where the one with the document's number lies, behind the first.
-/
namespace Go.Proofs.YtdhhibfppcpieaaGreatDoor
open Go.RowKit

/-- where the probability with the document's number lies -/
def sg (a : Nat) : Nat := if a < 192 then a else if a < 240 then a + 192 else if a < 432 then a - 48 else if a < 688 then a + 1159 else a - 256
theorem sg_lt {a : Nat} (h : a < 1847) : sg a < 1847 := by unfold sg; repeat' split
                                                           all_goals omega
theorem sg_inj {a b : Nat} (ha : a < 1847) (hb : b < 1847) (h : sg a = sg b) : a = b := by
  unfold sg at h
  repeat' split at h
  all_goals omega
theorem sg_low {a : Nat} (h : a < 192) : sg a = a := by unfold sg; rw [if_pos h]
theorem sg_rep {a : Nat} (h : 192 ≤ a) (h1 : a < 240) : sg a = a + 192 := by unfold sg; rw [if_neg (by omega), if_pos h1]
theorem sg_long {a : Nat} (h : 240 ≤ a) (h1 : a < 432) : sg a = a - 48 := by unfold sg; rw [if_neg (by omega), if_neg (by omega), if_pos h1]
theorem sg_slot {a : Nat} (h : 432 ≤ a) (h1 : a < 688) : sg a = a + 1159 := by unfold sg; rw [if_neg (by omega), if_neg (by omega), if_neg (by omega), if_pos h1]
theorem sg_rest {a : Nat} (h : 688 ≤ a) : sg a = a - 256 := by unfold sg; rw [if_neg (by omega), if_neg (by omega), if_neg (by omega), if_neg (by omega)]

/-- all probabilities but literals' lie in the block g, from o0 on -/
def Lay (ad : Nat → Nat × Nat) (g o0 : Nat) : Prop := ∀ a, a < 1847 → ad a = (g, o0 + sg a)
section
variable {ad : Nat → Nat × Nat} {g o0 a i : Nat}
theorem Lay.low (h : Lay ad g o0) (h0 : a < 192) (hi : i = o0 + a) : ad a = (g, i) := by rw [h a (by omega), sg_low h0, hi]
theorem Lay.rep (h : Lay ad g o0) (h0 : 192 ≤ a) (h1 : a < 240) (hi : i = o0 + (a + 192)) : ad a = (g, i) := by rw [h a (by omega), sg_rep h0 h1, hi]
theorem Lay.long (h : Lay ad g o0) (h0 : 240 ≤ a) (h1 : a < 432) (hi : i = o0 + (a - 48)) : ad a = (g, i) := by rw [h a (by omega), sg_long h0 h1, hi]
theorem Lay.slot (h : Lay ad g o0) (h0 : 432 ≤ a) (h1 : a < 688) (hi : i = o0 + (a + 1159)) : ad a = (g, i) := by rw [h a (by omega), sg_slot h0 h1, hi]
theorem Lay.rest (h : Lay ad g o0) (h0 : 688 ≤ a) (h1 : a < 1847) (hi : i = o0 + (a - 256)) : ad a = (g, i) := by rw [h a h1, sg_rest h0, hi]
end
end Go.Proofs.YtdhhibfppcpieaaGreatDoor

/-
  Numbers and rows as the document has them, over lists of bytes: plain mathematics, no program.
-/
namespace Go.Proofs.YtdhhibfppcpieaaGreatDoor

/-- bytes as a number, the least first -/
def leVal : List UInt8 → Nat
  | [] => 0
  | b :: r => b.toNat + 256 * leVal r

/-- the size least bytes of v, the least first -/
def leBytes (size v : Nat) : List UInt8 := (List.range size).map fun i => UInt8.ofNat (v / 256 ^ i % 256)
/-- how many bytes follow the first of the shortest short number that is v: k -/
structure IsFol (v k : Nat) : Prop where
  le : k ≤ 8
  lt : k < 8 → v < 2 ^ (7 * k + 7)
  ge : ∀ j, j < k → 2 ^ (7 * j + 7) ≤ v
def folAux (v : Nat) : Nat → Nat → Nat
  | 0, k => k
  | f + 1, k => if v < 2 ^ (7 * k + 7) then k else folAux v f (k + 1)
def fol (v : Nat) : Nat := folAux v 8 0
/-- the shortest short number that is v -/
def shortBytes (v : Nat) : List UInt8 := UInt8.ofNat (256 - 2 ^ (8 - fol v) + v / 256 ^ fol v) :: leBytes (fol v) v
end Go.Proofs.YtdhhibfppcpieaaGreatDoor

/-
  Arithmetic of fixed width as the walk writes it: shifts, or, and, and sums that do not wrap.
-/
namespace Go.Proofs.YtdhhibfppcpieaaGreatDoor
open Go.RowKit

theorem cast_pow2 (k : Nat) : ((2 : Int) ^ k) = ((2 ^ k : Nat) : Int) := by
  rw [Int.natCast_pow]; rfl

end Go.Proofs.YtdhhibfppcpieaaGreatDoor

/-
  What a type's facts say, in parts.
-/
namespace Go.Proofs.YtdhhibfppcpieaaGreatDoor
open Go.RowKit

theorem info_parts {P : Program} {t : TypeId} {z : Value} {s b : Nat} (h : (P.info? t).map (fun i => (i.zero, i.size, i.bytes)) = some (some z, s, b)) : ∃ i, P.info? t = some i ∧ i.zero = some z ∧ i.size = s ∧ i.bytes = b := by
  cases hi : P.info? t with
  | none => rw [hi] at h; cases h
  | some i =>
    rw [hi] at h
    simp only [Option.map_some, Option.some.injEq, Prod.mk.injEq] at h
    exact ⟨i, rfl, h.1, h.2.1, h.2.2⟩
theorem info_u8 : (Tryz.prog.info? 5).map (fun i => (i.zero, i.size, i.bytes)) = some (some (.int .u8 0), 1, 1) := by kernel_rfl

end Go.Proofs.YtdhhibfppcpieaaGreatDoor
