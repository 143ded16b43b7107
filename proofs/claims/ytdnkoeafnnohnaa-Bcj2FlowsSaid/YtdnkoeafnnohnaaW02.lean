/-
  Only, Pure, Arith, Info, SrcFeed, B2Mark, RdRef, RdLevel: put together.
-/
import Derived.Test.YtdnkoeafnnohnaaW01
import Derived.WalkKit
import Derived.Laws.BitsAllLaws
import Derived.Laws.BitsLemmas
import Derived.Test.YtdnkoeafnnohnaaRows
import Derived.Tactics
import Derived.Tactics2
import Derived.Laws.Pointers
import Derived.RegionTactic
import Derived.RegionCalls
import Derived.BigQuiet
import Derived.Lib.SliceRun
import Derived.Deep.RegionLaw
set_option linter.unusedVariables false
set_option linter.unusedSimpArgs false
/-
  What was there is as it was, but for the blocks of a set.
-/
namespace Go.Proofs.Ytdnkoeafnnohnaa
open Go.RowKit

structure Only (S : Nat → Prop) (a w : World) : Prop where
  os : w.os = a.os
  tape : w.tape = a.tape
  output : w.output = a.output
  size : a.heap.size ≤ w.heap.size
  block : ∀ i, i < a.heap.size → ¬ S i → w.heap[i]? = a.heap[i]?

section
variable {S S' : Nat → Prop} {a b c w w' : World}
theorem Only.refl (S : Nat → Prop) (w : World) : Only S w w := ⟨rfl, rfl, rfl, Nat.le_refl _, fun _ _ _ => rfl⟩
theorem Only.trans (h : Only S a b) (k : Only S b c) : Only S a c :=
  ⟨k.os.trans h.os, k.tape.trans h.tape, k.output.trans h.output, Nat.le_trans h.size k.size, fun i hi hn => (k.block i (Nat.lt_of_lt_of_le hi h.size) hn).trans (h.block i hi hn)⟩
theorem Only.mono (h : Only S a w) (hS : ∀ i, S i → S' i) : Only S' a w := ⟨h.os, h.tape, h.output, h.size, fun i hi hn => h.block i hi fun hs => hn (hS i hs)⟩
theorem Only.drewN (h : Only S a w) (n : Nat) : Only S a (w.drewN n) := ⟨h.os, h.tape, h.output, h.size, h.block⟩
theorem Only.drew (h : Only S a w) : Only S a w.drew := ⟨h.os, h.tape, h.output, h.size, h.block⟩
theorem Only.of_drewN {n : Nat} (h : Only S (a.drewN n) w) : Only S a w := ⟨h.os, h.tape, h.output, h.size, h.block⟩
theorem Only.of_drew (h : Only S a.drew w) : Only S a w := ⟨h.os, h.tape, h.output, h.size, h.block⟩
theorem Only.setCell (h : Only S a w) {p : Addr} (hp : S p.block ∨ a.heap.size ≤ p.block) (u : Value) : Only S a (w.setCell p u) :=
  ⟨h.os, h.tape, h.output, by simpa [World.setCell] using h.size, fun i hi hn => (Below.heap_setCell w p u i (by
    rintro rfl
    rcases hp with hp | hp
    · exact hn hp
    · omega)).trans (h.block i hi hn)⟩
theorem Only.alloc (h : Only S a w) (o : Obj) : Only S a (w.alloc o) :=
  ⟨h.os, h.tape, h.output, Nat.le_trans h.size (by simp), fun i hi hn => (Below.heap_alloc w o i (Nat.lt_of_lt_of_le hi h.size)).trans (h.block i hi hn)⟩
theorem Only.of_grown {g : Nat} (h : a.grownBy w (some g)) (hg : S g) : Only S a w := ⟨h.os, h.tape, h.output, h.size, fun i hi hn => h.block i hi fun e => by injection e with e; exact hn (e ▸ hg)⟩
theorem Only.of_below (h : Below a.heap.size a w) : Only S a w := ⟨h.os, h.tape, h.output, h.size, fun i hi _ => h.block i hi⟩
theorem Only.then (h : Only S a b) (k : Below b.heap.size b c) : Only S a c := h.trans (Only.of_below k)
theorem Only.below {B : Nat} (h : Only S a w) (hB : B ≤ a.heap.size) (hS : ∀ i, S i → B ≤ i) : Below B a w :=
  ⟨h.os, h.tape, h.output, h.size, fun i hi => h.block i (by omega) fun hs => by have := hS i hs; omega⟩
theorem Only.trans' (h : Only S a b) (k : Only S' b c) (hS : ∀ i, S' i → S i ∨ a.heap.size ≤ i) : Only S a c :=
  ⟨k.os.trans h.os, k.tape.trans h.tape, k.output.trans h.output, Nat.le_trans h.size k.size, fun i hi hn => (k.block i (Nat.lt_of_lt_of_le hi h.size) (fun hs => by
    rcases hS i hs with h1 | h1
    · exact hn h1
    · omega)).trans (h.block i hi hn)⟩
theorem Only.cell (h : Only S w w') {p : Addr} (hp : p.block < w.heap.size) (hn : ¬ S p.block) : w'.cell? p = w.cell? p := World.cell?_of_block (h.block _ hp hn)
theorem Blk.only {g : Nat} {t : TypeId} {cs : Array Value} (h : Blk w g t cs) (hb : Only S w w') (hg : ¬ S g) : Blk w' g t cs := (hb.block g h.lt hg).trans h
theorem Sl.only {A : Option Addr} {n : Nat} {xs : List Value} (h : Sl w A n xs) (hb : Only S w w') (hne : 0 < n → ∀ b o, A = some ⟨b, o, none⟩ → ¬ S b) : Sl w' A n xs :=
  h.keep hb.size fun hn b o e hlt => hb.block b hlt (hne hn b o e)
theorem own_only {base : Nat} {e : TypeId} {g n c : Nat} {xs : List Value} (h : w.ownsRow base e 1 (.slice (some ⟨g, 0, none⟩) n c) n xs) (hb : Only S w w') (hg : ¬ S g) : w'.ownsRow base e 1 (.slice (some ⟨g, 0, none⟩) n c) n xs := by
  refine ⟨h.1, ?_⟩
  rcases h.2 with ⟨hv, _⟩ | ⟨g', cap, cur, hv, hb', hh, r⟩
  · cases hv
  · refine .inr ⟨g', cap, cur, hv, hb', ?_, r⟩
    injection hv with h1
    injection h1 with h1
    injection h1 with h1
    subst h1
    have hlt : g < w.heap.size := by
      rcases Nat.lt_or_ge g w.heap.size with hlt | hge
      · exact hlt
      · rw [Array.getElem?_eq_none hge] at hh; cases hh
    exact (hb.block g hlt hg).trans hh
end
end Go.Proofs.Ytdnkoeafnnohnaa

/-
  Numbers and rows as the document has them, over lists of bytes: plain mathematics, no program.
-/
namespace Go.Proofs.Ytdnkoeafnnohnaa

/-- bytes as a number, the least first -/
def leVal : List UInt8 → Nat
  | [] => 0
  | b :: r => b.toNat + 256 * leVal r

/-- the size least bytes of v, the least first -/
def leBytes (size v : Nat) : List UInt8 := (List.range size).map fun i => UInt8.ofNat (v / 256 ^ i % 256)
/-- how many bytes follow the first of the shortest short number that is v: k -/
structure IsFol (v k : Nat) : Prop where
  le : k ≤ 8
  lt : k < 8 → v < 2 ^ (7 * k + 7)
  ge : ∀ j, j < k → 2 ^ (7 * j + 7) ≤ v
def folAux (v : Nat) : Nat → Nat → Nat
  | 0, k => k
  | f + 1, k => if v < 2 ^ (7 * k + 7) then k else folAux v f (k + 1)
def fol (v : Nat) : Nat := folAux v 8 0
/-- what stands above the following bytes -/
theorem IsFol.top {v k : Nat} (h : IsFol v k) (hv : v < 18446744073709551616) : v / 256 ^ k < 2 ^ (7 - k) ∧ (7 ≤ k → v / 256 ^ k = 0) := by
  have hk := h.le
  have h1 := h.lt
  have : k = 0 ∨ k = 1 ∨ k = 2 ∨ k = 3 ∨ k = 4 ∨ k = 5 ∨ k = 6 ∨ k = 7 ∨ k = 8 := by omega
  rcases this with rfl | rfl | rfl | rfl | rfl | rfl | rfl | rfl | rfl <;> simp at h1 ⊢ <;> omega
/-- the shortest short number that is v -/
def shortBytes (v : Nat) : List UInt8 := UInt8.ofNat (256 - 2 ^ (8 - fol v) + v / 256 ^ fol v) :: leBytes (fol v) v
end Go.Proofs.Ytdnkoeafnnohnaa

/-
  Arithmetic of fixed width as the walk writes it: shifts, or, and, and sums that do not wrap.
-/
namespace Go.Proofs.Ytdnkoeafnnohnaa
open Go.RowKit

theorem u64_in (x : Nat) (h : x < 18446744073709551616) : IntKind.u64.wrap (x : Int) = (x : Int) := by
  rw [IntKind.wrap_u64]; omega
theorem u64_of (x : Int) (h0 : 0 ≤ x) (h : x < 18446744073709551616) : IntKind.u64.wrap x = x := by
  rw [IntKind.wrap_u64]; omega
end Go.Proofs.Ytdnkoeafnnohnaa

/-
  What a type's facts say, in parts.
-/
namespace Go.Proofs.Ytdnkoeafnnohnaa
open Go.RowKit

theorem info_parts {P : Program} {t : TypeId} {z : Value} {s b : Nat} (h : (P.info? t).map (fun i => (i.zero, i.size, i.bytes)) = some (some z, s, b)) : ∃ i, P.info? t = some i ∧ i.zero = some z ∧ i.size = s ∧ i.bytes = b := by
  cases hi : P.info? t with
  | none => rw [hi] at h; cases h
  | some i =>
    rw [hi] at h
    simp only [Option.map_some, Option.some.injEq, Prod.mk.injEq] at h
    exact ⟨i, rfl, h.1, h.2.1, h.2.2⟩
theorem info_u8 : (Try.prog.info? 5).map (fun i => (i.zero, i.size, i.bytes)) = some (some (.int .u8 0), 1, 1) := by kernel_rfl

end Go.Proofs.Ytdnkoeafnnohnaa

/-
  A feed: made of bytes, it gives each once, in order. Its row lies from block lo on, ahead of its own block.
-/
namespace Go.Proofs.Ytdnkoeafnnohnaa
open Go.RowKit

set_option maxRecDepth 100000 in
set_option maxHeartbeats 2000000 in
theorem clone_any {A : Option Addr} {n c : Nat} {bs : List UInt8} {w : World} (hS : Sl w A n (bv bs)) (hm : n ≤ 1000000000) :
    Calls Try.prog 30 #[.slice A n c] w fun e w' =>
      ∃ A' c', e = .returned (.slice A' n c') ∧ w'.ownsRow w.heap.size 5 1 (.slice A' n c') n (bv bs) ∧ Below w.heap.size w w' := by
  obtain ⟨i, hi, hz0, hz1, hz2⟩ := info_parts info_u8
  have hq := fun (w : World) (A : Option Addr) (n c : Nat) => Lib.run_eql_slice_nil (P := Try.prog) w 22 5 A n c 0 0 Try.underlying22
  go_enter Try.func30, Try.ntmps30
  go_wp2_with (at_builtin; refine wpList_app _ rfl (.tmp 5) (.tmp 6) 22 rfl w.heap.size 5 i _ 1 Try.underlying22 hi hz0 hz1 hz2 rfl _ 0 [] rfl (own_empty w (Nat.le_refl _) _) A n c (bv bs) rfl (hS.alloc _) (bv_one bs) (by omega) (by omega) (by simp) ?_)
  · go_ret
    rename_i hA
    have hA' : A = none := by simpa using hA
    have hn : n = 0 := by
      rcases Nat.eq_zero_or_pos n with h | h
      · exact h
      · obtain ⟨_, _, e, _⟩ := hS.2 h
        rw [hA'] at e; cases e
    subst hn
    have hb : bv bs = [] := List.eq_nil_of_length_eq_zero hS.1
    rw [hb]
    exact ⟨none, 0, rfl, World.ownsRow_nil w _ _ 1, Below.refl _ _⟩
  · intro A' c' w' ho hg
    have HO := Lib.hid ho
    have HG := Lib.hid hg
    clear ho hg
    go_wp2
    go_ret
    have ho := HO.out
    simp only [] at ho ⊢
    refine ⟨A', c', rfl, ho, ?_⟩
    exact ((Below.refl _ _).alloc (Nat.le_refl _) _).trans (below_of_only HG.out (Nat.le_refl _) (by simp))

/-- At block g stands a feed over the bytes bs, whose row lies from block lo on and ahead of g; k were given. -/
def Feed (w : World) (g lo : Nat) (bs : List UInt8) (k : Nat) : Prop :=
  ∃ A c, Blk w g 74 #[.slice A bs.length c, .int .i64 (k : Int)] ∧ Sl w A bs.length (bv bs) ∧ bs.length ≤ c ∧ c ≤ maxLen ∧ k ≤ bs.length ∧ lo ≤ g ∧ (0 < bs.length → ∀ b o, A = some ⟨b, o, none⟩ → lo ≤ b ∧ b < g)

theorem Feed.lt {w : World} {g lo : Nat} {bs : List UInt8} {k : Nat} (h : Feed w g lo bs k) : g < w.heap.size := by
  obtain ⟨_, _, hB, _⟩ := h
  exact hB.lt
theorem Feed.le {w : World} {g lo : Nat} {bs : List UInt8} {k : Nat} (h : Feed w g lo bs k) : k ≤ bs.length := by
  obtain ⟨_, _, _, _, _, _, h, _⟩ := h
  exact h
theorem Feed.lo {w : World} {g lo : Nat} {bs : List UInt8} {k : Nat} (h : Feed w g lo bs k) : lo ≤ g := by
  obtain ⟨_, _, _, _, _, _, _, h, _⟩ := h
  exact h
theorem Feed.drewN {w : World} {g lo : Nat} {bs : List UInt8} {k : Nat} (h : Feed w g lo bs k) (n : Nat) : Feed (w.drewN n) g lo bs k := h
theorem Feed.only {S : Nat → Prop} {w w' : World} {g lo : Nat} {bs : List UInt8} {k : Nat} (h : Feed w g lo bs k) (hb : Only S w w') (hS : ∀ i, S i → i < lo ∨ g < i) : Feed w' g lo bs k := by
  obtain ⟨A, c, hB, hs, h1, h2, h3, h4, h5⟩ := h
  refine ⟨A, c, hB.only hb (fun h => ?_), hs.only hb (fun hn b o e h => ?_), h1, h2, h3, h4, h5⟩
  · have := hS g h; omega
  · have := hS b h
    have := h5 hn b o e
    omega

set_option maxHeartbeats 400000 in
theorem newFeed_any {A : Option Addr} {n c : Nat} {bs : List UInt8} {w : World} (hS : Sl w A n (bv bs)) (hm : n ≤ 1000000000) :
    Calls Try.prog 16 #[.slice A n c] w fun e w' =>
      ∃ g, e = .returned (.pointer (some ⟨g, 0, none⟩)) ∧ w.heap.size ≤ g ∧ Feed w' g w.heap.size bs 0 ∧ Below w.heap.size w w' := by
  go_enter Try.func16, Try.ntmps16
  go_wp2_with (go_at_call 30; refine (clone_any hS hm).mono ?_; rintro e w' ⟨A', c', rfl, ho, hb⟩; have HO := Lib.hid ho; have HB := Lib.hid hb; clear ho hb)
  go_ret
  have hl : n = bs.length := by rw [← hS.1, bv_length]
  subst hl
  obtain ⟨h1, h2, h3, h4⟩ := own_facts HO.out
  exact ⟨_, rfl, HB.out.size, ⟨A', c', Blk.fresh _ _ _, h1.alloc _, h2, h3, by omega, HB.out.size, fun _ b o e => h4 b o e⟩, HB.out.alloc HB.out.size _⟩

set_option maxHeartbeats 400000 in
theorem feed_end {g lo : Nat} {bs : List UInt8} {w : World} (h : Feed w g lo bs bs.length) :
    Calls Try.prog 73 #[.pointer (some ⟨g, 0, none⟩)] w fun e w' => e = .returned (.tuple #[.int .u8 0, .bool false]) ∧ ∃ d, w.drewN d = w' := by
  obtain ⟨A, c, hB, hS, h1, h2, h3, h4, h5⟩ := h
  unfold maxLen at h2
  have c0 : w.cell? ⟨g, 0, none⟩ = some (.slice A bs.length c) := hB.cell 0
  have c1 : w.cell? ⟨g, 1, none⟩ = some (.int .i64 (bs.length : Int)) := hB.cell 1
  clear hB hS h4 h5
  go_enter Try.func73, Try.ntmps73
  go_wp2
  go_quiet (fail)
  go_wp2
  go_ret2
  exact ⟨rfl, _, rfl⟩

set_option maxHeartbeats 400000 in
theorem feed_more {g lo : Nat} {bs : List UInt8} {k : Nat} {w : World} (h : Feed w g lo bs k) (hk : k < bs.length) :
    Calls Try.prog 73 #[.pointer (some ⟨g, 0, none⟩)] w fun e w' => e = .returned (.tuple #[.int .u8 ((bs.getD k 0).toNat : Int), .bool true]) ∧ Feed w' g lo bs (k + 1) ∧ w.grownBy w' (some g) := by
  obtain ⟨A, c, hB, hS, h1, h2, h3, h4, h5⟩ := h
  have hm := h2
  unfold maxLen at hm
  obtain ⟨b, o, rfl, hlt, hc⟩ := hS.2 (by omega)
  have hbg : b ≠ g := by have := (h5 (by omega) b o rfl).2; omega
  have c0 : w.cell? ⟨g, 0, none⟩ = some (.slice (some ⟨b, o, none⟩) bs.length c) := hB.cell 0
  have c1 : w.cell? ⟨g, 1, none⟩ = some (.int .i64 (k : Int)) := hB.cell 1
  have f1 : w.frozen? ⟨g, 1, none⟩ = false := hB.free 1
  have cx : w.cell? ⟨b, o + k, none⟩ = some (.int .u8 ((bs.getD k 0).toNat : Int)) := by rw [hc k hk, bv_get _ _ hk]
  generalize bs.getD k 0 = x at cx
  have hne : ((k : Int) == (bs.length : Int)) = false := by simp; omega
  have HB := Lib.hid hB
  have HS := Lib.hid hS
  have H5 := Lib.hid h5
  generalize hn : bs.length = n at *
  have HN := Lib.hid hn
  clear hB hS h5 hc hn
  go_enter Try.func73, Try.ntmps73
  go_wp2
  go_quiet (fail)
  go_wp2
  go_quiet (fail)
  go_wp2
  go_ret2
  refine ⟨rfl, ?_, ?_⟩
  · have hn := HN.out
    subst hn
    refine ⟨some ⟨b, o, none⟩, c, ?_, ?_, h1, h2, by omega, h4, H5.out⟩
    · exact (HB.out.drewN _).put 1 _
    · exact (HS.out.drewN _).grown (only_setCell (World.grownBy.refl _ _) (.inl rfl) _) (fun hn b' o' e => Nat.ne_of_lt (H5.out hn b' o' e).2)
  · exact only_of_drewN (only_setCell (World.grownBy.refl _ _) (.inl rfl) _)
end Go.Proofs.Ytdnkoeafnnohnaa

/-
  Which byte is an instruction, as the program and the document tell it.
-/
namespace Go.Proofs.Ytdnkoeafnnohnaa
open Go.RowKit

theorem u8_and_nat (a b : Nat) (ha : a < 256) (hb : b < 256) : bits .and .u8 (a : Int) (b : Int) = ((a &&& b : Nat) : Int) := by
  have hx : a &&& b ≤ a := Nat.and_le_left
  show IntKind.u8.wrap ((BitVec.ofInt 8 (a : Int) &&& BitVec.ofInt 8 (b : Int)).toNat : Int) = _
  have e1 : (BitVec.ofInt 8 (a : Int)).toNat = a := by simp; omega
  have e2 : (BitVec.ofInt 8 (b : Int)).toNat = b := by simp; omega
  rw [BitVec.toNat_and, e1, e2]
  simp [IntKind.wrap, IntKind.bits, IntKind.signed]
  omega
theorem far_and : ∀ x : Nat, x < 256 → ((x &&& 240 = 128) ↔ (128 ≤ x ∧ x ≤ 143)) := by decide +kernel

/-- how an instruction's number is told -/
def markV (a x : Nat) : Value := .tuple #[.int .i64 (((mark a x).getD 0 : Nat) : Int), .bool (mark a x).isSome]
def markI (a x : Nat) : Int := match mark a x with
  | none => -1
  | some i => (i : Int)

set_option maxHeartbeats 1000000 in
theorem chance_any {a x : Nat} (ha : a < 256) (hx : x < 256) (w : World) :
    Calls Try.prog 38 #[.int .u8 (a : Int), .int .u8 (x : Int)] w fun e w' => e = .returned (markV a x) ∧ w = w' := by
  by_cases h1 : x = 232
  · have hm : markV a x = .tuple #[.int .i64 (a : Int), .bool true] := by unfold markV mark; rw [if_pos h1]; rfl
    rw [hm]
    subst h1
    clear hm
    go_enter Try.func38, Try.ntmps38
    go_wp2_with fail
    go_ret2
    exact ⟨rfl, rfl⟩
  by_cases h2 : x = 233
  · have hm : markV a x = .tuple #[.int .i64 256, .bool true] := by unfold markV mark; rw [if_neg h1, if_pos h2]; rfl
    rw [hm]
    subst h2
    clear hm h1
    go_enter Try.func38, Try.ntmps38
    go_wp2_with fail
    go_ret2
    exact ⟨rfl, rfl⟩
  have g1 : ((x : Int) == 232) = false := by simp; omega
  have g2 : ((x : Int) == 233) = false := by simp; omega
  by_cases h3 : a = 15
  · have e1 : bits .and .u8 (x : Int) 240 = ((x &&& 240 : Nat) : Int) := u8_and_nat x 240 hx (by omega)
    have e2 := far_and x hx
    by_cases h4 : 128 ≤ x ∧ x ≤ 143
    · have hm : markV a x = .tuple #[.int .i64 257, .bool true] := by unfold markV mark; rw [if_neg h1, if_neg h2, if_pos ⟨h3, h4⟩]; rfl
      have e3 : bits .and .u8 (x : Int) 240 = 128 := by rw [e1, e2.2 h4]; rfl
      rw [hm]
      subst h3
      clear hm h1 h2 e1 e2 h4 ha hx
      go_enter Try.func38, Try.ntmps38
      go_wp2_with fail
      go_ret2
      exact ⟨rfl, rfl⟩
    · have hm : markV a x = .tuple #[.int .i64 0, .bool false] := by unfold markV mark; rw [if_neg h1, if_neg h2, if_neg (fun h => h4 h.2)]; rfl
      have h5 : ¬ (x &&& 240) = 128 := fun h => h4 (e2.1 h)
      obtain ⟨y, hy⟩ : ∃ y, y = x &&& 240 := ⟨_, rfl⟩
      rw [← hy] at e1 h5
      have e3 : ((y : Int) == 128) = false := by simp; omega
      rw [hm]
      subst h3
      clear hm h1 h2 e2 h4 ha hx hy h5
      go_enter Try.func38, Try.ntmps38
      go_wp2_with fail
      go_ret2
      exact ⟨rfl, rfl⟩
  · have hm : markV a x = .tuple #[.int .i64 0, .bool false] := by unfold markV mark; rw [if_neg h1, if_neg h2, if_neg (fun h => h3 h.1)]; rfl
    have g3 : ((a : Int) == 15) = false := by simp; omega
    rw [hm]
    clear hm h1 h2 h3 ha hx
    go_enter Try.func38, Try.ntmps38
    go_wp2_with fail
    go_ret2
    exact ⟨rfl, rfl⟩

set_option maxHeartbeats 1000000 in
theorem isCall_any (n : Nat) (w : World) :
    Calls Try.prog 53 #[.int .i64 (n : Int)] w fun e w' => e = .returned (.bool (decide (n < 256))) ∧ w = w' := by
  by_cases h : n < 256
  · have h' : (n : Int) < 256 := by omega
    rw [decide_eq_true h]
    go_enter Try.func53, Try.ntmps53
    go_wp2_with fail
    go_ret
    exact ⟨rfl, rfl⟩
  · have h' : ¬ (n : Int) < 256 := by omega
    rw [decide_eq_false h]
    go_enter Try.func53, Try.ntmps53
    go_wp2_with fail
    go_ret
    exact ⟨rfl, rfl⟩

set_option maxHeartbeats 1000000 in
theorem which_any {a x : Nat} (ha : a < 256) (hx : x < 256) (w : World) :
    Calls Try.prog 21 #[.int .u8 (a : Int), .int .u8 (x : Int)] w fun e w' => e = .returned (.int .i64 (markI a x)) ∧ w = w' := by
  by_cases h1 : x = 232
  · have hm : markI a x = (a : Int) := by unfold markI mark; rw [if_pos h1]
    rw [hm]
    subst h1
    clear hm
    go_enter Try.func21, Try.ntmps21
    go_wp2_with fail
    go_ret
    exact ⟨rfl, rfl⟩
  by_cases h2 : x = 233
  · have hm : markI a x = 256 := by unfold markI mark; rw [if_neg h1, if_pos h2]; rfl
    rw [hm]
    subst h2
    clear hm h1
    go_enter Try.func21, Try.ntmps21
    go_wp2_with fail
    go_ret
    exact ⟨rfl, rfl⟩
  have g1 : ((x : Int) == 232) = false := by simp; omega
  have g2 : ((x : Int) == 233) = false := by simp; omega
  by_cases h3 : a = 15
  · by_cases h4 : 128 ≤ x
    · have k4 : (128 : Int) ≤ (x : Int) := by omega
      by_cases h5 : x ≤ 143
      · have hm : markI a x = 257 := by unfold markI mark; rw [if_neg h1, if_neg h2, if_pos ⟨h3, h4, h5⟩]; rfl
        have k5 : (x : Int) ≤ 143 := by omega
        rw [hm]
        subst h3
        clear hm h1 h2 h4 h5 ha hx
        go_enter Try.func21, Try.ntmps21
        go_wp2_with fail
        go_ret
        exact ⟨rfl, rfl⟩
      · have hm : markI a x = -1 := by unfold markI mark; rw [if_neg h1, if_neg h2, if_neg (fun h => h5 h.2.2)]
        have k5 : ¬ (x : Int) ≤ 143 := by omega
        rw [hm]
        subst h3
        clear hm h1 h2 h4 h5 ha hx
        go_enter Try.func21, Try.ntmps21
        go_wp2_with fail
        go_ret
        exact ⟨rfl, rfl⟩
    · have hm : markI a x = -1 := by unfold markI mark; rw [if_neg h1, if_neg h2, if_neg (fun h => h4 h.2.1)]
      have k4 : ¬ (128 : Int) ≤ (x : Int) := by omega
      rw [hm]
      subst h3
      clear hm h1 h2 h4 ha hx
      go_enter Try.func21, Try.ntmps21
      go_wp2_with fail
      go_ret
      exact ⟨rfl, rfl⟩
  · have hm : markI a x = -1 := by unfold markI mark; rw [if_neg h1, if_neg h2, if_neg (fun h => h3 h.1)]
    have g3 : ((a : Int) == 15) = false := by simp; omega
    rw [hm]
    clear hm h1 h2 h3 ha hx
    go_enter Try.func21, Try.ntmps21
    go_wp2_with fail
    go_ret
    exact ⟨rfl, rfl⟩
end Go.Proofs.Ytdnkoeafnnohnaa

/-
  The reference's decoder: each call a contract.
-/
namespace Go.Proofs.Ytdnkoeafnnohnaa
open Go.RowKit

def decCells (A : Option Addr) (n c at_ r k : Nat) (b : Bool) : Array Value := #[.slice A n c, .int .i64 (at_ : Int), .int .u64 (r : Int), .int .u64 (k : Int), .bool b]

section
variable {g n c at_ r k : Nat} {A : Option Addr} {w : World} {bs : List UInt8} {bad : Bool}

set_option maxHeartbeats 1000000 in
theorem next_bad (hB : Blk w g 51 (decCells A n c at_ r k true)) :
    Calls Try.prog 36 #[.pointer (some ⟨g, 0, none⟩)] w fun e w' => e = .returned (.int .u64 0) ∧ Blk w' g 51 (decCells A n c at_ r k true) ∧ w.grownBy w' (some g) := by
  have h1 : w.cell? ⟨g, 1, none⟩ = some (.int .i64 (at_ : Int)) := hB.cell 1
  have h0 : w.cell? ⟨g, 0, none⟩ = some (.slice A n c) := hB.cell 0
  have h4 : w.cell? ⟨g, 4, none⟩ = some (.bool true) := hB.cell 4
  have f4 : w.frozen? ⟨g, 4, none⟩ = false := hB.free 4
  have HB := Lib.hid hB
  clear hB
  go_enter Try.func36, Try.ntmps36
  go_wp2_with fail
  go_quiet (fail)
  go_wp2_with fail
  go_ret
  exact ⟨rfl, HB.out.put 4 _, only_setCell (only_drewN (World.grownBy.refl w _) _) (.inl rfl) _⟩

set_option maxHeartbeats 1000000 in
theorem next_end (hB : Blk w g 51 (decCells A n c n r k false)) (hn : n ≤ 1000000000) :
    Calls Try.prog 36 #[.pointer (some ⟨g, 0, none⟩)] w fun e w' => e = .returned (.int .u64 0) ∧ Blk w' g 51 (decCells A n c n r k true) ∧ w.grownBy w' (some g) := by
  have h1 : w.cell? ⟨g, 1, none⟩ = some (.int .i64 (n : Int)) := hB.cell 1
  have h0 : w.cell? ⟨g, 0, none⟩ = some (.slice A n c) := hB.cell 0
  have h4 : w.cell? ⟨g, 4, none⟩ = some (.bool false) := hB.cell 4
  have f4 : w.frozen? ⟨g, 4, none⟩ = false := hB.free 4
  have HB := Lib.hid hB
  clear hB
  go_enter Try.func36, Try.ntmps36
  go_wp2_with fail
  go_quiet (fail)
  go_wp2_with fail
  go_ret
  exact ⟨rfl, HB.out.put 4 _, only_setCell (only_drewN (World.grownBy.refl w _) _) (.inl rfl) _⟩

set_option maxHeartbeats 1000000 in
theorem next_ok {b o : Nat} {x : UInt8} (hB : Blk w g 51 (decCells (some ⟨b, o, none⟩) n c at_ r k false)) (ha : at_ < n) (hn : n ≤ 1000000000) (hx : w.cell? ⟨b, o + at_, none⟩ = some (.int .u8 (x.toNat : Int))) (hne : b ≠ g) :
    Calls Try.prog 36 #[.pointer (some ⟨g, 0, none⟩)] w fun e w' => e = .returned (.int .u64 (x.toNat : Int)) ∧ Blk w' g 51 (decCells (some ⟨b, o, none⟩) n c (at_ + 1) r k false) ∧ w.grownBy w' (some g) := by
  have h1 : w.cell? ⟨g, 1, none⟩ = some (.int .i64 (at_ : Int)) := hB.cell 1
  have h0 : w.cell? ⟨g, 0, none⟩ = some (.slice (some ⟨b, o, none⟩) n c) := hB.cell 0
  have h4 : w.cell? ⟨g, 4, none⟩ = some (.bool false) := hB.cell 4
  have f1 : w.frozen? ⟨g, 1, none⟩ = false := hB.free 1
  have hlt : ¬ (at_ : Int) ≥ (n : Int) := by omega
  have hi0 : (0 : Int) ≤ (at_ : Int) := by omega
  have hi1 : (at_ : Int) < (n : Int) := by omega
  have e1 : IntKind.i64.wrap ((at_ : Int) + 1) = (at_ : Int) + 1 := IntWalk.i64_in _ (by omega)
  have e2 : IntKind.i64.wrap ((at_ : Int) + 1 - 1) = (at_ : Int) := by rw [show (at_ : Int) + 1 - 1 = at_ by omega]; exact IntWalk.i64_in _ (by omega)
  have hxl := x.toNat_lt
  have HB := Lib.hid hB
  clear hB
  go_enter Try.func36, Try.ntmps36
  go_wp2_with fail
  go_quiet (fail)
  go_wp2_with fail
  have hB2 : Blk ((w.drewN nq).setCell ⟨g, 1, none⟩ (.int .i64 ((at_ : Int) + 1))) g 51 (decCells (some ⟨b, o, none⟩) n c (at_ + 1) r k false) := by
    have := Blk.put (w := w.drewN nq) HB.out 1 (.int .i64 ((at_ : Int) + 1))
    rw [← show ((at_ + 1 : Nat) : Int) = (at_ : Int) + 1 by omega] at this ⊢
    exact this
  have hg2 : w.grownBy ((w.drewN nq).setCell ⟨g, 1, none⟩ (.int .i64 ((at_ : Int) + 1))) (some g) := only_setCell (only_drewN (World.grownBy.refl w _) _) (.inl rfl) _
  have hx2 : ((w.drewN nq).setCell ⟨g, 1, none⟩ (.int .i64 ((at_ : Int) + 1))).cell? ⟨b, o + at_, none⟩ = some (.int .u8 (x.toNat : Int)) := by
    rw [World.cell?_setCell_other _ _ _ _ (by first | (simp; done) | (simp; omega))]
    exact hx
  generalize (w.drewN nq).setCell ⟨g, 1, none⟩ (.int .i64 ((at_ : Int) + 1)) = w2 at hB2 hg2 hx2 ⊢
  have j0 : w2.cell? ⟨g, 0, none⟩ = some (.slice (some ⟨b, o, none⟩) n c) := hB2.cell 0
  have j1 : w2.cell? ⟨g, 1, none⟩ = some (.int .i64 ((at_ : Int) + 1)) := (hB2.cell 1).trans rfl
  have HB2 := Lib.hid hB2
  have HG2 := Lib.hid hg2
  clear hB2 hg2 h0 h1 h4 f1 hx HB
  go_quiet (fail)
  go_wp2_with fail
  go_ret
  exact ⟨rfl, HB2.out, only_drewN HG2.out _⟩
end

/-- Block g is a decoder of the reference over bs; what lies in the source's memory is apart from it. -/
def DecAt (w : World) (g : Nat) (lo : Nat → Prop) (bs : List UInt8) (d : Dc) : Prop :=
  ∃ A c at_ r k bad, Blk w g 51 (decCells A bs.length c at_ r k bad) ∧ Sl w A bs.length (bv bs) ∧ bs.length ≤ c ∧ c ≤ maxLen ∧ at_ ≤ bs.length ∧ (0 < bs.length → ∀ b o, A = some ⟨b, o, none⟩ → lo b ∧ b ≠ g) ∧
    r < 4294967296 ∧ k < 4294967296 ∧ ((bad = true ∧ d = none) ∨ (bad = false ∧ d = some (r, k, bs.drop at_)))

/-- A byte is asked for: the rest of the decoder stays. -/
theorem next_any {g c at_ r k : Nat} {A : Option Addr} {w : World} {bs : List UInt8} {bad : Bool} (hB : Blk w g 51 (decCells A bs.length c at_ r k bad)) (hS : Sl w A bs.length (bv bs)) (ha : at_ ≤ bs.length) (hn : bs.length ≤ 1000000000)
    (hne : 0 < bs.length → ∀ b o, A = some ⟨b, o, none⟩ → b ≠ g) :
    Calls Try.prog 36 #[.pointer (some ⟨g, 0, none⟩)] w fun e w' =>
      (∃ x t, bad = false ∧ bs.drop at_ = x :: t ∧ e = .returned (.int .u64 (x.toNat : Int)) ∧ Blk w' g 51 (decCells A bs.length c (at_ + 1) r k false) ∧ at_ + 1 ≤ bs.length ∧ bs.drop (at_ + 1) = t ∧ w.grownBy w' (some g)) ∨
      ((bad = true ∨ bs.drop at_ = []) ∧ e = .returned (.int .u64 0) ∧ Blk w' g 51 (decCells A bs.length c at_ r k true) ∧ w.grownBy w' (some g)) := by
  cases bad
  · by_cases hlt : at_ < bs.length
    · obtain ⟨b, o, rfl, hb, hc⟩ := hS.2 (by omega)
      have hd : bs.drop at_ = bs[at_] :: bs.drop (at_ + 1) := List.drop_eq_getElem_cons hlt
      refine (next_ok (x := bs[at_]) hB hlt hn ?_ (hne (by omega) b o rfl)).mono ?_
      · rw [hc at_ hlt, bv_get _ _ hlt]
        simp [List.getD, hlt]
      · rintro e w' ⟨rfl, h1, h2⟩
        exact .inl ⟨_, _, rfl, hd, rfl, h1, hlt, rfl, h2⟩
    · obtain rfl : at_ = bs.length := by omega
      refine (next_end hB hn).mono ?_
      rintro e w' ⟨rfl, h1, h2⟩
      exact .inr ⟨.inr (by simp), rfl, h1, h2⟩
  · refine (next_bad hB).mono ?_
    rintro e w' ⟨rfl, h1, h2⟩
    exact .inr ⟨.inl rfl, rfl, h1, h2⟩
end Go.Proofs.Ytdnkoeafnnohnaa

/-
  The reference's decoder is evened out.
-/
namespace Go.Proofs.Ytdnkoeafnnohnaa
open Go.RowKit

section
variable {g n c at_ r k : Nat} {A : Option Addr} {w : World} {bad : Bool}

set_option maxHeartbeats 1000000 in
theorem level_high (hB : Blk w g 51 (decCells A n c at_ r k bad)) (hr : ¬ r < 16777216) :
    Calls Try.prog 37 #[.pointer (some ⟨g, 0, none⟩)] w fun e w' => e = .returned (.tuple #[]) ∧ w = w' := by
  have h2 : w.cell? ⟨g, 2, none⟩ = some (.int .u64 (r : Int)) := hB.cell 2
  have hr' : ¬ (r : Int) < 16777216 := by omega
  clear hB
  go_enter Try.func37, Try.ntmps37
  go_wp2_with fail
  first | go_end0 | refine bodyPost_ret (results_none rfl _ _ _) rfl ?_
  exact ⟨rfl, rfl⟩

set_option maxHeartbeats 2000000 in
theorem level_low {x at' : Nat} {bad' : Bool} (hB : Blk w g 51 (decCells A n c at_ r k bad)) (hr : r < 16777216) (hk : k < 4294967296) (hx : x < 256)
    (K : ∀ W, w.grownBy W (some g) → Blk W g 51 (decCells A n c at_ (r * 256) k bad) → Calls Try.prog 36 #[.pointer (some ⟨g, 0, none⟩)] W fun e w' =>
      e = .returned (.int .u64 (x : Int)) ∧ Blk w' g 51 (decCells A n c at' (r * 256) k bad') ∧ W.grownBy w' (some g)) :
    Calls Try.prog 37 #[.pointer (some ⟨g, 0, none⟩)] w fun e w' =>
      e = .returned (.tuple #[]) ∧ Blk w' g 51 (decCells A n c at' (r * 256) ((k * 256 + x) % 4294967296) bad') ∧ w.grownBy w' (some g) := by
  have h2 : w.cell? ⟨g, 2, none⟩ = some (.int .u64 (r : Int)) := hB.cell 2
  have f2 : w.frozen? ⟨g, 2, none⟩ = false := hB.free 2
  have hr' : (r : Int) < 16777216 := by omega
  have e1 : IntKind.u64.wrap ((r : Int) * 256) = (r : Int) * 256 := by rw [show (r : Int) * 256 = ((r * 256 : Nat) : Int) by omega]; exact u64_in _ (by omega)
  have e2 : IntKind.u64.wrap ((k : Int) * 256) = (k : Int) * 256 := by rw [show (k : Int) * 256 = ((k * 256 : Nat) : Int) by omega]; exact u64_in _ (by omega)
  have e3 : IntKind.u64.wrap ((k : Int) * 256 + (x : Int)) = (k : Int) * 256 + (x : Int) := by rw [show (k : Int) * 256 + (x : Int) = ((k * 256 + x : Nat) : Int) by omega]; exact u64_in _ (by omega)
  have HB := Lib.hid hB
  have HK := Lib.hid K
  clear hB K
  go_enter Try.func37, Try.ntmps37
  go_wp2_with fail
  have hB2 : Blk (w.setCell ⟨g, 2, none⟩ (.int .u64 ((r : Int) * 256))).drew g 51 (decCells A n c at_ (r * 256) k bad) := by
    have := HB.out.put 2 (.int .u64 ((r : Int) * 256))
    rw [← show ((r * 256 : Nat) : Int) = (r : Int) * 256 by omega] at this ⊢
    exact this
  have hg2 : w.grownBy (w.setCell ⟨g, 2, none⟩ (.int .u64 ((r : Int) * 256))).drew (some g) := only_drewN (only_setCell (World.grownBy.refl w _) (.inl rfl) _) 1
  have j3 : (w.setCell ⟨g, 2, none⟩ (.int .u64 ((r : Int) * 256))).cell? ⟨g, 3, none⟩ = some (.int .u64 (k : Int)) := hB2.cell 3
  have HK2 := Lib.hid (HK.out _ hg2 hB2)
  have HG2 := Lib.hid hg2
  clear hB2 hg2 HK HB h2 f2
  generalize w.setCell ⟨g, 2, none⟩ (.int .u64 ((r : Int) * 256)) = w2 at *
  go_region_law (first | (go_simp; go_at_call 36; refine HK2.out.mono ?_; rintro e w3 ⟨rfl, hB3, hg3⟩; have k3 : w3.cell? ⟨g, 3, none⟩ = some (.int .u64 (k : Int)) := hB3.cell 3; have z3 : w3.frozen? ⟨g, 3, none⟩ = false := hB3.free 3; have HB3 := Lib.hid hB3; have HG3 := Lib.hid hg3; clear hB3 hg3))
  all_goals
    try go_wp2_with fail
    first | go_end0 | refine bodyPost_ret (results_none rfl _ _ _) rfl ?_
    have em : ((k : Int) * 256 + (x : Int)).tmod 4294967296 = (((k * 256 + x) % 4294967296 : Nat) : Int) := by
      rw [show (k : Int) * 256 + (x : Int) = ((k * 256 + x : Nat) : Int) by omega, Int.tmod_eq_emod_of_nonneg (by omega)]
      omega
    rw [em]
    exact ⟨rfl, HB3.out.put 3 _, only_setCell (only_trans HG2.out HG3.out) (.inl rfl) _⟩
end

/-- A decoder's cells are those of a state d. -/
def Tells (bs : List UInt8) (d : Dc) (at_ r k : Nat) (bad : Bool) : Prop :=
  at_ ≤ bs.length ∧ r < 4294967296 ∧ k < 4294967296 ∧ ((bad = true ∧ d = none) ∨ (bad = false ∧ d = some (r, k, bs.drop at_)))

theorem level_any {g c at_ r k : Nat} {A : Option Addr} {w : World} {bs : List UInt8} {bad : Bool} (hB : Blk w g 51 (decCells A bs.length c at_ r k bad)) (hS : Sl w A bs.length (bv bs)) (ha : at_ ≤ bs.length) (hn : bs.length ≤ 1000000000)
    (hne : 0 < bs.length → ∀ b o, A = some ⟨b, o, none⟩ → b ≠ g) (hr : r < 4294967296) (hk : k < 4294967296) (hkr : bad = false → k < r) :
    Calls Try.prog 37 #[.pointer (some ⟨g, 0, none⟩)] w fun e w' =>
      e = .returned (.tuple #[]) ∧ ∃ at' r' k' bad', Blk w' g 51 (decCells A bs.length c at' r' k' bad') ∧ Tells bs (if bad = true then none else lvl r k (bs.drop at_)) at' r' k' bad' ∧ w.grownBy w' (some g) := by
  by_cases hlow : r < 16777216
  · cases bad
    · by_cases hlt : at_ < bs.length
      · have hd : bs.drop at_ = bs[at_] :: bs.drop (at_ + 1) := List.drop_eq_getElem_cons hlt
        have hx := (bs[at_]).toNat_lt
        have hkr' := hkr rfl
        refine (level_low (x := (bs[at_]).toNat) (at' := at_ + 1) (bad' := false) hB hlow hk (by omega) ?_).mono ?_
        · intro W hg hW
          obtain ⟨b, o, rfl, hb, hc⟩ := (hS.grown hg hne).2 (by omega)
          refine next_ok (x := bs[at_]) hW hlt hn ?_ (hne (by omega) b o rfl)
          rw [hc at_ hlt, bv_get _ _ hlt]
          simp [List.getD, hlt]
        · rintro e w' ⟨rfl, h1, h2⟩
          refine ⟨rfl, _, _, _, _, h1, ⟨hlt, by omega, by omega, .inr ⟨rfl, ?_⟩⟩, h2⟩
          rw [if_neg (by simp), hd]
          unfold lvl
          rw [if_pos hlow]
          show some _ = some _
          rw [Nat.mod_eq_of_lt (by omega)]
      · obtain rfl : at_ = bs.length := by omega
        refine (level_low (x := 0) (at' := bs.length) (bad' := true) hB hlow hk (by omega) (fun W _ hW => next_end hW hn)).mono ?_
        rintro e w' ⟨rfl, h1, h2⟩
        refine ⟨rfl, _, _, _, _, h1, ⟨Nat.le_refl _, by omega, by omega, .inl ⟨rfl, ?_⟩⟩, h2⟩
        rw [if_neg (by simp), List.drop_length]
        unfold lvl
        rw [if_pos hlow]
    · refine (level_low (x := 0) (at' := at_) (bad' := true) hB hlow hk (by omega) (fun W _ hW => next_bad hW)).mono ?_
      rintro e w' ⟨rfl, h1, h2⟩
      exact ⟨rfl, _, _, _, _, h1, ⟨ha, by omega, by omega, .inl ⟨rfl, if_pos rfl⟩⟩, h2⟩
  · refine (level_high hB hlow).mono ?_
    rintro e w' ⟨rfl, rfl⟩
    refine ⟨rfl, at_, r, k, bad, hB, ⟨ha, hr, hk, ?_⟩, World.grownBy.refl w _⟩
    cases bad
    · right
      refine ⟨rfl, ?_⟩
      rw [if_neg (by simp)]
      unfold lvl
      rw [if_neg hlow]
    · exact .inl ⟨rfl, if_pos rfl⟩
end Go.Proofs.Ytdnkoeafnnohnaa
