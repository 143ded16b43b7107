/-
  Pure, Arith, Info, SrcFeed, Sc: put together.
-/
import Derived.WalkKit
import Derived.Laws.BitsAllLaws
import Derived.Laws.BitsLemmas
import Derived.Test.YtoencondpbkomaaGreatDoorRows
import Derived.Test.YtoencondpbkomaaGreatDoorT01
import Derived.Tactics
import Derived.Tactics2
import Derived.Laws.Pointers
import Derived.RegionTactic
import Derived.RegionCalls
import Derived.BigQuiet
import Derived.Lib.SliceRun
import Derived.LoopTactic
set_option linter.unusedVariables false
set_option linter.unusedSimpArgs false
/-
  Numbers and rows as the document has them, over lists of bytes: plain mathematics, no program.
-/
namespace Go.Proofs.YtoencondpbkomaaGreatDoor

/-- bytes as a number, the least first -/
def leVal : List UInt8 → Nat
  | [] => 0
  | b :: r => b.toNat + 256 * leVal r

theorem leVal_snoc (l : List UInt8) (b : UInt8) : leVal (l ++ [b]) = leVal l + b.toNat * 256 ^ l.length := by
  induction l with
  | nil => simp [leVal]
  | cons a r ih =>
    simp only [List.cons_append, leVal, ih, List.length_cons, Nat.pow_succ, Nat.mul_add]
    have : 256 * (b.toNat * 256 ^ r.length) = b.toNat * (256 ^ r.length * 256) := by
      rw [Nat.mul_comm 256, Nat.mul_assoc]
    omega
theorem leVal_lt (l : List UInt8) : leVal l < 256 ^ l.length := by
  induction l with
  | nil => simp [leVal]
  | cons a r ih =>
    have := a.toNat_lt
    simp only [leVal, List.length_cons, Nat.pow_succ]
    omega
theorem take_snoc {α : Type} (l : List α) (k : Nat) (h : k < l.length) (d : α) : l.take (k + 1) = l.take k ++ [l.getD k d] := by
  rw [List.take_succ_eq_append_getElem h]
  simp [List.getD, h]
theorem leVal_take (l : List UInt8) (k : Nat) (h : k < l.length) : leVal (l.take (k + 1)) = leVal (l.take k) + (l.getD k 0).toNat * 256 ^ k := by
  rw [take_snoc l k h 0, leVal_snoc]
  simp [Nat.min_eq_left (Nat.le_of_lt h)]
theorem leVal_take_lt (l : List UInt8) (k : Nat) : leVal (l.take k) < 256 ^ k := by
  have h := leVal_lt (l.take k)
  have : (256 : Nat) ^ (l.take k).length ≤ 256 ^ k := Nat.pow_le_pow_right (by omega) (by simp; omega)
  omega
theorem pow256 (k : Nat) : (256 : Nat) ^ k = 2 ^ (8 * k) := by
  rw [Nat.pow_mul]
/-- the size least bytes of v, the least first -/
def leBytes (size v : Nat) : List UInt8 := (List.range size).map fun i => UInt8.ofNat (v / 256 ^ i % 256)
/-- how many bytes follow the first of the shortest short number that is v: k -/
structure IsFol (v k : Nat) : Prop where
  le : k ≤ 8
  lt : k < 8 → v < 2 ^ (7 * k + 7)
  ge : ∀ j, j < k → 2 ^ (7 * j + 7) ≤ v
def folAux (v : Nat) : Nat → Nat → Nat
  | 0, k => k
  | f + 1, k => if v < 2 ^ (7 * k + 7) then k else folAux v f (k + 1)
def fol (v : Nat) : Nat := folAux v 8 0
/-- the shortest short number that is v -/
def shortBytes (v : Nat) : List UInt8 := UInt8.ofNat (256 - 2 ^ (8 - fol v) + v / 256 ^ fol v) :: leBytes (fol v) v
end Go.Proofs.YtoencondpbkomaaGreatDoor

/-
  Arithmetic of fixed width as the walk writes it: shifts, or, and, and sums that do not wrap.
-/
namespace Go.Proofs.YtoencondpbkomaaGreatDoor
open Go.RowKit

theorem u64_in (x : Nat) (h : x < 18446744073709551616) : IntKind.u64.wrap (x : Int) = (x : Int) := by
  rw [IntKind.wrap_u64]; omega
theorem cast_pow2 (k : Nat) : ((2 : Int) ^ k) = ((2 ^ k : Nat) : Int) := by
  rw [Int.natCast_pow]; rfl

/-- a byte shifted to its place, or-ed onto the lesser ones -/
theorem or_step (v x k : Nat) (hv : v < 256 ^ k) (hx : x < 256) (hk : k < 8) :
    bits .or .u64 (v : Int) (IntKind.u64.wrap (IntKind.u64.wrap (x : Int) * 2 ^ (8 * k))) = ((v + x * 256 ^ k : Nat) : Int) := by
  have h256 : (256 : Nat) ^ k ≤ 256 ^ 7 := Nat.pow_le_pow_right (by omega) (by omega)
  have hp : x * 256 ^ k ≤ 255 * 256 ^ k := Nat.mul_le_mul_right _ (by omega)
  have hlt : x * 256 ^ k < 18446744073709551616 := by omega
  rw [u64_in x (by omega), cast_pow2, ← pow256, ← Int.natCast_mul, u64_in _ hlt, u64_or_nat _ _ (by omega) hlt]
  congr 1
  rw [Nat.or_comm, nat_join (8 * k) (x * 256 ^ k) v (by rw [pow256]; exact Nat.mul_mod_left _ _) (by rw [← pow256]; exact hv)]
  omega

end Go.Proofs.YtoencondpbkomaaGreatDoor

/-
  What a type's facts say, in parts.
-/
namespace Go.Proofs.YtoencondpbkomaaGreatDoor
open Go.RowKit

theorem info_parts {P : Program} {t : TypeId} {z : Value} {s b : Nat} (h : (P.info? t).map (fun i => (i.zero, i.size, i.bytes)) = some (some z, s, b)) : ∃ i, P.info? t = some i ∧ i.zero = some z ∧ i.size = s ∧ i.bytes = b := by
  cases hi : P.info? t with
  | none => rw [hi] at h; cases h
  | some i =>
    rw [hi] at h
    simp only [Option.map_some, Option.some.injEq, Prod.mk.injEq] at h
    exact ⟨i, rfl, h.1, h.2.1, h.2.2⟩
theorem info_u8 : (Tryz.prog.info? 5).map (fun i => (i.zero, i.size, i.bytes)) = some (some (.int .u8 0), 1, 1) := by kernel_rfl

end Go.Proofs.YtoencondpbkomaaGreatDoor

/-
  A feed: made of bytes, it gives each once, in order. Its row lies from block lo on, ahead of its own block.
-/
namespace Go.Proofs.YtoencondpbkomaaGreatDoor
open Go.RowKit

set_option maxRecDepth 100000 in
set_option maxHeartbeats 2000000 in
theorem clone_any {A : Option Addr} {n c : Nat} {bs : List UInt8} {w : World} (hS : Sl w A n (bv bs)) (hm : n ≤ 1000000000) :
    Calls Tryz.prog 41 #[.slice A n c] w fun e w' =>
      ∃ A' c', e = .returned (.slice A' n c') ∧ w'.ownsRow w.heap.size 5 1 (.slice A' n c') n (bv bs) ∧ Below w.heap.size w w' := by
  obtain ⟨i, hi, hz0, hz1, hz2⟩ := info_parts info_u8
  have hq := fun (w : World) (A : Option Addr) (n c : Nat) => Lib.run_eql_slice_nil (P := Tryz.prog) w 22 5 A n c 0 0 Tryz.underlying22
  go_enter Tryz.func41, Tryz.ntmps41
  go_wp2_with (at_builtin; refine wpList_app _ rfl (.tmp 5) (.tmp 6) 22 rfl w.heap.size 5 i _ 1 Tryz.underlying22 hi hz0 hz1 hz2 rfl _ 0 [] rfl (own_empty w (Nat.le_refl _) _) A n c (bv bs) rfl (hS.alloc _) (bv_one bs) (by omega) (by omega) (by simp) ?_)
  · go_ret
    rename_i hA
    have hA' : A = none := by simpa using hA
    have hn : n = 0 := by
      rcases Nat.eq_zero_or_pos n with h | h
      · exact h
      · obtain ⟨_, _, e, _⟩ := hS.2 h
        rw [hA'] at e; cases e
    subst hn
    have hb : bv bs = [] := List.eq_nil_of_length_eq_zero hS.1
    rw [hb]
    exact ⟨none, 0, rfl, World.ownsRow_nil w _ _ 1, Below.refl _ _⟩
  · intro A' c' w' ho hg
    have HO := Lib.hid ho
    have HG := Lib.hid hg
    clear ho hg
    go_wp2
    go_ret
    have ho := HO.out
    simp only [] at ho ⊢
    refine ⟨A', c', rfl, ho, ?_⟩
    exact ((Below.refl _ _).alloc (Nat.le_refl _) _).trans (below_of_only HG.out (Nat.le_refl _) (by simp))

/-- At block g stands a feed over the bytes bs, whose row lies from block lo on and ahead of g; k were given. -/
def Feed (w : World) (g lo : Nat) (bs : List UInt8) (k : Nat) : Prop :=
  ∃ A c, Blk w g 108 #[.slice A bs.length c, .int .i64 (k : Int)] ∧ Sl w A bs.length (bv bs) ∧ bs.length ≤ c ∧ c ≤ maxLen ∧ k ≤ bs.length ∧ lo ≤ g ∧ (0 < bs.length → ∀ b o, A = some ⟨b, o, none⟩ → lo ≤ b ∧ b < g)

theorem Feed.lt {w : World} {g lo : Nat} {bs : List UInt8} {k : Nat} (h : Feed w g lo bs k) : g < w.heap.size := by
  obtain ⟨_, _, hB, _⟩ := h
  exact hB.lt
theorem Feed.le {w : World} {g lo : Nat} {bs : List UInt8} {k : Nat} (h : Feed w g lo bs k) : k ≤ bs.length := by
  obtain ⟨_, _, _, _, _, _, h, _⟩ := h
  exact h
theorem Feed.lo {w : World} {g lo : Nat} {bs : List UInt8} {k : Nat} (h : Feed w g lo bs k) : lo ≤ g := by
  obtain ⟨_, _, _, _, _, _, _, h, _⟩ := h
  exact h
theorem Feed.drewN {w : World} {g lo : Nat} {bs : List UInt8} {k : Nat} (h : Feed w g lo bs k) (n : Nat) : Feed (w.drewN n) g lo bs k := h
theorem Feed.only {S : Nat → Prop} {w w' : World} {g lo : Nat} {bs : List UInt8} {k : Nat} (h : Feed w g lo bs k) (hb : Only S w w') (hS : ∀ i, S i → i < lo ∨ g < i) : Feed w' g lo bs k := by
  obtain ⟨A, c, hB, hs, h1, h2, h3, h4, h5⟩ := h
  refine ⟨A, c, hB.only hb (fun h => ?_), hs.only hb (fun hn b o e h => ?_), h1, h2, h3, h4, h5⟩
  · have := hS g h; omega
  · have := hS b h
    have := h5 hn b o e
    omega

set_option maxHeartbeats 400000 in
theorem newFeed_any {A : Option Addr} {n c : Nat} {bs : List UInt8} {w : World} (hS : Sl w A n (bv bs)) (hm : n ≤ 1000000000) :
    Calls Tryz.prog 20 #[.slice A n c] w fun e w' =>
      ∃ g, e = .returned (.pointer (some ⟨g, 0, none⟩)) ∧ w.heap.size ≤ g ∧ Feed w' g w.heap.size bs 0 ∧ Below w.heap.size w w' := by
  go_enter Tryz.func20, Tryz.ntmps20
  go_wp2_with (go_at_call 41; refine (clone_any hS hm).mono ?_; rintro e w' ⟨A', c', rfl, ho, hb⟩; have HO := Lib.hid ho; have HB := Lib.hid hb; clear ho hb)
  go_ret
  have hl : n = bs.length := by rw [← hS.1, bv_length]
  subst hl
  obtain ⟨h1, h2, h3, h4⟩ := own_facts HO.out
  exact ⟨_, rfl, HB.out.size, ⟨A', c', Blk.fresh _ _ _, h1.alloc _, h2, h3, by omega, HB.out.size, fun _ b o e => h4 b o e⟩, HB.out.alloc HB.out.size _⟩

set_option maxHeartbeats 400000 in
theorem feed_end {g lo : Nat} {bs : List UInt8} {w : World} (h : Feed w g lo bs bs.length) :
    Calls Tryz.prog 222 #[.pointer (some ⟨g, 0, none⟩)] w fun e w' => e = .returned (.tuple #[.int .u8 0, .bool false]) ∧ ∃ d, w.drewN d = w' := by
  obtain ⟨A, c, hB, hS, h1, h2, h3, h4, h5⟩ := h
  unfold maxLen at h2
  have c0 : w.cell? ⟨g, 0, none⟩ = some (.slice A bs.length c) := hB.cell 0
  have c1 : w.cell? ⟨g, 1, none⟩ = some (.int .i64 (bs.length : Int)) := hB.cell 1
  clear hB hS h4 h5
  go_enter Tryz.func222, Tryz.ntmps222
  go_wp2
  go_quiet (fail)
  go_wp2
  go_ret2
  exact ⟨rfl, _, rfl⟩

set_option maxHeartbeats 400000 in
theorem feed_more {g lo : Nat} {bs : List UInt8} {k : Nat} {w : World} (h : Feed w g lo bs k) (hk : k < bs.length) :
    Calls Tryz.prog 222 #[.pointer (some ⟨g, 0, none⟩)] w fun e w' => e = .returned (.tuple #[.int .u8 ((bs.getD k 0).toNat : Int), .bool true]) ∧ Feed w' g lo bs (k + 1) ∧ w.grownBy w' (some g) := by
  obtain ⟨A, c, hB, hS, h1, h2, h3, h4, h5⟩ := h
  have hm := h2
  unfold maxLen at hm
  obtain ⟨b, o, rfl, hlt, hc⟩ := hS.2 (by omega)
  have hbg : b ≠ g := by have := (h5 (by omega) b o rfl).2; omega
  have c0 : w.cell? ⟨g, 0, none⟩ = some (.slice (some ⟨b, o, none⟩) bs.length c) := hB.cell 0
  have c1 : w.cell? ⟨g, 1, none⟩ = some (.int .i64 (k : Int)) := hB.cell 1
  have f1 : w.frozen? ⟨g, 1, none⟩ = false := hB.free 1
  have cx : w.cell? ⟨b, o + k, none⟩ = some (.int .u8 ((bs.getD k 0).toNat : Int)) := by rw [hc k hk, bv_get _ _ hk]
  generalize bs.getD k 0 = x at cx
  have hne : ((k : Int) == (bs.length : Int)) = false := by simp; omega
  have HB := Lib.hid hB
  have HS := Lib.hid hS
  have H5 := Lib.hid h5
  generalize hn : bs.length = n at *
  have HN := Lib.hid hn
  clear hB hS h5 hc hn
  go_enter Tryz.func222, Tryz.ntmps222
  go_wp2
  go_quiet (fail)
  go_wp2
  go_quiet (fail)
  go_wp2
  go_ret2
  refine ⟨rfl, ?_, ?_⟩
  · have hn := HN.out
    subst hn
    refine ⟨some ⟨b, o, none⟩, c, ?_, ?_, h1, h2, by omega, h4, H5.out⟩
    · exact (HB.out.drewN _).put 1 _
    · exact (HS.out.drewN _).grown (only_setCell (World.grownBy.refl _ _) (.inl rfl) _) (fun hn b' o' e => Nat.ne_of_lt (H5.out hn b' o' e).2)
  · exact only_of_drewN (only_setCell (World.grownBy.refl _ _) (.inl rfl) _)
theorem feed_method (a : Addr) (w : World) : (method 358 52 (.pointer (some a)) "Next").run Tryz.prog w = .ok (222, .pointer (some a)) w := by kernel_rfl
end Go.Proofs.YtoencondpbkomaaGreatDoor

/-
  A source of bytes, whatever it is: which blocks it holds, which of them a call turns, how many bytes were given.
-/
namespace Go.Proofs.YtoencondpbkomaaGreatDoor
open Go.RowKit

/-- a source at block f: At w bs k: of the bytes bs k were given -/
structure Sc where
  f : Nat
  At : World → List UInt8 → Nat → Prop
  hold : Nat → Prop
  turn : Nat → Prop
/-- what it owes -/
structure ScOk (S : Sc) : Prop where
  tf : ∀ i, S.turn i → S.hold i
  only : ∀ {T : Nat → Prop} {w w' : World} {bs : List UInt8} {k : Nat}, S.At w bs k → Only T w w' → (∀ i, T i → ¬ S.hold i) → S.At w' bs k
  le : ∀ {w : World} {bs : List UInt8} {k : Nat}, S.At w bs k → k ≤ bs.length
  old : ∀ {w : World} {bs : List UInt8} {k i : Nat}, S.At w bs k → S.hold i → i < w.heap.size
  more : ∀ {w : World} {bs : List UInt8} {k : Nat}, S.At w bs k → k < bs.length →
    Calls Tryz.prog 224 #[.pointer (some ⟨S.f, 0, none⟩)] w fun e w' => e = .returned (.tuple #[.int .u8 ((bs.getD k 0).toNat : Int), .bool true]) ∧ S.At w' bs (k + 1) ∧ Only S.turn w w'
  done : ∀ {w : World} {bs : List UInt8}, S.At w bs bs.length →
    Calls Tryz.prog 224 #[.pointer (some ⟨S.f, 0, none⟩)] w fun e w' => e = .returned (.tuple #[.int .u8 0, .bool false]) ∧ S.At w' bs bs.length ∧ Only S.turn w w'

/-- A packed chunk's source: of the feed's bytes all, from the place a on, m of them at most. -/
structure PkAt (p fe lo : Nat) (all : List UInt8) (a m : Nat) (w : World) (bs : List UInt8) (k : Nat) : Prop where
  bytes : bs = (all.drop a).take m
  le : k ≤ bs.length
  blk : ∃ left : Nat, Blk w p 178 #[.iface 52 (.pointer (some ⟨fe, 0, none⟩)), .int .i64 (left : Int)] ∧ (k < bs.length → left = m - k) ∧ left ≤ m - k
  feed : Feed w fe lo all (a + k)
  am : m ≤ 1000000
  apart : lo ≤ fe ∧ fe < p
def pkSc (p fe lo : Nat) (all : List UInt8) (a m : Nat) : Sc := ⟨p, PkAt p fe lo all a m, fun i => i = p ∨ (lo ≤ i ∧ i ≤ fe), fun i => i = p ∨ i = fe⟩

theorem pk_bytes {all bs : List UInt8} {a m k : Nat} (h : bs = (all.drop a).take m) (hk : k < bs.length) : k < m ∧ a + k < all.length ∧ all.getD (a + k) 0 = bs.getD k 0 := by
  have hl : bs.length = min m (all.length - a) := by rw [h, List.length_take, List.length_drop]
  refine ⟨by omega, by omega, ?_⟩
  rw [h, List.getD_eq_getElem?_getD, List.getD_eq_getElem?_getD, List.getElem?_take_of_lt (by omega), List.getElem?_drop]

set_option maxRecDepth 100000 in
set_option maxHeartbeats 2000000 in
theorem pk_more {p fe lo : Nat} {all bs : List UInt8} {a m k : Nat} {w : World} (h : PkAt p fe lo all a m w bs k) (hk : k < bs.length) :
    Calls Tryz.prog 224 #[.pointer (some ⟨p, 0, none⟩)] w fun e w' => e = .returned (.tuple #[.int .u8 ((bs.getD k 0).toNat : Int), .bool true]) ∧ PkAt p fe lo all a m w' bs (k + 1) ∧ Only (fun i => i = p ∨ i = fe) w w' := by
  obtain ⟨left, hB, hl1, hl2⟩ := h.blk
  obtain ⟨g1, g2, g3⟩ := pk_bytes h.bytes hk
  have hleft := hl1 hk
  have ham := h.am
  have hap := h.apart
  have c0 : w.cell? ⟨p, 0, none⟩ = some (.iface 52 (.pointer (some ⟨fe, 0, none⟩))) := hB.cell 0
  have c1 : w.cell? ⟨p, 1, none⟩ = some (.int .i64 (left : Int)) := hB.cell 1
  have z1 := hB.free 1
  have hz : ((left : Int) == 0) = false := by simp; omega
  have e1 : IntKind.i64.wrap ((left : Int) - 1) = (left : Int) - 1 := IntWalk.i64_in _ (by omega)
  have hOp := (Only.refl (fun i => i = p) w).setCell (p := ⟨p, 1, none⟩) (.inl rfl) (.int .i64 ((left : Int) - 1))
  have hB1 := hB.put 1 (.int .i64 ((left : Int) - 1))
  have hF1 := h.feed.only hOp (fun i hi => by omega)
  have KF := feed_more hF1 g2
  rw [g3] at KF
  have KF := Lib.hid KF
  have hm := feed_method
  have HH := Lib.hid (And.intro h (And.intro hOp (And.intro hB1 (show (left : Int) - 1 = ((left - 1 : Nat) : Int) ∧ left - 1 = m - (k + 1) by omega))))
  have HK := Lib.hid hk
  generalize bs.getD k 0 = x at *
  clear h hB hl1 hl2 g1 g2 g3 hleft ham hap hOp hB1 hF1 hk
  go_enter Tryz.func224, Tryz.ntmps224
  go_wp2_with fail
  refine KF.out.mono ?_
  rintro e w1 ⟨rfl, hF2, hg2⟩
  have HF2 := Lib.hid (And.intro hF2 hg2)
  clear hF2 hg2 KF c0 c1
  go_wp2_with fail
  go_ret2
  obtain ⟨h, hOp, hB1, e2, e3⟩ := HH.out
  obtain ⟨hF2, hg2⟩ := HF2.out
  have hap := h.apart
  have hk := HK.out
  have hB2 := hB1.grown hg2 (fun e => by injection e with e; omega)
  rw [e2] at hB2
  refine ⟨rfl, ⟨h.bytes, hk, ⟨left - 1, hB2, fun _ => e3, by omega⟩, by rw [show a + (k + 1) = a + k + 1 by omega]; exact hF2, h.am, h.apart⟩, (hOp.mono fun i hi => .inl hi).trans ((Only.of_grown (S := fun i => i = fe) hg2 rfl).mono fun i hi => .inr hi)⟩

set_option maxRecDepth 100000 in
set_option maxHeartbeats 2000000 in
theorem pk_done {p fe lo : Nat} {all bs : List UInt8} {a m : Nat} {w : World} (h : PkAt p fe lo all a m w bs bs.length) :
    Calls Tryz.prog 224 #[.pointer (some ⟨p, 0, none⟩)] w fun e w' => e = .returned (.tuple #[.int .u8 0, .bool false]) ∧ PkAt p fe lo all a m w' bs bs.length ∧ Only (fun i => i = p ∨ i = fe) w w' := by
  obtain ⟨left, hB, hl1, hl2⟩ := h.blk
  have ham := h.am
  have hap := h.apart
  have c0 : w.cell? ⟨p, 0, none⟩ = some (.iface 52 (.pointer (some ⟨fe, 0, none⟩))) := hB.cell 0
  have c1 : w.cell? ⟨p, 1, none⟩ = some (.int .i64 (left : Int)) := hB.cell 1
  have z1 := hB.free 1
  have hl : bs.length = min m (all.length - a) := by rw [h.bytes, List.length_take, List.length_drop]
  by_cases h0 : left = 0
  · subst h0
    change w.cell? ⟨p, 1, none⟩ = some (.int .i64 0) at c1
    have HH := Lib.hid h
    clear h hB hl1 hl2 ham hap hl
    go_enter Tryz.func224, Tryz.ntmps224
    go_wp2_with fail
    go_ret2
    exact ⟨rfl, HH.out, Only.refl _ _⟩
  · have hz : ((left : Int) == 0) = false := by simp; omega
    have e1 : IntKind.i64.wrap ((left : Int) - 1) = (left : Int) - 1 := IntWalk.i64_in _ (by omega)
    have hOp := (Only.refl (fun i => i = p) w).setCell (p := ⟨p, 1, none⟩) (.inl rfl) (.int .i64 ((left : Int) - 1))
    have hB1 := hB.put 1 (.int .i64 ((left : Int) - 1))
    have hF1 := h.feed.only hOp (fun i hi => by omega)
    have hle := h.feed.le
    have hend : a + bs.length = all.length := by omega
    rw [hend] at hF1
    have KF := Lib.hid (feed_end hF1)
    have hm := feed_method
    have HH := Lib.hid (And.intro h (And.intro hOp (And.intro hB1 (And.intro hF1 (And.intro hend (show (left : Int) - 1 = ((left - 1 : Nat) : Int) ∧ left - 1 ≤ m - bs.length by omega))))))
    clear h hB hl1 hl2 ham hap hOp hB1 hF1 hle hend hl h0
    go_enter Tryz.func224, Tryz.ntmps224
    go_wp2_with fail
    refine KF.out.mono ?_
    rintro e w1 ⟨rfl, n, rfl⟩
    clear KF c0 c1
    go_wp2_with fail
    go_ret2
    obtain ⟨h, hOp, hB1, hF1, hend, e2, e3⟩ := HH.out
    rw [e2] at hB1 hOp hF1 ⊢
    exact ⟨rfl, ⟨h.bytes, h.le, ⟨left - 1, hB1.drewN n, fun hh => absurd hh (Nat.lt_irrefl _), e3⟩, by rw [hend]; exact hF1.drewN n, h.am, h.apart⟩, (hOp.mono fun i hi => .inl hi).drewN n⟩

theorem pk_ok {p fe lo : Nat} {all : List UInt8} {a m : Nat} (hlo : lo ≤ fe) : ScOk (pkSc p fe lo all a m) where
  tf i hi := hi.elim .inl (fun e => .inr (by subst e; exact ⟨hlo, Nat.le_refl _⟩))
  only := by
    intro T w w' bs k h hO hT
    obtain ⟨left, hB, hl1, hl2⟩ := h.blk
    refine ⟨h.bytes, h.le, ⟨left, hB.only hO (fun hh => hT _ hh (.inl rfl)), hl1, hl2⟩, h.feed.only hO (fun i hi => ?_), h.am, h.apart⟩
    have h1 : ¬ (lo ≤ i ∧ i ≤ fe) := fun hh => hT i hi (.inr hh)
    omega
  le h := h.le
  old := by
    intro w bs k i h hi
    obtain ⟨left, hB, _⟩ := h.blk
    rcases hi with rfl | ⟨_, hi⟩
    · exact hB.lt
    · have := h.feed.lt
      omega
  more h hk := pk_more h hk
  done h := pk_done h
end Go.Proofs.YtoencondpbkomaaGreatDoor
