/-
  What the program's coder and decoder of shares owe, whatever they are made of: the laws are walked over this.
-/
import Derived.Test.YtkjhdpfomofggaaPrNew
import Derived.Test.YtkjhdpfomofggaaPrPut
namespace Go.Proofs.Ytkjhdpfomofggaa
open Go.RowKit

/-- what a call leaves: blocks that are owned then were so ahead, or are new; no other has turned -/
def OwnPost (Own : World → (Nat → Prop) → Prop) (w : World) (G : Nat → Prop) (v : Value) (x : Ending) (w' : World) : Prop :=
  x = .returned v ∧ ∃ G', Own w' G' ∧ (∀ i, G' i → G i ∨ w.heap.size ≤ i) ∧ Only G w w'
/-- behind a finish -/
def OwnFin (Own : World → (Nat → Prop) → Prop) (w : World) (G : Nat → Prop) (e : En) (x : Ending) (w' : World) : Prop :=
  ∃ A m bs G', x = .returned (.slice A bs.length m) ∧ Sl w' A bs.length (bv bs) ∧ be bs = e.n ∧ bs.length = e.l ∧ Own w' G' ∧ (∀ i, G' i → G i ∨ w.heap.size ≤ i) ∧ Only G w w'

/-- Pn w g G e: the coder at block g owns the blocks G, and has come to e. -/
structure CoderCon (Pn : World → Nat → (Nat → Prop) → En → Prop) : Prop where
  old : ∀ {w g G e i}, Pn w g G e → G i → i < w.heap.size
  only : ∀ {w w' g G e} {S : Nat → Prop}, Pn w g G e → Only S w w' → (∀ i, G i → ¬ S i) → Pn w' g G e
  new : ∀ w, Calls Try.prog 22 #[] w fun x w' => ∃ g G, x = .returned (.pointer (some ⟨g, 0, none⟩)) ∧ Pn w' g G En.new ∧ (∀ i, G i → w.heap.size ≤ i) ∧ Below w.heap.size w w'
  put : ∀ {w g G e} {Q : Shr}, Pn w g G e → EnOk e → ShrLit Q → RightS Q → e.l ≤ 999999900 →
    Calls Try.prog 24 #[.pointer (some ⟨g, 0, none⟩), .agg (shrArr Q)] w (OwnPost (fun w' G' => Pn w' g G' (putE e Q.k.toNat Q.s.toNat Q.z.toNat Q.t.toNat)) w G (.tuple #[]))
  count : ∀ {w g G e}, Pn w g G e → e.l ≤ 1000000000 → Calls Try.prog 26 #[.pointer (some ⟨g, 0, none⟩)] w fun x w' => x = .returned (.int .i64 (e.l : Int)) ∧ ∃ d, w.drewN d = w'
  finish : ∀ {w g G e}, Pn w g G e → e.l ≤ 999999990 → Calls Try.prog 28 #[.pointer (some ⟨g, 0, none⟩)] w (OwnFin (fun w' G' => Pn w' g G' En.new) w G e)

/-- Pd w g f G bs d: the decoder at block g, over the feed f of the bytes bs, owns the blocks G, and is in the state d. -/
structure DecCon (Pd : World → Nat → Nat → (Nat → Prop) → List UInt8 → Dc → Prop) : Prop where
  old : ∀ {w g f G bs d i}, Pd w g f G bs d → G i → i < w.heap.size
  only : ∀ {w w' g f G bs d} {S : Nat → Prop}, Pd w g f G bs d → Only S w w' → (∀ i, G i → ¬ S i) → Pd w' g f G bs d
  feed : ∀ {w g f G bs r c s}, Pd w g f G bs (some (r, c, s)) → ∃ lo at_, Feed w f lo bs at_ ∧ bs.drop at_ = s
  new : ∀ {w f lo bs}, Feed w f lo bs 0 → bs.length ≤ 1000000000 → Calls Try.prog 10 #[.iface 25 (.pointer (some ⟨f, 0, none⟩))] w fun x w' =>
    ∃ g G, x = .returned (.pointer (some ⟨g, 0, none⟩)) ∧ Pd w' g f G bs (started bs) ∧ (∀ i, G i → lo ≤ i) ∧ Below lo w w'
  place : ∀ {w g f G bs d t}, Pd w g f G bs d → DcOk d → 1 ≤ t → t ≤ 1048576 → bs.length ≤ 1000000000 →
    Calls Try.prog 15 #[.pointer (some ⟨g, 0, none⟩), .int .u32 ((t : Nat) : Int)] w (OwnPost (fun w' G' => Pd w' g f G' bs (placeD d t).2) w G (.int .u32 ((placeD d t).1 : Int)))
  take : ∀ {w g f G bs d a z}, Pd w g f G bs d → bs.length ≤ 1000000000 → a < 4294967296 → z < 4294967296 → (∀ r k s, d = some (r, k, s) → a * r ≤ k ∧ k - a * r < r * z ∧ r * z < 4294967296 ∧ 1 ≤ r * z) →
    Calls Try.prog 17 #[.pointer (some ⟨g, 0, none⟩), .int .u32 ((a : Nat) : Int), .int .u32 ((z : Nat) : Int)] w (OwnPost (fun w' G' => Pd w' g f G' bs (takeD d a z)) w G (.tuple #[]))
  bit : ∀ {w g f G bs d z t}, Pd w g f G bs d → DcOk d → bs.length ≤ 1000000000 → t ≤ 16 → 1 ≤ z → z < 2 ^ t →
    Calls Try.prog 13 #[.pointer (some ⟨g, 0, none⟩), .int .u32 ((z : Nat) : Int), .int .i64 ((t : Nat) : Int)] w (OwnPost (fun w' G' => Pd w' g f G' bs (shareBit d z t).2) w G (.int .i64 ((shareBit d z t).1 : Int)))
  bad : ∀ {w g f G bs d}, Pd w g f G bs d → Calls Try.prog 19 #[.pointer (some ⟨g, 0, none⟩)] w fun x w' => x = .returned (.bool d.isNone) ∧ ∃ n, w.drewN n = w'
  done : ∀ {w g f G bs d}, Pd w g f G bs d → Calls Try.prog 21 #[.pointer (some ⟨g, 0, none⟩)] w fun x w' => x = .returned (.bool (match d with | none => false | some (_, c, _) => decide (c = 0))) ∧ ∃ n, w.drewN n = w'

/-- The laws' beginning, as they lean on it. -/
def AwakeCon : Prop := ∀ w, Calls Try.prog 8 #[] w fun e w' => e = .returned (.bool true) ∧ Below w.heap.size w w'

theorem con_below {w w1 w2 : World} {B : Nat} {G : Nat → Prop} (hB : B ≤ w.heap.size) (h : Below B w w1) (hG : ∀ i, G i → B ≤ i) (hO : Only G w1 w2) : Below B w w2 :=
  h.trans (hO.below (Nat.le_trans hB h.size) hG)
theorem con_new {w w1 : World} {B : Nat} {G G' : Nat → Prop} (hB : B ≤ w.heap.size) (h : Below B w w1) (hG : ∀ i, G i → B ≤ i) (hN : ∀ i, G' i → G i ∨ w1.heap.size ≤ i) : ∀ i, G' i → B ≤ i := fun i hi => by
  rcases hN i hi with h1 | h1
  · exact hG i h1
  · have := h.size; omega
end Go.Proofs.Ytkjhdpfomofggaa
