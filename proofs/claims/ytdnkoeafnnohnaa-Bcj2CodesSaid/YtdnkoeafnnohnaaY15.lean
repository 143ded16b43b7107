/-
  B2RcM, B2Ref: put together.
-/
import Derived.Test.YtdnkoeafnnohnaaY07
import Derived.Test.YtdnkoeafnnohnaaY09
import Derived.Test.YtdnkoeafnnohnaaY14
import Derived.LoopTactic
import Derived.Deep.CutRange
import Derived.Deep.CutBlock
import Derived.Deep.RegionLaw
set_option linter.unusedVariables false
set_option linter.unusedSimpArgs false
/-
  The document's coder of four streams in memory.
-/
namespace Go.Proofs.Ytdnkoeafnnohnaa
open Go.RowKit

/-- the box of the streams at block K, the reference's coder at g (its bytes at q), the probabilities at b; rows R k of Main, Call and Jump -/
structure Rd (w0 w : World) (K g q b pc : Nat) (V : Nat → Value) (R : Nat → List UInt8) (ps : List Nat) (e : En) : Prop where
  blk : Blk w K 24 #[V 0, V 1, V 2, V 3]
  rn : Rn w g q e
  en : EnOk e
  prw : Row w b ps pc
  ps_ok : PsOk ps
  len : ps.length = 258
  row : ∀ k, k < 3 → w.ownsRow w0.heap.size 5 1 (V k) (R k).length (bv (R k))
  code : V 3 = .slice none 0 0
  bel : Below w0.heap.size w0 w
  low : w0.heap.size ≤ K ∧ w0.heap.size ≤ g ∧ w0.heap.size ≤ q ∧ w0.heap.size ≤ b
  dis : K ≠ g ∧ K ≠ q ∧ K ≠ b ∧ g ≠ b ∧ q ≠ b
  off : ∀ k, k < 3 → ∀ p, (V k).ownBlock = some p → p ≠ K ∧ p ≠ g ∧ p ≠ q ∧ p ≠ b ∧ ∀ m, m < 3 → m ≠ k → (V m).ownBlock ≠ some p

theorem four_set {V : Nat → Value} {k : Nat} (hk : k < 3) (v : Value) : (#[V 0, V 1, V 2, V 3] : Array Value).setIfInBounds k v = #[upV V k v 0, upV V k v 1, upV V k v 2, upV V k v 3] := by
  have : k = 0 ∨ k = 1 ∨ k = 2 := by omega
  rcases this with rfl | rfl | rfl <;> rfl

section
variable {w0 w w' : World} {K g q b pc : Nat} {V : Nat → Value} {R : Nat → List UInt8} {ps : List Nat} {e : En}
theorem Rd.only0 (h : Rd w0 w K g q b pc V R ps e) (hO : Only (fun _ => False) w w') : Rd w0 w' K g q b pc V R ps e :=
  ⟨h.blk.only hO (fun h => h), h.rn.only hO (fun h => h) (fun h => h), h.en, h.prw.only hO (fun h => h), h.ps_ok, h.len, fun k hk => own_onlyC (h.row k hk) hO (fun _ _ h => h), h.code, h.bel.trans (hO.below h.bel.size (fun _ h => h.elim)), h.low, h.dis, h.off⟩
theorem Rd.below (h : Rd w0 w K g q b pc V R ps e) (hb : Below w.heap.size w w') : Rd w0 w' K g q b pc V R ps e := h.only0 (Only.of_below hb)
theorem Rd.drewN (h : Rd w0 w K g q b pc V R ps e) (n : Nat) : Rd w0 (w.drewN n) K g q b pc V R ps e := h.only0 ((Only.refl (fun _ => False) w).drewN n)
theorem Rd.cell (h : Rd w0 w K g q b pc V R ps e) : w.cell? ⟨K, 0, none⟩ = some (V 0) ∧ w.cell? ⟨K, 1, none⟩ = some (V 1) ∧ w.cell? ⟨K, 2, none⟩ = some (V 2) ∧ w.cell? ⟨K, 3, none⟩ = some (V 3) :=
  ⟨h.blk.cell 0, h.blk.cell 1, h.blk.cell 2, h.blk.cell 3⟩
theorem Rd.prob (h : Rd w0 w K g q b pc V R ps e) {i : Nat} (hi : i < 258) : w.cell? ⟨b, i, none⟩ = some (.int .u16 ((ps.getD i 0 : Nat) : Int)) := h.prw.cell (by rw [h.len]; exact hi)

/-- A row grows, and the cell that leads to it is stored. -/
theorem Rd.app {w1 w3 : World} {k : Nat} {A' : Option Addr} {c' : Nat} {x : List UInt8} (h : Rd w0 w K g q b pc V R ps e) (hk : k < 3) (h1 : Only (fun _ => False) w w1)
    (ho : w3.ownsRow w0.heap.size 5 1 (.slice A' ((R k).length + x.length) c') ((R k).length + x.length) (bv (R k) ++ bv x)) (hg : w1.grownBy w3 (V k).ownBlock)
    (hq : (Value.slice A' ((R k).length + x.length) c').ownBlock = (V k).ownBlock ∨ (Value.slice A' ((R k).length + x.length) c').ownBlock = some w1.heap.size) :
    w3.cell? ⟨K, k, none⟩ = some (V k) ∧ w3.frozen? ⟨K, k, none⟩ = false ∧
    Rd w0 (w3.setCell ⟨K, k, none⟩ (.slice A' ((R k).length + x.length) c')) K g q b pc (upV V k (.slice A' ((R k).length + x.length) c')) (fun i => if i = k then R k ++ x else R i) ps e := by
  have hO : Only (fun i => (V k).ownBlock = some i) w1 w3 := ⟨hg.os, hg.tape, hg.output, hg.size, fun i hi hne => hg.block i hi (fun e => hne e.symm)⟩
  have hO2 := (h1.mono (S' := fun i => (V k).ownBlock = some i) (fun _ h => h.elim)).trans hO
  have hb3 := h.blk.only hO2 (fun e => (h.off k hk K e).1 rfl)
  have hlo : ∀ i, (V k).ownBlock = some i → w0.heap.size ≤ i := fun i hi => (own_atC (h.row k hk) hi).1
  have hb0 := h.bel.trans (hO2.below h.bel.size hlo)
  have hK := h.low.1
  have hs := h1.size
  have hold : ∀ i, (Value.slice A' ((R k).length + x.length) c').ownBlock = some i → (V k).ownBlock = some i ∨ w.heap.size ≤ i := fun i hi => by
    rcases hq with e | e
    · exact .inl (e ▸ hi)
    · rw [e] at hi; injection hi with hi; exact .inr (by omega)
  have hcell : w3.cell? ⟨K, k, none⟩ = some (V k) := by
    obtain ⟨c0, c1, c2, _⟩ := (⟨hb3.cell 0, hb3.cell 1, hb3.cell 2, hb3.cell 3⟩ : w3.cell? ⟨K, 0, none⟩ = some (V 0) ∧ w3.cell? ⟨K, 1, none⟩ = some (V 1) ∧ w3.cell? ⟨K, 2, none⟩ = some (V 2) ∧ w3.cell? ⟨K, 3, none⟩ = some (V 3))
    have : k = 0 ∨ k = 1 ∨ k = 2 := by omega
    rcases this with rfl | rfl | rfl
    · exact c0
    · exact c1
    · exact c2
  refine ⟨hcell, hb3.free _, ?_⟩
  have hO4 := (Only.refl (fun i => i = K) w3).setCell (p := ⟨K, k, none⟩) (.inl rfl) (.slice A' ((R k).length + x.length) c')
  have hrn3 : Rn w3 g q e := h.rn.only hO2 (fun e => (h.off k hk g e).2.1 rfl) (fun e => (h.off k hk q e).2.2.1 rfl)
  have hpr3 : Row w3 b ps pc := h.prw.only hO2 (fun e => (h.off k hk b e).2.2.2.1 rfl)
  obtain ⟨d1, d2, d3, d4, d5⟩ := h.dis
  refine ⟨by rw [← four_set hk]; exact hb3.put k _, hrn3.only hO4 (fun e => d1 e.symm) (fun e => d2 e.symm), h.en, hpr3.only hO4 (fun e => d3 e.symm), h.ps_ok, h.len, fun m hm => ?_, ?_, hb0.trans (hO4.below hb0.size (fun i hi => by omega)), h.low, h.dis, fun m hm p hq' => ?_⟩
  · by_cases e : m = k
    · subst e
      unfold upV
      rw [if_pos rfl, if_pos rfl, bv_append, List.length_append]
      refine own_onlyC ho hO4 (fun b hb hs => ?_)
      rcases hold b hb with h2 | h2
      · exact (h.off m hk b h2).1 hs
      · have := h.blk.lt; omega
    · unfold upV
      rw [if_neg e, if_neg e]
      exact own_onlyC (own_onlyC (h.row m hm) hO2 (fun b hb hs => (h.off m hm b hb).2.2.2.2 k hk (fun e' => e e'.symm) hs)) hO4 (fun b hb hs => (h.off m hm b hb).1 hs)
  · unfold upV
    rw [if_neg (by omega)]
    exact h.code
  · by_cases e : m = k
    · subst e
      have hq2 : (Value.slice A' ((R m).length + x.length) c').ownBlock = some p := by unfold upV at hq'; rw [if_pos rfl] at hq'; exact hq'
      have hother : ∀ m', m' < 3 → m' ≠ m → (upV V m (.slice A' ((R m).length + x.length) c') m').ownBlock = (V m').ownBlock := fun m' _ hne => by unfold upV; rw [if_neg hne]
      rcases hold p hq2 with h2 | h2
      · obtain ⟨a1, a2, a3, a4, a5⟩ := h.off m hk p h2
        exact ⟨a1, a2, a3, a4, fun m' hm' hne => by rw [hother m' hm' hne]; exact a5 m' hm' hne⟩
      · have b1 := h.blk.lt
        have b2 := h.rn.lt
        have b3 := h.prw.lt
        refine ⟨by omega, by omega, by omega, by omega, fun m' hm' hne hh => ?_⟩
        rw [hother m' hm' hne] at hh
        have := (own_atC (h.row m' hm') hh).2
        omega
    · have hq2 : (V m).ownBlock = some p := by unfold upV at hq'; rw [if_neg e] at hq'; exact hq'
      obtain ⟨a1, a2, a3, a4, a5⟩ := h.off m hm p hq2
      refine ⟨a1, a2, a3, a4, fun m' hm' hne hh => ?_⟩
      by_cases e' : m' = k
      · subst e'
        unfold upV at hh
        rw [if_pos rfl] at hh
        rcases hold p hh with h2 | h2
        · exact a5 m' hm' hne h2
        · have := (own_atC (h.row m hm) hq2).2
          omega
      · unfold upV at hh
        rw [if_neg e'] at hh
        exact a5 m' hm' hne hh

/-- The reference's coder turns. -/
theorem Rd.turn {q' : Nat} {e' : En} (h : Rd w0 w K g q b pc V R ps e) (hR : Rn w' g q' e') (hq : q' = q ∨ w.heap.size ≤ q') (hO : Only (twain g q) w w') (he : EnOk e') : Rd w0 w' K g q' b pc V R ps e' := by
  obtain ⟨d1, d2, d3, d4, d5⟩ := h.dis
  have hn : ∀ i, i < w.heap.size → i ≠ q → i ≠ q' := fun i hi hne => by
    rcases hq with r | r
    · rw [r]; exact hne
    · omega
  have hk := h.blk.lt
  have hb := h.prw.lt
  have hs : ∀ i, i ≠ g → i ≠ q → ¬ twain g q i := fun i h1 h2 h3 => by
    rcases h3 with h3 | h3
    · exact h1 h3
    · exact h2 h3
  refine ⟨h.blk.only hO (hs K d1 d2), hR, he, h.prw.only hO (hs b (fun e => d4 e.symm) (fun e => d5 e.symm)), h.ps_ok, h.len, fun k hk => own_onlyC (h.row k hk) hO (fun p hp => hs p (h.off k hk p hp).2.1 (h.off k hk p hp).2.2.1), h.code, h.bel.trans (hO.below h.bel.size (fun i hi => ?_)), ⟨h.low.1, h.low.2.1, ?_, h.low.2.2.2⟩, ⟨d1, hn K hk d2, d3, d4, fun e => hn b hb (fun e => d5 e.symm) e.symm⟩, fun k hk p hp => ?_⟩
  · rcases hi with rfl | rfl
    · exact h.low.2.1
    · exact h.low.2.2.1
  · rcases hq with r | r
    · rw [r]; exact h.low.2.2.1
    · exact Nat.le_trans h.bel.size r
  · obtain ⟨a1, a2, a3, a4, a5⟩ := h.off k hk p hp
    exact ⟨a1, a2, hn p (own_atC (h.row k hk) hp).2 a3, a4, a5⟩
/-- A probability turns. -/
theorem Rd.set (h : Rd w0 w K g q b pc V R ps e) (i : Nat) {p : Nat} (hp : POk p) : Rd w0 (w.setCell ⟨b, i, none⟩ (.int .u16 (p : Int))) K g q b pc V R (ps.set i p) e := by
  obtain ⟨d1, d2, d3, d4, d5⟩ := h.dis
  have hO := (Only.refl (fun i => i = b) w).setCell (p := ⟨b, i, none⟩) (.inl rfl) (.int .u16 (p : Int))
  exact ⟨h.blk.only hO d3, h.rn.only hO d4 d5, h.en, h.prw.put i p, psOk_set h.ps_ok i hp, by rw [List.length_set]; exact h.len, fun k hk => own_onlyC (h.row k hk) hO (fun p hp hs => (h.off k hk p hp).2.2.2.1 hs), h.code, h.bel.trans (hO.below h.bel.size (fun i hi => by have hi : i = b := hi; rw [hi]; exact h.low.2.2.2)), h.low, h.dis, h.off⟩
end
end Go.Proofs.Ytdnkoeafnnohnaa

/-
  The document's decoder of four streams: the walk.
-/
namespace Go.Proofs.Ytdnkoeafnnohnaa
open Go.RowKit

/-- a target's cells, as the document puts them -/
def tc (T : Nat) : Array Value := #[Value.int .u8 ((T : Int) % 256), Value.int .u8 ((wrap64 ((T : Int) / 256)).tmod 256 % 256), Value.int .u8 ((wrap64 ((T : Int) / 65536)).tmod 256 % 256), Value.int .u8 (wrap64 ((T : Int) / 16777216) % 256)]
def pl4 (a b c e : UInt8) : Nat := ((a.toNat * 256 + b.toNat) * 256 + c.toNat) * 256 + e.toNat
def g4 (l : List UInt8) (n : Nat) : Nat := pl4 (l.getD n 0) (l.getD (n + 1) 0) (l.getD (n + 2) 0) (l.getD (n + 3) 0)
def outB (size : Nat) (k : K2) (out : List UInt8) (a p : Nat) : Option (K2 × List UInt8 × Nat) :=
  if size < out.length + 4 then none else some (k, out ++ leB (tgt p out.length) 4, lastB a (tgt p out.length) 4)
/-- what the document's Decode leaves, and that its row is new -/
def RdPostN (w : World) (ans : Option (List UInt8)) (e : Ending) (w' : World) : Prop :=
  Below w.heap.size w w' ∧ ((ans = none ∧ e = .returned (.tuple #[.slice none 0 0, .int .i64 12])) ∨
    (∃ out O co, ans = some out ∧ e = .returned (.tuple #[.slice O out.length co, .int .i64 0]) ∧ Sl w' O out.length (bv out) ∧ ∀ q o, O = some ⟨q, o, none⟩ → w.heap.size ≤ q))

end Go.Proofs.Ytdnkoeafnnohnaa
