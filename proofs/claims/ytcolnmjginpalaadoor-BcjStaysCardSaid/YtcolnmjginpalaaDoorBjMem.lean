/-
  A walk through a list of machine words, in memory: its cells, the bytes ahead of it, the tables of masks.
-/
import Derived.Test.YtcolnmjginpalaaDoorBjBack
import Derived.Test.YtcolnmjginpalaaDoorOnly
import Derived.Test.YtcolnmjginpalaaDoorArith
import Derived.Test.YtcolnmjginpalaaDoorRows
import Derived.Deep.Cut
import Derived.Deep.CutRange
import Derived.Deep.RegionLaw
import Derived.Deep.RegionHeld3
import Derived.StillTailTactics
import Derived.Tactics
import Derived.Tactics2
import Derived.Laws.Pointers
import Derived.RegionTactic
import Derived.RegionCalls
import Derived.BigQuiet
namespace Go.Proofs.YtcolnmjginpalaaDoor
set_option linter.unusedVariables false
set_option linter.unusedSimpArgs false
open Go.RowKit

theorem cell_other {w : World} {a b : Addr} {v : Value} (h : a ≠ b) : (w.setCell a v).cell? b = w.cell? b := World.cell?_setCell_other _ _ _ _ h
theorem cell_same {w : World} {a : Addr} {u v : Value} (h : w.cell? a = some u) : (w.setCell a v).cell? a = some v := World.cell?_setCell_same _ _ _ h
theorem froz {w : World} {a b : Addr} {v : Value} : (w.setCell a v).frozen? b = w.frozen? b := World.frozen?_setCell _ _ _ _
/-- the tables of masks, as they lie -/
structure Tabs (w : World) : Prop where
  al : ∀ a, a < 8 → w.cell? ⟨0, a, none⟩ = some (.bool (alB a))
  bt : ∀ a, a < 8 → w.cell? ⟨1, a, none⟩ = some (.int .i64 (btN a : Int))
  size : 2 ≤ w.heap.size
theorem Tabs.only {S : Nat → Prop} {w w' : World} (h : Tabs w) (hO : Only S w w') (h0 : ¬ S 0) (h1 : ¬ S 1) : Tabs w' :=
  ⟨fun a ha => (hO.cell (p := ⟨0, a, none⟩) (by have := h.size; show 0 < _; omega) h0).trans (h.al a ha), fun a ha => (hO.cell (p := ⟨1, a, none⟩) (by have := h.size; show 1 < _; omega) h1).trans (h.bt a ha), Nat.le_trans h.size hO.size⟩
theorem Tabs.below {w w' : World} (h : Tabs w) (hb : Below w.heap.size w w') : Tabs w' := h.only (Only.of_below (S := fun _ => False) hb) (fun h => h) (fun h => h)
theorem Tabs.drewN {w : World} (h : Tabs w) (n : Nat) : Tabs (w.drewN n) := ⟨h.al, h.bt, h.size⟩
theorem Tabs.far {w : World} (h : Tabs w) {p : Addr} (hp : 2 ≤ p.block) (u : Value) : Tabs (w.setCell p u) :=
  h.only (S := fun i => i = p.block) ((Only.refl (fun i => i = p.block) w).setCell (.inl rfl) u) (by intro h; omega) (by intro h; omega)

/-- a walk's cells (block r, from o on) and bytes (block q, from k on) -/
structure At (w : World) (r o q k : Nat) (c : Bool) (p : Nat) (l m : Int) (bs : List UInt8) : Prop where
  codes : w.cell? ⟨r, o, none⟩ = some (.bool c)
  place : w.cell? ⟨r, o + 1, none⟩ = some (.int .i64 (p : Int))
  last : w.cell? ⟨r, o + 2, none⟩ = some (.int .i64 l)
  mask : w.cell? ⟨r, o + 3, none⟩ = some (.int .i64 m)
  byte : ∀ j, j < bs.length → w.cell? ⟨q, k + j, none⟩ = some (.int .u8 ((bs.getD j 0).toNat : Int))
  free : ∀ i, w.frozen? ⟨r, i, none⟩ = false
  freeq : ∀ i, w.frozen? ⟨q, i, none⟩ = false
  apart : q = r → ∀ j, j < bs.length → k + j < o ∨ o + 4 ≤ k + j
  r2 : 2 ≤ r
  q2 : 2 ≤ q
  tabs : Tabs w

section
variable {w : World} {r o q k p : Nat} {c : Bool} {l m : Int} {bs : List UInt8}
theorem addr_ne {b b' i i' : Nat} (h : b = b' → i ≠ i') : (⟨b, i, none⟩ : Addr) ≠ ⟨b', i', none⟩ := by
  intro e
  injection e with e1 e2
  exact h e1 e2
theorem At.drewN (h : At w r o q k c p l m bs) (n : Nat) : At (w.drewN n) r o q k c p l m bs :=
  ⟨h.codes, h.place, h.last, h.mask, h.byte, h.free, h.freeq, h.apart, h.r2, h.q2, h.tabs.drewN n⟩
theorem At.far_byte (h : At w r o q k c p l m bs) {d : Nat} (hd : d < 4) {j : Nat} (hj : j < bs.length) : (⟨r, o + d, none⟩ : Addr) ≠ ⟨q, k + j, none⟩ :=
  addr_ne fun e => by have := h.apart e.symm j hj; omega
theorem At.setPlace (h : At w r o q k c p l m bs) (p' : Nat) : At (w.setCell ⟨r, o + 1, none⟩ (.int .i64 (p' : Int))) r o q k c p' l m bs :=
  ⟨(cell_other (addr_ne fun _ => by omega)).trans h.codes, cell_same h.place, (cell_other (addr_ne fun _ => by omega)).trans h.last,
    (cell_other (addr_ne fun _ => by omega)).trans h.mask, fun j hj => (cell_other (h.far_byte (d := 1) (by decide) hj)).trans (h.byte j hj),
    fun i => froz.trans (h.free i), fun i => froz.trans (h.freeq i), h.apart, h.r2, h.q2, h.tabs.far h.r2 _⟩
theorem At.setLast (h : At w r o q k c p l m bs) (l' : Int) : At (w.setCell ⟨r, o + 2, none⟩ (.int .i64 l')) r o q k c p l' m bs :=
  ⟨(cell_other (addr_ne fun _ => by omega)).trans h.codes, (cell_other (addr_ne fun _ => by omega)).trans h.place, cell_same h.last,
    (cell_other (addr_ne fun _ => by omega)).trans h.mask, fun j hj => (cell_other (h.far_byte (d := 2) (by decide) hj)).trans (h.byte j hj),
    fun i => froz.trans (h.free i), fun i => froz.trans (h.freeq i), h.apart, h.r2, h.q2, h.tabs.far h.r2 _⟩
theorem At.setMask (h : At w r o q k c p l m bs) (m' : Int) : At (w.setCell ⟨r, o + 3, none⟩ (.int .i64 m')) r o q k c p l m' bs :=
  ⟨(cell_other (addr_ne fun _ => by omega)).trans h.codes, (cell_other (addr_ne fun _ => by omega)).trans h.place, (cell_other (addr_ne fun _ => by omega)).trans h.last,
    cell_same h.mask, fun j hj => (cell_other (h.far_byte (d := 3) (by decide) hj)).trans (h.byte j hj),
    fun i => froz.trans (h.free i), fun i => froz.trans (h.freeq i), h.apart, h.r2, h.q2, h.tabs.far h.r2 _⟩
end
/-- what the mask comes to at a place: its age is the places since the last mark -/
def agN (g : Nat) (m : Nat) : Nat := if g > 3 then 0 else m * 2 ^ (g - 1) % 8
def AgePost (w : World) (r o p a : Nat) (e : Ending) (w' : World) : Prop :=
  e = .returned (.tuple #[]) ∧ ∃ d, w' = ((w.setCell ⟨r, o + 2, none⟩ (.int .i64 (p : Int))).setCell ⟨r, o + 3, none⟩ (.int .i64 (a : Int))).drewN d
section
variable {w : World} {r o q k p : Nat} {c : Bool} {l m : Int} {bs : List UInt8}
set_option maxHeartbeats 1000000 in
theorem marks_any (x : UInt8) (w : World) : Calls Tryd.prog 28 #[.int .u8 (x.toNat : Int)] w fun e w' => e = .returned (.bool (mkB x)) ∧ w = w' := by
  by_cases h1 : x.toNat = 232
  · have e1 : ((x.toNat : Int) == 232) = true := by simp; omega
    have hm : mkB x = true := by unfold mkB; rw [show x = 232 from UInt8.toNat_inj.1 h1]; rfl
    rw [hm]
    clear h1 hm
    go_enter Tryd.func28, Tryd.ntmps28
    go_wp2_with fail
    go_ret
    exact ⟨rfl, rfl⟩
  · have e1 : ((x.toNat : Int) == 232) = false := by simp; omega
    by_cases h2 : x.toNat = 233
    · have e2 : ((x.toNat : Int) == 233) = true := by simp; omega
      have hm : mkB x = true := by unfold mkB; rw [show x = 233 from UInt8.toNat_inj.1 h2]; rfl
      rw [hm]
      clear h1 h2 hm
      go_enter Tryd.func28, Tryd.ntmps28
      go_wp2_with fail
      go_ret
      exact ⟨rfl, rfl⟩
    · have e2 : ((x.toNat : Int) == 233) = false := by simp; omega
      have hm : mkB x = false := by
        unfold mkB
        rw [Bool.or_eq_false_iff, beq_eq_false_iff_ne, beq_eq_false_iff_ne]
        exact ⟨fun h => h1 (by rw [h]; rfl), fun h => h2 (by rw [h]; rfl)⟩
      rw [hm]
      clear h1 h2 hm
      go_enter Tryd.func28, Tryd.ntmps28
      go_wp2_with fail
      go_ret
      exact ⟨rfl, rfl⟩
set_option maxHeartbeats 1000000 in
theorem edge_any (x : UInt8) (w : World) : Calls Tryd.prog 32 #[.int .u8 (x.toNat : Int)] w fun e w' => e = .returned (.bool (egB x)) ∧ w = w' := by
  by_cases h1 : x.toNat = 0
  · obtain rfl : x = 0 := UInt8.toNat_inj.1 h1
    go_enter Tryd.func32, Tryd.ntmps32
    go_wp2_with fail
    go_ret
    exact ⟨rfl, rfl⟩
  · have e1 : ((x.toNat : Int) == 0) = false := by simp; omega
    by_cases h2 : x.toNat = 255
    · have e2 : ((x.toNat : Int) == 255) = true := by simp; omega
      have hm : egB x = true := by unfold egB; rw [show x = 255 from UInt8.toNat_inj.1 h2]; rfl
      rw [hm]
      clear h1 h2 hm
      go_enter Tryd.func32, Tryd.ntmps32
      go_wp2_with fail
      go_ret
      exact ⟨rfl, rfl⟩
    · have e2 : ((x.toNat : Int) == 255) = false := by simp; omega
      have hm : egB x = false := by
        unfold egB
        rw [Bool.or_eq_false_iff, beq_eq_false_iff_ne, beq_eq_false_iff_ne]
        exact ⟨fun h => h1 (by rw [h]; rfl), fun h => h2 (by rw [h]; rfl)⟩
      rw [hm]
      clear h1 h2 hm
      go_enter Tryd.func32, Tryd.ntmps32
      go_wp2_with fail
      go_ret
      exact ⟨rfl, rfl⟩
set_option maxHeartbeats 2000000 in
theorem age_any {g mn : Nat} (h : At w r o q k c p l m bs) (hl : -1 ≤ l) (hg : (p : Int) - l = (g : Int)) (hg1 : 1 ≤ g) (hm : m = (mn : Int)) (hm8 : mn < 8) (hp : p ≤ 1000000000) :
    Calls Tryd.prog 30 #[.pointer (some ⟨r, o, none⟩)] w (AgePost w r o p (agN g mn)) := by
  have c1 := h.place
  have c2 := h.last
  have c3 := h.mask
  have f2 := h.free (o + 2)
  have f3 := h.free (o + 3)
  have e1 : IntKind.i64.wrap ((p : Int) - l) = (g : Int) := by rw [hg]; exact IntWalk.i64_in _ (by omega)
  subst hm
  by_cases h3 : g > 3
  · have ha : agN g mn = 0 := by unfold agN; rw [if_pos h3]
    have g1 : (g : Int) > 3 := by omega
    rw [ha]
    clear hg h h3 ha hg1 hl
    go_enter Tryd.func30, Tryd.ntmps30
    go_wp2_with fail
    go_quiet (fail)
    go_wp2_with fail
    first | go_end0 | refine bodyPost_ret (results_none rfl _ _ _) rfl ?_
    exact ⟨rfl, _, rfl⟩
  · have ha : agN g mn = mn * 2 ^ (g - 1) % 8 := by unfold agN; rw [if_neg h3]
    have g1 : ¬ (g : Int) > 3 := by omega
    rw [ha]
    have hgc : g = 1 ∨ g = 2 ∨ g = 3 := by omega
    clear hg h h3 ha hg1 hl
    rcases hgc with rfl | rfl | rfl
    all_goals
      go_enter Tryd.func30, Tryd.ntmps30
      go_wp2_with fail
      go_quiet (fail)
      go_wp2_with fail
      first | go_end0 | refine bodyPost_ret (results_none rfl _ _ _) rfl ?_
      refine ⟨rfl, nq, ?_⟩
      first | (rw [show ((mn * 2 ^ 0 % 8 : Nat) : Int) = (mn : Int) % 8 by omega]; rfl) | (rw [show ((mn * 2 ^ 1 % 8 : Nat) : Int) = (mn : Int) * 2 % 8 by omega]; rfl) | (rw [show ((mn * 2 ^ 2 % 8 : Nat) : Int) = (mn : Int) * 4 % 8 by omega]; rfl)
set_option maxHeartbeats 2000000 in
theorem bars_any {C a : Nat} {x : UInt8} {rr : List UInt8} (h : At w r o q k c p l (a : Int) (x :: rr)) (ha : a < 8) (hn : rr.length = 4) :
    Calls Tryd.prog 31 #[.pointer (some ⟨r, o, none⟩), .slice (some ⟨q, k, none⟩) 5 C] w fun e w' => e = .returned (.bool (baB a rr)) ∧ w = w' := by
  have c3 := h.mask
  have ca := h.tabs.al a ha
  have cb := h.tabs.bt a ha
  have a0 : (0 : Int) ≤ (a : Int) := by omega
  have a8 : (a : Int) < 8 := by omega
  by_cases h0 : a = 0
  · subst h0
    have e0 : (((0 : Nat) : Int) != 0) = false := by decide
    have hb : baB 0 rr = false := rfl
    rw [hb]
    clear h
    go_enter Tryd.func31, Tryd.ntmps31
    go_wp2_with fail
    go_ret
    exact ⟨rfl, rfl⟩
  · have e0 : ((a : Int) != 0) = true := by simp; omega
    by_cases hal : alB a = true
    · obtain ⟨t, ht⟩ : ∃ t, t = btN a := ⟨_, rfl⟩
      have hbt : 1 ≤ t ∧ t ≤ 3 := by rcases alB_cases hal h0 with rfl | rfl | rfl <;> (subst ht; decide)
      rw [hal] at ca
      rw [← ht] at cb
      obtain ⟨s, hs⟩ : ∃ s, s + t = 4 := ⟨4 - t, by omega⟩
      have cy := h.byte s (by rw [List.length_cons]; omega)
      have hb : baB a rr = egB ((x :: rr).getD s 0) := by
        unfold baB
        rw [hal, ← ht, show s = (3 - t) + 1 by omega, List.getD_cons_succ]
        simp [h0]
      rw [hb]
      generalize (x :: rr).getD s 0 = y at *
      have K := Lib.hid (fun w => edge_any y w)
      have e1 : wrap64 (4 - (t : Int)) = (s : Int) := by rw [IntWalk.wrap64_in _ (by omega)]; omega
      have s0 : (0 : Int) ≤ (s : Int) := by omega
      have s5 : (s : Int) < 5 := by omega
      clear h hal h0 hbt ht hs hb hn ha
      go_enter Tryd.func31, Tryd.ntmps31
      go_wp2_with fail
      refine (K.out _).mono ?_
      rintro e w1 ⟨rfl, rfl⟩
      go_wp2_with fail
      go_ret
      exact ⟨rfl, rfl⟩
    · have hal : alB a = false := by cases hx : alB a <;> simp_all
      have hb : baB a rr = true := by
        unfold baB
        rw [hal]
        simp [h0]
      rw [hal] at ca
      rw [hb]
      clear h hal h0 hb
      go_enter Tryd.func31, Tryd.ntmps31
      go_wp2_with fail
      go_ret
      exact ⟨rfl, rfl⟩
end
end Go.Proofs.YtcolnmjginpalaaDoor
