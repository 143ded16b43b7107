/-
  RdRef, RdLevel, RdBit, RdRf, RdFrs, RdBegin, AppTwo, OwnRow, LzMem, LzTree, LzRev, LzLen, LzLit, LzSlot: put together.
-/
import Derived.Test.YtiolfjhddbiglaaGreatDoorRows
import Derived.Test.YtiolfjhddbiglaaGreatDoorU01
import Derived.Tactics
import Derived.Tactics2
import Derived.Laws.Pointers
import Derived.RegionTactic
import Derived.RegionCalls
import Derived.BigQuiet
import Derived.Deep.RegionLaw
import Derived.Deep.AppendLies
import Derived.LoopTactic
import Derived.Test.YtiolfjhddbiglaaGreatDoorU02
import Derived.Test.YtiolfjhddbiglaaGreatDoorU03
import Derived.LoopN
import Derived.Lib.MinMax
set_option linter.unusedVariables false
set_option linter.unusedSimpArgs false
/-
  The reference's decoder: each call a contract.
-/
namespace Go.Proofs.YtiolfjhddbiglaaGreatDoor
open Go.RowKit

def decCells (A : Option Addr) (n c at_ r k : Nat) (b : Bool) : Array Value := #[.slice A n c, .int .i64 (at_ : Int), .int .u64 (r : Int), .int .u64 (k : Int), .bool b]

section
variable {g n c at_ r k : Nat} {A : Option Addr} {w : World} {bs : List UInt8} {bad : Bool}

set_option maxHeartbeats 1000000 in
theorem next_bad (hB : Blk w g 76 (decCells A n c at_ r k true)) :
    Calls Tryz.prog 48 #[.pointer (some ⟨g, 0, none⟩)] w fun e w' => e = .returned (.int .u64 0) ∧ Blk w' g 76 (decCells A n c at_ r k true) ∧ w.grownBy w' (some g) := by
  have h1 : w.cell? ⟨g, 1, none⟩ = some (.int .i64 (at_ : Int)) := hB.cell 1
  have h0 : w.cell? ⟨g, 0, none⟩ = some (.slice A n c) := hB.cell 0
  have h4 : w.cell? ⟨g, 4, none⟩ = some (.bool true) := hB.cell 4
  have f4 : w.frozen? ⟨g, 4, none⟩ = false := hB.free 4
  have HB := Lib.hid hB
  clear hB
  go_enter Tryz.func48, Tryz.ntmps48
  go_wp2_with fail
  go_quiet (fail)
  go_wp2_with fail
  go_ret
  exact ⟨rfl, HB.out.put 4 _, only_setCell (only_drewN (World.grownBy.refl w _) _) (.inl rfl) _⟩

set_option maxHeartbeats 1000000 in
theorem next_end (hB : Blk w g 76 (decCells A n c n r k false)) (hn : n ≤ 1000000000) :
    Calls Tryz.prog 48 #[.pointer (some ⟨g, 0, none⟩)] w fun e w' => e = .returned (.int .u64 0) ∧ Blk w' g 76 (decCells A n c n r k true) ∧ w.grownBy w' (some g) := by
  have h1 : w.cell? ⟨g, 1, none⟩ = some (.int .i64 (n : Int)) := hB.cell 1
  have h0 : w.cell? ⟨g, 0, none⟩ = some (.slice A n c) := hB.cell 0
  have h4 : w.cell? ⟨g, 4, none⟩ = some (.bool false) := hB.cell 4
  have f4 : w.frozen? ⟨g, 4, none⟩ = false := hB.free 4
  have HB := Lib.hid hB
  clear hB
  go_enter Tryz.func48, Tryz.ntmps48
  go_wp2_with fail
  go_quiet (fail)
  go_wp2_with fail
  go_ret
  exact ⟨rfl, HB.out.put 4 _, only_setCell (only_drewN (World.grownBy.refl w _) _) (.inl rfl) _⟩

set_option maxHeartbeats 1000000 in
theorem next_ok {b o : Nat} {x : UInt8} (hB : Blk w g 76 (decCells (some ⟨b, o, none⟩) n c at_ r k false)) (ha : at_ < n) (hn : n ≤ 1000000000) (hx : w.cell? ⟨b, o + at_, none⟩ = some (.int .u8 (x.toNat : Int))) (hne : b ≠ g) :
    Calls Tryz.prog 48 #[.pointer (some ⟨g, 0, none⟩)] w fun e w' => e = .returned (.int .u64 (x.toNat : Int)) ∧ Blk w' g 76 (decCells (some ⟨b, o, none⟩) n c (at_ + 1) r k false) ∧ w.grownBy w' (some g) := by
  have h1 : w.cell? ⟨g, 1, none⟩ = some (.int .i64 (at_ : Int)) := hB.cell 1
  have h0 : w.cell? ⟨g, 0, none⟩ = some (.slice (some ⟨b, o, none⟩) n c) := hB.cell 0
  have h4 : w.cell? ⟨g, 4, none⟩ = some (.bool false) := hB.cell 4
  have f1 : w.frozen? ⟨g, 1, none⟩ = false := hB.free 1
  have hlt : ¬ (at_ : Int) ≥ (n : Int) := by omega
  have hi0 : (0 : Int) ≤ (at_ : Int) := by omega
  have hi1 : (at_ : Int) < (n : Int) := by omega
  have e1 : IntKind.i64.wrap ((at_ : Int) + 1) = (at_ : Int) + 1 := IntWalk.i64_in _ (by omega)
  have e2 : IntKind.i64.wrap ((at_ : Int) + 1 - 1) = (at_ : Int) := by rw [show (at_ : Int) + 1 - 1 = at_ by omega]; exact IntWalk.i64_in _ (by omega)
  have hxl := x.toNat_lt
  have HB := Lib.hid hB
  clear hB
  go_enter Tryz.func48, Tryz.ntmps48
  go_wp2_with fail
  go_quiet (fail)
  go_wp2_with fail
  have hB2 : Blk ((w.drewN nq).setCell ⟨g, 1, none⟩ (.int .i64 ((at_ : Int) + 1))) g 76 (decCells (some ⟨b, o, none⟩) n c (at_ + 1) r k false) := by
    have := Blk.put (w := w.drewN nq) HB.out 1 (.int .i64 ((at_ : Int) + 1))
    rw [← show ((at_ + 1 : Nat) : Int) = (at_ : Int) + 1 by omega] at this ⊢
    exact this
  have hg2 : w.grownBy ((w.drewN nq).setCell ⟨g, 1, none⟩ (.int .i64 ((at_ : Int) + 1))) (some g) := only_setCell (only_drewN (World.grownBy.refl w _) _) (.inl rfl) _
  have hx2 : ((w.drewN nq).setCell ⟨g, 1, none⟩ (.int .i64 ((at_ : Int) + 1))).cell? ⟨b, o + at_, none⟩ = some (.int .u8 (x.toNat : Int)) := by
    rw [World.cell?_setCell_other _ _ _ _ (by first | (simp; done) | (simp; omega))]
    exact hx
  generalize (w.drewN nq).setCell ⟨g, 1, none⟩ (.int .i64 ((at_ : Int) + 1)) = w2 at hB2 hg2 hx2 ⊢
  have j0 : w2.cell? ⟨g, 0, none⟩ = some (.slice (some ⟨b, o, none⟩) n c) := hB2.cell 0
  have j1 : w2.cell? ⟨g, 1, none⟩ = some (.int .i64 ((at_ : Int) + 1)) := (hB2.cell 1).trans rfl
  have HB2 := Lib.hid hB2
  have HG2 := Lib.hid hg2
  clear hB2 hg2 h0 h1 h4 f1 hx HB
  go_quiet (fail)
  go_wp2_with fail
  go_ret
  exact ⟨rfl, HB2.out, only_drewN HG2.out _⟩
end

/-- Block g is a decoder of the reference over bs; what lies in the source's memory is apart from it. -/
def DecAt (w : World) (g : Nat) (lo : Nat → Prop) (bs : List UInt8) (d : Dc) : Prop :=
  ∃ A c at_ r k bad, Blk w g 76 (decCells A bs.length c at_ r k bad) ∧ Sl w A bs.length (bv bs) ∧ bs.length ≤ c ∧ c ≤ maxLen ∧ at_ ≤ bs.length ∧ (0 < bs.length → ∀ b o, A = some ⟨b, o, none⟩ → lo b ∧ b ≠ g) ∧
    r < 4294967296 ∧ k < 4294967296 ∧ ((bad = true ∧ d = none) ∨ (bad = false ∧ d = some (r, k, bs.drop at_)))

/-- A byte is asked for: the rest of the decoder stays. -/
theorem next_any {g c at_ r k : Nat} {A : Option Addr} {w : World} {bs : List UInt8} {bad : Bool} (hB : Blk w g 76 (decCells A bs.length c at_ r k bad)) (hS : Sl w A bs.length (bv bs)) (ha : at_ ≤ bs.length) (hn : bs.length ≤ 1000000000)
    (hne : 0 < bs.length → ∀ b o, A = some ⟨b, o, none⟩ → b ≠ g) :
    Calls Tryz.prog 48 #[.pointer (some ⟨g, 0, none⟩)] w fun e w' =>
      (∃ x t, bad = false ∧ bs.drop at_ = x :: t ∧ e = .returned (.int .u64 (x.toNat : Int)) ∧ Blk w' g 76 (decCells A bs.length c (at_ + 1) r k false) ∧ at_ + 1 ≤ bs.length ∧ bs.drop (at_ + 1) = t ∧ w.grownBy w' (some g)) ∨
      ((bad = true ∨ bs.drop at_ = []) ∧ e = .returned (.int .u64 0) ∧ Blk w' g 76 (decCells A bs.length c at_ r k true) ∧ w.grownBy w' (some g)) := by
  cases bad
  · by_cases hlt : at_ < bs.length
    · obtain ⟨b, o, rfl, hb, hc⟩ := hS.2 (by omega)
      have hd : bs.drop at_ = bs[at_] :: bs.drop (at_ + 1) := List.drop_eq_getElem_cons hlt
      refine (next_ok (x := bs[at_]) hB hlt hn ?_ (hne (by omega) b o rfl)).mono ?_
      · rw [hc at_ hlt, bv_get _ _ hlt]
        simp [List.getD, hlt]
      · rintro e w' ⟨rfl, h1, h2⟩
        exact .inl ⟨_, _, rfl, hd, rfl, h1, hlt, rfl, h2⟩
    · obtain rfl : at_ = bs.length := by omega
      refine (next_end hB hn).mono ?_
      rintro e w' ⟨rfl, h1, h2⟩
      exact .inr ⟨.inr (by simp), rfl, h1, h2⟩
  · refine (next_bad hB).mono ?_
    rintro e w' ⟨rfl, h1, h2⟩
    exact .inr ⟨.inl rfl, rfl, h1, h2⟩
end Go.Proofs.YtiolfjhddbiglaaGreatDoor

/-
  The reference's decoder is evened out.
-/
namespace Go.Proofs.YtiolfjhddbiglaaGreatDoor
open Go.RowKit

section
variable {g n c at_ r k : Nat} {A : Option Addr} {w : World} {bad : Bool}

set_option maxHeartbeats 1000000 in
theorem level_high (hB : Blk w g 76 (decCells A n c at_ r k bad)) (hr : ¬ r < 16777216) :
    Calls Tryz.prog 150 #[.pointer (some ⟨g, 0, none⟩)] w fun e w' => e = .returned (.tuple #[]) ∧ w = w' := by
  have h2 : w.cell? ⟨g, 2, none⟩ = some (.int .u64 (r : Int)) := hB.cell 2
  have hr' : ¬ (r : Int) < 16777216 := by omega
  clear hB
  go_enter Tryz.func150, Tryz.ntmps150
  go_wp2_with fail
  first | go_end0 | refine bodyPost_ret (results_none rfl _ _ _) rfl ?_
  exact ⟨rfl, rfl⟩

set_option maxHeartbeats 2000000 in
theorem level_low {x at' : Nat} {bad' : Bool} (hB : Blk w g 76 (decCells A n c at_ r k bad)) (hr : r < 16777216) (hk : k < 4294967296) (hx : x < 256)
    (K : ∀ W, w.grownBy W (some g) → Blk W g 76 (decCells A n c at_ (r * 256) k bad) → Calls Tryz.prog 48 #[.pointer (some ⟨g, 0, none⟩)] W fun e w' =>
      e = .returned (.int .u64 (x : Int)) ∧ Blk w' g 76 (decCells A n c at' (r * 256) k bad') ∧ W.grownBy w' (some g)) :
    Calls Tryz.prog 150 #[.pointer (some ⟨g, 0, none⟩)] w fun e w' =>
      e = .returned (.tuple #[]) ∧ Blk w' g 76 (decCells A n c at' (r * 256) ((k * 256 + x) % 4294967296) bad') ∧ w.grownBy w' (some g) := by
  have h2 : w.cell? ⟨g, 2, none⟩ = some (.int .u64 (r : Int)) := hB.cell 2
  have f2 : w.frozen? ⟨g, 2, none⟩ = false := hB.free 2
  have hr' : (r : Int) < 16777216 := by omega
  have e1 : IntKind.u64.wrap ((r : Int) * 256) = (r : Int) * 256 := by rw [show (r : Int) * 256 = ((r * 256 : Nat) : Int) by omega]; exact u64_in _ (by omega)
  have e2 : IntKind.u64.wrap ((k : Int) * 256) = (k : Int) * 256 := by rw [show (k : Int) * 256 = ((k * 256 : Nat) : Int) by omega]; exact u64_in _ (by omega)
  have e3 : IntKind.u64.wrap ((k : Int) * 256 + (x : Int)) = (k : Int) * 256 + (x : Int) := by rw [show (k : Int) * 256 + (x : Int) = ((k * 256 + x : Nat) : Int) by omega]; exact u64_in _ (by omega)
  have HB := Lib.hid hB
  have HK := Lib.hid K
  clear hB K
  go_enter Tryz.func150, Tryz.ntmps150
  go_wp2_with fail
  have hB2 : Blk (w.setCell ⟨g, 2, none⟩ (.int .u64 ((r : Int) * 256))).drew g 76 (decCells A n c at_ (r * 256) k bad) := by
    have := HB.out.put 2 (.int .u64 ((r : Int) * 256))
    rw [← show ((r * 256 : Nat) : Int) = (r : Int) * 256 by omega] at this ⊢
    exact this
  have hg2 : w.grownBy (w.setCell ⟨g, 2, none⟩ (.int .u64 ((r : Int) * 256))).drew (some g) := only_drewN (only_setCell (World.grownBy.refl w _) (.inl rfl) _) 1
  have j3 : (w.setCell ⟨g, 2, none⟩ (.int .u64 ((r : Int) * 256))).cell? ⟨g, 3, none⟩ = some (.int .u64 (k : Int)) := hB2.cell 3
  have HK2 := Lib.hid (HK.out _ hg2 hB2)
  have HG2 := Lib.hid hg2
  clear hB2 hg2 HK HB h2 f2
  generalize w.setCell ⟨g, 2, none⟩ (.int .u64 ((r : Int) * 256)) = w2 at *
  go_region_law (first | (go_simp; go_at_call 48; refine HK2.out.mono ?_; rintro e w3 ⟨rfl, hB3, hg3⟩; have k3 : w3.cell? ⟨g, 3, none⟩ = some (.int .u64 (k : Int)) := hB3.cell 3; have z3 : w3.frozen? ⟨g, 3, none⟩ = false := hB3.free 3; have HB3 := Lib.hid hB3; have HG3 := Lib.hid hg3; clear hB3 hg3))
  all_goals
    try go_wp2_with fail
    first | go_end0 | refine bodyPost_ret (results_none rfl _ _ _) rfl ?_
    have em : ((k : Int) * 256 + (x : Int)).tmod 4294967296 = (((k * 256 + x) % 4294967296 : Nat) : Int) := by
      rw [show (k : Int) * 256 + (x : Int) = ((k * 256 + x : Nat) : Int) by omega, Int.tmod_eq_emod_of_nonneg (by omega)]
      omega
    rw [em]
    exact ⟨rfl, HB3.out.put 3 _, only_setCell (only_trans HG2.out HG3.out) (.inl rfl) _⟩
end

/-- A decoder's cells are those of a state d. -/
def Tells (bs : List UInt8) (d : Dc) (at_ r k : Nat) (bad : Bool) : Prop :=
  at_ ≤ bs.length ∧ r < 4294967296 ∧ k < 4294967296 ∧ ((bad = true ∧ d = none) ∨ (bad = false ∧ d = some (r, k, bs.drop at_)))

theorem level_any {g c at_ r k : Nat} {A : Option Addr} {w : World} {bs : List UInt8} {bad : Bool} (hB : Blk w g 76 (decCells A bs.length c at_ r k bad)) (hS : Sl w A bs.length (bv bs)) (ha : at_ ≤ bs.length) (hn : bs.length ≤ 1000000000)
    (hne : 0 < bs.length → ∀ b o, A = some ⟨b, o, none⟩ → b ≠ g) (hr : r < 4294967296) (hk : k < 4294967296) (hkr : bad = false → k < r) :
    Calls Tryz.prog 150 #[.pointer (some ⟨g, 0, none⟩)] w fun e w' =>
      e = .returned (.tuple #[]) ∧ ∃ at' r' k' bad', Blk w' g 76 (decCells A bs.length c at' r' k' bad') ∧ Tells bs (if bad = true then none else lvl r k (bs.drop at_)) at' r' k' bad' ∧ w.grownBy w' (some g) := by
  by_cases hlow : r < 16777216
  · cases bad
    · by_cases hlt : at_ < bs.length
      · have hd : bs.drop at_ = bs[at_] :: bs.drop (at_ + 1) := List.drop_eq_getElem_cons hlt
        have hx := (bs[at_]).toNat_lt
        have hkr' := hkr rfl
        refine (level_low (x := (bs[at_]).toNat) (at' := at_ + 1) (bad' := false) hB hlow hk (by omega) ?_).mono ?_
        · intro W hg hW
          obtain ⟨b, o, rfl, hb, hc⟩ := (hS.grown hg hne).2 (by omega)
          refine next_ok (x := bs[at_]) hW hlt hn ?_ (hne (by omega) b o rfl)
          rw [hc at_ hlt, bv_get _ _ hlt]
          simp [List.getD, hlt]
        · rintro e w' ⟨rfl, h1, h2⟩
          refine ⟨rfl, _, _, _, _, h1, ⟨hlt, by omega, by omega, .inr ⟨rfl, ?_⟩⟩, h2⟩
          rw [if_neg (by simp), hd]
          unfold lvl
          rw [if_pos hlow]
          show some _ = some _
          rw [Nat.mod_eq_of_lt (by omega)]
      · obtain rfl : at_ = bs.length := by omega
        refine (level_low (x := 0) (at' := bs.length) (bad' := true) hB hlow hk (by omega) (fun W _ hW => next_end hW hn)).mono ?_
        rintro e w' ⟨rfl, h1, h2⟩
        refine ⟨rfl, _, _, _, _, h1, ⟨Nat.le_refl _, by omega, by omega, .inl ⟨rfl, ?_⟩⟩, h2⟩
        rw [if_neg (by simp), List.drop_length]
        unfold lvl
        rw [if_pos hlow]
    · refine (level_low (x := 0) (at' := at_) (bad' := true) hB hlow hk (by omega) (fun W _ hW => next_bad hW)).mono ?_
      rintro e w' ⟨rfl, h1, h2⟩
      exact ⟨rfl, _, _, _, _, h1, ⟨ha, by omega, by omega, .inl ⟨rfl, if_pos rfl⟩⟩, h2⟩
  · refine (level_high hB hlow).mono ?_
    rintro e w' ⟨rfl, rfl⟩
    refine ⟨rfl, at_, r, k, bad, hB, ⟨ha, hr, hk, ?_⟩, World.grownBy.refl w _⟩
    cases bad
    · right
      refine ⟨rfl, ?_⟩
      rw [if_neg (by simp)]
      unfold lvl
      rw [if_neg hlow]
    · exact .inl ⟨rfl, if_pos rfl⟩
end Go.Proofs.YtiolfjhddbiglaaGreatDoor

/-
  The reference's decoder tells a bit.
-/
namespace Go.Proofs.YtiolfjhddbiglaaGreatDoor
open Go.RowKit

section
variable {g c at_ r k p : Nat} {A : Option Addr} {w : World} {bs : List UInt8}

set_option maxHeartbeats 1000000 in
theorem rbit_bad {n : Nat} (hB : Blk w g 76 (decCells A n c at_ r k true)) :
    Calls Tryz.prog 112 #[.pointer (some ⟨g, 0, none⟩), .int .u16 (p : Int)] w fun e w' => e = .returned (.tuple #[.int .i64 0, .int .u16 (p : Int)]) ∧ w = w' := by
  have h4 : w.cell? ⟨g, 4, none⟩ = some (.bool true) := hB.cell 4
  clear hB
  go_enter Tryz.func112, Tryz.ntmps112
  go_wp2_with fail
  go_ret2
  exact ⟨rfl, rfl⟩

theorem wrap_u16 (x : Int) (h : 0 ≤ x ∧ x < 65536) : IntKind.u16.wrap x = x := by
  simp [IntKind.wrap, IntKind.bits, IntKind.signed]
  omega

set_option maxHeartbeats 2000000 in
theorem rbit_zero {z : Nat} (hz : z = r / 2048 * p) (hB : Blk w g 76 (decCells A bs.length c at_ r k false)) (hS : Sl w A bs.length (bv bs)) (ha : at_ ≤ bs.length) (hn : bs.length ≤ 1000000000)
    (hne : 0 < bs.length → ∀ b o, A = some ⟨b, o, none⟩ → b ≠ g) (hr0 : 16777216 ≤ r) (hr : r < 4294967296) (hp : POk p) (hlt : k < z) :
    Calls Tryz.prog 112 #[.pointer (some ⟨g, 0, none⟩), .int .u16 (p : Int)] w fun e w' => e = .returned (.tuple #[.int .i64 0, .int .u16 (up0 p : Int)]) ∧
      ∃ at' r' k' bad', Blk w' g 76 (decCells A bs.length c at' r' k' bad') ∧ Tells bs (lvl z k (bs.drop at_)) at' r' k' bad' ∧ w.grownBy w' (some g) := by
  obtain ⟨b0, b1⟩ := bound_in hr0 hr hp
  rw [← hz] at b0 b1
  obtain ⟨p0, p1⟩ := hp
  have h2 : w.cell? ⟨g, 2, none⟩ = some (.int .u64 (r : Int)) := hB.cell 2
  have h3 : w.cell? ⟨g, 3, none⟩ = some (.int .u64 (k : Int)) := hB.cell 3
  have h4 : w.cell? ⟨g, 4, none⟩ = some (.bool false) := hB.cell 4
  have f2 : w.frozen? ⟨g, 2, none⟩ = false := hB.free 2
  have e1 : IntKind.u64.wrap ((r : Int) / 2048 * (p : Int)) = (z : Int) := by
    rw [show (r : Int) / 2048 * (p : Int) = (z : Int) by rw [hz]; simp]
    exact u64_in _ (by omega)
  have hlt' : (k : Int) < (z : Int) := by omega
  clear hz
  have e2 : IntKind.u16.wrap (2048 - (p : Int)) = 2048 - (p : Int) := wrap_u16 _ (by omega)
  obtain ⟨u, hu⟩ : ∃ u, u = (2048 - p) / 32 := ⟨_, rfl⟩
  have e3 : IntKind.u16.wrap ((2048 - (p : Int)).tdiv 32) = (u : Int) := by
    rw [Int.tdiv_eq_ediv_of_nonneg (by omega), show (2048 - (p : Int)) / 32 = (u : Int) by omega]
    exact wrap_u16 _ (by omega)
  have e5 : IntKind.u16.wrap ((p : Int) + (u : Int)) = (p : Int) + (u : Int) := wrap_u16 _ (by omega)
  have HUP := Lib.hid (show ((up0 p : Nat) : Int) = (p : Int) + (u : Int) by unfold up0; omega)
  clear hu
  have hg1 : w.grownBy (w.setCell ⟨g, 2, none⟩ (.int .u64 (z : Int))) (some g) := only_setCell (World.grownBy.refl w _) (.inl rfl) _
  have K := Lib.hid (level_any (hB.put 2 (.int .u64 (z : Int)) : Blk _ g 76 (decCells A bs.length c at_ z k false)) (hS.grown hg1 hne) ha hn hne (by omega) (by omega) (fun _ => hlt))
  have HG1 := Lib.hid hg1
  clear hB hS hne hg1
  go_enter Tryz.func112, Tryz.ntmps112
  go_wp2_with fail
  refine K.out.mono ?_
  rintro e w1 ⟨rfl, at', r', k', bad', hB1, ht, hg⟩
  have HB1 := Lib.hid hB1
  have HT := Lib.hid ht
  have HG := Lib.hid hg
  clear hB1 ht hg
  go_wp2_with fail
  go_ret2
  refine ⟨?_, at', r', k', bad', HB1.out, ?_, only_trans HG1.out HG.out⟩
  · rw [HUP.out]
    rfl
  · have := HT.out
    rwa [if_neg (by simp)] at this

/-- What a bit leaves: behind a definition, so that no walk looks into it. -/
def BitPost (w : World) (g c : Nat) (A : Option Addr) (bs : List UInt8) (b q : Nat) (d : Dc) (e : Ending) (w' : World) : Prop :=
  e = .returned (.tuple #[.int .i64 (b : Int), .int .u16 (q : Int)]) ∧ ∃ at' r' k' bad', Blk w' g 76 (decCells A bs.length c at' r' k' bad') ∧ Tells bs d at' r' k' bad' ∧ w.grownBy w' (some g)

set_option maxHeartbeats 2000000 in
theorem rbit_one {z b : Nat} {d1 : Dc} (hd1 : lvl (r - z) (k - z) (bs.drop at_) = d1) (hb1 : b = if d1 = none then 0 else 1) (hz : z = r / 2048 * p) (hB : Blk w g 76 (decCells A bs.length c at_ r k false)) (hS : Sl w A bs.length (bv bs)) (ha : at_ ≤ bs.length) (hn : bs.length ≤ 1000000000)
    (hne : 0 < bs.length → ∀ b o, A = some ⟨b, o, none⟩ → b ≠ g) (hr0 : 16777216 ≤ r) (hr : r < 4294967296) (hk : k < r) (hp : POk p) (hlt : ¬ k < z) :
    Calls Tryz.prog 112 #[.pointer (some ⟨g, 0, none⟩), .int .u16 (p : Int)] w (BitPost w g c A bs b (up1 p) d1) := by
  obtain ⟨b0, b1⟩ := bound_in hr0 hr hp
  rw [← hz] at b0 b1
  obtain ⟨p0, p1⟩ := hp
  have h2 : w.cell? ⟨g, 2, none⟩ = some (.int .u64 (r : Int)) := hB.cell 2
  have h3 : w.cell? ⟨g, 3, none⟩ = some (.int .u64 (k : Int)) := hB.cell 3
  have h4 : w.cell? ⟨g, 4, none⟩ = some (.bool false) := hB.cell 4
  have f2 : w.frozen? ⟨g, 2, none⟩ = false := hB.free 2
  have f3 : w.frozen? ⟨g, 3, none⟩ = false := hB.free 3
  have e1 : IntKind.u64.wrap ((r : Int) / 2048 * (p : Int)) = (z : Int) := by
    rw [show (r : Int) / 2048 * (p : Int) = (z : Int) by rw [hz]; simp]
    exact u64_in _ (by omega)
  have hlt' : ¬ (k : Int) < (z : Int) := by omega
  clear hz
  have e2 : IntKind.u64.wrap ((k : Int) - (z : Int)) = ((k - z : Nat) : Int) := by rw [show (k : Int) - (z : Int) = ((k - z : Nat) : Int) by omega]; exact u64_in _ (by omega)
  have e3 : IntKind.u64.wrap ((r : Int) - (z : Int)) = ((r - z : Nat) : Int) := by rw [show (r : Int) - (z : Int) = ((r - z : Nat) : Int) by omega]; exact u64_in _ (by omega)
  have e4 : IntKind.u16.wrap ((p : Int) - (p : Int) / 32) = (p : Int) - (p : Int) / 32 := wrap_u16 _ (by omega)
  have hg1 : w.grownBy ((w.setCell ⟨g, 3, none⟩ (.int .u64 ((k - z : Nat) : Int))).setCell ⟨g, 2, none⟩ (.int .u64 ((r - z : Nat) : Int))) (some g) := only_setCell (g := g) (p := ⟨g, 2, none⟩) (only_setCell (g := g) (p := ⟨g, 3, none⟩) (World.grownBy.refl w _) (.inl rfl) _) (.inl rfl) _
  have K := Lib.hid (level_any ((hB.put 3 (.int .u64 ((k - z : Nat) : Int))).put 2 (.int .u64 ((r - z : Nat) : Int)) : Blk _ g 76 (decCells A bs.length c at_ (r - z) (k - z) false)) (hS.grown hg1 hne) ha hn hne (by omega) (by omega) (fun _ => by omega))
  have HG1 := Lib.hid hg1
  have HUP := Lib.hid (show ((up1 p : Nat) : Int) = (p : Int) - (p : Int) / 32 by unfold up1; omega)
  have HB1 := Lib.hid hb1
  clear hB hS hne hg1 hb1
  generalize r - z = r1 at *
  generalize k - z = k1 at *
  have HD1 := Lib.hid hd1
  clear hd1
  go_enter Tryz.func112, Tryz.ntmps112
  go_wp2_with fail
  refine K.out.mono ?_
  rintro e w1 ⟨rfl, at', r', k', bad', hB1, ht, hg⟩
  rw [if_neg (by simp), HD1.out] at ht
  have j4 : w1.cell? ⟨g, 4, none⟩ = some (.bool bad') := hB1.cell 4
  have HBK := Lib.hid hB1
  have HT := Lib.hid ht
  have HG := Lib.hid hg
  clear hB1 ht hg
  cases bad'
  · go_wp2_with fail
    go_ret2
    refine ⟨?_, at', r', k', false, HBK.out, HT.out, only_trans HG1.out HG.out⟩
    have hn : ¬ d1 = none := by
      rcases HT.out.2.2.2 with ⟨h, _⟩ | ⟨_, h⟩
      · cases h
      · rw [h]; simp
    rw [HUP.out, HB1.out, if_neg hn]
    rfl
  · go_wp2_with fail
    go_ret2
    refine ⟨?_, at', r', k', true, HBK.out, HT.out, only_trans HG1.out HG.out⟩
    have hn : d1 = none := by
      rcases HT.out.2.2.2 with ⟨_, h⟩ | ⟨h, _⟩
      · exact h
      · cases h
    rw [HUP.out, HB1.out, if_pos hn]
    rfl

/-- A bit, as the model tells it. -/
theorem rbit_any {d : Dc} {bad : Bool} (hB : Blk w g 76 (decCells A bs.length c at_ r k bad)) (ht : Tells bs d at_ r k bad) (hS : Sl w A bs.length (bv bs)) (hn : bs.length ≤ 1000000000)
    (hne : 0 < bs.length → ∀ b o, A = some ⟨b, o, none⟩ → b ≠ g) (hd : DcOk d) (hp : POk p) :
    Calls Tryz.prog 112 #[.pointer (some ⟨g, 0, none⟩), .int .u16 (p : Int)] w fun e w' => e = .returned (.tuple #[.int .i64 ((bitD d p).1 : Int), .int .u16 ((bitD d p).2.1 : Int)]) ∧
      ∃ at' r' k' bad', Blk w' g 76 (decCells A bs.length c at' r' k' bad') ∧ Tells bs (bitD d p).2.2 at' r' k' bad' ∧ w.grownBy w' (some g) := by
  obtain ⟨ha, hr, hk, hc⟩ := ht
  rcases hc with ⟨rfl, rfl⟩ | ⟨rfl, rfl⟩
  · refine (rbit_bad hB).mono ?_
    rintro e w' ⟨rfl, rfl⟩
    exact ⟨rfl, at_, r, k, true, hB, ⟨ha, hr, hk, .inl ⟨rfl, rfl⟩⟩, World.grownBy.refl w _⟩
  · obtain ⟨h0, h1, h2⟩ := hd _ _ _ rfl
    unfold bitD
    simp only []
    by_cases hlt : k < r / 2048 * p
    · rw [if_pos hlt]
      exact rbit_zero rfl hB hS ha hn hne h0 hr hp hlt
    · rw [if_neg hlt]
      refine (rbit_one rfl rfl rfl hB hS ha hn hne h0 hr h2 hp hlt).mono ?_
      rintro e w' ⟨rfl, at', r', k', bad', h3, h4, h5⟩
      cases hl : lvl (r - r / 2048 * p) (k - r / 2048 * p) (bs.drop at_) with
      | none =>
        rw [hl] at h4
        exact ⟨rfl, at', r', k', bad', h3, h4, h5⟩
      | some t =>
        rw [hl] at h4
        exact ⟨rfl, at', r', k', bad', h3, h4, h5⟩
end
end Go.Proofs.YtiolfjhddbiglaaGreatDoor

/-
  The reference's decoder, its state alone: a bit, and bits straight.
-/
namespace Go.Proofs.YtiolfjhddbiglaaGreatDoor
open Go.RowKit

theorem u32_fit (x : Int) (h0 : 0 ≤ x) (h : x < 4294967296) : IntKind.u32.wrap x = x := by
  simp [IntKind.wrap, IntKind.bits, IntKind.signed]; omega

/-- Block g is the reference's decoder; its state is d. -/
def Rf (w : World) (g : Nat) (A : Option Addr) (c : Nat) (bs : List UInt8) (d : Dc) : Prop :=
  ∃ at_ r k bad, Blk w g 76 (decCells A bs.length c at_ r k bad) ∧ Tells bs d at_ r k bad
theorem Rf.lt {w : World} {g c : Nat} {A : Option Addr} {bs : List UInt8} {d : Dc} (h : Rf w g A c bs d) : g < w.heap.size := by
  obtain ⟨_, _, _, _, hB, _⟩ := h
  exact hB.lt
theorem Rf.only {S : Nat → Prop} {w w' : World} {g c : Nat} {A : Option Addr} {bs : List UInt8} {d : Dc} (h : Rf w g A c bs d) (hb : Only S w w') (hS : ¬ S g) : Rf w' g A c bs d := by
  obtain ⟨at_, r, k, bad, hB, ht⟩ := h
  exact ⟨at_, r, k, bad, hB.only hb hS, ht⟩

/-- What a number told straight leaves. -/
def RnPost (w : World) (g c : Nat) (A : Option Addr) (bs : List UInt8) (v : Nat) (d : Dc) (e : Ending) (w' : World) : Prop :=
  e = .returned (.int .u32 (v : Int)) ∧ Rf w' g A c bs d ∧ w.grownBy w' (some g)

/-- Bit, as a tree uses it. -/
theorem rfbit_any {w : World} {g c p : Nat} {A : Option Addr} {bs : List UInt8} {d : Dc} (h : Rf w g A c bs d) (hS : Sl w A bs.length (bv bs)) (hn : bs.length ≤ 1000000000) (hA : 0 < bs.length → ∀ q o, A = some ⟨q, o, none⟩ → q ≠ g) (hd : DcOk d) (hp : POk p) :
    Calls Tryz.prog 112 #[.pointer (some ⟨g, 0, none⟩), .int .u16 (p : Int)] w fun e w' => e = .returned (.tuple #[.int .i64 ((bitD d p).1 : Int), .int .u16 ((bitD d p).2.1 : Int)]) ∧ Rf w' g A c bs (bitD d p).2.2 ∧ w.grownBy w' (some g) := by
  obtain ⟨at_, r, k, bad, hB, ht⟩ := h
  refine (rbit_any hB ht hS hn hA hd hp).mono ?_
  rintro e w' ⟨rfl, at', r', k', bad', h1, h2, h3⟩
  exact ⟨rfl, ⟨at', r', k', bad', h1, h2⟩, h3⟩

section
variable {g c : Nat} {A : Option Addr} {w : World} {bs : List UInt8}

theorem straightGo_stays {d : Dc} : ∀ {j n : Nat}, j ≤ n → (straightGo d j).2 = none → (straightGo d n).2 = none := by
  intro j n hjn h
  induction n with
  | zero => rw [show j = 0 by omega] at h; exact h
  | succ n ih =>
    rcases Nat.lt_or_ge j (n + 1) with hlt | hge
    · show (oneD (straightGo d n).2).2 = none
      rw [ih (by omega)]
      rfl
    · rw [show j = n + 1 by omega] at h; exact h

set_option maxHeartbeats 8000000 in
theorem rstraight_any {d : Dc} {n : Nat} (h : Rf w g A c bs d) (hS : Sl w A bs.length (bv bs)) (hnb : bs.length ≤ 1000000000) (hA : 0 < bs.length → ∀ q o, A = some ⟨q, o, none⟩ → q ≠ g) (hd : DcOk d) (hn : n ≤ 32) :
    Calls Tryz.prog 114 #[.pointer (some ⟨g, 0, none⟩), .int .i64 (n : Int)] w (RnPost w g c A bs (straightD n d).1 (straightD n d).2) := by
  have HP := Lib.hid h
  have HA := Lib.hid hA
  have HS := Lib.hid hS
  have HD := Lib.hid hd
  clear h hA hS hd
  go_enter Tryz.func114, Tryz.ntmps114
  go_wp2_with fail
  go_loopw [5, 6] (fun out i wr => ∃ (j x : Nat), j ≤ n ∧ i = .int .i64 (j : Int) ∧ out = .int .u32 (x : Int) ∧ x < 2 ^ j ∧ ((straightGo d j).2 ≠ none → x = (straightGo d j).1) ∧ Rf wr g A c bs (straightGo d j).2 ∧ w.grownBy wr (some g)) (fun _ i _ => n - (intOf i).toNat)
  case atStart => exact ⟨0, 0, Nat.zero_le _, rfl, rfl, by decide, fun _ => rfl, HP.out, World.grownBy.refl w _⟩
  case round =>
    clear HP
    obtain ⟨j, x, hj, rfl, rfl, hx, hv, ⟨at_, r, k, bad, hB, ht⟩, hg⟩ := hrel
    have HV := Lib.hid hv
    have HG := Lib.hid hg
    have hs := HS.out.grown hg HA.out
    have j4 : wr.cell? ⟨g, 4, none⟩ = some (.bool bad) := hB.cell 4
    clear hv hg
    by_cases hgo : j < n ∧ bad = false
    · obtain ⟨hlt, rfl⟩ := hgo
      have hdd : (straightGo d j).2 = some (r, k, bs.drop at_) := by
        rcases ht.2.2.2 with ⟨h, _⟩ | ⟨_, h⟩
        · cases h
        · exact h
      obtain ⟨d0, d1, d2⟩ := (straightGo_ok HD.out j).1 _ _ _ hdd
      have hat := ht.1
      have HDD := Lib.hid hdd
      have hx31 : x < 2147483648 := Nat.lt_of_lt_of_le hx (Nat.pow_le_pow_right (n := 2) (by omega) (show j ≤ 31 by omega))
      have hx2 : 2 * x + 1 < 2 ^ (j + 1) := by rw [Nat.pow_succ]; omega
      have HX2 := Lib.hid hx2
      have e1 : IntKind.u32.wrap ((x : Int) * 2) = (x : Int) * 2 := u32_fit _ (by omega) (by omega)
      have e3 : IntKind.u32.wrap ((x : Int) * 2 + 1) = ((2 * x + 1 : Nat) : Int) := by rw [show (x : Int) * 2 + 1 = ((2 * x + 1 : Nat) : Int) by omega]; exact u32_fit _ (by omega) (by omega)
      have hlt' : (j : Int) < (n : Int) := by omega
      have j2 : wr.cell? ⟨g, 2, none⟩ = some (.int .u64 (r : Int)) := hB.cell 2
      have j3 : wr.cell? ⟨g, 3, none⟩ = some (.int .u64 (k : Int)) := hB.cell 3
      have f2 : wr.frozen? ⟨g, 2, none⟩ = false := hB.free 2
      have f3 : wr.frozen? ⟨g, 3, none⟩ = false := hB.free 3
      have f4 : wr.frozen? ⟨g, 4, none⟩ = false := hB.free 4
      have hr2 : (r : Int) / 2 = ((r / 2 : Nat) : Int) := by omega
      have hle : r / 2 ≤ r := Nat.div_le_self _ _
      have hge : 8388608 ≤ r / 2 := by omega
      have hone : oneD (some (r, k, bs.drop at_)) = if k < r / 2 then (0, lvl (r / 2) k (bs.drop at_)) else if k - r / 2 < r / 2 then (1, lvl (r / 2) (k - r / 2) (bs.drop at_)) else (0, none) := rfl
      have HONE := Lib.hid hone
      have hch : k - r / 2 ≤ r / 2 := by omega
      have HBr := Lib.hid hB
      have HSr := Lib.hid hs
      clear hx hx2 ht hdd hone hB hs
      generalize r / 2 = h at *
      by_cases hc : k < h
      · have hc' : ¬ (k : Int) ≥ (h : Int) := by omega
        have K := Lib.hid (fun q => level_any (((HBr.out.put 2 (.int .u64 (h : Int))).drewN q : Blk _ g 76 (decCells A bs.length c at_ h k false))) (HSr.out.grown (only_drewN (only_setCell (World.grownBy.refl wr _) (p := ⟨g, 2, none⟩) (.inl rfl) _) q) HA.out) hat hnb HA.out (by omega) (by omega) (fun _ => hc))
        have HG1 := Lib.hid (fun q => only_drewN (only_setCell (World.grownBy.refl wr (some g)) (p := ⟨g, 2, none⟩) (.inl rfl) (.int .u64 (h : Int))) q)
        go_wp2_with fail
        go_quiet (fail)
        go_wp2_with fail
        go_quiet (fail)
        go_wp2_with fail
        refine (K.out _).mono ?_
        rintro e w1 ⟨rfl, at', r', k', bad', hB1, ht1, hg1⟩
        have HB1 := Lib.hid hB1
        have HT1 := Lib.hid ht1
        have HG2 := Lib.hid (only_trans HG.out (only_trans (HG1.out _) hg1))
        clear hB1 ht1 hg1 K HG1
        go_wp2_with fail
        go_roundw
        case rel =>
          have hgo2 : straightGo d (j + 1) = (2 * (straightGo d j).1 + 0, lvl h k (bs.drop at_)) := by
            show (2 * (straightGo d j).1 + (oneD (straightGo d j).2).1, (oneD (straightGo d j).2).2) = _
            rw [HDD.out, HONE.out, if_pos hc]
          refine ⟨j + 1, 2 * x, by omega, by go_num, by go_num, by have := HX2.out; omega, fun _ => ?_, ⟨at', r', k', bad', HB1.out, ?_⟩, HG2.out⟩
          · rw [hgo2]
            have := HV.out (by rw [HDD.out]; simp)
            omega
          · rw [hgo2]
            have := HT1.out
            rwa [if_neg (by simp)] at this
        case measure => simp [intOf]; omega
      · have hc' : (k : Int) ≥ (h : Int) := by omega
        have e2 : IntKind.u64.wrap ((k : Int) - (h : Int)) = ((k - h : Nat) : Int) := by rw [show (k : Int) - (h : Int) = ((k - h : Nat) : Int) by omega]; exact u64_in _ (by omega)
        have hck : ∀ y, k - h = y → ((k : Int) - (h : Int)) = (y : Int) := fun y hy => by omega
        by_cases hc2 : k - h < h
        · have hc2' : ¬ ((k - h : Nat) : Int) ≥ (h : Int) := by omega
          have K := Lib.hid (fun q1 q2 => level_any (((((HBr.out.put 2 (.int .u64 (h : Int))).drewN q1).put 3 (.int .u64 ((k - h : Nat) : Int))).drewN q2 : Blk _ g 76 (decCells A bs.length c at_ h (k - h) false))) (HSr.out.grown (only_drewN (only_setCell (only_drewN (only_setCell (World.grownBy.refl wr _) (p := ⟨g, 2, none⟩) (.inl rfl) _) q1) (p := ⟨g, 3, none⟩) (.inl rfl) _) q2) HA.out) hat hnb HA.out (by omega) (by omega) (fun _ => hc2))
          have HG1 := Lib.hid (fun q1 q2 => only_drewN (only_setCell (only_drewN (only_setCell (World.grownBy.refl wr (some g)) (p := ⟨g, 2, none⟩) (.inl rfl) (.int .u64 (h : Int))) q1) (p := ⟨g, 3, none⟩) (.inl rfl) (.int .u64 ((k - h : Nat) : Int))) q2)
          have HC2 := Lib.hid hc2
          clear hc2 hck hch
          generalize k - h = kh at *
          go_wp2_with fail
          go_quiet (fail)
          go_wp2_with fail
          go_region
          all_goals go_wp2_with fail
          go_quiet (fail)
          go_wp2_with fail
          refine (K.out _ _).mono ?_
          rintro e w1 ⟨rfl, at', r', k', bad', hB1, ht1, hg1⟩
          have HB1 := Lib.hid hB1
          have HT1 := Lib.hid ht1
          have HG2 := Lib.hid (only_trans HG.out (only_trans (HG1.out _ _) hg1))
          clear hB1 ht1 hg1 K HG1
          go_wp2_with fail
          go_roundw
          case rel =>
            have hgo2 : straightGo d (j + 1) = (2 * (straightGo d j).1 + 1, lvl h kh (bs.drop at_)) := by
              show (2 * (straightGo d j).1 + (oneD (straightGo d j).2).1, (oneD (straightGo d j).2).2) = _
              rw [HDD.out, HONE.out, if_neg hc, if_pos HC2.out]
            refine ⟨j + 1, 2 * x + 1, by omega, by go_num, by go_num, by have := HX2.out; omega, fun _ => ?_, ⟨at', r', k', bad', HB1.out, ?_⟩, HG2.out⟩
            · rw [hgo2]
              have := HV.out (by rw [HDD.out]; simp)
              omega
            · rw [hgo2]
              have := HT1.out
              rwa [if_neg (by simp)] at this
          case measure => simp [intOf]; omega
        · have hc2' : ((k - h : Nat) : Int) ≥ (h : Int) := by omega
          have K := Lib.hid (fun q1 q2 => level_any ((((((HBr.out.put 2 (.int .u64 (h : Int))).drewN q1).put 3 (.int .u64 ((k - h : Nat) : Int))).drewN q2).put 4 (.bool true) : Blk _ g 76 (decCells A bs.length c at_ h (k - h) true))) (HSr.out.grown (only_setCell (only_drewN (only_setCell (only_drewN (only_setCell (World.grownBy.refl wr _) (p := ⟨g, 2, none⟩) (.inl rfl) _) q1) (p := ⟨g, 3, none⟩) (.inl rfl) _) q2) (p := ⟨g, 4, none⟩) (.inl rfl) _) HA.out) hat hnb HA.out (by omega) (by omega) (fun h => by cases h))
          have HG1 := Lib.hid (fun q1 q2 => only_setCell (only_drewN (only_setCell (only_drewN (only_setCell (World.grownBy.refl wr (some g)) (p := ⟨g, 2, none⟩) (.inl rfl) (.int .u64 (h : Int))) q1) (p := ⟨g, 3, none⟩) (.inl rfl) (.int .u64 ((k - h : Nat) : Int))) q2) (p := ⟨g, 4, none⟩) (.inl rfl) (.bool true))
          have HC2 := Lib.hid hc2
          clear hc2 hck hch
          generalize k - h = kh at *
          go_wp2_with fail
          go_quiet (fail)
          go_wp2_with fail
          go_region
          all_goals go_wp2_with fail
          go_quiet (fail)
          go_wp2_with fail
          refine (K.out _ _).mono ?_
          rintro e w1 ⟨rfl, at', r', k', bad', hB1, ht1, hg1⟩
          have HB1 := Lib.hid hB1
          have HT1 := Lib.hid ht1
          have HG2 := Lib.hid (only_trans HG.out (only_trans (HG1.out _ _) hg1))
          clear hB1 ht1 hg1 K HG1
          go_wp2_with fail
          go_roundw
          case rel =>
            have hgo2 : straightGo d (j + 1) = (2 * (straightGo d j).1 + 0, none) := by
              show (2 * (straightGo d j).1 + (oneD (straightGo d j).2).1, (oneD (straightGo d j).2).2) = _
              rw [HDD.out, HONE.out, if_neg hc, if_neg HC2.out]
            refine ⟨j + 1, 2 * x + 1, by omega, by go_num, by go_num, by have := HX2.out; omega, fun h => ?_, ⟨at', r', k', bad', HB1.out, ?_⟩, HG2.out⟩
            · rw [hgo2] at h
              exact absurd rfl h
            · rw [hgo2]
              have := HT1.out
              rwa [if_pos trivial] at this
          case measure => simp [intOf]; omega
    · have fin : bad = true ∨ (bad = false ∧ j = n) := by
        cases bad
        · right
          exact ⟨rfl, by rcases Nat.lt_or_ge j n with h | h; exact absurd ⟨h, rfl⟩ hgo; omega⟩
        · exact .inl rfl
      have HB := Lib.hid hB
      have HT := Lib.hid ht
      have HFIN := Lib.hid fin
      clear hgo hB ht fin hs
      rcases HFIN.out with rfl | ⟨rfl, rfl⟩
      · have hne : (straightGo d n).2 = none := by
          refine straightGo_stays hj ?_
          rcases HT.out.2.2.2 with ⟨_, h⟩ | ⟨h, _⟩
          · exact h
          · cases h
        have HNE := Lib.hid hne
        clear hne
        have hend : straightD n d = (0, none) := by
          unfold straightD
          rw [if_pos HNE.out, HNE.out]
        have hjd : (straightGo d j).2 = none := by
          rcases HT.out.2.2.2 with ⟨_, h⟩ | ⟨h, _⟩
          · exact h
          · cases h
        rw [hjd] at HT
        have HEND := Lib.hid hend
        clear hend hjd HFIN
        by_cases hlt : j < n
        · have hlt' : (j : Int) < (n : Int) := by omega
          go_wp2_with fail
          go_ret
          rw [HEND.out]
          exact ⟨rfl, ⟨at_, r, k, _, HB.out, HT.out⟩, HG.out⟩
        · have hlt' : ¬ (j : Int) < (n : Int) := by omega
          go_wp2_with fail
          go_ret
          rw [HEND.out]
          exact ⟨rfl, ⟨at_, r, k, _, HB.out, HT.out⟩, HG.out⟩
      · have hne : (straightGo d j).2 ≠ none := by
          rcases HT.out.2.2.2 with ⟨h, _⟩ | ⟨_, h⟩
          · cases h
          · rw [h]; simp
        have hend : straightD j d = (x, (straightGo d j).2) := by
          unfold straightD
          rw [if_neg hne, HV.out hne]
        have HEND := Lib.hid hend
        clear hend hne HFIN
        go_wp2_with fail
        go_ret
        rw [HEND.out]
        exact ⟨rfl, ⟨at_, r, k, _, HB.out, HT.out⟩, HG.out⟩

end
end Go.Proofs.YtiolfjhddbiglaaGreatDoor

/-
  The reference's probabilities begin.
-/
namespace Go.Proofs.YtiolfjhddbiglaaGreatDoor
open Go.RowKit

set_option maxHeartbeats 2000000 in
theorem reffresh_any {n : Nat} (hn : n ≤ 100000000) (w : World) :
    Calls Tryz.prog 46 #[.int .i64 (n : Int)] w fun e w' =>
      ∃ A' c', e = .returned (.slice A' n c') ∧ w'.ownsRow w.heap.size 35 1 (.slice A' n c') n (pv (List.replicate n 1024)) ∧ Below w.heap.size w w' := by
  obtain ⟨i2, hi2, hy0, hy1, hy2⟩ := info_parts (show (Tryz.prog.info? 35).map (fun i => (i.zero, i.size, i.bytes)) = some (some (.int .u16 0), 1, 2) from by kernel_rfl)
  go_enter Tryz.func46, Tryz.ntmps46
  go_wp2_with fail
  go_loopw [3, 4] (fun p i wr => ∃ (j : Nat) (A2 : Option Addr) (c2 : Nat), j ≤ n ∧ i = .int .i64 (j : Int) ∧ p = .slice A2 j c2 ∧ wr.ownsRow w.heap.size 35 1 (.slice A2 j c2) j (pv (List.replicate j 1024)) ∧ Below w.heap.size w wr) (fun _ i _ => n - (intOf i).toNat)
  case atStart => exact ⟨0, none, 0, by omega, rfl, rfl, World.ownsRow_nil w _ _ 1, Below.refl _ _⟩
  case round =>
    obtain ⟨j, A2, c2, hj, rfl, rfl, ho, hb⟩ := hrel
    have HO := Lib.hid ho
    have HB := Lib.hid hb
    clear ho hb
    by_cases hlt : j < n
    · have hlt' : (j : Int) < (n : Int) := by omega
      go_wp2_with (at_builtin; refine wpList_app _ rfl (.tmp 10) (.tmp 11) 62 rfl w.heap.size 35 i2 _ 2 Tryz.underlying62 hi2 hy0 hy1 hy2 rfl _ j _ rfl (HO.out.alloc _) _ 1 1 _ rfl (sl_one _ _ _) (one_one _ _) (by omega) (by omega) (by have := HB.out.size; simp; omega) ?_)
      intro A3 c3 w3 ho hg
      have HB3 := Lib.hid ((HB.out.alloc HB.out.size _).grown hg (by have := HB.out.size; simp; omega) (fun b e => (HO.out.lt b e).1))
      have ho3 : w3.ownsRow w.heap.size 35 1 (.slice A3 (j + 1) c3) (j + 1) (pv (List.replicate (j + 1) 1024)) := by
        rw [List.replicate_succ']
        have e : pv (List.replicate j 1024 ++ [1024]) = pv (List.replicate j 1024) ++ [.int .u16 1024] := by simp [pv]
        rw [e]
        exact ho
      have HO3 := Lib.hid ho3
      clear ho hg ho3
      go_wp2
      go_roundw
      case rel => exact ⟨j + 1, A3, c3, by omega, by go_num, rfl, HO3.out, HB3.out⟩
      case measure => simp [intOf]; omega
    · obtain rfl : j = n := by omega
      go_wp2_with fail
      go_ret
      exact ⟨A2, c2, rfl, HO.out, HB.out⟩
end Go.Proofs.YtiolfjhddbiglaaGreatDoor

/-
  The reference's decoder begins; its fresh probabilities (cut out of RdSaid, RdFresh).
-/
namespace Go.Proofs.YtiolfjhddbiglaaGreatDoor
open Go.RowKit

/-- What a byte that is asked for is, and leaves. -/
def Nexted (bs : List UInt8) (at_ : Nat) (bad : Bool) (x at' : Nat) (bad' : Bool) : Prop :=
  (bad' = false ∧ bad = false ∧ at' = at_ + 1 ∧ ∃ y : UInt8, x = y.toNat ∧ bs.drop at_ = y :: bs.drop at') ∨ (bad' = true ∧ x = 0 ∧ (bad = true ∨ bs.drop at_ = []) ∧ at' = at_)

theorem next_one {g c at_ r k : Nat} {A : Option Addr} {w : World} {bs : List UInt8} {bad : Bool} (hB : Blk w g 76 (decCells A bs.length c at_ r k bad)) (hS : Sl w A bs.length (bv bs)) (ha : at_ ≤ bs.length) (hn : bs.length ≤ 1000000000)
    (hne : 0 < bs.length → ∀ b o, A = some ⟨b, o, none⟩ → b ≠ g) :
    Calls Tryz.prog 48 #[.pointer (some ⟨g, 0, none⟩)] w fun e w' =>
      ∃ (x at' : Nat) (bad' : Bool), e = .returned (.int .u64 (x : Int)) ∧ x < 256 ∧ Blk w' g 76 (decCells A bs.length c at' r k bad') ∧ at' ≤ bs.length ∧ Nexted bs at_ bad x at' bad' ∧ w.grownBy w' (some g) := by
  refine (next_any hB hS ha hn hne).mono ?_
  rintro e w' (⟨x, t, h1, h2, rfl, h4, h5, h6, h7⟩ | ⟨h1, rfl, h2, h3⟩)
  · exact ⟨x.toNat, at_ + 1, false, rfl, x.toNat_lt, h4, h5, .inl ⟨rfl, h1, rfl, x, rfl, by rw [h2, h6]⟩, h7⟩
  · exact ⟨0, at_, true, rfl, by omega, h2, ha, .inr ⟨rfl, rfl, h1, rfl⟩, h3⟩

def OnWayR (w : World) (g c : Nat) (A : Option Addr) (bs : List UInt8) (j : Nat) : Prop :=
  ∃ at_ k bad, Blk w g 76 (decCells A bs.length c at_ 4294967295 k bad) ∧ at_ ≤ bs.length ∧ k < 256 ^ j ∧ ((bad = true ∧ started bs = none) ∨ (bad = false ∧ at_ = j + 1 ∧ Begun bs j k))

theorem onwayR_next {bs : List UInt8} {at_ k j x at' : Nat} {bad bad' : Bool} (h : (bad = true ∧ started bs = none) ∨ (bad = false ∧ at_ = j + 1 ∧ Begun bs j k)) (hj : j < 4) (hn : Nexted bs at_ bad x at' bad') :
    (bad' = true ∧ started bs = none) ∨ (bad' = false ∧ at' = j + 1 + 1 ∧ Begun bs (j + 1) (k * 256 + x)) := by
  rcases hn with ⟨rfl, rfl, rfl, y, rfl, hy⟩ | ⟨rfl, rfl, hb, rfl⟩
  · rcases h with ⟨h, _⟩ | ⟨_, rfl, h⟩
    · cases h
    · exact .inr ⟨rfl, rfl, begun_next h hy⟩
  · left
    refine ⟨rfl, ?_⟩
    rcases h with ⟨_, h⟩ | ⟨rfl, rfl, h⟩
    · exact h
    · rcases hb with hb | hb
      · cases hb
      · refine started_short ?_
        have := List.drop_eq_nil_iff.1 hb
        omega

set_option maxRecDepth 100000 in
set_option maxHeartbeats 4000000 in
theorem refnew_any {n c : Nat} {A : Option Addr} {w : World} {bs : List UInt8} (hl : n = bs.length) (hS : Sl w A bs.length (bv bs)) (hn : bs.length ≤ 1000000000) :
    Calls Tryz.prog 27 #[.slice A n c] w fun e w' => e = .returned (.pointer (some ⟨w.heap.size, 0, none⟩)) ∧ Rf w' w.heap.size A c bs (started bs) ∧ Below w.heap.size w w' := by
  subst hl
  have hne : 0 < bs.length → ∀ b o, A = some ⟨b, o, none⟩ → b ≠ w.heap.size := by
    intro h0 b o e
    obtain ⟨b', o', e', hlt, _⟩ := hS.2 h0
    rw [e'] at e
    injection e with e
    injection e with e
    omega
  have hB0 : Blk (w.alloc (.cells #[.slice A bs.length c, .int .i64 0, .int .u64 4294967295, .int .u64 0, .bool false] 76)) w.heap.size 76 (decCells A bs.length c 0 4294967295 0 false) := Blk.fresh _ _ _
  have hb0 : Below w.heap.size w (w.alloc (.cells #[.slice A bs.length c, .int .i64 0, .int .u64 4294967295, .int .u64 0, .bool false] 76)) := (Below.refl _ _).alloc (Nat.le_refl _) _
  have K0 := Lib.hid (next_one hB0 (hS.below hb0) (Nat.zero_le _) hn hne)
  have HB0 := Lib.hid hb0
  have HS := Lib.hid hS
  have HNE := Lib.hid hne
  clear hB0 hb0 hS hne
  go_enter Tryz.func27, Tryz.ntmps27
  go_wp2_with fail
  generalize hg : w.heap.size = g at *
  have HGW := Lib.hid hg
  clear hg
  refine K0.out.mono ?_
  rintro e w1 ⟨x, at1, bad1, rfl, hx, hB1, hat1, hnx, hg1⟩
  have HB1 := Lib.hid hB1
  have HNX := Lib.hid hnx
  have HG1 := Lib.hid (HB0.out.grown hg1 (Nat.le_trans (Nat.le_of_eq HGW.out.symm) (by have := HB0.out.size; omega)) (fun q e => by injection e with e; omega))
  have f4 : w1.frozen? ⟨g, 4, none⟩ = false := hB1.free 4
  have j4 : w1.cell? ⟨g, 4, none⟩ = some (.bool bad1) := hB1.cell 4
  clear hB1 hnx hg1 K0 HB0
  by_cases hx0 : x = 0
  · have hw2 : OnWayR w1 g c A bs 0 := by
      refine ⟨at1, 0, bad1, HB1.out, hat1, by omega, ?_⟩
      rcases HNX.out with ⟨rfl, _, rfl, y, rfl, hy⟩ | ⟨rfl, _, hb, rfl⟩
      · refine .inr ⟨rfl, rfl, hat1, ?_, by simp [be]⟩
        cases bs with
        | nil => cases hy
        | cons z t => injection hy with hy _; rw [← hy] at hx0; exact hx0
      · refine .inl ⟨rfl, started_short ?_⟩
        rcases hb with hb | hb
        · cases hb
        · have := congrArg List.length hb
          simp only [List.length_drop, List.length_nil] at this
          omega
    have HW2 := Lib.hid hw2
    have HB2 := Lib.hid HG1.out
    clear hw2 HB1 HNX HG1
    subst hx0
    go_wp2_with fail
    go_loopw [5] (fun i wr => ∃ j : Nat, j ≤ 4 ∧ i = .int .i64 (j : Int) ∧ OnWayR wr g c A bs j ∧ Below g w wr) (fun i _ => 4 - (intOf i).toNat)
    case atStart => exact ⟨0, by omega, rfl, HW2.out, HB2.out⟩
    case round =>
      clear HW2 HB2
      obtain ⟨j, hj, rfl, ⟨at_, k, bad, hB, hat, hk, h0⟩, hb⟩ := hrel
      have HBr := Lib.hid hB
      have HB := Lib.hid hb
      have HH := Lib.hid h0
      have hsz := Nat.le_trans (Nat.le_of_eq HGW.out) (Nat.le_of_lt hB.lt)
      have hs := HS.out.below (hb.mono (Nat.le_of_eq HGW.out))
      clear hb h0
      by_cases hlt : j < 4
      · have hk3 : k < 16777216 := Nat.lt_of_lt_of_le hk (Nat.pow_le_pow_right (n := 256) (by omega) (show j ≤ 3 by omega))
        have hlt' : (j : Int) < 4 := by omega
        have hpk : k * 256 + 256 ≤ 256 ^ (j + 1) := by rw [Nat.pow_succ]; omega
        have HPK := Lib.hid hpk
        have j3 : wr.drew.cell? ⟨g, 3, none⟩ = some (.int .u64 (k : Int)) := hB.cell 3
        have K := Lib.hid (next_one (show Blk wr.drew g 76 (decCells A bs.length c at_ 4294967295 k bad) from hB) (show Sl wr.drew A bs.length (bv bs) from hs) hat hn HNE.out)
        have e1 : IntKind.u64.wrap ((k : Int) * 256) = (k : Int) * 256 := u64_of _ (by omega) (by omega)
        have HBD := Lib.hid (HB.out.drew)
        clear hB hk hpk hs HB HBr
        go_wp2_with fail
        have HB := Lib.hid (show Below g w wr.drew from HBD.out)
        go_region_law (first | (go_simp; go_at_call 48; refine K.out.mono ?_; rintro e w3 ⟨x, at', bad', rfl, hx, hB3, hat3, hn3, hg3⟩; have k3 : w3.cell? ⟨g, 3, none⟩ = some (.int .u64 (k : Int)) := hB3.cell 3; have z3 : w3.frozen? ⟨g, 3, none⟩ = false := hB3.free 3; have e2 : IntKind.u64.wrap ((k : Int) * 256 + (x : Int)) = ((k * 256 + x : Nat) : Int) := (by rw [show (k : Int) * 256 + (x : Int) = ((k * 256 + x : Nat) : Int) by omega]; exact u64_in _ (by omega)); have HB3 := Lib.hid hB3; have HN3 := Lib.hid hn3; have HG3 := Lib.hid hg3; clear hB3 hn3 hg3))
        all_goals
          go_wp2_with fail
          go_roundw
          case rel =>
            refine ⟨j + 1, by omega, by go_num, ⟨at', k * 256 + x, bad', HB3.out.put 3 _, hat3, by have := HPK.out; omega, onwayR_next HH.out hlt HN3.out⟩, ?_⟩
            exact (HBD.out.grown HG3.out (Nat.le_trans (Nat.le_of_eq HGW.out.symm) HBD.out.size) (fun q e => by injection e with e; omega)).setCell (p := ⟨g, 3, none⟩) (Nat.le_refl _) _
          case measure => simp [intOf]; omega
      · obtain rfl : j = 4 := by omega
        obtain ⟨R, hR⟩ : ∃ R : Nat, R = 4294967295 := ⟨_, rfl⟩
        have j2 : wr.cell? ⟨g, 2, none⟩ = some (.int .u64 (R : Int)) := by rw [hR]; exact hB.cell 2
        have HRR := Lib.hid hR
        have j3 : wr.cell? ⟨g, 3, none⟩ = some (.int .u64 (k : Int)) := hB.cell 3
        have j4 : wr.cell? ⟨g, 4, none⟩ = some (.bool bad) := hB.cell 4
        have f4 : wr.frozen? ⟨g, 4, none⟩ = false := hB.free 4
        have hk4 : k < 4294967296 := Nat.lt_of_lt_of_eq hk (by decide)
        clear hB hk hs
        have HK4 := Lib.hid hk4
        by_cases hkc : k < 4294967295
        · have hkc' : ¬ (k : Int) ≥ (R : Int) := by omega
          have HKC := Lib.hid hkc
          clear hkc hk4 hR
          go_wp2_with fail
          go_quiet (fail)
          go_wp2_with fail
          go_ret
          rw [HGW.out]
          refine ⟨rfl, ⟨at_, 4294967295, k, bad, HBr.out, hat, by omega, HK4.out, ?_⟩, below_drewN HB.out _⟩
          rcases HH.out with ⟨rfl, h⟩ | ⟨rfl, rfl, h⟩
          · exact .inl ⟨rfl, h⟩
          · exact .inr ⟨rfl, by rw [started_begun h, if_pos HKC.out]⟩
        · have hkc' : (k : Int) ≥ (R : Int) := by omega
          have HKC := Lib.hid hkc
          clear hkc hk4 hR
          go_wp2_with fail
          go_quiet (fail)
          go_wp2_with fail
          go_ret
          rw [HGW.out]
          refine ⟨rfl, ⟨at_, 4294967295, k, true, HBr.out.put 4 (.bool true), hat, by omega, HK4.out, .inl ⟨rfl, ?_⟩⟩, (below_drewN HB.out _).setCell (p := ⟨g, 4, none⟩) (Nat.le_refl _) _⟩
          rcases HH.out with ⟨rfl, h⟩ | ⟨rfl, rfl, h⟩
          · exact h
          · rw [started_begun h, if_neg HKC.out]
  · have hw2 : OnWayR (w1.setCell ⟨g, 4, none⟩ (.bool true)) g c A bs 0 := by
      refine ⟨at1, 0, true, HB1.out.put 4 (.bool true), hat1, by omega, .inl ⟨rfl, ?_⟩⟩
      rcases HNX.out with ⟨rfl, _, rfl, y, rfl, hy⟩ | ⟨_, h, _⟩
      · refine started_head ?_
        cases bs with
        | nil => cases hy
        | cons z t => injection hy with hy _; rw [← hy] at hx0; exact hx0
      · exact absurd h hx0
    have HW2 := Lib.hid hw2
    have HB2 := Lib.hid (HG1.out.setCell (p := ⟨g, 4, none⟩) (Nat.le_refl _) (.bool true))
    have hxi : ((x : Int) != 0) = true := by simp; omega
    clear hw2 HB1 HNX HG1
    go_wp2_with fail
    go_loopw [5] (fun i wr => ∃ j : Nat, j ≤ 4 ∧ i = .int .i64 (j : Int) ∧ OnWayR wr g c A bs j ∧ Below g w wr) (fun i _ => 4 - (intOf i).toNat)
    case atStart => exact ⟨0, by omega, rfl, HW2.out, HB2.out⟩
    case round =>
      clear HW2 HB2
      obtain ⟨j, hj, rfl, ⟨at_, k, bad, hB, hat, hk, h0⟩, hb⟩ := hrel
      have HBr := Lib.hid hB
      have HB := Lib.hid hb
      have HH := Lib.hid h0
      have hsz := Nat.le_trans (Nat.le_of_eq HGW.out) (Nat.le_of_lt hB.lt)
      have hs := HS.out.below (hb.mono (Nat.le_of_eq HGW.out))
      clear hb h0
      by_cases hlt : j < 4
      · have hk3 : k < 16777216 := Nat.lt_of_lt_of_le hk (Nat.pow_le_pow_right (n := 256) (by omega) (show j ≤ 3 by omega))
        have hlt' : (j : Int) < 4 := by omega
        have hpk : k * 256 + 256 ≤ 256 ^ (j + 1) := by rw [Nat.pow_succ]; omega
        have HPK := Lib.hid hpk
        have j3 : wr.drew.cell? ⟨g, 3, none⟩ = some (.int .u64 (k : Int)) := hB.cell 3
        have K := Lib.hid (next_one (show Blk wr.drew g 76 (decCells A bs.length c at_ 4294967295 k bad) from hB) (show Sl wr.drew A bs.length (bv bs) from hs) hat hn HNE.out)
        have e1 : IntKind.u64.wrap ((k : Int) * 256) = (k : Int) * 256 := u64_of _ (by omega) (by omega)
        have HBD := Lib.hid (HB.out.drew)
        clear hB hk hpk hs HB HBr
        go_wp2_with fail
        have HB := Lib.hid (show Below g w wr.drew from HBD.out)
        go_region_law (first | (go_simp; go_at_call 48; refine K.out.mono ?_; rintro e w3 ⟨x, at', bad', rfl, hx, hB3, hat3, hn3, hg3⟩; have k3 : w3.cell? ⟨g, 3, none⟩ = some (.int .u64 (k : Int)) := hB3.cell 3; have z3 : w3.frozen? ⟨g, 3, none⟩ = false := hB3.free 3; have e2 : IntKind.u64.wrap ((k : Int) * 256 + (x : Int)) = ((k * 256 + x : Nat) : Int) := (by rw [show (k : Int) * 256 + (x : Int) = ((k * 256 + x : Nat) : Int) by omega]; exact u64_in _ (by omega)); have HB3 := Lib.hid hB3; have HN3 := Lib.hid hn3; have HG3 := Lib.hid hg3; clear hB3 hn3 hg3))
        all_goals
          go_wp2_with fail
          go_roundw
          case rel =>
            refine ⟨j + 1, by omega, by go_num, ⟨at', k * 256 + x, bad', HB3.out.put 3 _, hat3, by have := HPK.out; omega, onwayR_next HH.out hlt HN3.out⟩, ?_⟩
            exact (HBD.out.grown HG3.out (Nat.le_trans (Nat.le_of_eq HGW.out.symm) HBD.out.size) (fun q e => by injection e with e; omega)).setCell (p := ⟨g, 3, none⟩) (Nat.le_refl _) _
          case measure => simp [intOf]; omega
      · obtain rfl : j = 4 := by omega
        obtain ⟨R, hR⟩ : ∃ R : Nat, R = 4294967295 := ⟨_, rfl⟩
        have j2 : wr.cell? ⟨g, 2, none⟩ = some (.int .u64 (R : Int)) := by rw [hR]; exact hB.cell 2
        have HRR := Lib.hid hR
        have j3 : wr.cell? ⟨g, 3, none⟩ = some (.int .u64 (k : Int)) := hB.cell 3
        have j4 : wr.cell? ⟨g, 4, none⟩ = some (.bool bad) := hB.cell 4
        have f4 : wr.frozen? ⟨g, 4, none⟩ = false := hB.free 4
        have hk4 : k < 4294967296 := Nat.lt_of_lt_of_eq hk (by decide)
        clear hB hk hs
        have HK4 := Lib.hid hk4
        by_cases hkc : k < 4294967295
        · have hkc' : ¬ (k : Int) ≥ (R : Int) := by omega
          have HKC := Lib.hid hkc
          clear hkc hk4 hR
          go_wp2_with fail
          go_quiet (fail)
          go_wp2_with fail
          go_ret
          rw [HGW.out]
          refine ⟨rfl, ⟨at_, 4294967295, k, bad, HBr.out, hat, by omega, HK4.out, ?_⟩, below_drewN HB.out _⟩
          rcases HH.out with ⟨rfl, h⟩ | ⟨rfl, rfl, h⟩
          · exact .inl ⟨rfl, h⟩
          · exact .inr ⟨rfl, by rw [started_begun h, if_pos HKC.out]⟩
        · have hkc' : (k : Int) ≥ (R : Int) := by omega
          have HKC := Lib.hid hkc
          clear hkc hk4 hR
          go_wp2_with fail
          go_quiet (fail)
          go_wp2_with fail
          go_ret
          rw [HGW.out]
          refine ⟨rfl, ⟨at_, 4294967295, k, true, HBr.out.put 4 (.bool true), hat, by omega, HK4.out, .inl ⟨rfl, ?_⟩⟩, (below_drewN HB.out _).setCell (p := ⟨g, 4, none⟩) (Nat.le_refl _) _⟩
          rcases HH.out with ⟨rfl, h⟩ | ⟨rfl, rfl, h⟩
          · exact h
          · rw [started_begun h, if_neg HKC.out]

end Go.Proofs.YtiolfjhddbiglaaGreatDoor

/-
  append, with what is known of the row then.
-/
namespace Go.Proofs.YtiolfjhddbiglaaGreatDoor
open Go.RowKit

section
variable {P : Program} (w : World)
/-- append, with what is known of the row then -/
theorem wpList_app2 {ops : Array Oper} {rest : List Oper} {o : Oper} {a : Act} {Q : Exit → Act → World → Prop} (hgd : o.guard = none) (s x : Operand) (t : TypeId)
    (ho : o.op = .call { callee := .builtin .append, args := #[s, x], argTypes := #[t, t] })
    (base : Nat) (e : TypeId) (i : TypeInfo) (z : Value) (bytes : Nat) (ht : P.underlying t = some (.slice e)) (hi : P.info? e = some i) (hz : i.zero = some z)
    (hsize : i.size = 1) (hby : i.bytes = bytes) (hzs : z.cells.size = 1)
    (v : Value) (n : Nat) (xs : List Value) (hs : a.eval s = v) (hown : w.ownsRow base e 1 v n xs)
    (A : Option Addr) (m c : Nat) (news : List Value) (hx : a.eval x = .slice A m c) (hr : Sl w A m news) (h1 : ∀ u ∈ news, u.oneCell' = true)
    (hbytes : (n + m) * bytes ≤ 140737488355328) (hb0 : 0 < bytes) (hbase : base ≤ w.heap.size)
    (h : ∀ A' c' w', w'.ownsRow base e 1 (.slice A' (n + m) c') (n + m) (xs ++ news) → w.grownBy w' v.ownBlock → ((Value.slice A' (n + m) c').ownBlock = v.ownBlock ∨ (Value.slice A' (n + m) c').ownBlock = some w.heap.size) → wpList P ops Q rest (a.put o.dst (.slice A' (n + m) c')) w') : wpList P ops Q (o :: rest) a w :=
  wpList_plain hgd fun K hK => by
    obtain ⟨v', w', hrun, h2, h3, h4⟩ := run_app (P := P) w base t o.type e i z bytes ht hi hz hsize hby hzs v n xs hown A m c news hr h1 hbytes hb0 hbase
    obtain ⟨A', c', rfl, h2⟩ := own_form h2
    unfold Oper.wp execOp
    simp only [ho, resolve, invoke, builtin, Sem.run_bind, Sem.run_pure, Result.andThen_ok, List.map_toArray, List.map_cons, List.map_nil, hs, hx, hrun]
    exact hK _ _ (h A' c' w' h2 h3 h4)
end
end Go.Proofs.YtiolfjhddbiglaaGreatDoor

/-
  An own row stays.
-/
namespace Go.Proofs.YtiolfjhddbiglaaGreatDoor
open Go.RowKit

theorem own_only' {S : Nat → Prop} {w w' : World} {base : Nat} {e : TypeId} {v : Value} {n : Nat} {xs : List Value} (h : w.ownsRow base e 1 v n xs) (hb : Only S w w') (hg : ∀ i, v.ownBlock = some i → ¬ S i) : w'.ownsRow base e 1 v n xs := by
  refine ⟨h.1, ?_⟩
  rcases h.2 with hv | ⟨g', cap, cur, hv, hb', hh, r⟩
  · exact .inl hv
  · refine .inr ⟨g', cap, cur, hv, hb', ?_, r⟩
    subst hv
    have hlt : g' < w.heap.size := by
      rcases Nat.lt_or_ge g' w.heap.size with hlt | hge
      · exact hlt
      · rw [Array.getElem?_eq_none hge] at hh; cases hh
    exact (hb.block g' hlt (hg g' rfl)).trans hh
end Go.Proofs.YtiolfjhddbiglaaGreatDoor

/-
  The reference's decoder or coder of LZMA in memory, over a machine that is not looked into.
-/
namespace Go.Proofs.YtiolfjhddbiglaaGreatDoor
open Go.RowKit

def zCells (z : Lzs) (Dv Ev : Value) (p L pc : Nat) (A : Option Addr) (n c : Nat) : Array Value :=
  #[.int .i64 (z.lc : Int), .int .i64 (z.lp : Int), .int .i64 (z.pb : Int), .int .i64 (z.dict : Int), Dv, Ev, .slice (some ⟨p, 0, none⟩) L pc, .slice A n c, .int .i64 (z.st : Int),
    .int .u32 (z.r0 : Int), .int .u32 (z.r1 : Int), .int .u32 (z.r2 : Int), .int .u32 (z.r3 : Int), .bool z.ended, .bool z.bad]

/-- A machine in memory: what it owns (G), what it reads alone (R). -/
structure MachMem {σ : Type} (R : Nat → Prop) (K : World → Value → Value → (Nat → Prop) → σ → Prop) : Prop where
  old : ∀ {w Dv Ev G x i}, K w Dv Ev G x → G i → i < w.heap.size
  only : ∀ {w w' Dv Ev G x} {S : Nat → Prop}, K w Dv Ev G x → Only S w w' → (∀ i, G i → ¬ S i) → (∀ i, R i → ¬ S i) → K w' Dv Ev G x

/-- Block g is the reference's, in the state z; its probabilities and its machine are t. G holds all that it owns. -/
structure Zr {σ : Type} (R : Nat → Prop) (K : World → Value → Value → (Nat → Prop) → σ → Prop) (w : World) (g : Nat) (G : Nat → Prop) (z : Lzs) (t : Pm σ)
    (Gm : Nat → Prop) (Dv Ev : Value) (p pc : Nat) (A : Option Addr) (c : Nat) : Prop where
  blk : Blk w g 66 (zCells z Dv Ev p t.ps.length pc A z.out.length c)
  row : Row w p t.ps pc
  out : w.ownsRow 0 5 1 (.slice A z.out.length c) z.out.length (bv z.out)
  mch : K w Dv Ev Gm t.x
  gg : G g
  gp : G p
  gm : ∀ i, Gm i → G i
  go : ∀ i, (Value.slice A z.out.length c).ownBlock = some i → G i ∧ i ≠ g ∧ i ≠ p ∧ ¬ Gm i
  pg : p ≠ g
  mg : ¬ Gm g
  mp : ¬ Gm p
  old : ∀ i, G i → i < w.heap.size
  far : ∀ i, G i → ¬ R i
def Zz {σ : Type} (R : Nat → Prop) (K : World → Value → Value → (Nat → Prop) → σ → Prop) (w : World) (g : Nat) (G : Nat → Prop) (z : Lzs) (t : Pm σ) : Prop :=
  ∃ Gm Dv Ev p pc A c, Zr R K w g G z t Gm Dv Ev p pc A c

section
variable {σ : Type} {R : Nat → Prop} {K : World → Value → Value → (Nat → Prop) → σ → Prop} {w w' : World} {g : Nat} {G : Nat → Prop} {z : Lzs} {t : Pm σ} {Gm : Nat → Prop} {Dv Ev : Value} {p pc : Nat} {A : Option Addr} {c : Nat}

theorem Zr.only (h : Zr R K w g G z t Gm Dv Ev p pc A c) (M : MachMem R K) {S : Nat → Prop} (hO : Only S w w') (hS : ∀ i, G i → ¬ S i) (hR : ∀ i, R i → ¬ S i) : Zr R K w' g G z t Gm Dv Ev p pc A c :=
  ⟨h.blk.only hO (hS g h.gg), h.row.only hO (hS p h.gp), own_only' h.out hO (fun i hi => hS i (h.go i hi).1), M.only h.mch hO (fun i hi => hS i (h.gm i hi)) hR, h.gg, h.gp, h.gm, h.go, h.pg, h.mg, h.mp, fun i hi => Nat.lt_of_lt_of_le (h.old i hi) hO.size, h.far⟩
theorem Zr.drewN (h : Zr R K w g G z t Gm Dv Ev p pc A c) (M : MachMem R K) (n : Nat) : Zr R K (w.drewN n) g G z t Gm Dv Ev p pc A c :=
  h.only M ((Only.refl (fun _ => False) w).drewN n) (fun _ _ h => h) (fun _ _ h => h)
/-- One of its own cells is stored: the place i, with what the state then is. -/
theorem Zr.put (h : Zr R K w g G z t Gm Dv Ev p pc A c) (M : MachMem R K) {i : Nat} {u : Value} {z' : Lzs} (hz : (zCells z Dv Ev p t.ps.length pc A z.out.length c).setIfInBounds i u = zCells z' Dv Ev p t.ps.length pc A z.out.length c) (ho : z'.out = z.out) :
    Zr R K (w.setCell ⟨g, i, none⟩ u) g G z' t Gm Dv Ev p pc A c := by
  have hO := (Only.refl (fun j => j = g) w).setCell (p := ⟨g, i, none⟩) (.inl rfl) u
  have hB := h.blk.put i u
  rw [hz] at hB
  refine ⟨by rw [ho]; exact hB, h.row.only hO h.pg, ?_, M.only h.mch hO (fun j hj e => h.mg (e ▸ hj)) (fun j hj e => h.far g h.gg (e ▸ hj)), h.gg, h.gp, h.gm, by rw [ho]; exact h.go, h.pg, h.mg, h.mp, fun j hj => by have := h.old j hj; simpa [World.setCell] using this, h.far⟩
  rw [ho]
  exact own_only' h.out hO (fun j hj e => (h.go j hj).2.1 e)
/-- A probability is stored. -/
theorem Zr.prob (h : Zr R K w g G z t Gm Dv Ev p pc A c) (M : MachMem R K) (i q : Nat) : Zr R K (w.setCell ⟨p, i, none⟩ (.int .u16 (q : Int))) g G z ⟨t.ps.set i q, t.x⟩ Gm Dv Ev p pc A c := by
  have hO := (Only.refl (fun j => j = p) w).setCell (p := ⟨p, i, none⟩) (.inl rfl) (.int .u16 (q : Int))
  refine ⟨?_, h.row.put i q, own_only' h.out hO (fun j hj e => (h.go j hj).2.2.1 e), M.only h.mch hO (fun j hj e => h.mp (e ▸ hj)) (fun j hj e => h.far p h.gp (e ▸ hj)), h.gg, h.gp, h.gm, h.go, h.pg, h.mg, h.mp, fun j hj => by have := h.old j hj; simpa [World.setCell] using this, h.far⟩
  show Blk _ g _ (zCells z Dv Ev p (t.ps.set i q).length pc A z.out.length c)
  rw [List.length_set]
  exact h.blk.only hO (fun e => h.pg e.symm)
/-- The machine has turned. -/
theorem Zr.mach (h : Zr R K w g G z t Gm Dv Ev p pc A c) {Gm' : Nat → Prop} {x : σ} (hO : Only Gm w w') (hK : K w' Dv Ev Gm' x) (hN : ∀ i, Gm' i → Gm i ∨ w.heap.size ≤ i) (hlt : ∀ i, Gm' i → i < w'.heap.size) (hR : ∀ i, R i → i < w.heap.size) :
    Zr R K w' g (fun i => G i ∨ Gm' i) z ⟨t.ps, x⟩ Gm' Dv Ev p pc A c := by
  refine ⟨h.blk.only hO h.mg, h.row.only hO h.mp, own_only' h.out hO (fun i hi => (h.go i hi).2.2.2), hK, .inl h.gg, .inl h.gp, fun i hi => .inr hi, fun i hi => ?_, h.pg, fun hi => ?_, fun hi => ?_, fun i hi => ?_, fun i hi hr => ?_⟩
  · obtain ⟨h1, h2, h3, h4⟩ := h.go i hi
    refine ⟨.inl h1, h2, h3, fun h5 => ?_⟩
    rcases hN i h5 with h6 | h6
    · exact h4 h6
    · have := h.old i h1; omega
  · rcases hN g hi with h6 | h6
    · exact h.mg h6
    · have := h.old g h.gg; omega
  · rcases hN p hi with h6 | h6
    · exact h.mp h6
    · have := h.old p h.gp; omega
  · rcases hi with hi | hi
    · exact Nat.lt_of_lt_of_le (h.old i hi) hO.size
    · exact hlt i hi
  · rcases hi with hi | hi
    · exact h.far i hi hr
    · rcases hN i hi with h6 | h6
      · exact h.far i (h.gm i h6) hr
      · have := hR i hr; omega

theorem Zz.only (h : Zz R K w g G z t) (M : MachMem R K) {S : Nat → Prop} (hO : Only S w w') (hS : ∀ i, G i → ¬ S i) (hR : ∀ i, R i → ¬ S i) : Zz R K w' g G z t := by
  obtain ⟨Gm, Dv, Ev, p, pc, A, c, h⟩ := h
  exact ⟨Gm, Dv, Ev, p, pc, A, c, h.only M hO hS hR⟩
theorem Zz.old (h : Zz R K w g G z t) {i : Nat} (hi : G i) : i < w.heap.size := by
  obtain ⟨Gm, Dv, Ev, p, pc, A, c, h⟩ := h
  exact h.old i hi
theorem Zz.own (h : Zz R K w g G z t) : G g := by
  obtain ⟨Gm, Dv, Ev, p, pc, A, c, h⟩ := h
  exact h.gg
/-- its numbers -/
theorem Zz.cells (h : Zz R K w g G z t) : w.cell? ⟨g, 0, none⟩ = some (.int .i64 (z.lc : Int)) ∧ w.cell? ⟨g, 1, none⟩ = some (.int .i64 (z.lp : Int)) ∧ w.cell? ⟨g, 2, none⟩ = some (.int .i64 (z.pb : Int)) ∧ w.cell? ⟨g, 3, none⟩ = some (.int .i64 (z.dict : Int)) ∧
    w.cell? ⟨g, 8, none⟩ = some (.int .i64 (z.st : Int)) ∧ w.cell? ⟨g, 9, none⟩ = some (.int .u32 (z.r0 : Int)) ∧ w.cell? ⟨g, 10, none⟩ = some (.int .u32 (z.r1 : Int)) ∧ w.cell? ⟨g, 11, none⟩ = some (.int .u32 (z.r2 : Int)) ∧ w.cell? ⟨g, 12, none⟩ = some (.int .u32 (z.r3 : Int)) ∧
    w.cell? ⟨g, 13, none⟩ = some (.bool z.ended) ∧ w.cell? ⟨g, 14, none⟩ = some (.bool z.bad) ∧ (∀ i, w.frozen? ⟨g, i, none⟩ = false) := by
  obtain ⟨Gm, Dv, Ev, p, pc, A, c, h⟩ := h
  exact ⟨h.blk.cell 0, h.blk.cell 1, h.blk.cell 2, h.blk.cell 3, h.blk.cell 8, h.blk.cell 9, h.blk.cell 10, h.blk.cell 11, h.blk.cell 12, h.blk.cell 13, h.blk.cell 14, fun i => h.blk.free i⟩
/-- what was told is read -/
theorem Zz.told (h : Zz R K w g G z t) : ∃ A c, w.cell? ⟨g, 7, none⟩ = some (.slice A z.out.length c) ∧ Sl w A z.out.length (bv z.out) := by
  obtain ⟨Gm, Dv, Ev, p, pc, A, c, h⟩ := h
  exact ⟨A, c, h.blk.cell 7, Sl.of_own h.out⟩
theorem Zz.put (h : Zz R K w g G z t) (M : MachMem R K) {i : Nat} {u : Value} {z' : Lzs} (hz : ∀ Dv Ev p pc A c, (zCells z Dv Ev p t.ps.length pc A z.out.length c).setIfInBounds i u = zCells z' Dv Ev p t.ps.length pc A z.out.length c) (ho : z'.out = z.out) :
    Zz R K (w.setCell ⟨g, i, none⟩ u) g G z' t := by
  obtain ⟨Gm, Dv, Ev, p, pc, A, c, h⟩ := h
  exact ⟨Gm, Dv, Ev, p, pc, A, c, h.put M (hz Dv Ev p pc A c) ho⟩
end

/-- what a call leaves, with a state -/
def ZPost {σ : Type} (R : Nat → Prop) (K : World → Value → Value → (Nat → Prop) → σ → Prop) (w : World) (g : Nat) (G : Nat → Prop) (z : Lzs) (t : Pm σ) (v : Value) : Ending → World → Prop :=
  OwnPost (fun w' G' => Zz R K w' g G' z t) w G v

/-- What the reference's bit and its straight bits owe. -/
structure ZOps {σ : Type} (M : Mach σ) (ok : Nat → σ → Prop) (R : Nat → Prop) (K : World → Value → Value → (Nat → Prop) → σ → Prop) : Prop where
  mem : MachMem R K
  okm : MachOk M ok
  bit : ∀ {w g G z t L k a} {b : Int}, Zz R K w g G z t → PmOk ok L (k + 1) t → a < L → L ≤ 100000000 → M.may b →
    Calls Tryz.prog 80 #[.pointer (some ⟨g, 0, none⟩), .int .i64 ((a : Nat) : Int), .int .i64 b] w (ZPost R K w g G z (bitP M t a b).2 (.int .i64 ((bitP M t a b).1 : Int)))
  str : ∀ {w g G z t L k n v}, Zz R K w g G z t → PmOk ok L (k + 1) t → n ≤ 26 → v < 4294967296 → (M.enc = true → v < 2 ^ n) →
    Calls Tryz.prog 85 #[.pointer (some ⟨g, 0, none⟩), .int .i64 ((n : Nat) : Int), .int .u32 ((v : Nat) : Int)] w (ZPost R K w g G z ⟨t.ps, (M.str t.x n v).2⟩ (.int .u32 ((M.str t.x n v).1 : Int)))

/-- one call behind another -/
theorem own_then {w w1 w2 : World} {G G1 G2 : Nat → Prop} (hN : ∀ i, G1 i → G i ∨ w.heap.size ≤ i) (hO : Only G w w1) (hN2 : ∀ i, G2 i → G1 i ∨ w1.heap.size ≤ i) (hO2 : Only G1 w1 w2) : (∀ i, G2 i → G i ∨ w.heap.size ≤ i) ∧ Only G w w2 := by
  refine ⟨fun i hi => ?_, hO.trans' hO2 hN⟩
  rcases hN2 i hi with h | h
  · exact hN i h
  · exact .inr (Nat.le_trans hO.size h)
end Go.Proofs.YtiolfjhddbiglaaGreatDoor

/-
  The reference of LZMA: powers, trees, the byte at a distance.
-/
namespace Go.Proofs.YtiolfjhddbiglaaGreatDoor
open Go.RowKit

set_option maxHeartbeats 1000000 in
theorem power_any {n : Nat} (hn : n ≤ 40) (w : World) : Calls Tryz.prog 49 #[.int .i64 (n : Int)] w fun x w' => x = .returned (.int .i64 ((2 ^ n : Nat) : Int)) ∧ w = w' := by
  have HN := Lib.hid hn
  clear hn
  go_enter Tryz.func49, Tryz.ntmps49
  go_wp2_with fail
  go_loopw [3, 4] (fun v i wr => ∃ j : Nat, j ≤ n ∧ i = .int .i64 (j : Int) ∧ v = .int .i64 ((2 ^ j : Nat) : Int) ∧ w = wr) (fun _ i _ => n - (intOf i).toNat)
  case atStart => exact ⟨0, Nat.zero_le _, rfl, rfl, rfl⟩
  case round =>
    obtain ⟨j, hj, rfl, rfl, hw⟩ := hrel
    subst hw
    by_cases hlt : j < n
    · have hlt' : (j : Int) < (n : Int) := by omega
      have ej : IntKind.i64.wrap ((j : Int) + 1) = (j : Int) + 1 := IntWalk.i64_in _ (by have := HN.out; omega)
      have hp : 2 ^ j ≤ 2 ^ 40 := Nat.pow_le_pow_right (by omega) (by have := HN.out; omega)
      obtain ⟨y, hy⟩ : ∃ y, y = 2 ^ j := ⟨_, rfl⟩
      obtain ⟨y2, hy2⟩ : ∃ y, y = 2 ^ (j + 1) := ⟨_, rfl⟩
      have hyy : y2 = y * 2 := by rw [hy2, hy, Nat.pow_succ]
      rw [← hy] at hp ⊢
      have ep : IntKind.i64.wrap ((y : Int) * 2) = (y2 : Int) := by rw [show (y : Int) * 2 = (y2 : Int) by omega]; exact IntWalk.i64_in _ (by omega)
      have HY2 := Lib.hid hy2
      clear hp hy hy2 hyy
      go_wp2_with fail
      go_roundw
      case rel => exact ⟨j + 1, by omega, by go_num, by rw [← HY2.out], by first | trivial | rfl⟩
      case measure => simp [intOf]; omega
    · obtain rfl : j = n := by omega
      have hirr : ¬ (j : Int) < (j : Int) := by omega
      go_wp2_with fail
      go_ret
      exact ⟨rfl, by first | trivial | rfl⟩

section
variable {σ : Type} {M : Mach σ} {ok : Nat → σ → Prop} {R : Nat → Prop} {K : World → Value → Value → (Nat → Prop) → σ → Prop} {w : World} {g : Nat} {G : Nat → Prop} {z : Lzs} {t : Pm σ}

/-- what is wanted, as the text reckons it -/
theorem want_text {v : Int} {i : Nat} {P : Int} (hP : P = ((2 ^ i : Nat) : Int)) : (v.tdiv P).tmod 2 = want v i := by rw [hP]; rfl
theorem tdiv_lit {v P : Int} (h0 : -9223372036854775807 ≤ v) (h1 : v ≤ 9223372036854775807) (hP : 1 ≤ P) : -9223372036854775807 ≤ v.tdiv P ∧ v.tdiv P ≤ 9223372036854775807 := by
  rcases Int.le_total 0 v with h | h
  · rw [Int.tdiv_eq_ediv_of_nonneg h]
    have a := Int.ediv_nonneg h (show 0 ≤ P by omega)
    have b := Int.ediv_le_self P h
    omega
  · obtain ⟨u, rfl⟩ : ∃ u, v = -u := ⟨-v, by omega⟩
    rw [Int.neg_tdiv, Int.tdiv_eq_ediv_of_nonneg (by omega)]
    have a := Int.ediv_nonneg (show 0 ≤ u by omega) (show 0 ≤ P by omega)
    have b := Int.ediv_le_self P (show 0 ≤ u by omega)
    omega
theorem tmod_two (v : Int) : -1 ≤ v.tmod 2 ∧ v.tmod 2 ≤ 1 := by
  have := Int.tmod_lt_of_pos v (show (0 : Int) < 2 by decide)
  have := Int.lt_tmod_of_pos v (show (0 : Int) < 2 by decide)
  omega

/-- a state on the way, reached from the beginning -/
def ZAt (R : Nat → Prop) (K : World → Value → Value → (Nat → Prop) → σ → Prop) (w0 : World) (G0 : Nat → Prop) (w : World) (g : Nat) (z : Lzs) (t : Pm σ) : Prop :=
  ∃ G, Zz R K w g G z t ∧ (∀ i, G i → G0 i ∨ w0.heap.size ≤ i) ∧ Only G0 w0 w
theorem ZAt.begin (h : Zz R K w g G z t) : ZAt R K w G w g z t := ⟨G, h, fun _ h => .inl h, Only.refl _ _⟩
theorem ZAt.post {w0 : World} {G0 : Nat → Prop} (h : ZAt R K w0 G0 w g z t) {v : Value} : ZPost R K w0 g G0 z t v (.returned v) w := ⟨rfl, h⟩
theorem ZAt.next {w0 w' : World} {G0 : Nat → Prop} {z' : Lzs} {t' : Pm σ} {v : Value} {e : Ending} (hN : ∀ i, G i → G0 i ∨ w0.heap.size ≤ i) (hO : Only G0 w0 w) (h : ZPost R K w g G z' t' v e w') : e = .returned v ∧ ZAt R K w0 G0 w' g z' t' := by
  obtain ⟨rfl, G', hz, hN', hO'⟩ := h
  obtain ⟨h1, h2⟩ := own_then hN hO hN' hO'
  exact ⟨rfl, G', hz, h1, h2⟩
/-- a bit, on the way -/
theorem ZAt.bit (Z : ZOps M ok R K) {w0 : World} {G0 : Nat → Prop} (h : ZAt R K w0 G0 w g z t) {L k a : Nat} {b : Int} (ht : PmOk ok L (k + 1) t) (ha : a < L) (hL : L ≤ 100000000) (hb : M.may b) :
    Calls Tryz.prog 80 #[.pointer (some ⟨g, 0, none⟩), .int .i64 (a : Int), .int .i64 b] w fun x w' => x = .returned (.int .i64 ((bitP M t a b).1 : Int)) ∧ ZAt R K w0 G0 w' g z (bitP M t a b).2 := by
  obtain ⟨G, hz, hN, hO⟩ := h
  exact (Z.bit hz ht ha hL hb).mono fun _ _ hp => ZAt.next hN hO hp

set_option maxHeartbeats 4000000 in
theorem ztree_any (Z : ZOps M ok R K) {w0 : World} {G0 : Nat → Prop} {L k a n : Nat} {v : Int} (h : ZAt R K w0 G0 w g z t) (ht : PmOk ok L (k + n) t) (ha : a + 2 ^ n ≤ L) (hL : L ≤ 100000000) (hn : n ≤ 8) (hv : M.mayN v) (h0 : -9223372036854775807 ≤ v) (h1 : v ≤ 9223372036854775807) :
    Calls Tryz.prog 82 #[.pointer (some ⟨g, 0, none⟩), .int .i64 (a : Int), .int .i64 (n : Int), .int .i64 v] w fun x w' => x = .returned (.int .i64 ((treeP M t a n v).1 : Int)) ∧ ZAt R K w0 G0 w' g z (treeP M t a n v).2 := by
  have HT := Lib.hid ht
  have HA := Lib.hid ha
  have HL := Lib.hid hL
  have HN := Lib.hid hn
  have HV := Lib.hid hv
  have H01 := Lib.hid (show -9223372036854775807 ≤ v ∧ v ≤ 9223372036854775807 from ⟨h0, h1⟩)
  have HZ := Lib.hid h
  have en : IntKind.i64.wrap ((n : Int) - 1) = (n : Int) - 1 := IntWalk.i64_in _ (by omega)
  clear ht ha hL hn hv h0 h1 h
  go_enter Tryz.func82, Tryz.ntmps82
  go_wp2_with fail
  go_loopw [9, 10] (fun m i wr => ∃ (j : Nat) (iv : Int), j ≤ n ∧ i = .int .i64 iv ∧ iv + 1 = (n : Int) - (j : Int) ∧ m = .int .i64 (((treeG M t a n v j).m : Nat) : Int) ∧ ZAt R K w0 G0 wr g z (treeG M t a n v j).t) (fun _ i _ => (intOf i + 1).toNat)
  case atStart => exact ⟨0, _, Nat.zero_le _, rfl, by omega, rfl, HZ.out⟩
  case round =>
    clear HZ
    obtain ⟨j, iv, hj, rfl, hiv, rfl, hz⟩ := hrel
    obtain ⟨t1, t2, t3⟩ := treeG_ok Z.okm HT.out HA.out HV.out j hj
    have hp8 : 2 ^ n ≤ 256 := pow8 HN.out
    have hpj : 2 ^ (j + 1) ≤ 2 * 2 ^ n := by rw [Nat.pow_succ]; have := Nat.pow_le_pow_right (show 0 < 2 by omega) hj; omega
    by_cases hlt : j < n
    · obtain ⟨i, hi⟩ : ∃ i, i = n - 1 - j := ⟨_, rfl⟩
      obtain rfl : iv = (i : Int) := by omega
      have hpj2 : 2 ^ (j + 1) ≤ 2 ^ n := Nat.pow_le_pow_right (by omega) hlt
      have hL := HL.out
      have hA := HA.out
      have hstep : treeG M t a n v (j + 1) = tgStep M a j (want v i) (treeG M t a n v j) := by rw [hi]; rfl
      have K := ZAt.bit Z hz (k := k + n - (j + 1)) (a := a + (treeG M t a n v j).m) (b := want v i) (by rw [show k + n - (j + 1) + 1 = k + n - j by omega]; exact t1) (by omega) hL (want_may HV.out _)
      have hb := (bitP_ok Z.okm (k := k + n - (j + 1)) (a := a + (treeG M t a n v j).m) (w := want v i) (by rw [show k + n - (j + 1) + 1 = k + n - j by omega]; exact t1) (by omega) (want_may HV.out _)).1
      have HST := Lib.hid hstep
      have KP := Lib.hid (power_any (show i ≤ 40 by have := HN.out; omega))
      obtain ⟨P, hP⟩ : ∃ P : Int, P = ((2 ^ i : Nat) : Int) := ⟨_, rfl⟩
      have hP1 : 1 ≤ P := by have := Nat.two_pow_pos i; omega
      have P0 : ¬ P = 0 := by omega
      have w1 := tdiv_lit H01.out.1 H01.out.2 hP1
      have w2 := tmod_two (v.tdiv P)
      have e1 : IntKind.i64.wrap (v.tdiv P) = v.tdiv P := IntWalk.i64_in _ (by omega)
      have e2 : (v.tdiv P).tmod 2 = want v i := want_text hP
      rw [← hP] at KP
      obtain ⟨tg, htg⟩ : ∃ tg, tg = treeG M t a n v j := ⟨_, rfl⟩
      rw [← htg] at K hb t3 HST ⊢
      obtain ⟨wv, hwv⟩ : ∃ wv, wv = want v i := ⟨_, rfl⟩
      rw [← hwv] at K hb HST e2
      obtain ⟨bb, hbb⟩ : ∃ bb, bb = (bitP M tg.t (a + tg.m) wv).1 := ⟨_, rfl⟩
      rw [← hbb] at K hb
      have e3 : IntKind.i64.wrap wv = wv := IntWalk.i64_in _ (by omega)
      obtain ⟨ad, had⟩ : ∃ ad, ad = a + tg.m := ⟨_, rfl⟩
      rw [← had] at K hbb
      obtain ⟨m2, hm2⟩ : ∃ m2, m2 = 2 * tg.m + bb := ⟨_, rfl⟩
      have HM2 := Lib.hid (show (tgStep M a j wv tg).m = m2 by rw [hm2, hbb, had]; rfl)
      have e4 : IntKind.i64.wrap (2 * (tg.m : Int)) = 2 * (tg.m : Int) := IntWalk.i64_in _ (by omega)
      have e5 : IntKind.i64.wrap ((a : Int) + (tg.m : Int)) = (ad : Int) := by rw [show (a : Int) + (tg.m : Int) = (ad : Int) by omega]; exact IntWalk.i64_in _ (by omega)
      have e6 : IntKind.i64.wrap (2 * (tg.m : Int) + (bb : Int)) = (m2 : Int) := by rw [show 2 * (tg.m : Int) + (bb : Int) = (m2 : Int) by omega]; exact IntWalk.i64_in _ (by omega)
      have hi8 : i ≤ 8 := by have := HN.out; omega
      have e7 : IntKind.i64.wrap ((i : Int) - 1) = (i : Int) - 1 := IntWalk.i64_in _ (by omega)
      have ii : (i : Int) ≥ 0 := by omega
      have HK := Lib.hid K
      have HI := Lib.hid hi
      have HAD := Lib.hid had
      have HJ := Lib.hid (show j < n from hlt)
      clear K hb hstep t1 t2 t3 hp8 hpj hpj2 hL hA hP hP1 w1 w2 htg hwv hbb hz hi hj hlt hiv had hm2 hi8
      go_wp2_with fail
      refine (KP.out _).mono ?_
      rintro e w2 ⟨rfl, rfl⟩
      clear KP
      go_wp2_with fail
      refine HK.out.mono ?_
      rintro e w3 ⟨rfl, hz3⟩
      have HZ3 := Lib.hid hz3
      clear hz3 HK e1 e2 e3 e4 e5
      go_wp2_with fail
      go_roundw
      case rel =>
        refine ⟨j + 1, (i : Int) - 1, by have := HJ.out; omega, rfl, by have := HI.out; have := HJ.out; omega, ?_, ?_⟩
        · rw [HST.out, HM2.out]
        · rw [HST.out]
          have hz := HZ3.out
          rw [HAD.out] at hz
          exact hz
      case measure => first | (simp [intOf]; done) | (simp [intOf]; omega)
    · obtain rfl : j = n := by omega
      have iin : ¬ iv ≥ 0 := by omega
      have KP := Lib.hid (power_any (show j ≤ 40 by have := HN.out; omega))
      obtain ⟨P, hP⟩ : ∃ P, P = 2 ^ j := ⟨_, rfl⟩
      have HTP := Lib.hid (show (treeP M t a j v).1 = (treeG M t a j v j).m - P by rw [hP]; rfl)
      rw [← hP] at KP t2 hp8 hpj
      obtain ⟨mm, hmm⟩ : ∃ mm, mm = (treeG M t a j v j).m - P := ⟨_, rfl⟩
      have HTP := Lib.hid (show (treeP M t a j v).1 = mm by rw [hmm]; exact HTP.out)
      have e1 : IntKind.i64.wrap ((((treeG M t a j v j).m : Nat) : Int) - (P : Int)) = (mm : Int) := by
        rw [show (((treeG M t a j v j).m : Nat) : Int) - (P : Int) = (mm : Int) by omega]
        exact IntWalk.i64_in _ (by omega)
      have HZ := Lib.hid hz
      clear hz t1 t2 t3 hp8 hpj hlt hj hiv hP hmm
      go_wp2_with fail
      refine (KP.out _).mono ?_
      rintro e w2 ⟨rfl, rfl⟩
      go_wp2_with fail
      go_ret
      refine ⟨?_, HZ.out⟩
      rw [HTP.out]
      rfl
end
end Go.Proofs.YtiolfjhddbiglaaGreatDoor

/-
  The reference of LZMA: trees the other way round, straight bits on the way, the byte at a distance.
-/
namespace Go.Proofs.YtiolfjhddbiglaaGreatDoor
open Go.RowKit

section
variable {σ : Type} {M : Mach σ} {ok : Nat → σ → Prop} {R : Nat → Prop} {K : World → Value → Value → (Nat → Prop) → σ → Prop} {w : World} {g : Nat} {G : Nat → Prop} {z : Lzs} {t : Pm σ}

theorem ZAt.str (Z : ZOps M ok R K) {w0 : World} {G0 : Nat → Prop} (h : ZAt R K w0 G0 w g z t) {L k n v : Nat} (ht : PmOk ok L (k + 1) t) (hn : n ≤ 26) (hv : v < 4294967296) (hv2 : M.enc = true → v < 2 ^ n) :
    Calls Tryz.prog 85 #[.pointer (some ⟨g, 0, none⟩), .int .i64 (n : Int), .int .u32 (v : Int)] w fun x w' => x = .returned (.int .u32 ((M.str t.x n v).1 : Int)) ∧ ZAt R K w0 G0 w' g z ⟨t.ps, (M.str t.x n v).2⟩ := by
  obtain ⟨G, hz, hN, hO⟩ := h
  exact (Z.str hz ht hn hv hv2).mono fun _ _ hp => ZAt.next hN hO hp
theorem ZAt.drewN (Z : ZOps M ok R K) {w0 : World} {G0 : Nat → Prop} (h : ZAt R K w0 G0 w g z t) (n : Nat) : ZAt R K w0 G0 (w.drewN n) g z t := by
  obtain ⟨G, hz, hN, hO⟩ := h
  exact ⟨G, hz.only Z.mem ((Only.refl (fun _ => False) w).drewN n) (fun _ _ h => h) (fun _ _ h => h), hN, hO.drewN n⟩

set_option maxHeartbeats 4000000 in
theorem zrev_any (Z : ZOps M ok R K) {w0 : World} {G0 : Nat → Prop} {L k a n : Nat} {v : Int} (h : ZAt R K w0 G0 w g z t) (ht : PmOk ok L (k + n) t) (ha : a + 2 ^ n ≤ L) (hL : L ≤ 100000000) (hn : n ≤ 8) (hv : M.mayN v) (h0 : -9223372036854775807 ≤ v) (h1 : v ≤ 9223372036854775807) :
    Calls Tryz.prog 84 #[.pointer (some ⟨g, 0, none⟩), .int .i64 (a : Int), .int .i64 (n : Int), .int .i64 v] w fun x w' => x = .returned (.int .i64 ((revP M t a n v).1 : Int)) ∧ ZAt R K w0 G0 w' g z (revP M t a n v).2 := by
  have HT := Lib.hid ht
  have HA := Lib.hid ha
  have HL := Lib.hid hL
  have HN := Lib.hid hn
  have HV := Lib.hid hv
  have H01 := Lib.hid (show -9223372036854775807 ≤ v ∧ v ≤ 9223372036854775807 from ⟨h0, h1⟩)
  have HZ := Lib.hid h
  clear ht ha hL hn hv h0 h1 h
  go_enter Tryz.func84, Tryz.ntmps84
  go_wp2_with fail
  go_loopw [9, 10, 11] (fun m o i wr => ∃ (j : Nat), j ≤ n ∧ i = .int .i64 (j : Int) ∧ m = .int .i64 (((revG M t a v j).m : Nat) : Int) ∧ o = .int .i64 (((revG M t a v j).o : Nat) : Int) ∧ ZAt R K w0 G0 wr g z (revG M t a v j).t) (fun _ _ i _ => n - (intOf i).toNat)
  case atStart => exact ⟨0, Nat.zero_le _, rfl, rfl, rfl, HZ.out⟩
  case round =>
    clear HZ
    obtain ⟨j, hj, rfl, rfl, rfl, hz⟩ := hrel
    obtain ⟨t1, t2, t3, t4⟩ := revG_ok Z.okm HT.out HA.out HV.out j hj
    have hp8 : 2 ^ n ≤ 256 := pow8 HN.out
    by_cases hlt : j < n
    · have hpj2 : 2 ^ (j + 1) ≤ 2 ^ n := Nat.pow_le_pow_right (by omega) hlt
      have hpj0 : 2 ^ j ≤ 2 ^ (j + 1) := Nat.pow_le_pow_right (by omega) (by omega)
      have hL := HL.out
      have hA := HA.out
      have hstep : revG M t a v (j + 1) = tgStep M a j (want v j) (revG M t a v j) := rfl
      have K := ZAt.bit Z hz (k := k + n - (j + 1)) (a := a + (revG M t a v j).m) (b := want v j) (by rw [show k + n - (j + 1) + 1 = k + n - j by omega]; exact t1) (by omega) hL (want_may HV.out _)
      have hb := (bitP_ok Z.okm (k := k + n - (j + 1)) (a := a + (revG M t a v j).m) (w := want v j) (by rw [show k + n - (j + 1) + 1 = k + n - j by omega]; exact t1) (by omega) (want_may HV.out _)).1
      have HST := Lib.hid hstep
      have KP := Lib.hid (power_any (show j ≤ 40 by have := HN.out; omega))
      obtain ⟨Pn, hPn⟩ : ∃ P, P = 2 ^ j := ⟨_, rfl⟩
      obtain ⟨P, hP⟩ : ∃ P : Int, P = (Pn : Int) := ⟨_, rfl⟩
      have hPn1 : 1 ≤ Pn := by rw [hPn]; exact Nat.two_pow_pos j
      have hP1 : 1 ≤ P := by omega
      have P0 : ¬ P = 0 := by omega
      have w1 := tdiv_lit H01.out.1 H01.out.2 hP1
      have w2 := tmod_two (v.tdiv P)
      have e1 : IntKind.i64.wrap (v.tdiv P) = v.tdiv P := IntWalk.i64_in _ (by omega)
      have e2 : (v.tdiv P).tmod 2 = want v j := want_text (by rw [hP, hPn])
      rw [← hPn, ← hP] at KP
      obtain ⟨tg, htg⟩ : ∃ tg, tg = revG M t a v j := ⟨_, rfl⟩
      rw [← htg] at K hb t3 t4 HST ⊢
      obtain ⟨wv, hwv⟩ : ∃ wv, wv = want v j := ⟨_, rfl⟩
      rw [← hwv] at K hb HST e2
      obtain ⟨bb, hbb⟩ : ∃ bb, bb = (bitP M tg.t (a + tg.m) wv).1 := ⟨_, rfl⟩
      rw [← hbb] at K hb
      have e3 : IntKind.i64.wrap wv = wv := IntWalk.i64_in _ (by omega)
      obtain ⟨ad, had⟩ : ∃ ad, ad = a + tg.m := ⟨_, rfl⟩
      rw [← had] at K hbb
      obtain ⟨m2, hm2⟩ : ∃ m2, m2 = 2 * tg.m + bb := ⟨_, rfl⟩
      obtain ⟨bp, hbp⟩ : ∃ bp, bp = bb * Pn := ⟨_, rfl⟩
      have hbp1 : bp ≤ Pn := by rw [hbp]; have := Nat.mul_le_mul_right Pn hb; omega
      obtain ⟨o2, ho2⟩ : ∃ o2, o2 = tg.o + bp := ⟨_, rfl⟩
      have HM2 := Lib.hid (show (tgStep M a j wv tg).m = m2 ∧ (tgStep M a j wv tg).o = o2 by rw [hm2, ho2, hbp, hbb, had, hPn]; exact ⟨rfl, rfl⟩)
      have e4 : IntKind.i64.wrap (2 * (tg.m : Int)) = 2 * (tg.m : Int) := IntWalk.i64_in _ (by omega)
      have e5 : IntKind.i64.wrap ((a : Int) + (tg.m : Int)) = (ad : Int) := by rw [show (a : Int) + (tg.m : Int) = (ad : Int) by omega]; exact IntWalk.i64_in _ (by omega)
      have e6 : IntKind.i64.wrap (2 * (tg.m : Int) + (bb : Int)) = (m2 : Int) := by rw [show 2 * (tg.m : Int) + (bb : Int) = (m2 : Int) by omega]; exact IntWalk.i64_in _ (by omega)
      have e7 : IntKind.i64.wrap ((j : Int) + 1) = (j : Int) + 1 := IntWalk.i64_in _ (by have := HN.out; omega)
      have e8 : IntKind.i64.wrap ((bb : Int) * P) = (bp : Int) := by rw [hP, ← Int.natCast_mul, ← hbp]; exact IntWalk.i64_in _ (by omega)
      have e9 : IntKind.i64.wrap ((tg.o : Int) + (bp : Int)) = (o2 : Int) := by rw [show (tg.o : Int) + (bp : Int) = (o2 : Int) by omega]; exact IntWalk.i64_in _ (by omega)
      have hlt' : (j : Int) < (n : Int) := by omega
      have HK := Lib.hid K
      have HAD := Lib.hid had
      have HJ := Lib.hid (show j < n from hlt)
      clear K hb hstep t1 t2 t3 t4 hp8 hpj2 hpj0 hL hA hP hPn hPn1 hP1 w1 w2 htg hwv hbb hz hj hlt had hm2 hbp hbp1 ho2
      go_wp2_with fail
      refine (KP.out _).mono ?_
      rintro e w2 ⟨rfl, rfl⟩
      go_wp2_with fail
      refine HK.out.mono ?_
      rintro e w3 ⟨rfl, hz3⟩
      have HZ3 := Lib.hid hz3
      clear hz3 HK e1 e2 e3 e5
      go_wp2_with fail
      refine (KP.out _).mono ?_
      rintro e w4 ⟨rfl, rfl⟩
      clear KP
      go_wp2_with fail
      go_roundw
      case rel =>
        refine ⟨j + 1, by have := HJ.out; omega, by go_num, ?_, ?_, ?_⟩
        · rw [HST.out, HM2.out.1]
        · rw [HST.out, HM2.out.2]
        · rw [HST.out]
          have hz := HZ3.out
          rw [HAD.out] at hz
          exact hz
      case measure => simp [intOf]; have := HJ.out; omega
    · obtain rfl : j = n := by omega
      have hirr : ¬ (j : Int) < (j : Int) := by omega
      have HTP := Lib.hid (show (revP M t a j v).1 = (revG M t a v j).o from rfl)
      have HZ := Lib.hid hz
      clear hz t1 t2 t3 t4 hp8 hlt hj
      go_wp2_with fail
      go_ret
      refine ⟨?_, HZ.out⟩
      rw [HTP.out]
      rfl

set_option maxHeartbeats 2000000 in
theorem zback_any {d : Nat} (h : Zz R K w g G z t) (hd : d < 4294967296) (hl : z.out.length ≤ 1000000000) (hdi : z.dict < 4294967296) :
    Calls Tryz.prog 55 #[.pointer (some ⟨g, 0, none⟩), .int .u32 (d : Int)] w fun x w' => x = .returned (.tuple #[.int .u8 ((z.back d).toNat : Int), .bool (z.has d)]) ∧ ∃ k, w.drewN k = w' := by
  obtain ⟨A, c, c7, hS⟩ := h.told
  obtain ⟨_, _, _, c3, _⟩ := h.cells
  have ed : IntKind.i64.wrap (d : Int) = (d : Int) := IntWalk.i64_in _ (by omega)
  clear h
  by_cases h1 : d < z.out.length
  · by_cases h2 : d < z.dict
    · have hh : z.has d = true := by unfold Lzs.has; simp [h1, h2]
      have hb : z.back d = z.out.getD (z.out.length - 1 - d) 0 := by unfold Lzs.back; rw [if_pos hh]
      obtain ⟨i, hi⟩ : ∃ i, i = z.out.length - 1 - d := ⟨_, rfl⟩
      obtain ⟨b, o, rfl, _, hc⟩ := hS.2 (by omega)
      have cx : w.cell? ⟨b, o + i, none⟩ = some (.int .u8 ((z.back d).toNat : Int)) := by rw [hc i (by omega), bv_get _ _ (by omega), hb, hi]
      have g1 : ¬ (d : Int) ≥ (z.out.length : Int) := by omega
      have g2 : ¬ (d : Int) ≥ (z.dict : Int) := by omega
      have e1 : IntKind.i64.wrap ((z.out.length : Int) - 1) = (z.out.length : Int) - 1 := IntWalk.i64_in _ (by omega)
      have e2 : IntKind.i64.wrap ((z.out.length : Int) - 1 - (d : Int)) = (i : Int) := by rw [show (z.out.length : Int) - 1 - (d : Int) = (i : Int) by omega]; exact IntWalk.i64_in _ (by omega)
      have i0 : (0 : Int) ≤ (i : Int) := by omega
      have i1 : (i : Int) < (z.out.length : Int) := by omega
      rw [hh]
      clear hS hc hi hb hh h1 h2 hd hl hdi
      generalize z.back d = x at *
      generalize z.out.length = n at *
      go_enter Tryz.func55, Tryz.ntmps55
      go_wp2_with fail
      go_quiet (fail)
      go_wp2_with fail
      go_ret2
      exact ⟨rfl, _, rfl⟩
    · have hh : z.has d = false := by unfold Lzs.has; simp; omega
      have hb : z.back d = 0 := by unfold Lzs.back; rw [if_neg (by rw [hh]; simp)]
      have g1 : ¬ (d : Int) ≥ (z.out.length : Int) := by omega
      have g2 : (d : Int) ≥ (z.dict : Int) := by omega
      rw [hh, hb]
      clear hS hb hh h1 h2 hd hl hdi
      generalize z.out.length = n at *
      go_enter Tryz.func55, Tryz.ntmps55
      go_wp2_with fail
      go_ret2
      exact ⟨rfl, 0, rfl⟩
  · have hh : z.has d = false := by unfold Lzs.has; simp; omega
    have hb : z.back d = 0 := by unfold Lzs.back; rw [if_neg (by rw [hh]; simp)]
    have g1 : (d : Int) ≥ (z.out.length : Int) := by omega
    rw [hh, hb]
    clear hS hb hh h1 hd hl hdi
    generalize z.out.length = n at *
    go_enter Tryz.func55, Tryz.ntmps55
    go_wp2_with fail
    go_ret2
    exact ⟨rfl, 0, rfl⟩
end
end Go.Proofs.YtiolfjhddbiglaaGreatDoor

/-
  The reference of LZMA: a length.
-/
namespace Go.Proofs.YtiolfjhddbiglaaGreatDoor
open Go.RowKit

section
variable {σ : Type} {M : Mach σ} {ok : Nat → σ → Prop} {R : Nat → Prop} {K : World → Value → Value → (Nat → Prop) → σ → Prop} {w : World} {g : Nat} {G : Nat → Prop} {z : Lzs} {t : Pm σ}

set_option maxHeartbeats 4000000 in
theorem zlen_any (Z : ZOps M ok R K) {w0 : World} {G0 : Nat → Prop} {L k a s : Nat} {v : Int} (h : ZAt R K w0 G0 w g z t) (ht : PmOk ok L (k + 10) t) (ha : a + 514 ≤ L) (hs : s ≤ 15) (hL : L ≤ 100000000) (hv : M.mayN v) (h0 : -1000000 ≤ v) (h1 : v ≤ 1000000) :
    Calls Tryz.prog 52 #[.pointer (some ⟨g, 0, none⟩), .int .i64 (a : Int), .int .i64 (s : Int), .int .i64 v] w fun x w' => x = .returned (.int .i64 ((lenP M t a s v).1 : Int)) ∧ ZAt R K w0 G0 w' g z (lenP M t a s v).2 := by
  obtain ⟨b1, p1⟩ := bitP_ok Z.okm (k := k + 9) ht (show a < L by omega) (may_min (c := 8) (by decide) hv)
  have K1 := ZAt.bit Z h (k := k + 9) (a := a) (b := min (v.tdiv 8) 1) ht (by omega) hL (may_min (c := 8) (by decide) hv)
  have w8 := tdiv_lit (v := v) (P := 8) (by omega) (by omega) (by decide)
  have w16 := tdiv_lit (v := v) (P := 16) (by omega) (by omega) (by decide)
  have e1 : IntKind.i64.wrap (v.tdiv 8) = v.tdiv 8 := IntWalk.i64_in _ (by omega)
  have e2 : IntKind.i64.wrap (v.tdiv 16) = v.tdiv 16 := IntWalk.i64_in _ (by omega)
  have hdef : lenP M t a s v = lenA M (bitP M t a (min (v.tdiv 8) 1)) a s v := rfl
  rw [hdef]
  obtain ⟨B1, hB1⟩ : ∃ B, B = bitP M t a (min (v.tdiv 8) 1) := ⟨_, rfl⟩
  rw [← hB1] at b1 p1 K1 ⊢
  have HK1 := Lib.hid K1
  have e3 : IntKind.i64.wrap (8 * (s : Int)) = 8 * (s : Int) := IntWalk.i64_in _ (by omega)
  by_cases hb0 : B1.1 = 0
  · obtain ⟨ad, had⟩ : ∃ ad, ad = a + 2 + 8 * s := ⟨_, rfl⟩
    have e4 : IntKind.i64.wrap ((a : Int) + 2) = (a : Int) + 2 := IntWalk.i64_in _ (by omega)
    have e5 : IntKind.i64.wrap ((a : Int) + 2 + 8 * (s : Int)) = (ad : Int) := by rw [show (a : Int) + 2 + 8 * (s : Int) = (ad : Int) by omega]; exact IntWalk.i64_in _ (by omega)
    have hres : lenA M B1 a s v = treeP M B1.2 ad 3 v := by unfold lenA; rw [if_pos hb0, had]
    rw [hres]
    have HP1 := Lib.hid (fun (w1 : World) (hz : ZAt R K w0 G0 w1 g z B1.2) => ztree_any Z hz (k := k) (n := 3) (a := ad) (v := v) (p1.mono Z.okm (show k + 3 ≤ k + 9 by omega)) (by show ad + 8 ≤ L; omega) hL (by decide) hv (by omega) (by omega))
    rw [hb0] at HK1
    clear hres hb0 had hdef hB1 b1 p1 K1 w8 w16 ht ha hs hL hv h0 h1 h
    go_enter Tryz.func52, Tryz.ntmps52
    go_wp2_with fail
    refine HK1.out.mono ?_
    rintro e w1 ⟨rfl, hz1⟩
    have HT := Lib.hid (HP1.out w1 hz1)
    clear hz1 HK1 HP1
    go_wp2_with fail
    refine HT.out.mono ?_
    rintro e w2 ⟨rfl, hz2⟩
    have HZ2 := Lib.hid hz2
    clear hz2 HT
    go_wp2_with fail
    go_ret
    exact ⟨rfl, HZ2.out⟩
  · have hv8 := may_less Z.okm (c := 8) (by decide) hv (by rw [hB1] at hb0; exact hb0)
    obtain ⟨b2, p2⟩ := bitP_ok Z.okm (k := k + 8) p1 (show a + 1 < L by omega) (may_min (c := 16) (by decide) hv)
    have HK2 := Lib.hid (fun (w1 : World) (hz : ZAt R K w0 G0 w1 g z B1.2) => ZAt.bit Z hz (k := k + 8) (a := a + 1) (b := min (v.tdiv 16) 1) p1 (by omega) hL (may_min (c := 16) (by decide) hv))
    have hres : lenA M B1 a s v = lenB M (bitP M B1.2 (a + 1) (min (v.tdiv 16) 1)) a s v := by unfold lenA; rw [if_neg hb0]
    rw [hres]
    have hless : ¬ (bitP M B1.2 (a + 1) (min (v.tdiv 16) 1)).1 = 0 → M.mayN (v - 16) := fun hb => may_less Z.okm (c := 16) (by decide) hv hb
    obtain ⟨B2, hB2⟩ : ∃ B, B = bitP M B1.2 (a + 1) (min (v.tdiv 16) 1) := ⟨_, rfl⟩
    rw [← hB2] at b2 p2 HK2 hless ⊢
    have hb1 : B1.1 = 1 := by omega
    rw [hb1] at HK1
    have f1 : IntKind.i64.wrap ((a : Int) + 1) = ((a + 1 : Nat) : Int) := by rw [show (a : Int) + 1 = ((a + 1 : Nat) : Int) by omega]; exact IntWalk.i64_in _ (by omega)
    obtain ⟨a1, ha1⟩ : ∃ a1, a1 = a + 1 := ⟨_, rfl⟩
    rw [← ha1] at f1 HK2
    by_cases hb20 : B2.1 = 0
    · obtain ⟨ad, had⟩ : ∃ ad, ad = a + 130 + 8 * s := ⟨_, rfl⟩
      have e4 : IntKind.i64.wrap ((a : Int) + 130) = (a : Int) + 130 := IntWalk.i64_in _ (by omega)
      have e5 : IntKind.i64.wrap ((a : Int) + 130 + 8 * (s : Int)) = (ad : Int) := by rw [show (a : Int) + 130 + 8 * (s : Int) = (ad : Int) by omega]; exact IntWalk.i64_in _ (by omega)
      have e6 : IntKind.i64.wrap (v - 8) = v - 8 := IntWalk.i64_in _ (by omega)
      obtain ⟨u, hu⟩ : ∃ u, u = (treeP M B2.2 ad 3 (v - 8)).1 := ⟨_, rfl⟩
      have hres2 : lenB M B2 a s v = (8 + u, (treeP M B2.2 ad 3 (v - 8)).2) := by unfold lenB; rw [if_pos hb20, hu, had]
      rw [hres2]
      have hu8 := (treeP_ok Z.okm (k := k) (n := 3) (a := ad) (p2.mono Z.okm (show k + 3 ≤ k + 8 by omega)) (by show ad + 8 ≤ L; omega) hv8).1
      have HP1 := Lib.hid (fun (w1 : World) (hz : ZAt R K w0 G0 w1 g z B2.2) => ztree_any Z hz (k := k) (n := 3) (a := ad) (v := v - 8) (p2.mono Z.okm (show k + 3 ≤ k + 8 by omega)) (by show ad + 8 ≤ L; omega) hL (by decide) hv8 (by omega) (by omega))
      rw [← hu] at HP1 hu8
      rw [hb20] at HK2
      have e7 : IntKind.i64.wrap (8 + (u : Int)) = ((8 + u : Nat) : Int) := by rw [show 8 + (u : Int) = ((8 + u : Nat) : Int) by omega]; exact IntWalk.i64_in _ (by have : u < 8 := hu8; omega)
      obtain ⟨v8, hv8e⟩ : ∃ v8, v8 = 8 + u := ⟨_, rfl⟩
      rw [← hv8e] at e7 ⊢
      clear hres hres2 hb0 hb1 hb20 had hdef hB1 hB2 b1 b2 p1 p2 K1 w8 w16 ht ha hs hL hv hv8 h0 h1 h hless hu hu8 ha1 hv8e
      go_enter Tryz.func52, Tryz.ntmps52
      go_wp2_with fail
      refine HK1.out.mono ?_
      rintro e w1 ⟨rfl, hz1⟩
      have HT2 := Lib.hid (HK2.out w1 hz1)
      clear hz1 HK1 HK2
      go_wp2_with fail
      refine HT2.out.mono ?_
      rintro e w2 ⟨rfl, hz2⟩
      have HT := Lib.hid (HP1.out w2 hz2)
      clear hz2 HT2 HP1
      go_wp2_with fail
      refine HT.out.mono ?_
      rintro e w3 ⟨rfl, hz3⟩
      have HZ3 := Lib.hid hz3
      clear hz3 HT
      go_wp2_with fail
      go_ret
      exact ⟨rfl, HZ3.out⟩
    · have hv16 := hless hb20
      obtain ⟨ad, had⟩ : ∃ ad, ad = a + 258 := ⟨_, rfl⟩
      have e5 : IntKind.i64.wrap ((a : Int) + 258) = (ad : Int) := by rw [show (a : Int) + 258 = (ad : Int) by omega]; exact IntWalk.i64_in _ (by omega)
      have e6 : IntKind.i64.wrap (v - 16) = v - 16 := IntWalk.i64_in _ (by omega)
      obtain ⟨u, hu⟩ : ∃ u, u = (treeP M B2.2 ad 8 (v - 16)).1 := ⟨_, rfl⟩
      have hres2 : lenB M B2 a s v = (16 + u, (treeP M B2.2 ad 8 (v - 16)).2) := by unfold lenB; rw [if_neg hb20, hu, had]
      rw [hres2]
      have hu8 := (treeP_ok Z.okm (k := k) (n := 8) (a := ad) p2 (by show ad + 256 ≤ L; omega) hv16).1
      have HP1 := Lib.hid (fun (w1 : World) (hz : ZAt R K w0 G0 w1 g z B2.2) => ztree_any Z hz (k := k) (n := 8) (a := ad) (v := v - 16) p2 (by show ad + 256 ≤ L; omega) hL (by decide) hv16 (by omega) (by omega))
      rw [← hu] at HP1 hu8
      have hb21 : B2.1 = 1 := by omega
      rw [hb21] at HK2
      have e7 : IntKind.i64.wrap (16 + (u : Int)) = ((16 + u : Nat) : Int) := by rw [show 16 + (u : Int) = ((16 + u : Nat) : Int) by omega]; exact IntWalk.i64_in _ (by have : u < 256 := hu8; omega)
      obtain ⟨v8, hv8e⟩ : ∃ v8, v8 = 16 + u := ⟨_, rfl⟩
      rw [← hv8e] at e7 ⊢
      clear hres hres2 hb0 hb1 hb20 hb21 had hdef hB1 hB2 b1 b2 p1 p2 K1 w8 w16 ht ha hs hL hv hv8 hv16 h0 h1 h hless hu hu8 ha1 hv8e
      go_enter Tryz.func52, Tryz.ntmps52
      go_wp2_with fail
      refine HK1.out.mono ?_
      rintro e w1 ⟨rfl, hz1⟩
      have HT2 := Lib.hid (HK2.out w1 hz1)
      clear hz1 HK1 HK2
      go_wp2_with fail
      refine HT2.out.mono ?_
      rintro e w2 ⟨rfl, hz2⟩
      have HT := Lib.hid (HP1.out w2 hz2)
      clear hz2 HT2 HP1
      go_wp2_with fail
      refine HT.out.mono ?_
      rintro e w3 ⟨rfl, hz3⟩
      have HZ3 := Lib.hid hz3
      clear hz3 HT
      go_wp2_with fail
      go_ret
      exact ⟨rfl, HZ3.out⟩
end
end Go.Proofs.YtiolfjhddbiglaaGreatDoor

/-
  The reference of LZMA: a literal.
-/
namespace Go.Proofs.YtiolfjhddbiglaaGreatDoor
open Go.RowKit

section
variable {σ : Type} {M : Mach σ} {ok : Nat → σ → Prop} {R : Nat → Prop} {K : World → Value → Value → (Nat → Prop) → σ → Prop} {w : World} {g : Nat} {G : Nat → Prop} {z : Lzs} {t : Pm σ}

theorem ZAt.put (Z : ZOps M ok R K) {w0 : World} {G0 : Nat → Prop} (h : ZAt R K w0 G0 w g z t) {i : Nat} {u : Value} {z' : Lzs} (hz : ∀ Dv Ev p pc A c, (zCells z Dv Ev p t.ps.length pc A z.out.length c).setIfInBounds i u = zCells z' Dv Ev p t.ps.length pc A z.out.length c) (ho : z'.out = z.out) : ZAt R K w0 G0 (w.setCell ⟨g, i, none⟩ u) g z' t := by
  obtain ⟨G, h, hN, hO⟩ := h
  exact ⟨G, h.put Z.mem hz ho, hN, hO.setCell (p := ⟨g, i, none⟩) (by have := hN g h.own; exact this) _⟩
theorem ZAt.cells {w0 : World} {G0 : Nat → Prop} (h : ZAt R K w0 G0 w g z t) : w.cell? ⟨g, 0, none⟩ = some (.int .i64 (z.lc : Int)) ∧ w.cell? ⟨g, 1, none⟩ = some (.int .i64 (z.lp : Int)) ∧ w.cell? ⟨g, 2, none⟩ = some (.int .i64 (z.pb : Int)) ∧ w.cell? ⟨g, 3, none⟩ = some (.int .i64 (z.dict : Int)) ∧
    w.cell? ⟨g, 8, none⟩ = some (.int .i64 (z.st : Int)) ∧ w.cell? ⟨g, 9, none⟩ = some (.int .u32 (z.r0 : Int)) ∧ w.cell? ⟨g, 10, none⟩ = some (.int .u32 (z.r1 : Int)) ∧ w.cell? ⟨g, 11, none⟩ = some (.int .u32 (z.r2 : Int)) ∧ w.cell? ⟨g, 12, none⟩ = some (.int .u32 (z.r3 : Int)) ∧
    w.cell? ⟨g, 13, none⟩ = some (.bool z.ended) ∧ w.cell? ⟨g, 14, none⟩ = some (.bool z.bad) ∧ (∀ i, w.frozen? ⟨g, i, none⟩ = false) := by
  obtain ⟨G, h, _⟩ := h
  exact h.cells
theorem ZAt.back {w0 : World} {G0 : Nat → Prop} (h : ZAt R K w0 G0 w g z t) {d : Nat} (hd : d < 4294967296) (hl : z.out.length ≤ 1000000000) (hdi : z.dict < 4294967296) :
    Calls Tryz.prog 55 #[.pointer (some ⟨g, 0, none⟩), .int .u32 (d : Int)] w fun x w' => x = .returned (.tuple #[.int .u8 ((z.back d).toNat : Int), .bool (z.has d)]) ∧ ∃ k, w.drewN k = w' := by
  obtain ⟨G, h, _⟩ := h
  exact zback_any h hd hl hdi
theorem ZAt.told {w0 : World} {G0 : Nat → Prop} (h : ZAt R K w0 G0 w g z t) : ∃ A c, w.cell? ⟨g, 7, none⟩ = some (.slice A z.out.length c) ∧ Sl w A z.out.length (bv z.out) := by
  obtain ⟨G, h, _⟩ := h
  exact h.told

/-- a literal's bits, on the way -/
def LitRel (R : Nat → Prop) (K : World → Value → Value → (Nat → Prop) → σ → Prop) (M : Mach σ) (w0 : World) (G0 : Nat → Prop) (wr : World) (g : Nat) (z : Lzs) (t : Pm σ) (a : Nat) (o v : UInt8) (same : Bool) (m sm i : Value) : Prop :=
  ∃ (j : Nat) (iv : Int), j ≤ 8 ∧ i = .int .i64 iv ∧ iv + 1 = 8 - (j : Int) ∧ m = .int .i64 (((litG M t a o v same j).m : Nat) : Int) ∧ sm = .bool (litG M t a o v same j).same ∧ ZAt R K w0 G0 wr g z (litG M t a o v same j).t
/-- What a literal leaves. -/
def LitPost (R : Nat → Prop) (K : World → Value → Value → (Nat → Prop) → σ → Prop) (M : Mach σ) (w0 : World) (G0 : Nat → Prop) (g : Nat) (z : Lzs) (t : Pm σ) (v : UInt8) (x : Ending) (w' : World) : Prop :=
  x = .returned (.int .u8 ((UInt8.ofNat (litP M z t v).1).toNat : Int)) ∧ ZAt R K w0 G0 w' g { z with st := litSt z.st } (litP M z t v).2

end
end Go.Proofs.YtiolfjhddbiglaaGreatDoor

/-
  The slots of distances, as numbers; the reference of LZMA reckons them.
-/
namespace Go.Proofs.YtiolfjhddbiglaaGreatDoor
open Go.RowKit

section
variable {σ : Type}
end

set_option maxHeartbeats 1000000 in
theorem slotOf_any {d : Nat} (hd : d < 4294967296) (w : World) : Calls Tryz.prog 83 #[.int .u32 (d : Int)] w fun x w' => x = .returned (.int .i64 ((slotOf d : Nat) : Int)) ∧ w = w' := by
  have HD := Lib.hid hd
  clear hd
  go_enter Tryz.func83, Tryz.ntmps83
  go_wp2_with fail
  go_loopw [0, 3] (fun xv nv wr => ∃ x c : Nat, xv = .int .u32 (x : Int) ∧ nv = .int .i64 (c : Int) ∧ c ≤ 32 ∧ x < 2 ^ (32 - c) ∧ slotGo (32 - c) (x, c) = slotGo 32 (d, 0) ∧ w = wr) (fun xv _ _ => (intOf xv).toNat)
  case atStart => exact ⟨d, 0, rfl, rfl, Nat.zero_le _, HD.out, rfl, rfl⟩
  case round =>
    obtain ⟨x, c, rfl, rfl, hc, hx, hs, hw⟩ := hrel
    subst hw
    have hx32 : 2 ^ (32 - c) ≤ 2 ^ 32 := pow_le_of (by omega)
    by_cases h4 : 4 ≤ x
    · obtain ⟨f, hf⟩ : ∃ f, 32 - c = f + 1 := by
        refine ⟨32 - c - 1, ?_⟩
        rcases Nat.eq_zero_or_pos (32 - c) with h | h
        · rw [h] at hx; simp at hx; omega
        · omega
      obtain ⟨y, hy⟩ : ∃ y, y = x / 2 := ⟨_, rfl⟩
      have hs2 : slotGo (32 - (c + 1)) (y, c + 1) = slotGo 32 (d, 0) := by
        rw [← hs, hf, show 32 - (c + 1) = f by omega]
        show _ = (if 4 ≤ x then slotGo f (x / 2, c + 1) else (x, c))
        rw [if_pos h4, hy]
      have hy2 : y < 2 ^ (32 - (c + 1)) := by rw [hf, Nat.pow_succ] at hx; rw [show 32 - (c + 1) = f by omega]; omega
      have HR := Lib.hid (show c + 1 ≤ 32 ∧ y < 2 ^ (32 - (c + 1)) ∧ slotGo (32 - (c + 1)) (y, c + 1) = slotGo 32 (d, 0) ∧ y < x from ⟨by omega, hy2, hs2, by omega⟩)
      have g4 : (x : Int) ≥ 4 := by omega
      have e1 : (x : Int) / 2 = (y : Int) := by omega
      have e2 : IntKind.u32.wrap (y : Int) = (y : Int) := by simp [IntKind.wrap, IntKind.bits, IntKind.signed]; omega
      have e3 : IntKind.i64.wrap ((c : Int) + 1) = (c : Int) + 1 := IntWalk.i64_in _ (by omega)
      clear hc hx hs hx32 h4 hf hy hs2 hy2
      go_wp2_with fail
      go_roundw
      case rel => exact ⟨y, c + 1, rfl, by go_num, HR.out.1, HR.out.2.1, HR.out.2.2.1, by first | trivial | rfl⟩
      case measure => simp [intOf]; have := HR.out.2.2.2; omega
    · have g4 : ¬ (x : Int) ≥ 4 := by omega
      have hgo : slotGo (32 - c) (x, c) = (x, c) := by
        cases 32 - c with
        | zero => rfl
        | succ f => show (if 4 ≤ x then slotGo f (x / 2, c + 1) else (x, c)) = _; rw [if_neg h4]
      have HS := Lib.hid (show slotOf d = 2 * c + x by unfold slotOf; rw [← hs, hgo])
      have e1 : IntKind.i64.wrap (2 * (c : Int)) = 2 * (c : Int) := IntWalk.i64_in _ (by omega)
      have e2 : IntKind.i64.wrap (x : Int) = (x : Int) := IntWalk.i64_in _ (by omega)
      obtain ⟨u, hu⟩ : ∃ u, u = 2 * c + x := ⟨_, rfl⟩
      have e3 : IntKind.i64.wrap (2 * (c : Int) + (x : Int)) = (u : Int) := by rw [show 2 * (c : Int) + (x : Int) = (u : Int) by omega]; exact IntWalk.i64_in _ (by omega)
      have HU := Lib.hid hu
      clear hc hx hs hx32 h4 hgo hu
      go_wp2_with fail
      go_ret
      refine ⟨?_, by first | trivial | rfl⟩
      rw [HS.out, ← HU.out]
      rfl
end Go.Proofs.YtiolfjhddbiglaaGreatDoor
