/-
  RdRef, RdLevel, RdBit, RdRf, LzDec, LzDecS, RcRefN: put together.
-/
import Derived.Test.YtjgdjobhhdhfjaaGreatRows
import Derived.Test.YtjgdjobhhdhfjaaGreatUa01
import Derived.Test.YtjgdjobhhdhfjaaGreatUa02
import Derived.Tactics
import Derived.Tactics2
import Derived.Laws.Pointers
import Derived.RegionTactic
import Derived.RegionCalls
import Derived.BigQuiet
import Derived.Deep.RegionLaw
import Derived.Test.YtjgdjobhhdhfjaaGreatUa15
import Derived.Deep.RegionHeld3
import Derived.Test.YtjgdjobhhdhfjaaGreatUa14
import Derived.Test.YtjgdjobhhdhfjaaGreatUa04
import Derived.LoopN
set_option linter.unusedVariables false
set_option linter.unusedSimpArgs false
/-
  The reference's decoder: each call a contract.
-/
namespace Go.Proofs.YtjgdjobhhdhfjaaGreat
open Go.RowKit

def decCells (A : Option Addr) (n c at_ r k : Nat) (b : Bool) : Array Value := #[.slice A n c, .int .i64 (at_ : Int), .int .u64 (r : Int), .int .u64 (k : Int), .bool b]

section
variable {g n c at_ r k : Nat} {A : Option Addr} {w : World} {bs : List UInt8} {bad : Bool}

set_option maxHeartbeats 1000000 in
theorem next_bad (hB : Blk w g 79 (decCells A n c at_ r k true)) :
    Calls Tryz.prog 71 #[.pointer (some ⟨g, 0, none⟩)] w fun e w' => e = .returned (.int .u64 0) ∧ Blk w' g 79 (decCells A n c at_ r k true) ∧ w.grownBy w' (some g) := by
  have h1 : w.cell? ⟨g, 1, none⟩ = some (.int .i64 (at_ : Int)) := hB.cell 1
  have h0 : w.cell? ⟨g, 0, none⟩ = some (.slice A n c) := hB.cell 0
  have h4 : w.cell? ⟨g, 4, none⟩ = some (.bool true) := hB.cell 4
  have f4 : w.frozen? ⟨g, 4, none⟩ = false := hB.free 4
  have HB := Lib.hid hB
  clear hB
  go_enter Tryz.func71, Tryz.ntmps71
  go_wp2_with fail
  go_quiet (fail)
  go_wp2_with fail
  go_ret
  exact ⟨rfl, HB.out.put 4 _, only_setCell (only_drewN (World.grownBy.refl w _) _) (.inl rfl) _⟩

set_option maxHeartbeats 1000000 in
theorem next_end (hB : Blk w g 79 (decCells A n c n r k false)) (hn : n ≤ 1000000000) :
    Calls Tryz.prog 71 #[.pointer (some ⟨g, 0, none⟩)] w fun e w' => e = .returned (.int .u64 0) ∧ Blk w' g 79 (decCells A n c n r k true) ∧ w.grownBy w' (some g) := by
  have h1 : w.cell? ⟨g, 1, none⟩ = some (.int .i64 (n : Int)) := hB.cell 1
  have h0 : w.cell? ⟨g, 0, none⟩ = some (.slice A n c) := hB.cell 0
  have h4 : w.cell? ⟨g, 4, none⟩ = some (.bool false) := hB.cell 4
  have f4 : w.frozen? ⟨g, 4, none⟩ = false := hB.free 4
  have HB := Lib.hid hB
  clear hB
  go_enter Tryz.func71, Tryz.ntmps71
  go_wp2_with fail
  go_quiet (fail)
  go_wp2_with fail
  go_ret
  exact ⟨rfl, HB.out.put 4 _, only_setCell (only_drewN (World.grownBy.refl w _) _) (.inl rfl) _⟩

set_option maxHeartbeats 1000000 in
theorem next_ok {b o : Nat} {x : UInt8} (hB : Blk w g 79 (decCells (some ⟨b, o, none⟩) n c at_ r k false)) (ha : at_ < n) (hn : n ≤ 1000000000) (hx : w.cell? ⟨b, o + at_, none⟩ = some (.int .u8 (x.toNat : Int))) (hne : b ≠ g) :
    Calls Tryz.prog 71 #[.pointer (some ⟨g, 0, none⟩)] w fun e w' => e = .returned (.int .u64 (x.toNat : Int)) ∧ Blk w' g 79 (decCells (some ⟨b, o, none⟩) n c (at_ + 1) r k false) ∧ w.grownBy w' (some g) := by
  have h1 : w.cell? ⟨g, 1, none⟩ = some (.int .i64 (at_ : Int)) := hB.cell 1
  have h0 : w.cell? ⟨g, 0, none⟩ = some (.slice (some ⟨b, o, none⟩) n c) := hB.cell 0
  have h4 : w.cell? ⟨g, 4, none⟩ = some (.bool false) := hB.cell 4
  have f1 : w.frozen? ⟨g, 1, none⟩ = false := hB.free 1
  have hlt : ¬ (at_ : Int) ≥ (n : Int) := by omega
  have hi0 : (0 : Int) ≤ (at_ : Int) := by omega
  have hi1 : (at_ : Int) < (n : Int) := by omega
  have e1 : IntKind.i64.wrap ((at_ : Int) + 1) = (at_ : Int) + 1 := IntWalk.i64_in _ (by omega)
  have e2 : IntKind.i64.wrap ((at_ : Int) + 1 - 1) = (at_ : Int) := by rw [show (at_ : Int) + 1 - 1 = at_ by omega]; exact IntWalk.i64_in _ (by omega)
  have hxl := x.toNat_lt
  have HB := Lib.hid hB
  clear hB
  go_enter Tryz.func71, Tryz.ntmps71
  go_wp2_with fail
  go_quiet (fail)
  go_wp2_with fail
  have hB2 : Blk ((w.drewN nq).setCell ⟨g, 1, none⟩ (.int .i64 ((at_ : Int) + 1))) g 79 (decCells (some ⟨b, o, none⟩) n c (at_ + 1) r k false) := by
    have := Blk.put (w := w.drewN nq) HB.out 1 (.int .i64 ((at_ : Int) + 1))
    rw [← show ((at_ + 1 : Nat) : Int) = (at_ : Int) + 1 by omega] at this ⊢
    exact this
  have hg2 : w.grownBy ((w.drewN nq).setCell ⟨g, 1, none⟩ (.int .i64 ((at_ : Int) + 1))) (some g) := only_setCell (only_drewN (World.grownBy.refl w _) _) (.inl rfl) _
  have hx2 : ((w.drewN nq).setCell ⟨g, 1, none⟩ (.int .i64 ((at_ : Int) + 1))).cell? ⟨b, o + at_, none⟩ = some (.int .u8 (x.toNat : Int)) := by
    rw [World.cell?_setCell_other _ _ _ _ (by first | (simp; done) | (simp; omega))]
    exact hx
  generalize (w.drewN nq).setCell ⟨g, 1, none⟩ (.int .i64 ((at_ : Int) + 1)) = w2 at hB2 hg2 hx2 ⊢
  have j0 : w2.cell? ⟨g, 0, none⟩ = some (.slice (some ⟨b, o, none⟩) n c) := hB2.cell 0
  have j1 : w2.cell? ⟨g, 1, none⟩ = some (.int .i64 ((at_ : Int) + 1)) := (hB2.cell 1).trans rfl
  have HB2 := Lib.hid hB2
  have HG2 := Lib.hid hg2
  clear hB2 hg2 h0 h1 h4 f1 hx HB
  go_quiet (fail)
  go_wp2_with fail
  go_ret
  exact ⟨rfl, HB2.out, only_drewN HG2.out _⟩
end

/-- Block g is a decoder of the reference over bs; what lies in the source's memory is apart from it. -/
def DecAt (w : World) (g : Nat) (lo : Nat → Prop) (bs : List UInt8) (d : Dc) : Prop :=
  ∃ A c at_ r k bad, Blk w g 79 (decCells A bs.length c at_ r k bad) ∧ Sl w A bs.length (bv bs) ∧ bs.length ≤ c ∧ c ≤ maxLen ∧ at_ ≤ bs.length ∧ (0 < bs.length → ∀ b o, A = some ⟨b, o, none⟩ → lo b ∧ b ≠ g) ∧
    r < 4294967296 ∧ k < 4294967296 ∧ ((bad = true ∧ d = none) ∨ (bad = false ∧ d = some (r, k, bs.drop at_)))

/-- A byte is asked for: the rest of the decoder stays. -/
theorem next_any {g c at_ r k : Nat} {A : Option Addr} {w : World} {bs : List UInt8} {bad : Bool} (hB : Blk w g 79 (decCells A bs.length c at_ r k bad)) (hS : Sl w A bs.length (bv bs)) (ha : at_ ≤ bs.length) (hn : bs.length ≤ 1000000000)
    (hne : 0 < bs.length → ∀ b o, A = some ⟨b, o, none⟩ → b ≠ g) :
    Calls Tryz.prog 71 #[.pointer (some ⟨g, 0, none⟩)] w fun e w' =>
      (∃ x t, bad = false ∧ bs.drop at_ = x :: t ∧ e = .returned (.int .u64 (x.toNat : Int)) ∧ Blk w' g 79 (decCells A bs.length c (at_ + 1) r k false) ∧ at_ + 1 ≤ bs.length ∧ bs.drop (at_ + 1) = t ∧ w.grownBy w' (some g)) ∨
      ((bad = true ∨ bs.drop at_ = []) ∧ e = .returned (.int .u64 0) ∧ Blk w' g 79 (decCells A bs.length c at_ r k true) ∧ w.grownBy w' (some g)) := by
  cases bad
  · by_cases hlt : at_ < bs.length
    · obtain ⟨b, o, rfl, hb, hc⟩ := hS.2 (by omega)
      have hd : bs.drop at_ = bs[at_] :: bs.drop (at_ + 1) := List.drop_eq_getElem_cons hlt
      refine (next_ok (x := bs[at_]) hB hlt hn ?_ (hne (by omega) b o rfl)).mono ?_
      · rw [hc at_ hlt, bv_get _ _ hlt]
        simp [List.getD, hlt]
      · rintro e w' ⟨rfl, h1, h2⟩
        exact .inl ⟨_, _, rfl, hd, rfl, h1, hlt, rfl, h2⟩
    · obtain rfl : at_ = bs.length := by omega
      refine (next_end hB hn).mono ?_
      rintro e w' ⟨rfl, h1, h2⟩
      exact .inr ⟨.inr (by simp), rfl, h1, h2⟩
  · refine (next_bad hB).mono ?_
    rintro e w' ⟨rfl, h1, h2⟩
    exact .inr ⟨.inl rfl, rfl, h1, h2⟩
end Go.Proofs.YtjgdjobhhdhfjaaGreat

/-
  The reference's decoder is evened out.
-/
namespace Go.Proofs.YtjgdjobhhdhfjaaGreat
open Go.RowKit

section
variable {g n c at_ r k : Nat} {A : Option Addr} {w : World} {bad : Bool}

set_option maxHeartbeats 1000000 in
theorem level_high (hB : Blk w g 79 (decCells A n c at_ r k bad)) (hr : ¬ r < 16777216) :
    Calls Tryz.prog 155 #[.pointer (some ⟨g, 0, none⟩)] w fun e w' => e = .returned (.tuple #[]) ∧ w = w' := by
  have h2 : w.cell? ⟨g, 2, none⟩ = some (.int .u64 (r : Int)) := hB.cell 2
  have hr' : ¬ (r : Int) < 16777216 := by omega
  clear hB
  go_enter Tryz.func155, Tryz.ntmps155
  go_wp2_with fail
  first | go_end0 | refine bodyPost_ret (results_none rfl _ _ _) rfl ?_
  exact ⟨rfl, rfl⟩

set_option maxHeartbeats 2000000 in
theorem level_low {x at' : Nat} {bad' : Bool} (hB : Blk w g 79 (decCells A n c at_ r k bad)) (hr : r < 16777216) (hk : k < 4294967296) (hx : x < 256)
    (K : ∀ W, w.grownBy W (some g) → Blk W g 79 (decCells A n c at_ (r * 256) k bad) → Calls Tryz.prog 71 #[.pointer (some ⟨g, 0, none⟩)] W fun e w' =>
      e = .returned (.int .u64 (x : Int)) ∧ Blk w' g 79 (decCells A n c at' (r * 256) k bad') ∧ W.grownBy w' (some g)) :
    Calls Tryz.prog 155 #[.pointer (some ⟨g, 0, none⟩)] w fun e w' =>
      e = .returned (.tuple #[]) ∧ Blk w' g 79 (decCells A n c at' (r * 256) ((k * 256 + x) % 4294967296) bad') ∧ w.grownBy w' (some g) := by
  have h2 : w.cell? ⟨g, 2, none⟩ = some (.int .u64 (r : Int)) := hB.cell 2
  have f2 : w.frozen? ⟨g, 2, none⟩ = false := hB.free 2
  have hr' : (r : Int) < 16777216 := by omega
  have e1 : IntKind.u64.wrap ((r : Int) * 256) = (r : Int) * 256 := by rw [show (r : Int) * 256 = ((r * 256 : Nat) : Int) by omega]; exact u64_in _ (by omega)
  have e2 : IntKind.u64.wrap ((k : Int) * 256) = (k : Int) * 256 := by rw [show (k : Int) * 256 = ((k * 256 : Nat) : Int) by omega]; exact u64_in _ (by omega)
  have e3 : IntKind.u64.wrap ((k : Int) * 256 + (x : Int)) = (k : Int) * 256 + (x : Int) := by rw [show (k : Int) * 256 + (x : Int) = ((k * 256 + x : Nat) : Int) by omega]; exact u64_in _ (by omega)
  have HB := Lib.hid hB
  have HK := Lib.hid K
  clear hB K
  go_enter Tryz.func155, Tryz.ntmps155
  go_wp2_with fail
  have hB2 : Blk (w.setCell ⟨g, 2, none⟩ (.int .u64 ((r : Int) * 256))).drew g 79 (decCells A n c at_ (r * 256) k bad) := by
    have := HB.out.put 2 (.int .u64 ((r : Int) * 256))
    rw [← show ((r * 256 : Nat) : Int) = (r : Int) * 256 by omega] at this ⊢
    exact this
  have hg2 : w.grownBy (w.setCell ⟨g, 2, none⟩ (.int .u64 ((r : Int) * 256))).drew (some g) := only_drewN (only_setCell (World.grownBy.refl w _) (.inl rfl) _) 1
  have j3 : (w.setCell ⟨g, 2, none⟩ (.int .u64 ((r : Int) * 256))).cell? ⟨g, 3, none⟩ = some (.int .u64 (k : Int)) := hB2.cell 3
  have HK2 := Lib.hid (HK.out _ hg2 hB2)
  have HG2 := Lib.hid hg2
  clear hB2 hg2 HK HB h2 f2
  generalize w.setCell ⟨g, 2, none⟩ (.int .u64 ((r : Int) * 256)) = w2 at *
  go_region_law (first | (go_simp; go_at_call 71; refine HK2.out.mono ?_; rintro e w3 ⟨rfl, hB3, hg3⟩; have k3 : w3.cell? ⟨g, 3, none⟩ = some (.int .u64 (k : Int)) := hB3.cell 3; have z3 : w3.frozen? ⟨g, 3, none⟩ = false := hB3.free 3; have HB3 := Lib.hid hB3; have HG3 := Lib.hid hg3; clear hB3 hg3))
  all_goals
    try go_wp2_with fail
    first | go_end0 | refine bodyPost_ret (results_none rfl _ _ _) rfl ?_
    have em : ((k : Int) * 256 + (x : Int)).tmod 4294967296 = (((k * 256 + x) % 4294967296 : Nat) : Int) := by
      rw [show (k : Int) * 256 + (x : Int) = ((k * 256 + x : Nat) : Int) by omega, Int.tmod_eq_emod_of_nonneg (by omega)]
      omega
    rw [em]
    exact ⟨rfl, HB3.out.put 3 _, only_setCell (only_trans HG2.out HG3.out) (.inl rfl) _⟩
end

/-- A decoder's cells are those of a state d. -/
def Tells (bs : List UInt8) (d : Dc) (at_ r k : Nat) (bad : Bool) : Prop :=
  at_ ≤ bs.length ∧ r < 4294967296 ∧ k < 4294967296 ∧ ((bad = true ∧ d = none) ∨ (bad = false ∧ d = some (r, k, bs.drop at_)))

theorem level_any {g c at_ r k : Nat} {A : Option Addr} {w : World} {bs : List UInt8} {bad : Bool} (hB : Blk w g 79 (decCells A bs.length c at_ r k bad)) (hS : Sl w A bs.length (bv bs)) (ha : at_ ≤ bs.length) (hn : bs.length ≤ 1000000000)
    (hne : 0 < bs.length → ∀ b o, A = some ⟨b, o, none⟩ → b ≠ g) (hr : r < 4294967296) (hk : k < 4294967296) (hkr : bad = false → k < r) :
    Calls Tryz.prog 155 #[.pointer (some ⟨g, 0, none⟩)] w fun e w' =>
      e = .returned (.tuple #[]) ∧ ∃ at' r' k' bad', Blk w' g 79 (decCells A bs.length c at' r' k' bad') ∧ Tells bs (if bad = true then none else lvl r k (bs.drop at_)) at' r' k' bad' ∧ w.grownBy w' (some g) := by
  by_cases hlow : r < 16777216
  · cases bad
    · by_cases hlt : at_ < bs.length
      · have hd : bs.drop at_ = bs[at_] :: bs.drop (at_ + 1) := List.drop_eq_getElem_cons hlt
        have hx := (bs[at_]).toNat_lt
        have hkr' := hkr rfl
        refine (level_low (x := (bs[at_]).toNat) (at' := at_ + 1) (bad' := false) hB hlow hk (by omega) ?_).mono ?_
        · intro W hg hW
          obtain ⟨b, o, rfl, hb, hc⟩ := (hS.grown hg hne).2 (by omega)
          refine next_ok (x := bs[at_]) hW hlt hn ?_ (hne (by omega) b o rfl)
          rw [hc at_ hlt, bv_get _ _ hlt]
          simp [List.getD, hlt]
        · rintro e w' ⟨rfl, h1, h2⟩
          refine ⟨rfl, _, _, _, _, h1, ⟨hlt, by omega, by omega, .inr ⟨rfl, ?_⟩⟩, h2⟩
          rw [if_neg (by simp), hd]
          unfold lvl
          rw [if_pos hlow]
          show some _ = some _
          rw [Nat.mod_eq_of_lt (by omega)]
      · obtain rfl : at_ = bs.length := by omega
        refine (level_low (x := 0) (at' := bs.length) (bad' := true) hB hlow hk (by omega) (fun W _ hW => next_end hW hn)).mono ?_
        rintro e w' ⟨rfl, h1, h2⟩
        refine ⟨rfl, _, _, _, _, h1, ⟨Nat.le_refl _, by omega, by omega, .inl ⟨rfl, ?_⟩⟩, h2⟩
        rw [if_neg (by simp), List.drop_length]
        unfold lvl
        rw [if_pos hlow]
    · refine (level_low (x := 0) (at' := at_) (bad' := true) hB hlow hk (by omega) (fun W _ hW => next_bad hW)).mono ?_
      rintro e w' ⟨rfl, h1, h2⟩
      exact ⟨rfl, _, _, _, _, h1, ⟨ha, by omega, by omega, .inl ⟨rfl, if_pos rfl⟩⟩, h2⟩
  · refine (level_high hB hlow).mono ?_
    rintro e w' ⟨rfl, rfl⟩
    refine ⟨rfl, at_, r, k, bad, hB, ⟨ha, hr, hk, ?_⟩, World.grownBy.refl w _⟩
    cases bad
    · right
      refine ⟨rfl, ?_⟩
      rw [if_neg (by simp)]
      unfold lvl
      rw [if_neg hlow]
    · exact .inl ⟨rfl, if_pos rfl⟩
end Go.Proofs.YtjgdjobhhdhfjaaGreat

/-
  The reference's decoder tells a bit.
-/
namespace Go.Proofs.YtjgdjobhhdhfjaaGreat
open Go.RowKit

section
variable {g c at_ r k p : Nat} {A : Option Addr} {w : World} {bs : List UInt8}

set_option maxHeartbeats 1000000 in
theorem rbit_bad {n : Nat} (hB : Blk w g 79 (decCells A n c at_ r k true)) :
    Calls Tryz.prog 145 #[.pointer (some ⟨g, 0, none⟩), .int .u16 (p : Int)] w fun e w' => e = .returned (.tuple #[.int .i64 0, .int .u16 (p : Int)]) ∧ w = w' := by
  have h4 : w.cell? ⟨g, 4, none⟩ = some (.bool true) := hB.cell 4
  clear hB
  go_enter Tryz.func145, Tryz.ntmps145
  go_wp2_with fail
  go_ret2
  exact ⟨rfl, rfl⟩

theorem wrap_u16 (x : Int) (h : 0 ≤ x ∧ x < 65536) : IntKind.u16.wrap x = x := by
  simp [IntKind.wrap, IntKind.bits, IntKind.signed]
  omega

set_option maxHeartbeats 2000000 in
theorem rbit_zero {z : Nat} (hz : z = r / 2048 * p) (hB : Blk w g 79 (decCells A bs.length c at_ r k false)) (hS : Sl w A bs.length (bv bs)) (ha : at_ ≤ bs.length) (hn : bs.length ≤ 1000000000)
    (hne : 0 < bs.length → ∀ b o, A = some ⟨b, o, none⟩ → b ≠ g) (hr0 : 16777216 ≤ r) (hr : r < 4294967296) (hp : POk p) (hlt : k < z) :
    Calls Tryz.prog 145 #[.pointer (some ⟨g, 0, none⟩), .int .u16 (p : Int)] w fun e w' => e = .returned (.tuple #[.int .i64 0, .int .u16 (up0 p : Int)]) ∧
      ∃ at' r' k' bad', Blk w' g 79 (decCells A bs.length c at' r' k' bad') ∧ Tells bs (lvl z k (bs.drop at_)) at' r' k' bad' ∧ w.grownBy w' (some g) := by
  obtain ⟨b0, b1⟩ := bound_in hr0 hr hp
  rw [← hz] at b0 b1
  obtain ⟨p0, p1⟩ := hp
  have h2 : w.cell? ⟨g, 2, none⟩ = some (.int .u64 (r : Int)) := hB.cell 2
  have h3 : w.cell? ⟨g, 3, none⟩ = some (.int .u64 (k : Int)) := hB.cell 3
  have h4 : w.cell? ⟨g, 4, none⟩ = some (.bool false) := hB.cell 4
  have f2 : w.frozen? ⟨g, 2, none⟩ = false := hB.free 2
  have e1 : IntKind.u64.wrap ((r : Int) / 2048 * (p : Int)) = (z : Int) := by
    rw [show (r : Int) / 2048 * (p : Int) = (z : Int) by rw [hz]; simp]
    exact u64_in _ (by omega)
  have hlt' : (k : Int) < (z : Int) := by omega
  clear hz
  have e2 : IntKind.u16.wrap (2048 - (p : Int)) = 2048 - (p : Int) := wrap_u16 _ (by omega)
  obtain ⟨u, hu⟩ : ∃ u, u = (2048 - p) / 32 := ⟨_, rfl⟩
  have e3 : IntKind.u16.wrap ((2048 - (p : Int)).tdiv 32) = (u : Int) := by
    rw [Int.tdiv_eq_ediv_of_nonneg (by omega), show (2048 - (p : Int)) / 32 = (u : Int) by omega]
    exact wrap_u16 _ (by omega)
  have e5 : IntKind.u16.wrap ((p : Int) + (u : Int)) = (p : Int) + (u : Int) := wrap_u16 _ (by omega)
  have HUP := Lib.hid (show ((up0 p : Nat) : Int) = (p : Int) + (u : Int) by unfold up0; omega)
  clear hu
  have hg1 : w.grownBy (w.setCell ⟨g, 2, none⟩ (.int .u64 (z : Int))) (some g) := only_setCell (World.grownBy.refl w _) (.inl rfl) _
  have K := Lib.hid (level_any (hB.put 2 (.int .u64 (z : Int)) : Blk _ g 79 (decCells A bs.length c at_ z k false)) (hS.grown hg1 hne) ha hn hne (by omega) (by omega) (fun _ => hlt))
  have HG1 := Lib.hid hg1
  clear hB hS hne hg1
  go_enter Tryz.func145, Tryz.ntmps145
  go_wp2_with fail
  refine K.out.mono ?_
  rintro e w1 ⟨rfl, at', r', k', bad', hB1, ht, hg⟩
  have HB1 := Lib.hid hB1
  have HT := Lib.hid ht
  have HG := Lib.hid hg
  clear hB1 ht hg
  go_wp2_with fail
  go_ret2
  refine ⟨?_, at', r', k', bad', HB1.out, ?_, only_trans HG1.out HG.out⟩
  · rw [HUP.out]
    rfl
  · have := HT.out
    rwa [if_neg (by simp)] at this

/-- What a bit leaves: behind a definition, so that no walk looks into it. -/
def BitPost (w : World) (g c : Nat) (A : Option Addr) (bs : List UInt8) (b q : Nat) (d : Dc) (e : Ending) (w' : World) : Prop :=
  e = .returned (.tuple #[.int .i64 (b : Int), .int .u16 (q : Int)]) ∧ ∃ at' r' k' bad', Blk w' g 79 (decCells A bs.length c at' r' k' bad') ∧ Tells bs d at' r' k' bad' ∧ w.grownBy w' (some g)

set_option maxHeartbeats 2000000 in
theorem rbit_one {z b : Nat} {d1 : Dc} (hd1 : lvl (r - z) (k - z) (bs.drop at_) = d1) (hb1 : b = if d1 = none then 0 else 1) (hz : z = r / 2048 * p) (hB : Blk w g 79 (decCells A bs.length c at_ r k false)) (hS : Sl w A bs.length (bv bs)) (ha : at_ ≤ bs.length) (hn : bs.length ≤ 1000000000)
    (hne : 0 < bs.length → ∀ b o, A = some ⟨b, o, none⟩ → b ≠ g) (hr0 : 16777216 ≤ r) (hr : r < 4294967296) (hk : k < r) (hp : POk p) (hlt : ¬ k < z) :
    Calls Tryz.prog 145 #[.pointer (some ⟨g, 0, none⟩), .int .u16 (p : Int)] w (BitPost w g c A bs b (up1 p) d1) := by
  obtain ⟨b0, b1⟩ := bound_in hr0 hr hp
  rw [← hz] at b0 b1
  obtain ⟨p0, p1⟩ := hp
  have h2 : w.cell? ⟨g, 2, none⟩ = some (.int .u64 (r : Int)) := hB.cell 2
  have h3 : w.cell? ⟨g, 3, none⟩ = some (.int .u64 (k : Int)) := hB.cell 3
  have h4 : w.cell? ⟨g, 4, none⟩ = some (.bool false) := hB.cell 4
  have f2 : w.frozen? ⟨g, 2, none⟩ = false := hB.free 2
  have f3 : w.frozen? ⟨g, 3, none⟩ = false := hB.free 3
  have e1 : IntKind.u64.wrap ((r : Int) / 2048 * (p : Int)) = (z : Int) := by
    rw [show (r : Int) / 2048 * (p : Int) = (z : Int) by rw [hz]; simp]
    exact u64_in _ (by omega)
  have hlt' : ¬ (k : Int) < (z : Int) := by omega
  clear hz
  have e2 : IntKind.u64.wrap ((k : Int) - (z : Int)) = ((k - z : Nat) : Int) := by rw [show (k : Int) - (z : Int) = ((k - z : Nat) : Int) by omega]; exact u64_in _ (by omega)
  have e3 : IntKind.u64.wrap ((r : Int) - (z : Int)) = ((r - z : Nat) : Int) := by rw [show (r : Int) - (z : Int) = ((r - z : Nat) : Int) by omega]; exact u64_in _ (by omega)
  have e4 : IntKind.u16.wrap ((p : Int) - (p : Int) / 32) = (p : Int) - (p : Int) / 32 := wrap_u16 _ (by omega)
  have hg1 : w.grownBy ((w.setCell ⟨g, 3, none⟩ (.int .u64 ((k - z : Nat) : Int))).setCell ⟨g, 2, none⟩ (.int .u64 ((r - z : Nat) : Int))) (some g) := only_setCell (g := g) (p := ⟨g, 2, none⟩) (only_setCell (g := g) (p := ⟨g, 3, none⟩) (World.grownBy.refl w _) (.inl rfl) _) (.inl rfl) _
  have K := Lib.hid (level_any ((hB.put 3 (.int .u64 ((k - z : Nat) : Int))).put 2 (.int .u64 ((r - z : Nat) : Int)) : Blk _ g 79 (decCells A bs.length c at_ (r - z) (k - z) false)) (hS.grown hg1 hne) ha hn hne (by omega) (by omega) (fun _ => by omega))
  have HG1 := Lib.hid hg1
  have HUP := Lib.hid (show ((up1 p : Nat) : Int) = (p : Int) - (p : Int) / 32 by unfold up1; omega)
  have HB1 := Lib.hid hb1
  clear hB hS hne hg1 hb1
  generalize r - z = r1 at *
  generalize k - z = k1 at *
  have HD1 := Lib.hid hd1
  clear hd1
  go_enter Tryz.func145, Tryz.ntmps145
  go_wp2_with fail
  refine K.out.mono ?_
  rintro e w1 ⟨rfl, at', r', k', bad', hB1, ht, hg⟩
  rw [if_neg (by simp), HD1.out] at ht
  have j4 : w1.cell? ⟨g, 4, none⟩ = some (.bool bad') := hB1.cell 4
  have HBK := Lib.hid hB1
  have HT := Lib.hid ht
  have HG := Lib.hid hg
  clear hB1 ht hg
  cases bad'
  · go_wp2_with fail
    go_ret2
    refine ⟨?_, at', r', k', false, HBK.out, HT.out, only_trans HG1.out HG.out⟩
    have hn : ¬ d1 = none := by
      rcases HT.out.2.2.2 with ⟨h, _⟩ | ⟨_, h⟩
      · cases h
      · rw [h]; simp
    rw [HUP.out, HB1.out, if_neg hn]
    rfl
  · go_wp2_with fail
    go_ret2
    refine ⟨?_, at', r', k', true, HBK.out, HT.out, only_trans HG1.out HG.out⟩
    have hn : d1 = none := by
      rcases HT.out.2.2.2 with ⟨_, h⟩ | ⟨h, _⟩
      · exact h
      · cases h
    rw [HUP.out, HB1.out, if_pos hn]
    rfl

/-- A bit, as the model tells it. -/
theorem rbit_any {d : Dc} {bad : Bool} (hB : Blk w g 79 (decCells A bs.length c at_ r k bad)) (ht : Tells bs d at_ r k bad) (hS : Sl w A bs.length (bv bs)) (hn : bs.length ≤ 1000000000)
    (hne : 0 < bs.length → ∀ b o, A = some ⟨b, o, none⟩ → b ≠ g) (hd : DcOk d) (hp : POk p) :
    Calls Tryz.prog 145 #[.pointer (some ⟨g, 0, none⟩), .int .u16 (p : Int)] w fun e w' => e = .returned (.tuple #[.int .i64 ((bitD d p).1 : Int), .int .u16 ((bitD d p).2.1 : Int)]) ∧
      ∃ at' r' k' bad', Blk w' g 79 (decCells A bs.length c at' r' k' bad') ∧ Tells bs (bitD d p).2.2 at' r' k' bad' ∧ w.grownBy w' (some g) := by
  obtain ⟨ha, hr, hk, hc⟩ := ht
  rcases hc with ⟨rfl, rfl⟩ | ⟨rfl, rfl⟩
  · refine (rbit_bad hB).mono ?_
    rintro e w' ⟨rfl, rfl⟩
    exact ⟨rfl, at_, r, k, true, hB, ⟨ha, hr, hk, .inl ⟨rfl, rfl⟩⟩, World.grownBy.refl w _⟩
  · obtain ⟨h0, h1, h2⟩ := hd _ _ _ rfl
    unfold bitD
    simp only []
    by_cases hlt : k < r / 2048 * p
    · rw [if_pos hlt]
      exact rbit_zero rfl hB hS ha hn hne h0 hr hp hlt
    · rw [if_neg hlt]
      refine (rbit_one rfl rfl rfl hB hS ha hn hne h0 hr h2 hp hlt).mono ?_
      rintro e w' ⟨rfl, at', r', k', bad', h3, h4, h5⟩
      cases hl : lvl (r - r / 2048 * p) (k - r / 2048 * p) (bs.drop at_) with
      | none =>
        rw [hl] at h4
        exact ⟨rfl, at', r', k', bad', h3, h4, h5⟩
      | some t =>
        rw [hl] at h4
        exact ⟨rfl, at', r', k', bad', h3, h4, h5⟩
end
end Go.Proofs.YtjgdjobhhdhfjaaGreat

/-
  The reference's decoder, its state alone: a bit, and bits straight.
-/
namespace Go.Proofs.YtjgdjobhhdhfjaaGreat
open Go.RowKit

theorem u32_fit (x : Int) (h0 : 0 ≤ x) (h : x < 4294967296) : IntKind.u32.wrap x = x := by
  simp [IntKind.wrap, IntKind.bits, IntKind.signed]; omega

/-- Block g is the reference's decoder; its state is d. -/
def Rf (w : World) (g : Nat) (A : Option Addr) (c : Nat) (bs : List UInt8) (d : Dc) : Prop :=
  ∃ at_ r k bad, Blk w g 79 (decCells A bs.length c at_ r k bad) ∧ Tells bs d at_ r k bad
theorem Rf.lt {w : World} {g c : Nat} {A : Option Addr} {bs : List UInt8} {d : Dc} (h : Rf w g A c bs d) : g < w.heap.size := by
  obtain ⟨_, _, _, _, hB, _⟩ := h
  exact hB.lt
theorem Rf.only {S : Nat → Prop} {w w' : World} {g c : Nat} {A : Option Addr} {bs : List UInt8} {d : Dc} (h : Rf w g A c bs d) (hb : Only S w w') (hS : ¬ S g) : Rf w' g A c bs d := by
  obtain ⟨at_, r, k, bad, hB, ht⟩ := h
  exact ⟨at_, r, k, bad, hB.only hb hS, ht⟩

/-- What a number told straight leaves. -/
def RnPost (w : World) (g c : Nat) (A : Option Addr) (bs : List UInt8) (v : Nat) (d : Dc) (e : Ending) (w' : World) : Prop :=
  e = .returned (.int .u32 (v : Int)) ∧ Rf w' g A c bs d ∧ w.grownBy w' (some g)

/-- Bit, as a tree uses it. -/
theorem rfbit_any {w : World} {g c p : Nat} {A : Option Addr} {bs : List UInt8} {d : Dc} (h : Rf w g A c bs d) (hS : Sl w A bs.length (bv bs)) (hn : bs.length ≤ 1000000000) (hA : 0 < bs.length → ∀ q o, A = some ⟨q, o, none⟩ → q ≠ g) (hd : DcOk d) (hp : POk p) :
    Calls Tryz.prog 145 #[.pointer (some ⟨g, 0, none⟩), .int .u16 (p : Int)] w fun e w' => e = .returned (.tuple #[.int .i64 ((bitD d p).1 : Int), .int .u16 ((bitD d p).2.1 : Int)]) ∧ Rf w' g A c bs (bitD d p).2.2 ∧ w.grownBy w' (some g) := by
  obtain ⟨at_, r, k, bad, hB, ht⟩ := h
  refine (rbit_any hB ht hS hn hA hd hp).mono ?_
  rintro e w' ⟨rfl, at', r', k', bad', h1, h2, h3⟩
  exact ⟨rfl, ⟨at', r', k', bad', h1, h2⟩, h3⟩

section
variable {g c : Nat} {A : Option Addr} {w : World} {bs : List UInt8}

theorem straightGo_stays {d : Dc} : ∀ {j n : Nat}, j ≤ n → (straightGo d j).2 = none → (straightGo d n).2 = none := by
  intro j n hjn h
  induction n with
  | zero => rw [show j = 0 by omega] at h; exact h
  | succ n ih =>
    rcases Nat.lt_or_ge j (n + 1) with hlt | hge
    · show (oneD (straightGo d n).2).2 = none
      rw [ih (by omega)]
      rfl
    · rw [show j = n + 1 by omega] at h; exact h

set_option maxHeartbeats 8000000 in
theorem rstraight_any {d : Dc} {n : Nat} (h : Rf w g A c bs d) (hS : Sl w A bs.length (bv bs)) (hnb : bs.length ≤ 1000000000) (hA : 0 < bs.length → ∀ q o, A = some ⟨q, o, none⟩ → q ≠ g) (hd : DcOk d) (hn : n ≤ 32) :
    Calls Tryz.prog 147 #[.pointer (some ⟨g, 0, none⟩), .int .i64 (n : Int)] w (RnPost w g c A bs (straightD n d).1 (straightD n d).2) := by
  have HP := Lib.hid h
  have HA := Lib.hid hA
  have HS := Lib.hid hS
  have HD := Lib.hid hd
  clear h hA hS hd
  go_enter Tryz.func147, Tryz.ntmps147
  go_wp2_with fail
  go_loopw [5, 6] (fun out i wr => ∃ (j x : Nat), j ≤ n ∧ i = .int .i64 (j : Int) ∧ out = .int .u32 (x : Int) ∧ x < 2 ^ j ∧ ((straightGo d j).2 ≠ none → x = (straightGo d j).1) ∧ Rf wr g A c bs (straightGo d j).2 ∧ w.grownBy wr (some g)) (fun _ i _ => n - (intOf i).toNat)
  case atStart => exact ⟨0, 0, Nat.zero_le _, rfl, rfl, by decide, fun _ => rfl, HP.out, World.grownBy.refl w _⟩
  case round =>
    clear HP
    obtain ⟨j, x, hj, rfl, rfl, hx, hv, ⟨at_, r, k, bad, hB, ht⟩, hg⟩ := hrel
    have HV := Lib.hid hv
    have HG := Lib.hid hg
    have hs := HS.out.grown hg HA.out
    have j4 : wr.cell? ⟨g, 4, none⟩ = some (.bool bad) := hB.cell 4
    clear hv hg
    by_cases hgo : j < n ∧ bad = false
    · obtain ⟨hlt, rfl⟩ := hgo
      have hdd : (straightGo d j).2 = some (r, k, bs.drop at_) := by
        rcases ht.2.2.2 with ⟨h, _⟩ | ⟨_, h⟩
        · cases h
        · exact h
      obtain ⟨d0, d1, d2⟩ := (straightGo_ok HD.out j).1 _ _ _ hdd
      have hat := ht.1
      have HDD := Lib.hid hdd
      have hx31 : x < 2147483648 := Nat.lt_of_lt_of_le hx (Nat.pow_le_pow_right (n := 2) (by omega) (show j ≤ 31 by omega))
      have hx2 : 2 * x + 1 < 2 ^ (j + 1) := by rw [Nat.pow_succ]; omega
      have HX2 := Lib.hid hx2
      have e1 : IntKind.u32.wrap ((x : Int) * 2) = (x : Int) * 2 := u32_fit _ (by omega) (by omega)
      have e3 : IntKind.u32.wrap ((x : Int) * 2 + 1) = ((2 * x + 1 : Nat) : Int) := by rw [show (x : Int) * 2 + 1 = ((2 * x + 1 : Nat) : Int) by omega]; exact u32_fit _ (by omega) (by omega)
      have hlt' : (j : Int) < (n : Int) := by omega
      have j2 : wr.cell? ⟨g, 2, none⟩ = some (.int .u64 (r : Int)) := hB.cell 2
      have j3 : wr.cell? ⟨g, 3, none⟩ = some (.int .u64 (k : Int)) := hB.cell 3
      have f2 : wr.frozen? ⟨g, 2, none⟩ = false := hB.free 2
      have f3 : wr.frozen? ⟨g, 3, none⟩ = false := hB.free 3
      have f4 : wr.frozen? ⟨g, 4, none⟩ = false := hB.free 4
      have hr2 : (r : Int) / 2 = ((r / 2 : Nat) : Int) := by omega
      have hle : r / 2 ≤ r := Nat.div_le_self _ _
      have hge : 8388608 ≤ r / 2 := by omega
      have hone : oneD (some (r, k, bs.drop at_)) = if k < r / 2 then (0, lvl (r / 2) k (bs.drop at_)) else if k - r / 2 < r / 2 then (1, lvl (r / 2) (k - r / 2) (bs.drop at_)) else (0, none) := rfl
      have HONE := Lib.hid hone
      have hch : k - r / 2 ≤ r / 2 := by omega
      have HBr := Lib.hid hB
      have HSr := Lib.hid hs
      clear hx hx2 ht hdd hone hB hs
      generalize r / 2 = h at *
      by_cases hc : k < h
      · have hc' : ¬ (k : Int) ≥ (h : Int) := by omega
        have K := Lib.hid (fun q => level_any (((HBr.out.put 2 (.int .u64 (h : Int))).drewN q : Blk _ g 79 (decCells A bs.length c at_ h k false))) (HSr.out.grown (only_drewN (only_setCell (World.grownBy.refl wr _) (p := ⟨g, 2, none⟩) (.inl rfl) _) q) HA.out) hat hnb HA.out (by omega) (by omega) (fun _ => hc))
        have HG1 := Lib.hid (fun q => only_drewN (only_setCell (World.grownBy.refl wr (some g)) (p := ⟨g, 2, none⟩) (.inl rfl) (.int .u64 (h : Int))) q)
        go_wp2_with fail
        go_quiet (fail)
        go_wp2_with fail
        go_quiet (fail)
        go_wp2_with fail
        refine (K.out _).mono ?_
        rintro e w1 ⟨rfl, at', r', k', bad', hB1, ht1, hg1⟩
        have HB1 := Lib.hid hB1
        have HT1 := Lib.hid ht1
        have HG2 := Lib.hid (only_trans HG.out (only_trans (HG1.out _) hg1))
        clear hB1 ht1 hg1 K HG1
        go_wp2_with fail
        go_roundw
        case rel =>
          have hgo2 : straightGo d (j + 1) = (2 * (straightGo d j).1 + 0, lvl h k (bs.drop at_)) := by
            show (2 * (straightGo d j).1 + (oneD (straightGo d j).2).1, (oneD (straightGo d j).2).2) = _
            rw [HDD.out, HONE.out, if_pos hc]
          refine ⟨j + 1, 2 * x, by omega, by go_num, by go_num, by have := HX2.out; omega, fun _ => ?_, ⟨at', r', k', bad', HB1.out, ?_⟩, HG2.out⟩
          · rw [hgo2]
            have := HV.out (by rw [HDD.out]; simp)
            omega
          · rw [hgo2]
            have := HT1.out
            rwa [if_neg (by simp)] at this
        case measure => simp [intOf]; omega
      · have hc' : (k : Int) ≥ (h : Int) := by omega
        have e2 : IntKind.u64.wrap ((k : Int) - (h : Int)) = ((k - h : Nat) : Int) := by rw [show (k : Int) - (h : Int) = ((k - h : Nat) : Int) by omega]; exact u64_in _ (by omega)
        have hck : ∀ y, k - h = y → ((k : Int) - (h : Int)) = (y : Int) := fun y hy => by omega
        by_cases hc2 : k - h < h
        · have hc2' : ¬ ((k - h : Nat) : Int) ≥ (h : Int) := by omega
          have K := Lib.hid (fun q1 q2 => level_any (((((HBr.out.put 2 (.int .u64 (h : Int))).drewN q1).put 3 (.int .u64 ((k - h : Nat) : Int))).drewN q2 : Blk _ g 79 (decCells A bs.length c at_ h (k - h) false))) (HSr.out.grown (only_drewN (only_setCell (only_drewN (only_setCell (World.grownBy.refl wr _) (p := ⟨g, 2, none⟩) (.inl rfl) _) q1) (p := ⟨g, 3, none⟩) (.inl rfl) _) q2) HA.out) hat hnb HA.out (by omega) (by omega) (fun _ => hc2))
          have HG1 := Lib.hid (fun q1 q2 => only_drewN (only_setCell (only_drewN (only_setCell (World.grownBy.refl wr (some g)) (p := ⟨g, 2, none⟩) (.inl rfl) (.int .u64 (h : Int))) q1) (p := ⟨g, 3, none⟩) (.inl rfl) (.int .u64 ((k - h : Nat) : Int))) q2)
          have HC2 := Lib.hid hc2
          clear hc2 hck hch
          generalize k - h = kh at *
          go_wp2_with fail
          go_quiet (fail)
          go_wp2_with fail
          go_region
          all_goals go_wp2_with fail
          go_quiet (fail)
          go_wp2_with fail
          refine (K.out _ _).mono ?_
          rintro e w1 ⟨rfl, at', r', k', bad', hB1, ht1, hg1⟩
          have HB1 := Lib.hid hB1
          have HT1 := Lib.hid ht1
          have HG2 := Lib.hid (only_trans HG.out (only_trans (HG1.out _ _) hg1))
          clear hB1 ht1 hg1 K HG1
          go_wp2_with fail
          go_roundw
          case rel =>
            have hgo2 : straightGo d (j + 1) = (2 * (straightGo d j).1 + 1, lvl h kh (bs.drop at_)) := by
              show (2 * (straightGo d j).1 + (oneD (straightGo d j).2).1, (oneD (straightGo d j).2).2) = _
              rw [HDD.out, HONE.out, if_neg hc, if_pos HC2.out]
            refine ⟨j + 1, 2 * x + 1, by omega, by go_num, by go_num, by have := HX2.out; omega, fun _ => ?_, ⟨at', r', k', bad', HB1.out, ?_⟩, HG2.out⟩
            · rw [hgo2]
              have := HV.out (by rw [HDD.out]; simp)
              omega
            · rw [hgo2]
              have := HT1.out
              rwa [if_neg (by simp)] at this
          case measure => simp [intOf]; omega
        · have hc2' : ((k - h : Nat) : Int) ≥ (h : Int) := by omega
          have K := Lib.hid (fun q1 q2 => level_any ((((((HBr.out.put 2 (.int .u64 (h : Int))).drewN q1).put 3 (.int .u64 ((k - h : Nat) : Int))).drewN q2).put 4 (.bool true) : Blk _ g 79 (decCells A bs.length c at_ h (k - h) true))) (HSr.out.grown (only_setCell (only_drewN (only_setCell (only_drewN (only_setCell (World.grownBy.refl wr _) (p := ⟨g, 2, none⟩) (.inl rfl) _) q1) (p := ⟨g, 3, none⟩) (.inl rfl) _) q2) (p := ⟨g, 4, none⟩) (.inl rfl) _) HA.out) hat hnb HA.out (by omega) (by omega) (fun h => by cases h))
          have HG1 := Lib.hid (fun q1 q2 => only_setCell (only_drewN (only_setCell (only_drewN (only_setCell (World.grownBy.refl wr (some g)) (p := ⟨g, 2, none⟩) (.inl rfl) (.int .u64 (h : Int))) q1) (p := ⟨g, 3, none⟩) (.inl rfl) (.int .u64 ((k - h : Nat) : Int))) q2) (p := ⟨g, 4, none⟩) (.inl rfl) (.bool true))
          have HC2 := Lib.hid hc2
          clear hc2 hck hch
          generalize k - h = kh at *
          go_wp2_with fail
          go_quiet (fail)
          go_wp2_with fail
          go_region
          all_goals go_wp2_with fail
          go_quiet (fail)
          go_wp2_with fail
          refine (K.out _ _).mono ?_
          rintro e w1 ⟨rfl, at', r', k', bad', hB1, ht1, hg1⟩
          have HB1 := Lib.hid hB1
          have HT1 := Lib.hid ht1
          have HG2 := Lib.hid (only_trans HG.out (only_trans (HG1.out _ _) hg1))
          clear hB1 ht1 hg1 K HG1
          go_wp2_with fail
          go_roundw
          case rel =>
            have hgo2 : straightGo d (j + 1) = (2 * (straightGo d j).1 + 0, none) := by
              show (2 * (straightGo d j).1 + (oneD (straightGo d j).2).1, (oneD (straightGo d j).2).2) = _
              rw [HDD.out, HONE.out, if_neg hc, if_neg HC2.out]
            refine ⟨j + 1, 2 * x + 1, by omega, by go_num, by go_num, by have := HX2.out; omega, fun h => ?_, ⟨at', r', k', bad', HB1.out, ?_⟩, HG2.out⟩
            · rw [hgo2] at h
              exact absurd rfl h
            · rw [hgo2]
              have := HT1.out
              rwa [if_pos trivial] at this
          case measure => simp [intOf]; omega
    · have fin : bad = true ∨ (bad = false ∧ j = n) := by
        cases bad
        · right
          exact ⟨rfl, by rcases Nat.lt_or_ge j n with h | h; exact absurd ⟨h, rfl⟩ hgo; omega⟩
        · exact .inl rfl
      have HB := Lib.hid hB
      have HT := Lib.hid ht
      have HFIN := Lib.hid fin
      clear hgo hB ht fin hs
      rcases HFIN.out with rfl | ⟨rfl, rfl⟩
      · have hne : (straightGo d n).2 = none := by
          refine straightGo_stays hj ?_
          rcases HT.out.2.2.2 with ⟨_, h⟩ | ⟨h, _⟩
          · exact h
          · cases h
        have HNE := Lib.hid hne
        clear hne
        have hend : straightD n d = (0, none) := by
          unfold straightD
          rw [if_pos HNE.out, HNE.out]
        have hjd : (straightGo d j).2 = none := by
          rcases HT.out.2.2.2 with ⟨_, h⟩ | ⟨h, _⟩
          · exact h
          · cases h
        rw [hjd] at HT
        have HEND := Lib.hid hend
        clear hend hjd HFIN
        by_cases hlt : j < n
        · have hlt' : (j : Int) < (n : Int) := by omega
          go_wp2_with fail
          go_ret
          rw [HEND.out]
          exact ⟨rfl, ⟨at_, r, k, _, HB.out, HT.out⟩, HG.out⟩
        · have hlt' : ¬ (j : Int) < (n : Int) := by omega
          go_wp2_with fail
          go_ret
          rw [HEND.out]
          exact ⟨rfl, ⟨at_, r, k, _, HB.out, HT.out⟩, HG.out⟩
      · have hne : (straightGo d j).2 ≠ none := by
          rcases HT.out.2.2.2 with ⟨h, _⟩ | ⟨_, h⟩
          · cases h
          · rw [h]; simp
        have hend : straightD j d = (x, (straightGo d j).2) := by
          unfold straightD
          rw [if_neg hne, HV.out hne]
        have HEND := Lib.hid hend
        clear hend hne HFIN
        go_wp2_with fail
        go_ret
        rw [HEND.out]
        exact ⟨rfl, ⟨at_, r, k, _, HB.out, HT.out⟩, HG.out⟩

end
end Go.Proofs.YtjgdjobhhdhfjaaGreat

/-
  The reference of LZMA tells bits: its machine is the reference's decoder.
-/
namespace Go.Proofs.YtjgdjobhhdhfjaaGreat
open Go.RowKit

/-- the blocks that are read alone -/
def rowOf (A : Option Addr) (n : Nat) : Nat → Prop := fun i => 0 < n ∧ ∃ o, A = some ⟨i, o, none⟩
/-- the reference's decoder over the bytes bs, its state d -/
def Kd (A : Option Addr) (bs : List UInt8) (w : World) (Dv Ev : Value) (Gm : Nat → Prop) (d : Dc) : Prop :=
  ∃ db c, Dv = .pointer (some ⟨db, 0, none⟩) ∧ Ev = .pointer none ∧ (∀ i, Gm i ↔ i = db) ∧ Rf w db A c bs d ∧ Sl w A bs.length (bv bs) ∧ (0 < bs.length → ∀ q o, A = some ⟨q, o, none⟩ → q ≠ db) ∧ bs.length ≤ 1000000000

theorem kd_mem (A : Option Addr) (bs : List UInt8) : MachMem (rowOf A bs.length) (Kd A bs) where
  old := by
    rintro w Dv Ev G x i ⟨db, c, rfl, rfl, hG, hR, _⟩ hi
    rw [(hG i).1 hi]
    exact hR.lt
  only := by
    rintro w w' Dv Ev G x S ⟨db, c, rfl, rfl, hG, hR, hS, hn, hl⟩ hO hG' hR'
    exact ⟨db, c, rfl, rfl, hG, hR.only hO (hG' db ((hG db).2 rfl)), hS.only hO (fun h0 b o e => hR' b ⟨h0, o, e⟩), hn, hl⟩

section
variable {w : World} {g : Nat} {G : Nat → Prop} {z : Lzs} {t : Pm Dc} {A : Option Addr} {bs : List UInt8}

set_option maxHeartbeats 4000000 in
theorem zbit_dec {L k a : Nat} {b : Int} (h : Zz (rowOf A bs.length) (Kd A bs) w g G z t) (ht : PmOk okD L (k + 1) t) (ha : a < L) (hL : L ≤ 100000000) :
    Calls Tryz.prog 121 #[.pointer (some ⟨g, 0, none⟩), .int .i64 (a : Int), .int .i64 b] w (ZPost (rowOf A bs.length) (Kd A bs) w g G z (bitP decM t a b).2 (.int .i64 ((bitP decM t a b).1 : Int))) := by
  obtain ⟨Gm, Dv, Ev, p, pc, A1, c1, hz⟩ := h
  obtain ⟨db, c, rfl, rfl, hGm, hRf, hSl, hne, hlen⟩ := hz.mch
  have hlt : a < t.ps.length := by rw [ht.len]; exact ha
  have d4 : w.cell? ⟨g, 4, none⟩ = some (.pointer (some ⟨db, 0, none⟩)) := hz.blk.cell 4
  have d5 : w.cell? ⟨g, 5, none⟩ = some (.pointer none) := hz.blk.cell 5
  have d6 : w.cell? ⟨g, 6, none⟩ = some (.slice (some ⟨p, 0, none⟩) t.ps.length pc) := hz.blk.cell 6
  have dp : w.cell? ⟨p, a, none⟩ = some (.int .u16 ((t.ps.getD a 0 : Nat) : Int)) := hz.row.cell hlt
  have K := Lib.hid (rfbit_any (w := w.drew) (p := t.ps.getD a 0) (by obtain ⟨at_, r, k, bad, hB, h⟩ := hRf; exact ⟨at_, r, k, bad, hB, h⟩) (show Sl w.drew A bs.length (bv bs) from hSl) hlen hne ht.x (getD_ok ht.ps hlt))
  have i0 : (0 : Int) ≤ (a : Int) := by omega
  have i1 : (a : Int) < (t.ps.length : Int) := by omega
  have HZ := Lib.hid hz
  have HGM := Lib.hid hGm
  have HSL := Lib.hid hSl
  have HNE := Lib.hid hne
  have HLEN := Lib.hid hlen
  have hbit : bitP decM t a b = ((bitD t.x (t.ps.getD a 0)).1, ⟨t.ps.set a (bitD t.x (t.ps.getD a 0)).2.1, (bitD t.x (t.ps.getD a 0)).2.2⟩) := rfl
  rw [hbit]
  have HRL := Lib.hid (show ∀ i, rowOf A bs.length i → i < w.heap.size from fun i ⟨h0, o, e⟩ => by
    obtain ⟨b', o', e', hb, _⟩ := hSl.2 h0
    rw [e] at e'
    injection e' with e'
    injection e' with e'
    omega)
  have HLT := Lib.hid hlt
  clear hbit hz hGm hRf hSl hne hlen ht ha hL hlt
  generalize (bitD t.x (t.ps.getD a 0)).1 = v at *
  generalize (bitD t.x (t.ps.getD a 0)).2.1 = q at *
  generalize (bitD t.x (t.ps.getD a 0)).2.2 = d' at *
  obtain ⟨pr, hpr⟩ : ∃ pr, pr = t.ps.getD a 0 := ⟨_, rfl⟩
  rw [← hpr] at dp K
  have HDP := Lib.hid hpr
  clear hpr
  obtain ⟨N, hN⟩ : ∃ N, N = t.ps.length := ⟨_, rfl⟩
  rw [← hN] at d6 i1
  have HN := Lib.hid hN
  clear hN
  go_enter Tryz.func121, Tryz.ntmps121
  go_wp2_with fail
  go_region_held3 (fun w' => w'.cell? ⟨g, 4, none⟩ = some (.pointer (some ⟨db, 0, none⟩)) ∧ w'.cell? ⟨g, 6, none⟩ = some (.slice (some ⟨p, 0, none⟩) N pc) ∧ w'.cell? ⟨p, a, none⟩ = some (.int .u16 (pr : Int)))
    (first | assumption | go_keep)
    (first | (go_at_call 145; refine K.out.mono ?_; rintro e w1 ⟨rfl, hR1, hg1⟩; have hO1 : Only (fun i => i = db) w w1 := ((Only.refl (fun i => i = db) w).drew).trans (Only.of_grown hg1 rfl); have hz1 := HZ.out.mach (w' := w1) (Gm' := Gm) (x := d') (hO1.mono (fun i hi => (HGM.out i).2 hi)) ⟨db, c, rfl, rfl, HGM.out, hR1, HSL.out.only hO1 (fun h0 b o e => HNE.out h0 b o e), HNE.out, HLEN.out⟩ (fun i hi => .inl hi) (fun i hi => by have := HZ.out.old i (HZ.out.gm i hi); have := hO1.size; omega) HRL.out; have j0 : w1.cell? ⟨g, 4, none⟩ = some (.pointer (some ⟨db, 0, none⟩)) := hz1.blk.cell 4; have j1 : w1.cell? ⟨g, 6, none⟩ = some (.slice (some ⟨p, 0, none⟩) N pc) := (by rw [HN.out]; exact hz1.blk.cell 6); have j2 : w1.cell? ⟨p, a, none⟩ = some (.int .u16 (pr : Int)) := (by rw [HDP.out]; exact hz1.row.cell HLT.out); have HZ1 := Lib.hid hz1; have HO1 := Lib.hid hO1; clear hz1 hO1 hR1 hg1))
  all_goals
    have zp : w1.frozen? ⟨p, a, none⟩ = false := HZ1.out.row.free a
    go_wp2_with fail
    go_ret
    exact ⟨rfl, fun i => G i ∨ Gm i, ⟨Gm, _, _, p, pc, A1, c1, HZ1.out.prob (kd_mem A bs) a q⟩, fun i hi => .inl (by rcases hi with h | h; exact h; exact HZ.out.gm i h), (HO1.out.mono (fun i hi => HZ.out.gm i ((HGM.out i).2 hi))).setCell (p := ⟨p, a, none⟩) (.inl HZ.out.gp) _⟩
end
end Go.Proofs.YtjgdjobhhdhfjaaGreat

/-
  The reference of LZMA tells bits straight, by the reference's decoder; what it owes.
-/
namespace Go.Proofs.YtjgdjobhhdhfjaaGreat
open Go.RowKit

section
variable {w : World} {g : Nat} {G : Nat → Prop} {z : Lzs} {t : Pm Dc} {A : Option Addr} {bs : List UInt8}
set_option maxHeartbeats 2000000 in
theorem zstr_dec {L k n v : Nat} (h : Zz (rowOf A bs.length) (Kd A bs) w g G z t) (ht : PmOk okD L (k + 1) t) (hn : n ≤ 26) :
    Calls Tryz.prog 126 #[.pointer (some ⟨g, 0, none⟩), .int .i64 (n : Int), .int .u32 (v : Int)] w (ZPost (rowOf A bs.length) (Kd A bs) w g G z ⟨t.ps, (decM.str t.x n v).2⟩ (.int .u32 ((decM.str t.x n v).1 : Int))) := by
  obtain ⟨Gm, Dv, Ev, p, pc, A1, c1, hz⟩ := h
  obtain ⟨db, c, rfl, rfl, hGm, hRf, hSl, hne, hlen⟩ := hz.mch
  have d4 : w.cell? ⟨g, 4, none⟩ = some (.pointer (some ⟨db, 0, none⟩)) := hz.blk.cell 4
  have d5 : w.cell? ⟨g, 5, none⟩ = some (.pointer none) := hz.blk.cell 5
  have K := Lib.hid (rstraight_any hRf hSl hlen hne ht.x (show n ≤ 32 by omega))
  have HZ := Lib.hid hz
  have HGM := Lib.hid hGm
  have HSL := Lib.hid hSl
  have HNE := Lib.hid hne
  have HLEN := Lib.hid hlen
  have HRL := Lib.hid (show ∀ i, rowOf A bs.length i → i < w.heap.size from fun i ⟨h0, o, e⟩ => by
    obtain ⟨b', o', e', hb, _⟩ := hSl.2 h0
    rw [e] at e'
    injection e' with e'
    injection e' with e'
    omega)
  show Calls _ _ _ _ (ZPost (rowOf A bs.length) (Kd A bs) w g G z ⟨t.ps, (straightD n t.x).2⟩ (.int .u32 ((straightD n t.x).1 : Int)))
  clear hz hGm hRf hSl hne hlen ht hn
  generalize (straightD n t.x).1 = x at *
  generalize (straightD n t.x).2 = d' at *
  go_enter Tryz.func126, Tryz.ntmps126
  go_wp2_with fail
  refine K.out.mono ?_
  rintro e w1 ⟨rfl, hR1, hg1⟩
  have hO1 : Only (fun i => i = db) w w1 := Only.of_grown hg1 rfl
  have hz1 := HZ.out.mach (w' := w1) (Gm' := Gm) (x := d') (hO1.mono (fun i hi => (HGM.out i).2 hi)) ⟨db, c, rfl, rfl, HGM.out, hR1, HSL.out.only hO1 (fun h0 b o e => HNE.out h0 b o e), HNE.out, HLEN.out⟩ (fun i hi => .inl hi) (fun i hi => by have := HZ.out.old i (HZ.out.gm i hi); have := hO1.size; omega) HRL.out
  have HZ1 := Lib.hid hz1
  have HO1 := Lib.hid hO1
  clear hz1 hO1 hR1 hg1 K d4 d5
  go_wp2_with fail
  go_ret
  exact ⟨rfl, fun i => G i ∨ Gm i, ⟨Gm, _, _, p, pc, A1, c1, HZ1.out⟩, fun i hi => .inl (by rcases hi with h | h; exact h; exact HZ.out.gm i h), HO1.out.mono (fun i hi => HZ.out.gm i ((HGM.out i).2 hi))⟩
end
theorem dec_ops (A : Option Addr) (bs : List UInt8) : ZOps decM okD (rowOf A bs.length) (Kd A bs) where
  mem := kd_mem A bs
  okm := decM_ok
  bit := fun h ht ha hL _ => zbit_dec h ht ha hL
  str := fun h ht hn _ _ => zstr_dec h ht hn
end Go.Proofs.YtjgdjobhhdhfjaaGreat

/-
  The reference's coder: each call a contract.
-/
namespace Go.Proofs.YtjgdjobhhdhfjaaGreat
open Go.RowKit

def rnCells (q L c r : Nat) : Array Value := #[.slice (some ⟨q, 0, none⟩) L c, .int .u64 (r : Int)]

/-- Block g is the reference's coder, its bytes at block q; its state is e. -/
def Rn (w : World) (g q : Nat) (e : En) : Prop :=
  ∃ c bs, Blk w g 90 (rnCells q bs.length c e.r) ∧ Byt w q c bs ∧ be bs = e.n ∧ bs.length = e.l ∧ q ≠ g
theorem Rn.lt {w : World} {g q : Nat} {e : En} (h : Rn w g q e) : g < w.heap.size ∧ q < w.heap.size := by
  obtain ⟨c, bs, hB, hb, _⟩ := h
  exact ⟨hB.lt, hb.lt⟩
theorem Rn.only {S : Nat → Prop} {w w' : World} {g q : Nat} {e : En} (h : Rn w g q e) (hb : Only S w w') (hg : ¬ S g) (hq : ¬ S q) : Rn w' g q e := by
  obtain ⟨c, bs, hB, hy, r⟩ := h
  exact ⟨c, bs, hB.only hb hg, hy.only hb hq, r⟩
theorem Rn.drewN {w : World} {g q : Nat} {e : En} (h : Rn w g q e) (n : Nat) : Rn (w.drewN n) g q e := h

theorem add_step {cur : List UInt8} {k x y x' z P N : Nat} (hz : z = y % 256) (hx' : x' = y / 256) (hy : y = x + (cur.getD k 0).toNat) (hk : k < cur.length) (hP : P = 256 ^ (cur.length - 1 - k)) (h : be cur + x * P = N) :
    be (cur.set k (UInt8.ofNat z)) + x' * (P * 256) = N := by
  have hs := be_set cur k (UInt8.ofNat z) hk
  rw [← hP] at hs
  have ez : (UInt8.ofNat z).toNat = z := by simp; omega
  rw [ez] at hs
  have e1 : x' * (P * 256) = 256 * x' * P := by rw [Nat.mul_comm P, ← Nat.mul_assoc, Nat.mul_comm x']
  have e2 : (256 * x' + z) * P = (x + (cur.getD k 0).toNat) * P := by rw [← hy]; congr 1; omega
  rw [Nat.add_mul, Nat.add_mul] at e2
  omega

/-- What an addition leaves: behind a definition, so that no walk looks into it. -/
def AddPost (w : World) (g q c r N L : Nat) (e : Ending) (w' : World) : Prop :=
  e = .returned (.tuple #[]) ∧ ∃ cs, Blk w' g 90 (rnCells q L c r) ∧ Byt w' q c cs ∧ be cs = N ∧ cs.length = L ∧ Only (fun i => i = q) w w'

set_option maxHeartbeats 4000000 in
theorem add_any {w : World} {g q c r v N : Nat} {bs : List UInt8} (hB : Blk w g 90 (rnCells q bs.length c r)) (hY : Byt w q c bs) (hqg : q ≠ g) (hv : v < 4294967296) (hN : N = be bs + v) (hfit : N < 256 ^ bs.length) (hlen : bs.length ≤ 1000000000) :
    Calls Tryz.prog 154 #[.pointer (some ⟨g, 0, none⟩), .int .u64 (v : Int)] w (AddPost w g q c r N bs.length) := by
  generalize hL : bs.length = L at *
  have HB := Lib.hid hB
  have HY := Lib.hid hY
  have HN := Lib.hid hN
  have HF := Lib.hid hfit
  have HL := Lib.hid hL
  have c0 : w.cell? ⟨g, 0, none⟩ = some (.slice (some ⟨q, 0, none⟩) L c) := hB.cell 0
  have e0 : IntKind.i64.wrap ((L : Int) - 1) = (L : Int) - 1 := IntWalk.i64_in _ (by omega)
  clear hB hY hN hfit hL
  go_enter Tryz.func154, Tryz.ntmps154
  go_wp2_with fail
  go_loopw [1, 4] (fun vv i wr => ∃ (u x : Nat) (iv : Int) (cur : List UInt8), u ≤ L ∧ i = .int .i64 iv ∧ iv + 1 = (u : Int) ∧ vv = .int .u64 (x : Int) ∧ x < 4294967296 ∧ cur.length = L ∧ be cur + x * 256 ^ (L - u) = N ∧ Blk wr g 90 (rnCells q L c r) ∧ Byt wr q c cur ∧ Only (fun i => i = q) w wr) (fun _ i _ => (intOf i + 1).toNat)
  case atStart => exact ⟨L, v, _, bs, Nat.le_refl _, rfl, by omega, rfl, hv, HL.out, by rw [Nat.sub_self, Nat.pow_zero, Nat.mul_one, HN.out], HB.out, HY.out, Only.refl _ _⟩
  case round =>
    clear HB HY c0
    obtain ⟨u, x, iv, cur, hu, rfl, hiv, rfl, hx, hcl, hsum, hB, hY, hO⟩ := hrel
    have HBr := Lib.hid hB
    have HYr := Lib.hid hY
    have HOr := Lib.hid hO
    have HS := Lib.hid hsum
    have HCL := Lib.hid hcl
    have c0 : wr.cell? ⟨g, 0, none⟩ = some (.slice (some ⟨q, 0, none⟩) L c) := hB.cell 0
    by_cases hgo : 0 < u ∧ 0 < x
    · obtain ⟨k, rfl⟩ : ∃ k, u = k + 1 := ⟨u - 1, by omega⟩
      obtain rfl : iv = (k : Int) := by omega
      have hkl : k < cur.length := by omega
      have cx := hY.cell hkl
      have fx := hY.free k
      have hbl := (cur.getD k 0).toNat_lt
      obtain ⟨y, hy⟩ : ∃ y, y = x + (cur.getD k 0).toNat := ⟨_, rfl⟩
      obtain ⟨z, hz⟩ : ∃ z, z = y % 256 := ⟨_, rfl⟩
      obtain ⟨x', hx'⟩ : ∃ x', x' = y / 256 := ⟨_, rfl⟩
      have hstep := add_step (N := N) hz hx' hy hkl rfl (by rw [hcl, show L - 1 - k = L - (k + 1) by omega]; exact hsum)
      rw [hcl, ← Nat.pow_succ, show (L - 1 - k).succ = L - k by omega] at hstep
      have HST := Lib.hid hstep
      have e1 : IntKind.u64.wrap ((x : Int) + ((cur.getD k 0).toNat : Int)) = (y : Int) := by rw [← Int.natCast_add, ← hy]; exact u64_in _ (by omega)
      have e2 : IntKind.u64.wrap ((cur.getD k 0).toNat : Int) = ((cur.getD k 0).toNat : Int) := u64_in _ (by omega)
      have e3 : (y : Int).tmod 256 = (z : Int) := by rw [Int.tmod_eq_emod_of_nonneg (by omega)]; omega
      have e4 : IntKind.u8.wrap (z : Int) = (z : Int) := by simp [IntKind.wrap, IntKind.bits, IntKind.signed]; omega
      have e5 : (y : Int) / 256 = (x' : Int) := by omega
      have e7 : IntKind.u64.wrap (x' : Int) = (x' : Int) := u64_in _ (by omega)
      have e6 : IntKind.i64.wrap ((k : Int) - 1) = (k : Int) - 1 := IntWalk.i64_in _ (by omega)
      have HZU := Lib.hid (show ((UInt8.ofNat z).toNat : Int) = (z : Int) by have : (UInt8.ofNat z).toNat = z := by { simp; omega }; rw [this])
      have hx2 : x' < 4294967296 := by omega
      have i0 : (k : Int) ≥ 0 := by omega
      have i1 : (k : Int) < (L : Int) := by omega
      have i2 : (x : Int) > 0 := by omega
      have HX2 := Lib.hid hx2
      generalize (cur.getD k 0).toNat = bb at *
      clear hB hY hO hsum hstep hz hx' hy hbl hx2 hcl hkl hiv
      go_wp2_with fail
      go_roundw
      case rel =>
        have hY2 := HYr.out.put k (UInt8.ofNat z)
        rw [HZU.out] at hY2
        exact ⟨k, x', (k : Int) - 1, cur.set k (UInt8.ofNat z), by omega, rfl, by omega, rfl, HX2.out, by rw [List.length_set]; exact HCL.out, HST.out, HBr.out.far (fun e => hqg e.symm) _, hY2, HOr.out.setCell (p := ⟨q, k, none⟩) (.inl rfl) _⟩
      case measure => first | (simp [intOf]; done) | (simp [intOf]; omega)
    · have hx0 : x = 0 := by
        rcases Nat.eq_zero_or_pos x with h | h
        · exact h
        · have hu0 : u = 0 := by omega
          subst hu0
          have h1 := HF.out
          rw [← hsum, Nat.sub_zero] at h1
          have := Nat.mul_le_mul_right (256 ^ L) h
          omega
      subst hx0
      rw [Nat.zero_mul, Nat.add_zero] at hsum
      have HS2 := Lib.hid hsum
      clear hsum hB hY hO HS hgo hcl
      by_cases hu0 : 0 < u
      · have i0 : iv ≥ 0 := by omega
        go_wp2_with fail
        first | go_end0 | refine bodyPost_ret (results_none rfl _ _ _) rfl ?_
        exact ⟨rfl, cur, HBr.out, HYr.out, HS2.out, HCL.out, HOr.out⟩
      · have i0 : ¬ iv ≥ 0 := by omega
        go_wp2_with fail
        first | go_end0 | refine bodyPost_ret (results_none rfl _ _ _) rfl ?_
        exact ⟨rfl, cur, HBr.out, HYr.out, HS2.out, HCL.out, HOr.out⟩
end Go.Proofs.YtjgdjobhhdhfjaaGreat
