/-
  The reference's decoder is evened out.
-/
import Derived.Test.YtjomenlegffmeaaRdRef
namespace Go.Proofs.Ytjomenlegffmeaa
open Go.RowKit

section
variable {g n c at_ r k : Nat} {A : Option Addr} {w : World} {bad : Bool}

set_option maxHeartbeats 1000000 in
theorem level_high (hB : Blk w g 41 (decCells A n c at_ r k bad)) (hr : ¬ r < 16777216) :
    Calls Try.prog 35 #[.pointer (some ⟨g, 0, none⟩)] w fun e w' => e = .returned (.tuple #[]) ∧ w = w' := by
  have h2 : w.cell? ⟨g, 2, none⟩ = some (.int .u64 (r : Int)) := hB.cell 2
  have hr' : ¬ (r : Int) < 16777216 := by omega
  clear hB
  go_enter Try.func35, Try.ntmps35
  go_wp2_with fail
  first | go_end0 | refine bodyPost_ret (results_none rfl _ _ _) rfl ?_
  exact ⟨rfl, rfl⟩

set_option maxHeartbeats 2000000 in
theorem level_low {x at' : Nat} {bad' : Bool} (hB : Blk w g 41 (decCells A n c at_ r k bad)) (hr : r < 16777216) (hk : k < 4294967296) (hx : x < 256)
    (K : ∀ W, w.grownBy W (some g) → Blk W g 41 (decCells A n c at_ (r * 256) k bad) → Calls Try.prog 25 #[.pointer (some ⟨g, 0, none⟩)] W fun e w' =>
      e = .returned (.int .u64 (x : Int)) ∧ Blk w' g 41 (decCells A n c at' (r * 256) k bad') ∧ W.grownBy w' (some g)) :
    Calls Try.prog 35 #[.pointer (some ⟨g, 0, none⟩)] w fun e w' =>
      e = .returned (.tuple #[]) ∧ Blk w' g 41 (decCells A n c at' (r * 256) ((k * 256 + x) % 4294967296) bad') ∧ w.grownBy w' (some g) := by
  have h2 : w.cell? ⟨g, 2, none⟩ = some (.int .u64 (r : Int)) := hB.cell 2
  have f2 : w.frozen? ⟨g, 2, none⟩ = false := hB.free 2
  have hr' : (r : Int) < 16777216 := by omega
  have e1 : IntKind.u64.wrap ((r : Int) * 256) = (r : Int) * 256 := by rw [show (r : Int) * 256 = ((r * 256 : Nat) : Int) by omega]; exact u64_in _ (by omega)
  have e2 : IntKind.u64.wrap ((k : Int) * 256) = (k : Int) * 256 := by rw [show (k : Int) * 256 = ((k * 256 : Nat) : Int) by omega]; exact u64_in _ (by omega)
  have e3 : IntKind.u64.wrap ((k : Int) * 256 + (x : Int)) = (k : Int) * 256 + (x : Int) := by rw [show (k : Int) * 256 + (x : Int) = ((k * 256 + x : Nat) : Int) by omega]; exact u64_in _ (by omega)
  have HB := Lib.hid hB
  have HK := Lib.hid K
  clear hB K
  go_enter Try.func35, Try.ntmps35
  go_wp2_with fail
  have hB2 : Blk (w.setCell ⟨g, 2, none⟩ (.int .u64 ((r : Int) * 256))).drew g 41 (decCells A n c at_ (r * 256) k bad) := by
    have := HB.out.put 2 (.int .u64 ((r : Int) * 256))
    rw [← show ((r * 256 : Nat) : Int) = (r : Int) * 256 by omega] at this ⊢
    exact this
  have hg2 : w.grownBy (w.setCell ⟨g, 2, none⟩ (.int .u64 ((r : Int) * 256))).drew (some g) := only_drewN (only_setCell (World.grownBy.refl w _) (.inl rfl) _) 1
  have j3 : (w.setCell ⟨g, 2, none⟩ (.int .u64 ((r : Int) * 256))).cell? ⟨g, 3, none⟩ = some (.int .u64 (k : Int)) := hB2.cell 3
  have HK2 := Lib.hid (HK.out _ hg2 hB2)
  have HG2 := Lib.hid hg2
  clear hB2 hg2 HK HB h2 f2
  generalize w.setCell ⟨g, 2, none⟩ (.int .u64 ((r : Int) * 256)) = w2 at *
  go_region_law (first | (go_simp; go_at_call 25; refine HK2.out.mono ?_; rintro e w3 ⟨rfl, hB3, hg3⟩; have k3 : w3.cell? ⟨g, 3, none⟩ = some (.int .u64 (k : Int)) := hB3.cell 3; have z3 : w3.frozen? ⟨g, 3, none⟩ = false := hB3.free 3; have HB3 := Lib.hid hB3; have HG3 := Lib.hid hg3; clear hB3 hg3))
  all_goals
    try go_wp2_with fail
    first | go_end0 | refine bodyPost_ret (results_none rfl _ _ _) rfl ?_
    have em : ((k : Int) * 256 + (x : Int)).tmod 4294967296 = (((k * 256 + x) % 4294967296 : Nat) : Int) := by
      rw [show (k : Int) * 256 + (x : Int) = ((k * 256 + x : Nat) : Int) by omega, Int.tmod_eq_emod_of_nonneg (by omega)]
      omega
    rw [em]
    exact ⟨rfl, HB3.out.put 3 _, only_setCell (only_trans HG2.out HG3.out) (.inl rfl) _⟩
end

/-- A decoder's cells are those of a state d. -/
def Tells (bs : List UInt8) (d : Dc) (at_ r k : Nat) (bad : Bool) : Prop :=
  at_ ≤ bs.length ∧ r < 4294967296 ∧ k < 4294967296 ∧ ((bad = true ∧ d = none) ∨ (bad = false ∧ d = some (r, k, bs.drop at_)))

theorem level_any {g c at_ r k : Nat} {A : Option Addr} {w : World} {bs : List UInt8} {bad : Bool} (hB : Blk w g 41 (decCells A bs.length c at_ r k bad)) (hS : Sl w A bs.length (bv bs)) (ha : at_ ≤ bs.length) (hn : bs.length ≤ 1000000000)
    (hne : 0 < bs.length → ∀ b o, A = some ⟨b, o, none⟩ → b ≠ g) (hr : r < 4294967296) (hk : k < 4294967296) (hkr : bad = false → k < r) :
    Calls Try.prog 35 #[.pointer (some ⟨g, 0, none⟩)] w fun e w' =>
      e = .returned (.tuple #[]) ∧ ∃ at' r' k' bad', Blk w' g 41 (decCells A bs.length c at' r' k' bad') ∧ Tells bs (if bad = true then none else lvl r k (bs.drop at_)) at' r' k' bad' ∧ w.grownBy w' (some g) := by
  by_cases hlow : r < 16777216
  · cases bad
    · by_cases hlt : at_ < bs.length
      · have hd : bs.drop at_ = bs[at_] :: bs.drop (at_ + 1) := List.drop_eq_getElem_cons hlt
        have hx := (bs[at_]).toNat_lt
        have hkr' := hkr rfl
        refine (level_low (x := (bs[at_]).toNat) (at' := at_ + 1) (bad' := false) hB hlow hk (by omega) ?_).mono ?_
        · intro W hg hW
          obtain ⟨b, o, rfl, hb, hc⟩ := (hS.grown hg hne).2 (by omega)
          refine next_ok (x := bs[at_]) hW hlt hn ?_ (hne (by omega) b o rfl)
          rw [hc at_ hlt, bv_get _ _ hlt]
          simp [List.getD, hlt]
        · rintro e w' ⟨rfl, h1, h2⟩
          refine ⟨rfl, _, _, _, _, h1, ⟨hlt, by omega, by omega, .inr ⟨rfl, ?_⟩⟩, h2⟩
          rw [if_neg (by simp), hd]
          unfold lvl
          rw [if_pos hlow]
          show some _ = some _
          rw [Nat.mod_eq_of_lt (by omega)]
      · obtain rfl : at_ = bs.length := by omega
        refine (level_low (x := 0) (at' := bs.length) (bad' := true) hB hlow hk (by omega) (fun W _ hW => next_end hW hn)).mono ?_
        rintro e w' ⟨rfl, h1, h2⟩
        refine ⟨rfl, _, _, _, _, h1, ⟨Nat.le_refl _, by omega, by omega, .inl ⟨rfl, ?_⟩⟩, h2⟩
        rw [if_neg (by simp), List.drop_length]
        unfold lvl
        rw [if_pos hlow]
    · refine (level_low (x := 0) (at' := at_) (bad' := true) hB hlow hk (by omega) (fun W _ hW => next_bad hW)).mono ?_
      rintro e w' ⟨rfl, h1, h2⟩
      exact ⟨rfl, _, _, _, _, h1, ⟨ha, by omega, by omega, .inl ⟨rfl, if_pos rfl⟩⟩, h2⟩
  · refine (level_high hB hlow).mono ?_
    rintro e w' ⟨rfl, rfl⟩
    refine ⟨rfl, at_, r, k, bad, hB, ⟨ha, hr, hk, ?_⟩, World.grownBy.refl w _⟩
    cases bad
    · right
      refine ⟨rfl, ?_⟩
      rw [if_neg (by simp)]
      unfold lvl
      rw [if_neg hlow]
    · exact .inl ⟨rfl, if_pos rfl⟩
end Go.Proofs.Ytjomenlegffmeaa
