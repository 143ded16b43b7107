/-
  The program's decoder of shares is levelled.
-/
import Derived.Test.YtkjhdpfomofggaaPxNew
import Derived.Test.YtkjhdpfomofggaaPwGive
namespace Go.Proofs.Ytkjhdpfomofggaa
open Go.RowKit

/-- on the way to D -/
def PxRel (w wr : World) (g f lo : Nat) (bs : List UInt8) (D : Dc) : Prop :=
  ∃ at_ r k bad, Blk wr g 62 (pdCells f r k bad) ∧ Feed wr f lo bs at_ ∧ LvWay bs D at_ r k bad ∧ Only (two f g) w wr
/-- what a call leaves -/
def PxPost (w : World) (g f lo : Nat) (bs : List UInt8) (v : Value) (D : Dc) (x : Ending) (w' : World) : Prop := x = .returned v ∧ Pd w' g f lo bs D ∧ Only (two f g) w w'

theorem px_cells {w : World} {g f r k : Nat} {bad : Bool} (h : Blk w g 62 (pdCells f r k bad)) :
    w.cell? ⟨g, 1, none⟩ = some (.int .u32 (r : Int)) ∧ w.cell? ⟨g, 2, none⟩ = some (.int .u32 (k : Int)) ∧ w.cell? ⟨g, 3, none⟩ = some (.bool bad) ∧ w.frozen? ⟨g, 1, none⟩ = false ∧ w.frozen? ⟨g, 2, none⟩ = false ∧ w.frozen? ⟨g, 3, none⟩ = false :=
  ⟨h.cell 1, h.cell 2, h.cell 3, h.free 1, h.free 2, h.free 3⟩
theorem feed_put {w : World} {g f lo at_ i : Nat} {bs : List UInt8} {u : Value} (hF : Feed w f lo bs at_) (hfg : f < g) : Feed (w.setCell ⟨g, i, none⟩ u) f lo bs at_ :=
  hF.only ((Only.refl (fun i => i = g) w).setCell (p := ⟨g, i, none⟩) (.inl rfl) _) (fun i hi => by omega)

/-- One round of a levelling. -/
theorem px_step {w wr : World} {g f lo at_ r k : Nat} {bs : List UInt8} {D : Dc} (hB : Blk wr g 62 (pdCells f r k false)) (hF : Feed wr f lo bs at_) (hfg : f < g) (hw : LvWay bs D at_ r k false) (hr : r < 16777216) (hO : Only (two f g) w wr) :
    Calls Try.prog 30 #[.pointer (some ⟨g, 0, none⟩)] (wr.setCell ⟨g, 1, none⟩ (.int .u32 ((r * 256 : Nat) : Int))) fun x w3 => x = .returned (.tuple #[]) ∧ PxRel w w3 g f lo bs D ∧ w3.cell? ⟨g, 1, none⟩ = some (.int .u32 ((r * 256 : Nat) : Int)) := by
  obtain ⟨h1, h2, h3, h4, h5⟩ := hw
  rcases h5 with ⟨hb, _⟩ | ⟨_, hkr, n, hf, hD⟩
  · cases hb
  obtain ⟨n, rfl⟩ : ∃ n', n = n' + 1 := by
    cases n with
    | zero => rw [Nat.pow_zero, Nat.mul_one] at hf; omega
    | succ n => exact ⟨n, rfl⟩
  refine (shift_any (r := r * 256) (hB.put 1 (.int .u32 ((r * 256 : Nat) : Int))) (feed_put hF hfg) hfg (by omega)).mono ?_
  rintro x w3 ⟨rfl, at', c', bad', hB3, hF3, hO3, hx⟩
  refine ⟨rfl, ⟨at', r * 256, c', bad', hB3, hF3, ⟨hF3.le, by omega, ?_, by omega, ?_⟩, (hO.setCell (p := ⟨g, 1, none⟩) (.inl (two_r f g)) _).trans hO3⟩, hB3.cell 1⟩
  · rcases hx with ⟨_, rfl, _⟩ | ⟨y, _, rfl, _⟩
    · exact h3
    · have := y.toNat_lt; omega
  · rcases hx with ⟨rfl, rfl, h⟩ | ⟨y, rfl, rfl, h⟩
    · rw [h, lvf_none hr] at hD
      exact .inl ⟨rfl, hD.symm⟩
    · have := y.toNat_lt
      rw [h, lvf_byte hr] at hD
      refine .inr ⟨rfl, by omega, n, ?_, hD⟩
      rw [Nat.pow_succ, Nat.mul_comm (256 ^ n), ← Nat.mul_assoc] at hf
      exact hf

set_option maxHeartbeats 4000000 in
theorem plevel_any {w w0 : World} {g f lo at_ r k : Nat} {bs : List UInt8} (hB : Blk w0 g 62 (pdCells f r k false)) (hF : Feed w0 f lo bs at_) (hfg : f < g) (hO : Only (two f g) w w0) (hr0 : 1 ≤ r) (hr : r < 4294967296) (hkr : k < r) :
    Calls Try.prog 34 #[.pointer (some ⟨g, 0, none⟩)] w0 (PxPost w g f lo bs (.tuple #[]) (plv3 r k (bs.drop at_))) := by
  have K := Lib.hid (refuse_any (so := false) hB)
  obtain ⟨c1, _, _, _, _, _⟩ := px_cells hB
  have HFG := Lib.hid hfg
  have HREL1 := Lib.hid (fun (w1 : World) (hB1 : Blk w1 g 62 (pdCells f r k (false || false))) (hg1 : w0.grownBy w1 (some g)) =>
    (show PxRel w w1 g f lo bs (plv3 r k (bs.drop at_)) from
      ⟨at_, r, k, false, hB1, hF.only (Only.of_grown (S := fun i => i = g) hg1 rfl) (fun i hi => by omega), ⟨hF.le, hr, by omega, hr0, .inr ⟨rfl, hkr, 3, by omega, plv3_lvf _ _ _⟩⟩, hO.trans (Only.of_grown hg1 (two_r f g))⟩))
  obtain ⟨ri, hri⟩ : ∃ ri : Int, ri = (r : Int) := ⟨_, rfl⟩
  have r0 : ¬ ri = 0 := by omega
  have r1 : (ri == 0) = false := by simp [r0]
  rw [← hri] at c1
  clear hB hF hO hr0 hr hkr hri hfg
  generalize plv3 r k (bs.drop at_) = D at *
  go_enter Try.func34, Try.ntmps34
  go_wp2_with fail
  refine K.out.mono ?_
  rintro x w1 ⟨rfl, hB1, hg1⟩
  have HREL0 := Lib.hid (HREL1.out w1 hB1 hg1)
  clear hB1 hg1 K HREL1 c1 r0 r1
  go_wp2_with fail
  go_loopw [] (fun wr => PxRel w wr g f lo bs D) (fun wr => 4294967296 - rangeNat wr g)
  case atStart => exact HREL0.out
  case round =>
    clear HREL0
    obtain ⟨at1, r1, k1, bad1, hB, hF, hway, hO⟩ := hrel
    obtain ⟨h1, _, h3, f1, _, _⟩ := px_cells hB
    have m1 : rangeNat wr g = r1 := by unfold rangeNat; rw [h1]; rfl
    obtain ⟨ri, hri⟩ : ∃ ri : Int, ri = (r1 : Int) := ⟨_, rfl⟩
    by_cases hlow : r1 < 16777216
    · cases bad1
      · have K := px_step hB hF HFG.out hway hlow hO
        obtain ⟨R, hR⟩ : ∃ R, R = r1 * 256 := ⟨_, rfl⟩
        obtain ⟨X, hX⟩ : ∃ X : Int, X = (R : Int) := ⟨_, rfl⟩
        rw [← hR, ← hX] at K
        have hw4 := hway.2.2.2.1
        have hlo : ri < 16777216 := by omega
        have x1 : IntKind.u32.wrap (ri * 256) = X := by rw [hX, hR, hri, show (r1 : Int) * 256 = ((r1 * 256 : Nat) : Int) by omega]; exact u32_is _ (by omega) (by omega)
        have HM := Lib.hid (show r1 < R ∧ R < 4294967296 by omega)
        have HX := Lib.hid hX
        have HM1 := Lib.hid m1
        have HK := Lib.hid K
        rw [← hri] at h1
        clear hB hF hway hO hlow hri hR hX K m1 hw4
        go_wp2_with fail
        refine HK.out.mono ?_
        rintro x w3 ⟨rfl, hrel3, k1⟩
        have HREL := Lib.hid hrel3
        have HK1 := Lib.hid k1
        clear hrel3 k1 HK
        go_wp2_with fail
        go_roundw
        case rel => exact HREL.out
        case measure =>
          have m2 : rangeNat w3 g = R := by unfold rangeNat; rw [HK1.out, HX.out]; rfl
          rw [m2, HM1.out]
          have := HM.out
          omega
      · have hlo : ri < 16777216 := by omega
        have HE := Lib.hid (show PxPost w g f lo bs (.tuple #[]) D (.returned (.tuple #[])) wr from ⟨rfl, ⟨at1, r1, k1, true, hB, hF, HFG.out, lvway_end hway (.inl rfl)⟩, hO⟩)
        rw [← hri] at h1
        clear hB hF hway hO hlow hri m1
        go_wp2_with fail
        first | go_end0 | refine bodyPost_ret (results_none rfl _ _ _) rfl ?_
        exact HE.out
    · have hlo : ¬ ri < 16777216 := by omega
      have HE := Lib.hid (show PxPost w g f lo bs (.tuple #[]) D (.returned (.tuple #[])) wr from ⟨rfl, ⟨at1, r1, k1, bad1, hB, hF, HFG.out, lvway_end hway (.inr hlow)⟩, hO⟩)
      rw [← hri] at h1
      clear hB hF hway hO hlow hri m1
      cases bad1
      · go_wp2_with fail
        first | go_end0 | refine bodyPost_ret (results_none rfl _ _ _) rfl ?_
        exact HE.out
      · go_wp2_with fail
        first | go_end0 | refine bodyPost_ret (results_none rfl _ _ _) rfl ?_
        exact HE.out
end Go.Proofs.Ytkjhdpfomofggaa
