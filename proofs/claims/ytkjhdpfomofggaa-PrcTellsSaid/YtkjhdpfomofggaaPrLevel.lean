/-
  The reference's decoder of shares is levelled.
-/
import Derived.Test.YtkjhdpfomofggaaPrRef
import Derived.LoopN
namespace Go.Proofs.Ytkjhdpfomofggaa
open Go.RowKit

/-- levelled, f bytes at most -/
def lvf : Nat → Nat → Nat → List UInt8 → Dc
  | 0, r, c, s => some (r, c, s)
  | f + 1, r, c, s => (lvl r c s).bind fun x => lvf f x.1 x.2.1 x.2.2
theorem plv3_lvf (r c : Nat) (s : List UInt8) : lvf 3 r c s = plv3 r c s := by
  unfold plv3
  show ((lvl r c s).bind fun x => (lvl x.1 x.2.1 x.2.2).bind fun x => (lvl x.1 x.2.1 x.2.2).bind fun x => some (x.1, x.2.1, x.2.2)) = _
  cases lvl r c s with
  | none => rfl
  | some x =>
    simp only [Option.bind_some]
    cases lvl x.1 x.2.1 x.2.2 with
    | none => rfl
    | some y =>
      simp only [Option.bind_some]
      cases lvl y.1 y.2.1 y.2.2 with
      | none => rfl
      | some z => rfl
theorem lvf_high {r c : Nat} {s : List UInt8} (h : ¬ r < 16777216) : ∀ f, lvf f r c s = some (r, c, s)
  | 0 => rfl
  | f + 1 => by
    show (lvl r c s).bind _ = _
    unfold lvl
    rw [if_neg h, Option.bind_some]
    exact lvf_high h f
theorem lvf_byte {r c : Nat} {x : UInt8} {s : List UInt8} (h : r < 16777216) (f : Nat) : lvf (f + 1) r c (x :: s) = lvf f (r * 256) (c * 256 + x.toNat) s := by
  show (lvl r c (x :: s)).bind _ = _
  unfold lvl
  rw [if_pos h]
  rfl
theorem lvf_none {r c : Nat} (h : r < 16777216) (f : Nat) : lvf (f + 1) r c [] = none := by
  show (lvl r c []).bind _ = _
  unfold lvl
  rw [if_pos h]
  rfl

/-- A decoder's cells are those of a state d. -/
def Tells (bs : List UInt8) (d : Dc) (at_ r k : Nat) (bad : Bool) : Prop :=
  at_ ≤ bs.length ∧ r < 4294967296 ∧ k < 4294967296 ∧ ((bad = true ∧ d = none) ∨ (bad = false ∧ d = some (r, k, bs.drop at_)))

/-- on the way to D -/
def LvWay (bs : List UInt8) (D : Dc) (at_ r k : Nat) (bad : Bool) : Prop :=
  at_ ≤ bs.length ∧ r < 4294967296 ∧ k < 4294967296 ∧ 1 ≤ r ∧ ((bad = true ∧ D = none) ∨ (bad = false ∧ k < r ∧ ∃ f, 16777216 ≤ r * 256 ^ f ∧ lvf f r k (bs.drop at_) = D))
def LvRel (w wr : World) (g c : Nat) (A : Option Addr) (bs : List UInt8) (D : Dc) : Prop :=
  ∃ at' r' k' bad', Blk wr g 40 (decCells A bs.length c at' r' k' bad') ∧ LvWay bs D at' r' k' bad' ∧ w.grownBy wr (some g)
def cellNat (w : World) (a : Addr) : Nat := match w.cell? a with
  | some (.int _ n) => n.toNat
  | _ => 0

theorem lvway_end {bs : List UInt8} {D : Dc} {at_ r k : Nat} {bad : Bool} (h : LvWay bs D at_ r k bad) (he : bad = true ∨ ¬ r < 16777216) : Tells bs D at_ r k bad := by
  obtain ⟨h1, h2, h3, h4, h5⟩ := h
  refine ⟨h1, h2, h3, ?_⟩
  rcases h5 with ⟨hb, hD⟩ | ⟨hb, _, f, _, hf⟩
  · exact .inl ⟨hb, hD⟩
  · refine .inr ⟨hb, ?_⟩
    rcases he with he | he
    · rw [hb] at he; cases he
    · rw [← hf, lvf_high he]

/-- a byte that is there, or none -/
theorem lv_step {w : World} {g n c at_ r k : Nat} {A : Option Addr} {bs : List UInt8} {D : Dc} (hn : n = bs.length) (hlen : bs.length ≤ 1000000000) (hS : Sl w A bs.length (bv bs)) (hne : 0 < bs.length → ∀ b o, A = some ⟨b, o, none⟩ → b ≠ g) (h : LvWay bs D at_ r k false) (hr : r < 16777216) :
    ∃ (x at2 : Nat) (bad2 : Bool), x < 256 ∧ (∀ W, w.grownBy W (some g) → Blk W g 40 (decCells A n c at_ (r * 256) k false) → Calls Try.prog 32 #[.pointer (some ⟨g, 0, none⟩)] W fun e w' =>
      e = .returned (.int .u64 (x : Int)) ∧ Blk w' g 40 (decCells A n c at2 (r * 256) k bad2) ∧ W.grownBy w' (some g)) ∧ LvWay bs D at2 (r * 256) ((k * 256 + x) % 4294967296) bad2 := by
  subst hn
  obtain ⟨h1, h2, h3, h4, h5⟩ := h
  rcases h5 with ⟨hb, _⟩ | ⟨_, hkr, f, hf, hD⟩
  · cases hb
  obtain ⟨f, rfl⟩ : ∃ f', f = f' + 1 := by
    cases f with
    | zero => rw [Nat.pow_zero, Nat.mul_one] at hf; omega
    | succ f => exact ⟨f, rfl⟩
  by_cases hlt : at_ < bs.length
  · have hd : bs.drop at_ = bs[at_] :: bs.drop (at_ + 1) := List.drop_eq_getElem_cons hlt
    have hx := (bs[at_]).toNat_lt
    refine ⟨(bs[at_]).toNat, at_ + 1, false, by omega, ?_, hlt, by omega, by omega, by omega, .inr ⟨rfl, by omega, f, ?_, ?_⟩⟩
    · intro W hg hW
      obtain ⟨b, o, rfl, hb, hc⟩ := (hS.grown hg hne).2 (by omega)
      refine next_ok (x := bs[at_]) hW hlt hlen ?_ (hne (by omega) b o rfl)
      rw [hc at_ hlt, bv_get _ _ hlt]
      simp [List.getD, hlt]
    · rw [Nat.pow_succ, Nat.mul_comm (256 ^ f), ← Nat.mul_assoc] at hf
      exact hf
    · rw [← hD, hd, lvf_byte hr, Nat.mod_eq_of_lt (by omega)]
  · obtain rfl : at_ = bs.length := by omega
    refine ⟨0, bs.length, true, by omega, fun W _ hW => next_end hW hlen, Nat.le_refl _, by omega, by omega, by omega, .inl ⟨rfl, ?_⟩⟩
    rw [← hD, List.drop_length, lvf_none hr]

/-- What a levelling leaves: behind a definition, so that no walk looks into it. -/
def LvPost (w : World) (g c : Nat) (A : Option Addr) (bs : List UInt8) (D : Dc) (e : Ending) (w' : World) : Prop :=
  e = .returned (.tuple #[]) ∧ ∃ at' r' k' bad', Blk w' g 40 (decCells A bs.length c at' r' k' bad') ∧ Tells bs D at' r' k' bad' ∧ w.grownBy w' (some g)

section
variable {g c at_ r k : Nat} {A : Option Addr} {w : World} {bs : List UInt8} {bad : Bool}
set_option maxHeartbeats 4000000 in
theorem level6_any (hB : Blk w g 40 (decCells A bs.length c at_ r k false)) (hS : Sl w A bs.length (bv bs)) (ha : at_ ≤ bs.length) (hn : bs.length ≤ 1000000000)
    (hne : 0 < bs.length → ∀ b o, A = some ⟨b, o, none⟩ → b ≠ g) (hr0 : 1 ≤ r) (hr : r < 4294967296) (hkr : k < r) :
    Calls Try.prog 35 #[.pointer (some ⟨g, 0, none⟩)] w (LvPost w g c A bs (plv3 r k (bs.drop at_))) := by
  have HREL0 := Lib.hid (show LvRel w w g c A bs (plv3 r k (bs.drop at_)) from ⟨at_, r, k, false, hB, ⟨ha, hr, by omega, hr0, .inr ⟨rfl, hkr, 3, by omega, plv3_lvf _ _ _⟩⟩, World.grownBy.refl w _⟩)
  have HS := Lib.hid hS
  have HNE := Lib.hid hne
  have HN := Lib.hid hn
  clear hB hS ha hn hne hr0 hr hkr
  generalize plv3 r k (bs.drop at_) = D at *
  go_enter Try.func35, Try.ntmps35
  go_wp2_with fail
  go_loopw [] (fun wr => LvRel w wr g c A bs D) (fun wr => 4294967296 - cellNat wr ⟨g, 2, none⟩)
  case atStart => exact HREL0.out
  case round =>
    clear HREL0
    obtain ⟨at1, r1, k1, bad1, hB, hway, hg⟩ := hrel
    have h2 : wr.cell? ⟨g, 2, none⟩ = some (.int .u64 (r1 : Int)) := hB.cell 2
    have h3 : wr.cell? ⟨g, 3, none⟩ = some (.int .u64 (k1 : Int)) := hB.cell 3
    have h4 : wr.cell? ⟨g, 4, none⟩ = some (.bool bad1) := hB.cell 4
    have f2 : wr.frozen? ⟨g, 2, none⟩ = false := hB.free 2
    have HB := Lib.hid hB
    have HG := Lib.hid hg
    have HW := Lib.hid hway
    have HWB := Lib.hid (show r1 < 4294967296 ∧ k1 < 4294967296 ∧ 1 ≤ r1 from ⟨hway.2.1, hway.2.2.1, hway.2.2.2.1⟩)
    obtain ⟨ri, hri⟩ : ∃ ri : Int, ri = (r1 : Int) := ⟨_, rfl⟩
    have HRI := Lib.hid hri
    clear hB hg hway
    by_cases hlow : r1 < 16777216
    · cases bad1
      · obtain ⟨x, at2, bad2, hx, hK, hw2⟩ := lv_step (c := c) rfl HN.out (HS.out.grown HG.out HNE.out) HNE.out HW.out hlow
        have hlo : ri < 16777216 := by omega
        obtain ⟨X, hX⟩ : ∃ X : Int, X = ((r1 * 256 : Nat) : Int) := ⟨_, rfl⟩
        obtain ⟨K2, hK2⟩ : ∃ X : Int, X = ((k1 * 256 : Nat) : Int) := ⟨_, rfl⟩
        obtain ⟨Y, hY⟩ : ∃ X : Int, X = ((k1 * 256 + x : Nat) : Int) := ⟨_, rfl⟩
        obtain ⟨Z, hZ⟩ : ∃ X : Int, X = (((k1 * 256 + x) % 4294967296 : Nat) : Int) := ⟨_, rfl⟩
        have hwb := HWB.out
        have e1 : IntKind.u64.wrap (ri * 256) = X := by rw [hX, hri, show (r1 : Int) * 256 = ((r1 * 256 : Nat) : Int) by omega]; exact u64_in _ (by omega)
        have e1' : X.tmod 4294967296 = X := by rw [Int.tmod_eq_emod_of_nonneg (by omega)]; omega
        have e2 : IntKind.u64.wrap ((k1 : Int) * 256) = K2 := by rw [hK2, show (k1 : Int) * 256 = ((k1 * 256 : Nat) : Int) by omega]; exact u64_in _ (by omega)
        have e3 : IntKind.u64.wrap (K2 + (x : Int)) = Y := by rw [hK2, hY, ← Int.natCast_add]; exact u64_in _ (by omega)
        have e4 : Y.tmod 4294967296 = Z := by rw [hY, hZ, Int.tmod_eq_emod_of_nonneg (by omega)]; omega
        have hB2 : Blk (wr.setCell ⟨g, 2, none⟩ (.int .u64 ((r1 * 256 : Nat) : Int))).drew g 40 (decCells A bs.length c at1 (r1 * 256) k1 false) := HB.out.put 2 (.int .u64 ((r1 * 256 : Nat) : Int))
        have hg2 : wr.grownBy (wr.setCell ⟨g, 2, none⟩ (.int .u64 ((r1 * 256 : Nat) : Int))).drew (some g) := only_drewN (only_setCell (World.grownBy.refl wr _) (.inl rfl) _) 1
        have j3 : (wr.setCell ⟨g, 2, none⟩ (.int .u64 ((r1 * 256 : Nat) : Int))).cell? ⟨g, 3, none⟩ = some (.int .u64 (k1 : Int)) := hB2.cell 3
        have HK2 := Lib.hid (hK _ hg2 hB2)
        have HG2 := Lib.hid hg2
        have HW2 := Lib.hid hw2
        have HINC := Lib.hid (show r1 < r1 * 256 ∧ r1 * 256 < 4294967296 by omega)
        have HZ := Lib.hid hZ
        have HX := Lib.hid hX
        rw [← hri] at h2
        rw [← hX] at j3 HK2 HG2
        clear hB2 hg2 hK hw2 hlow hx HWB hri h3 hX hK2 hY hZ hwb
        obtain ⟨R, hR⟩ : ∃ R, R = r1 * 256 := ⟨_, rfl⟩
        obtain ⟨y', hy'⟩ : ∃ y, y = (k1 * 256 + x) % 4294967296 := ⟨_, rfl⟩
        rw [← hR] at HK2 HW2 HINC HX
        rw [← hy'] at HW2 HZ
        clear hR hy'
        go_wp2_with fail
        generalize wr.setCell ⟨g, 2, none⟩ (.int .u64 X) = w2 at *
        go_region_law (first | (go_simp; go_at_call 32; refine HK2.out.mono ?_; rintro e w3 ⟨rfl, hB3, hg3⟩; have k3 : w3.cell? ⟨g, 3, none⟩ = some (.int .u64 (k1 : Int)) := hB3.cell 3; have z3 : w3.frozen? ⟨g, 3, none⟩ = false := hB3.free 3; have HB3 := Lib.hid hB3; have HG3 := Lib.hid hg3; clear hB3 hg3))
        all_goals
          try go_wp2_with fail
          have HB4 := Lib.hid (HB3.out.put 3 (.int .u64 (y' : Int)))
          rw [HZ.out]
          have m2 : cellNat (w3.setCell ⟨g, 3, none⟩ (.int .u64 (y' : Int))) ⟨g, 2, none⟩ = R := by
            have h : (w3.setCell ⟨g, 3, none⟩ (.int .u64 (y' : Int))).cell? ⟨g, 2, none⟩ = some (.int .u64 (R : Int)) := HB4.out.cell 2
            unfold cellNat
            rw [h]
            rfl
          have m1 : cellNat wr ⟨g, 2, none⟩ = r1 := by
            unfold cellNat
            rw [h2, HRI.out]
            rfl
          go_roundw
          case rel => exact ⟨at2, R, y', bad2, HB4.out, HW2.out, only_setCell (only_trans (only_trans HG.out HG2.out) HG3.out) (.inl rfl) _⟩
          case measure =>
            rw [m2, m1]
            have := HINC.out
            omega
      · have hlo : ri < 16777216 := by omega
        rw [← hri] at h2
        clear hlow hri h3
        go_wp2_with fail
        first | go_end0 | refine bodyPost_ret (results_none rfl _ _ _) rfl ?_
        exact ⟨rfl, at1, r1, k1, true, HB.out, lvway_end HW.out (.inl rfl), HG.out⟩
    · have hlo : ¬ ri < 16777216 := by omega
      have HE := Lib.hid (lvway_end HW.out (.inr hlow))
      rw [← hri] at h2
      clear hlow hri h3
      go_wp2_with fail
      first | go_end0 | refine bodyPost_ret (results_none rfl _ _ _) rfl ?_
      exact ⟨rfl, at1, r1, k1, bad1, HB.out, HE.out, HG.out⟩
end
end Go.Proofs.Ytkjhdpfomofggaa
