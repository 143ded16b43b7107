/-
  LwRow, MtPure, MtUse, MtUses, MtMem, WnPure, WnRing, Own, WnWin, WnPut, WnOne, WnCopy: put together.
-/
import Derived.Test.YtiolfjhddbiglaaGreatDoorU01
import Derived.Test.YtiolfjhddbiglaaGreatDoorU02
import Derived.Test.YtiolfjhddbiglaaGreatDoorRows
import Derived.Tactics
import Derived.Tactics2
import Derived.Laws.Pointers
import Derived.Laws.LoneSync
import Derived.Lib.MinMax
import Derived.RegionTactic
import Derived.RegionCalls
import Derived.StillTailTactics
import Derived.Deep.RegionHeld3
import Derived.Deep.RegionLaw
import Derived.Laws.CopyOwn
import Derived.Laws.MakeOwn
import Derived.Deep.Cut
set_option linter.unusedVariables false
set_option linter.unusedSimpArgs false
/-
  The program's decoder of ranges over probabilities that lie wherever they lie: bits, trees.
-/
namespace Go.Proofs.YtiolfjhddbiglaaGreatDoor
open Go.RowKit

/-- what a decoder turns -/
def owns (S : Sc) (g : Nat) (B : Nat → Prop) : Nat → Prop := fun i => S.turn i ∨ i = g ∨ B i
/-- the machine and its probabilities, in memory -/
structure Mch (R : World → List Nat → Prop) (g : Nat) (S : Sc) (bs : List UInt8) (L : Nat) (w : World) (t : Pm Dc) : Prop where
  sc : ScOk S
  pd : Pd w g S bs t.x
  row : R w t.ps
  ok : PmOk okD L 0 t
def MPost (R : World → List Nat → Prop) (B : Nat → Prop) (g : Nat) (S : Sc) (bs : List UInt8) (L : Nat) (w : World) (v : Value) (t : Pm Dc) (e : Ending) (w' : World) : Prop :=
  e = .returned v ∧ Mch R g S bs L w' t ∧ Only (owns S g B) w w'
theorem okD_any {L k : Nat} {t : Pm Dc} (h : PmOk okD L 0 t) : PmOk okD L k t := ⟨h.ps, h.len, h.x⟩
section
variable {R : World → List Nat → Prop} {B : Nat → Prop} {ad : Nat → Nat × Nat} {L : Nat} {S : Sc} {g r c at_ b i p a : Nat} {w : World} {bs : List UInt8} {ps : List Nat}

set_option maxRecDepth 100000 in
set_option maxHeartbeats 4000000 in
theorem lw_zero (hS : ScOk S) (Z : Prb R B ad L) (hB0 : ∀ i, B i → ¬ S.hold i ∧ i ≠ g) (hab : ad a = (b, i)) (ha : a < L) {z : Nat} (hz : z = r / 2048 * p) (hB : Blk w g 228 (pdCells S.f r c false)) (hF : S.At w bs at_) (hg : ¬ S.hold g) (hR : R w ps) (hpi : p = ps.getD a 0)
    (hr0 : 16777216 ≤ r) (hr : r < 4294967296) (hp : POk p) (hlt : c < z) :
    Calls Tryz.prog 134 #[.pointer (some ⟨g, 0, none⟩), .pointer (some ⟨b, i, none⟩)] w fun e w' => e = .returned (.int .i64 0) ∧ Pd w' g S bs (lvl z c (bs.drop at_)) ∧ R w' (ps.set a (up0 p)) ∧ Only (owns S g B) w w' := by
  obtain ⟨b0, b1⟩ := bound_in hr0 hr hp
  rw [← hz] at b0 b1
  obtain ⟨p0, p1⟩ := hp
  have HS := Lib.hid hS
  have hBb : B b := by have := Z.blk ha; rw [hab] at this; exact this
  have hbo := hB0 b hBb
  have hbg : b ≠ g := hbo.2
  have h1 : w.cell? ⟨g, 1, none⟩ = some (.int .u32 (r : Int)) := hB.cell 1
  have h2 : w.cell? ⟨g, 2, none⟩ = some (.int .u32 (c : Int)) := hB.cell 2
  have h3 : w.cell? ⟨g, 3, none⟩ = some (.bool false) := hB.cell 3
  have z1 : w.frozen? ⟨g, 1, none⟩ = false := hB.free 1
  have hx : w.cell? ⟨b, i, none⟩ = some (.int .u16 (p : Int)) := by have := Z.cell hR ha; rw [hab] at this; rw [hpi]; exact this
  have zx : w.frozen? ⟨b, i, none⟩ = false := by have := Z.free hR ha; rw [hab] at this; exact this
  have e0 : IntKind.u32.wrap (p : Int) = (p : Int) := u32_of _ (by omega) (by omega)
  have e1 : IntKind.u32.wrap ((r : Int) / 2048 * (p : Int)) = (z : Int) := by
    rw [show (r : Int) / 2048 * (p : Int) = (z : Int) by rw [hz]; simp]
    exact u32_of _ (by omega) (by omega)
  have e1' : IntKind.u32.wrap ((r : Int) / 2048) = (r : Int) / 2048 := u32_of _ (by omega) (by omega)
  have hlt' : (c : Int) < (z : Int) := by omega
  clear hz hpi
  have e2 : IntKind.u16.wrap (2048 - (p : Int)) = 2048 - (p : Int) := u16_in _ (by omega)
  obtain ⟨u, hu⟩ : ∃ u, u = (2048 - p) / 32 := ⟨_, rfl⟩
  have e3 : IntKind.u16.wrap ((2048 - (p : Int)).tdiv 32) = (u : Int) := by
    rw [Int.tdiv_eq_ediv_of_nonneg (by omega), show (2048 - (p : Int)) / 32 = (u : Int) by omega]
    exact u16_in _ (by omega)
  have hup : up0 p = p + u := by unfold up0; omega
  have e5 : IntKind.u16.wrap ((p : Int) + (u : Int)) = ((p + u : Nat) : Int) := by rw [← Int.natCast_add]; exact u16_in _ (by omega)
  rw [hup]
  clear hu hup
  generalize p + u = q at *
  have hO1 : ∀ n, Only (fun j => j = g) w ((w.setCell ⟨g, 1, none⟩ (.int .u32 (z : Int))).drewN n) := fun n => ((Only.refl (fun j => j = g) w).setCell (p := ⟨g, 1, none⟩) (.inl rfl) _).drewN n
  have hO : ∀ n, Only (fun j => j = g ∨ j = b) w (((w.setCell ⟨g, 1, none⟩ (.int .u32 (z : Int))).drewN n).setCell ⟨b, i, none⟩ (.int .u16 (q : Int))) := fun n => ((hO1 n).mono (fun j hj => .inl hj)).setCell (p := ⟨b, i, none⟩) (.inl (.inr rfl)) _
  have hB1 : ∀ n, Blk (((w.setCell ⟨g, 1, none⟩ (.int .u32 (z : Int))).drewN n).setCell ⟨b, i, none⟩ (.int .u16 (q : Int))) g 228 (pdCells S.f z c false) := fun n => ((hB.put 1 _).drewN n).far hbg.symm _
  have HR := Lib.hid (fun n => show R (((w.setCell ⟨g, 1, none⟩ (.int .u32 (z : Int))).drewN n).setCell ⟨b, i, none⟩ (.int .u16 (q : Int))) (ps.set a q) from by have := Z.put (Z.only hR (hO1 n) (fun j hj e => (hB0 j hj).2 e)) ha q; rw [hab] at this; exact this)
  have K := Lib.hid (fun n => even_any (hB1 n) hS (hS.only hF (hO n) (fun j hj => by rcases hj with rfl | rfl; exact hg; exact hbo.1)) hg (by omega) (Nat.le_of_lt hlt))
  have HO := Lib.hid (fun n => (hO n).mono (S' := owns S g B) (fun j hj => by rcases hj with hj | hj; exact .inr (.inl hj); exact .inr (.inr (hj ▸ hBb))))
  have HZ := Lib.hid Z
  have HB0 := Lib.hid hB0
  clear hB hF hR hB1 hO hO1 Z hB0 hbo hBb hab ha hS
  go_enter Tryz.func134, Tryz.ntmps134
  go_wp2_with fail
  go_quiet (fail)
  go_wp2_with fail
  go_region
  all_goals go_wp2_with fail
  refine (K.out (nq + 1)).mono ?_
  rintro e w1 ⟨rfl, ⟨at', r', c', bad', hB2, hF2, _, ht⟩, hO2⟩
  have HB2 := Lib.hid hB2
  have HF2 := Lib.hid hF2
  have HT := Lib.hid ht
  have HR2 := Lib.hid (HZ.out.only (HR.out (nq + 1)) hO2 (fun j hj e => by rcases e with e | e; exact (HB0.out j hj).1 (HS.out.tf _ e); exact (HB0.out j hj).2 e))
  have HO2 := Lib.hid ((HO.out (nq + 1)).trans (hO2.mono fun j hj => by rcases hj with h | h; exact .inl h; exact .inr (.inl h)))
  have KT := Lib.hid (told_any (x := 0) hB2)
  clear hB2 hF2 ht hO2 HO K HR h1 h2 h3 z1 hx zx HZ HB0
  go_wp2_with fail
  refine KT.out.mono ?_
  rintro e w2 ⟨rfl, rfl⟩
  go_wp2_with fail
  go_ret
  exact ⟨by simp, ⟨at', r', c', bad', HB2.out, HF2.out, hg, HT.out⟩, HR2.out, HO2.out⟩

set_option maxRecDepth 100000 in
set_option maxHeartbeats 4000000 in
theorem lw_one (hS : ScOk S) (Z : Prb R B ad L) (hB0 : ∀ i, B i → ¬ S.hold i ∧ i ≠ g) (hab : ad a = (b, i)) (ha : a < L) {z v : Nat} {d1 : Dc} (hd1 : lvl (r - z) (c - z) (bs.drop at_) = d1) (hv : v = if d1 = none then 0 else 1) (hz : z = r / 2048 * p) (hB : Blk w g 228 (pdCells S.f r c false)) (hF : S.At w bs at_) (hg : ¬ S.hold g) (hR : R w ps) (hpi : p = ps.getD a 0)
    (hr0 : 16777216 ≤ r) (hr : r < 4294967296) (hcr : c < r) (hp : POk p) (hlt : ¬ c < z) :
    Calls Tryz.prog 134 #[.pointer (some ⟨g, 0, none⟩), .pointer (some ⟨b, i, none⟩)] w fun e w' => e = .returned (.int .i64 (v : Int)) ∧ Pd w' g S bs d1 ∧ R w' (ps.set a (up1 p)) ∧ Only (owns S g B) w w' := by
  obtain ⟨b0, b1⟩ := bound_in hr0 hr hp
  rw [← hz] at b0 b1
  obtain ⟨p0, p1⟩ := hp
  have HS := Lib.hid hS
  have hBb : B b := by have := Z.blk ha; rw [hab] at this; exact this
  have hbo := hB0 b hBb
  have hbg : b ≠ g := hbo.2
  have h1 : w.cell? ⟨g, 1, none⟩ = some (.int .u32 (r : Int)) := hB.cell 1
  have h2 : w.cell? ⟨g, 2, none⟩ = some (.int .u32 (c : Int)) := hB.cell 2
  have h3 : w.cell? ⟨g, 3, none⟩ = some (.bool false) := hB.cell 3
  have z1 : w.frozen? ⟨g, 1, none⟩ = false := hB.free 1
  have z2 : w.frozen? ⟨g, 2, none⟩ = false := hB.free 2
  have hx : w.cell? ⟨b, i, none⟩ = some (.int .u16 (p : Int)) := by have := Z.cell hR ha; rw [hab] at this; rw [hpi]; exact this
  have zx : w.frozen? ⟨b, i, none⟩ = false := by have := Z.free hR ha; rw [hab] at this; exact this
  have e0 : IntKind.u32.wrap (p : Int) = (p : Int) := u32_of _ (by omega) (by omega)
  have e1 : IntKind.u32.wrap ((r : Int) / 2048 * (p : Int)) = (z : Int) := by
    rw [show (r : Int) / 2048 * (p : Int) = (z : Int) by rw [hz]; simp]
    exact u32_of _ (by omega) (by omega)
  have e1' : IntKind.u32.wrap ((r : Int) / 2048) = (r : Int) / 2048 := u32_of _ (by omega) (by omega)
  have hlt' : ¬ (c : Int) < (z : Int) := by omega
  clear hz hpi
  have e2 : IntKind.u32.wrap ((c : Int) - (z : Int)) = ((c - z : Nat) : Int) := by rw [show (c : Int) - (z : Int) = ((c - z : Nat) : Int) by omega]; exact u32_of _ (by omega) (by omega)
  have e3 : IntKind.u32.wrap ((r : Int) - (z : Int)) = ((r - z : Nat) : Int) := by rw [show (r : Int) - (z : Int) = ((r - z : Nat) : Int) by omega]; exact u32_of _ (by omega) (by omega)
  have hup : up1 p = p - p / 32 := rfl
  have e5 : IntKind.u16.wrap ((p : Int) - (p : Int) / 32) = ((p - p / 32 : Nat) : Int) := by rw [show (p : Int) - (p : Int) / 32 = ((p - p / 32 : Nat) : Int) by omega]; exact u16_in _ (by omega)
  have e6 : IntKind.u16.wrap ((p : Int) / 32) = (p : Int) / 32 := u16_in _ (by omega)
  rw [hup]
  clear hup
  generalize p - p / 32 = q at *
  have hO1 : ∀ n, Only (fun j => j = g) w (((w.setCell ⟨g, 2, none⟩ (.int .u32 ((c - z : Nat) : Int))).setCell ⟨g, 1, none⟩ (.int .u32 ((r - z : Nat) : Int))).drewN n) := fun n => (((Only.refl (fun j => j = g) w).setCell (p := ⟨g, 2, none⟩) (.inl rfl) _).setCell (p := ⟨g, 1, none⟩) (.inl rfl) _).drewN n
  have hO : ∀ n, Only (fun j => j = g ∨ j = b) w ((((w.setCell ⟨g, 2, none⟩ (.int .u32 ((c - z : Nat) : Int))).setCell ⟨g, 1, none⟩ (.int .u32 ((r - z : Nat) : Int))).drewN n).setCell ⟨b, i, none⟩ (.int .u16 (q : Int))) := fun n => ((hO1 n).mono (fun j hj => .inl hj)).setCell (p := ⟨b, i, none⟩) (.inl (.inr rfl)) _
  have hB1 : ∀ n, Blk ((((w.setCell ⟨g, 2, none⟩ (.int .u32 ((c - z : Nat) : Int))).setCell ⟨g, 1, none⟩ (.int .u32 ((r - z : Nat) : Int))).drewN n).setCell ⟨b, i, none⟩ (.int .u16 (q : Int))) g 228 (pdCells S.f (r - z) (c - z) false) := fun n => (((hB.put 2 _).put 1 _).drewN n).far hbg.symm _
  have HR := Lib.hid (fun n => show R ((((w.setCell ⟨g, 2, none⟩ (.int .u32 ((c - z : Nat) : Int))).setCell ⟨g, 1, none⟩ (.int .u32 ((r - z : Nat) : Int))).drewN n).setCell ⟨b, i, none⟩ (.int .u16 (q : Int))) (ps.set a q) from by have := Z.put (Z.only hR (hO1 n) (fun j hj e => (hB0 j hj).2 e)) ha q; rw [hab] at this; exact this)
  have K := Lib.hid (fun n => even_any (hB1 n) hS (hS.only hF (hO n) (fun j hj => by rcases hj with rfl | rfl; exact hg; exact hbo.1)) hg (by omega) (by omega))
  have HO := Lib.hid (fun n => (hO n).mono (S' := owns S g B) (fun j hj => by rcases hj with hj | hj; exact .inr (.inl hj); exact .inr (.inr (hj ▸ hBb))))
  have HZ := Lib.hid Z
  have HB0 := Lib.hid hB0
  have HD1 := Lib.hid hd1
  have HV := Lib.hid hv
  clear hB hF hR hB1 hO hO1 hd1 hv Z hB0 hbo hBb hab ha hS
  generalize r - z = r1 at *
  generalize c - z = c1 at *
  go_enter Tryz.func134, Tryz.ntmps134
  go_wp2_with fail
  go_quiet (fail)
  go_wp2_with fail
  go_region
  all_goals go_wp2_with fail
  refine (K.out (nq + 1)).mono ?_
  rintro e w1 ⟨rfl, ⟨at', r', c', bad', hB2, hF2, _, ht⟩, hO2⟩
  rw [HD1.out] at ht
  have HB2 := Lib.hid hB2
  have HF2 := Lib.hid hF2
  have HT := Lib.hid ht
  have HR2 := Lib.hid (HZ.out.only (HR.out (nq + 1)) hO2 (fun j hj e => by rcases e with e | e; exact (HB0.out j hj).1 (HS.out.tf _ e); exact (HB0.out j hj).2 e))
  have HO2 := Lib.hid ((HO.out (nq + 1)).trans (hO2.mono fun j hj => by rcases hj with h | h; exact .inl h; exact .inr (.inl h)))
  have KT := Lib.hid (told_any (x := 1) hB2)
  have hv : v = if bad' = true then 0 else 1 := by
    rw [HV.out]
    rcases ht.2.2.2 with ⟨rfl, h⟩ | ⟨rfl, h⟩
    · rw [if_pos h, if_pos rfl]
    · rw [if_neg (by rw [h]; simp), if_neg (by simp)]
  have HV2 := Lib.hid hv
  clear hB2 hF2 ht hO2 HO K HR h1 h2 h3 z1 z2 hx zx hv HV HZ HB0
  cases bad'
  all_goals
    go_wp2_with fail
    refine KT.out.mono ?_
    rintro e w2 ⟨rfl, rfl⟩
    go_wp2_with fail
    go_ret
    refine ⟨?_, ⟨at', r', c', _, HB2.out, HF2.out, hg, HT.out⟩, HR2.out, HO2.out⟩
    rw [HV2.out]
    rfl

/-- A bit. -/
theorem lw_bit (Z : Prb R B ad L) (hB0 : ∀ i, B i → ¬ S.hold i ∧ i ≠ g) (hab : ad a = (b, i)) (ha : a < L) {t : Pm Dc} {k : Int} (h : Mch R g S bs L w t) :
    Calls Tryz.prog 134 #[.pointer (some ⟨g, 0, none⟩), .pointer (some ⟨b, i, none⟩)] w (MPost R B g S bs L w (.int .i64 ((bitP decM t a k).1 : Int)) (bitP decM t a k).2) := by
  have hnext := (bitP_ok decM_ok (k := 0) (a := a) (w := k) (okD_any h.ok) ha (fun h => by cases h)).2
  have hps := getD_ok h.ok.ps (show a < t.ps.length by rw [h.ok.len]; exact ha)
  obtain ⟨hS, hP, hR, hok⟩ := h
  obtain ⟨at_, r, c, bad, hB, hF, hg, h0, h1, h2, h3⟩ := hP
  rcases h3 with ⟨rfl, hn⟩ | ⟨rfl, hn⟩
  · refine (bit_bad hB).mono ?_
    rintro e w' ⟨rfl, rfl⟩
    have e1 : (bitP decM t a k).1 = 0 := by show (bitD t.x _).1 = 0; rw [hn]; rfl
    have e2 : (bitP decM t a k).2 = t := by
      show (⟨t.ps.set a (bitD t.x (t.ps.getD a 0)).2.1, (bitD t.x (t.ps.getD a 0)).2.2⟩ : Pm Dc) = t
      rw [hn]
      show (⟨t.ps.set a (t.ps.getD a 0), none⟩ : Pm Dc) = t
      rw [set_same_get _ _ (by rw [hok.len]; exact ha), ← hn]
    rw [e1, e2]
    exact ⟨rfl, ⟨hS, ⟨at_, r, c, true, hB, hF, hg, h0, h1, h2, .inl ⟨rfl, hn⟩⟩, hR, hok⟩, Only.refl _ _⟩
  · obtain ⟨d0, d1, d2⟩ := hok.x _ _ _ hn
    have hx : bitP decM t a k = ((bitD t.x (t.ps.getD a 0)).1, ⟨t.ps.set a (bitD t.x (t.ps.getD a 0)).2.1, (bitD t.x (t.ps.getD a 0)).2.2⟩) := rfl
    rw [hx] at hnext ⊢
    rw [hn] at hnext ⊢
    unfold bitD at hnext ⊢
    simp only [] at hnext ⊢
    by_cases hlt : c < r / 2048 * t.ps.getD a 0
    · rw [if_pos hlt] at hnext ⊢
      refine (lw_zero hS Z hB0 hab ha rfl hB hF hg hR rfl d0 d1 hps hlt).mono ?_
      rintro e w' ⟨rfl, g1, g2, g3⟩
      exact ⟨rfl, ⟨hS, g1, g2, hnext⟩, g3⟩
    · rw [if_neg hlt] at hnext ⊢
      refine (lw_one hS Z hB0 hab ha rfl rfl rfl hB hF hg hR rfl d0 d1 d2 hps hlt).mono ?_
      rintro e w' ⟨rfl, g1, g2, g3⟩
      cases hl : lvl (r - r / 2048 * t.ps.getD a 0) (c - r / 2048 * t.ps.getD a 0) (bs.drop at_) with
      | none => rw [hl] at hnext g1; exact ⟨rfl, ⟨hS, g1, g2, hnext⟩, g3⟩
      | some u => rw [hl] at hnext g1; exact ⟨rfl, ⟨hS, g1, g2, hnext⟩, g3⟩

theorem Mch.cells {t : Pm Dc} (h : Mch R g S bs L w t) : ∃ (r c : Nat) (bad : Bool), Blk w g 228 (pdCells S.f r c bad) ∧ (bad = true ↔ t.x = none) := by
  obtain ⟨at_, r, c, bad, hB, hF, hfg, h0, h1, h2, h3⟩ := h.pd
  refine ⟨r, c, bad, hB, ?_⟩
  rcases h3 with ⟨rfl, hn⟩ | ⟨rfl, hn⟩
  · simp [hn]
  · simp [hn]

set_option maxRecDepth 100000 in
set_option maxHeartbeats 4000000 in
/-- A number by a tree. -/
theorem lw_tree (Z : Prb R B ad L) (hB0 : ∀ i, B i → ¬ S.hold i ∧ i ≠ g) {o n len cap v : Nat} {t : Pm Dc} (had : ∀ m, m < 2 ^ n → ad (a + m) = (b, o + m)) (haL : a + 2 ^ n ≤ L) (hv : v = if (treeP decM t a n 0).2.x = none then 0 else (treeP decM t a n 0).1) (h : Mch R g S bs L w t) (hn : 2 ^ n ≤ len) (hn8 : n ≤ 8) :
    Calls Tryz.prog 140 #[.pointer (some ⟨g, 0, none⟩), .slice (some ⟨b, o, none⟩) len cap, .int .i64 (n : Int)] w
      (MPost R B g S bs L w (.int .i64 (v : Int)) (treeP decM t a n 0).2) := by
  have HP := Lib.hid h
  have HT := Lib.hid (treeG_ok decM_ok (k := 0) (v := 0) (okD_any h.ok) haL (fun h => by cases h))
  have HAL := Lib.hid haL
  have HAD := Lib.hid had
  have HBL := Lib.hid hB0
  have HV := Lib.hid hv
  have HZ := Lib.hid Z
  clear h hB0 hv Z had haL
  go_enter Tryz.func140, Tryz.ntmps140
  go_wp2_with fail
  go_loopw [7, 8, 9, 11] (fun v m _ i wr => ∃ (j x : Nat) (T : Tg Dc), j ≤ n ∧ T = treeG decM t a n 0 j ∧ i = .int .i64 (j : Int) ∧ v = .int .i64 (x : Int) ∧ m = .int .i64 (T.m : Int) ∧ x + 2 ^ j = T.m ∧ Mch R g S bs L wr T.t ∧ Only (owns S g B) w wr) (fun _ _ _ i _ => n - (intOf i).toNat)
  case atStart => exact ⟨0, 0, _, Nat.zero_le _, rfl, rfl, rfl, rfl, rfl, HP.out, Only.refl _ _⟩
  case round =>
    clear HP
    obtain ⟨j, x, T, hj, hT, rfl, rfl, rfl, hx, hp, ho⟩ := hrel
    obtain ⟨t1, t2, t3⟩ := HT.out j hj
    rw [← hT] at t1 t2 t3
    have HO := Lib.hid ho
    have HT0 := Lib.hid hT
    clear ho hT t1
    by_cases hlt : j < n
    · have hpow : 2 ^ (j + 1) ≤ 2 ^ n := Nat.pow_le_pow_right (by omega) hlt
      have h256 := pow8 hn8
      have hmn : T.m < 2 ^ n := by omega
      have K := Lib.hid (lw_bit (k := want 0 (n - 1 - j)) HZ.out HBL.out (HAD.out T.m hmn) (by have := HAL.out; omega) hp)
      have hm1 : (T.m : Int) < (len : Int) := by omega
      have hm0 : (0 : Int) ≤ (T.m : Int) := by omega
      have hu := (bitP_ok decM_ok (k := 0) (a := a + T.m) (w := want 0 (n - 1 - j)) (okD_any hp.ok) (by have := HAL.out; omega) (fun h => by cases h)).1
      have HST := Lib.hid (show tgStep decM a j (want 0 (n - 1 - j)) T = treeG decM t a n 0 (j + 1) by rw [HT0.out]; rfl)
      have hsm : (tgStep decM a j (want 0 (n - 1 - j)) T).m = 2 * T.m + (bitP decM T.t (a + T.m) (want 0 (n - 1 - j))).1 := rfl
      have hst : (tgStep decM a j (want 0 (n - 1 - j)) T).t = (bitP decM T.t (a + T.m) (want 0 (n - 1 - j))).2 := rfl
      rw [← hst] at K
      generalize (bitP decM T.t (a + T.m) (want 0 (n - 1 - j))).1 = u at *
      have hlt' : (j : Int) < (n : Int) := by omega
      have hm5 : T.m < 512 := by omega
      have hx5 : x < 512 := by omega
      have e1 : IntKind.i64.wrap (2 * (x : Int)) = 2 * (x : Int) := IntWalk.i64_in _ (by omega)
      have e2 : IntKind.i64.wrap (2 * (T.m : Int)) = 2 * (T.m : Int) := IntWalk.i64_in _ (by omega)
      have e3 : IntKind.i64.wrap (2 * (x : Int) + (u : Int)) = ((2 * x + u : Nat) : Int) := by rw [show 2 * (x : Int) + (u : Int) = ((2 * x + u : Nat) : Int) by omega]; exact IntWalk.i64_in _ (by omega)
      have e4 : IntKind.i64.wrap (2 * (T.m : Int) + (u : Int)) = ((2 * T.m + u : Nat) : Int) := by rw [show 2 * (T.m : Int) + (u : Int) = ((2 * T.m + u : Nat) : Int) by omega]; exact IntWalk.i64_in _ (by omega)
      have HX := Lib.hid hx
      have HSM := Lib.hid hsm
      clear hp t2 t3 hx hpow h256 hu hsm hst HT hmn
      generalize tgStep decM a j (want 0 (n - 1 - j)) T = T' at *
      generalize T.m = y at *
      go_wp2_with fail
      refine K.out.mono ?_
      rintro e w1 ⟨rfl, hp1, ho1⟩
      have HP1 := Lib.hid hp1
      have HO1 := Lib.hid (HO.out.trans ho1)
      clear hp1 ho1 HO K
      go_wp2_with fail
      go_roundw
      case rel =>
        refine ⟨j + 1, 2 * x + u, T', by omega, HST.out, by go_num, rfl, by rw [HSM.out]; go_num, ?_, HP1.out, HO1.out⟩
        have := HX.out
        have := HSM.out
        rw [Nat.pow_succ]
        omega
      case measure => simp [intOf]; omega
    · obtain rfl : j = n := by omega
      obtain ⟨r, c, bad, hB, hbx⟩ := hp.cells
      have HB := Lib.hid hp
      have KT := Lib.hid (told_any (x := (x : Int)) hB)
      have hv : v = if bad = true then 0 else x := by
        have e1 : (treeP decM t a j 0).2 = T.t := by rw [HT0.out]; rfl
        have e2 : (treeP decM t a j 0).1 = x := by show (treeG decM t a j 0 j).m - 2 ^ j = x; rw [← HT0.out]; omega
        rw [HV.out, e1, e2]
        by_cases hb : bad = true
        · rw [if_pos hb, if_pos (hbx.1 hb)]
        · rw [if_neg hb, if_neg (fun h => hb (hbx.2 h))]
      clear hB hbx hx t2 t3 HT HV hp
      generalize T.m = y at *
      cases bad
      all_goals
        simp only [if_true, Bool.false_eq_true, if_false] at hv KT
        subst hv
        go_wp2_with fail
        refine KT.out.mono ?_
        rintro e w2 ⟨rfl, rfl⟩
        go_wp2_with fail
        go_ret
        have e1 : (treeP decM t a j 0).2 = T.t := by rw [HT0.out]; rfl
        rw [e1]
        exact ⟨rfl, HB.out, HO.out⟩

set_option maxRecDepth 100000 in
set_option maxHeartbeats 4000000 in
/-- A number by a tree, the least bit first. -/
theorem lw_rev (Z : Prb R B ad L) (hB0 : ∀ i, B i → ¬ S.hold i ∧ i ≠ g) {o n len cap v : Nat} {t : Pm Dc} (had : ∀ m, m < 2 ^ n → ad (a + m) = (b, o + m)) (haL : a + 2 ^ n ≤ L) (hv : v = if (revP decM t a n 0).2.x = none then 0 else (revP decM t a n 0).1) (h : Mch R g S bs L w t) (hn : 2 ^ n ≤ len) (hn8 : n ≤ 8) :
    Calls Tryz.prog 198 #[.pointer (some ⟨g, 0, none⟩), .slice (some ⟨b, o, none⟩) len cap, .int .i64 (n : Int)] w
      (MPost R B g S bs L w (.int .i64 (v : Int)) (revP decM t a n 0).2) := by
  have HP := Lib.hid h
  have HT := Lib.hid (revG_ok decM_ok (k := 0) (v := 0) (okD_any h.ok) haL (fun h => by cases h))
  have HAL := Lib.hid haL
  have HAD := Lib.hid had
  have HBL := Lib.hid hB0
  have HV := Lib.hid hv
  have HZ := Lib.hid Z
  clear h hB0 hv Z had haL
  go_enter Tryz.func198, Tryz.ntmps198
  go_wp2_with fail
  go_loopw [7, 8, 9, 10, 12] (fun v m _ _ i wr => ∃ (j x : Nat) (T : Tg Dc), j ≤ n ∧ T = revG decM t a 0 j ∧ i = .int .i64 (j : Int) ∧ v = .int .i64 (x : Int) ∧ m = .int .i64 (T.m : Int) ∧ x = T.o ∧ Mch R g S bs L wr T.t ∧ Only (owns S g B) w wr) (fun _ _ _ _ i _ => n - (intOf i).toNat)
  case atStart => exact ⟨0, 0, _, Nat.zero_le _, rfl, rfl, rfl, rfl, rfl, HP.out, Only.refl _ _⟩
  case round =>
    clear HP
    obtain ⟨j, x, T, hj, hT, rfl, rfl, rfl, hx, hp, ho⟩ := hrel
    obtain ⟨t1, t2, t3, t4⟩ := HT.out j hj
    rw [← hT] at t1 t2 t3 t4
    have HO := Lib.hid ho
    have HT0 := Lib.hid hT
    rw [← hx] at t4
    clear ho hT t1
    by_cases hlt : j < n
    · have hpow : 2 ^ (j + 1) ≤ 2 ^ n := Nat.pow_le_pow_right (by omega) hlt
      have h256 := pow8 hn8
      have hmn : T.m < 2 ^ n := by omega
      have K := Lib.hid (lw_bit (k := want 0 j) HZ.out HBL.out (HAD.out T.m hmn) (by have := HAL.out; omega) hp)
      have hm1 : (T.m : Int) < (len : Int) := by omega
      have hm0 : (0 : Int) ≤ (T.m : Int) := by omega
      have hu := (bitP_ok decM_ok (k := 0) (a := a + T.m) (w := want 0 j) (okD_any hp.ok) (by have := HAL.out; omega) (fun h => by cases h)).1
      have HST := Lib.hid (show tgStep decM a j (want 0 j) T = revG decM t a 0 (j + 1) by rw [HT0.out]; rfl)
      have hsm : (tgStep decM a j (want 0 j) T).m = 2 * T.m + (bitP decM T.t (a + T.m) (want 0 j)).1 := rfl
      have hso : (tgStep decM a j (want 0 j) T).o = T.o + (bitP decM T.t (a + T.m) (want 0 j)).1 * 2 ^ j := rfl
      have hst : (tgStep decM a j (want 0 j) T).t = (bitP decM T.t (a + T.m) (want 0 j)).2 := rfl
      rw [← hst] at K
      generalize (bitP decM T.t (a + T.m) (want 0 j)).1 = u at *
      have hlt' : (j : Int) < (n : Int) := by omega
      have hm5 : T.m < 512 := by omega
      have e1 := i64_or_shift x u j t4 hu (by omega)
      have e2 : IntKind.i64.wrap (2 * (T.m : Int)) = 2 * (T.m : Int) := IntWalk.i64_in _ (by omega)
      have e4 : IntKind.i64.wrap (2 * (T.m : Int) + (u : Int)) = ((2 * T.m + u : Nat) : Int) := by rw [show 2 * (T.m : Int) + (u : Int) = ((2 * T.m + u : Nat) : Int) by omega]; exact IntWalk.i64_in _ (by omega)
      rw [← hx] at hso
      have HSO := Lib.hid hso
      have HSM := Lib.hid hsm
      clear hp t2 t3 t4 hx hpow h256 hu hsm hst HT hmn hso
      generalize x + u * 2 ^ j = x' at *
      generalize tgStep decM a j (want 0 j) T = T' at *
      generalize T.m = y at *
      go_wp2_with fail
      refine K.out.mono ?_
      rintro e w1 ⟨rfl, hp1, ho1⟩
      have HP1 := Lib.hid hp1
      have HO1 := Lib.hid (HO.out.trans ho1)
      clear hp1 ho1 HO K
      go_wp2_with fail
      go_roundw
      case rel => exact ⟨j + 1, x', T', by omega, HST.out, by go_num, rfl, by rw [HSM.out]; go_num, HSO.out.symm, HP1.out, HO1.out⟩
      case measure => simp [intOf]; omega
    · obtain rfl : j = n := by omega
      obtain ⟨r, c, bad, hB, hbx⟩ := hp.cells
      have HB := Lib.hid hp
      have KT := Lib.hid (told_any (x := (x : Int)) hB)
      have hv : v = if bad = true then 0 else x := by
        have e1 : (revP decM t a j 0).2 = T.t := by rw [HT0.out]; rfl
        have e2 : (revP decM t a j 0).1 = x := by show (revG decM t a 0 j).o = x; rw [← HT0.out]; omega
        rw [HV.out, e1, e2]
        by_cases hb : bad = true
        · rw [if_pos hb, if_pos (hbx.1 hb)]
        · rw [if_neg hb, if_neg (fun h => hb (hbx.2 h))]
      clear hB hbx hx t2 t3 t4 HT HV hp
      generalize T.m = y at *
      cases bad
      all_goals
        simp only [if_true, Bool.false_eq_true, if_false] at hv KT
        subst hv
        go_wp2_with fail
        refine KT.out.mono ?_
        rintro e w2 ⟨rfl, rfl⟩
        go_wp2_with fail
        go_ret
        have e1 : (revP decM t a j 0).2 = T.t := by rw [HT0.out]; rfl
        rw [e1]
        exact ⟨rfl, HB.out, HO.out⟩

/-- Bits told straight. -/
theorem lw_straight (Z : Prb R B ad L) (hB0 : ∀ i, B i → ¬ S.hold i ∧ i ≠ g) {n : Nat} {t : Pm Dc} (h : Mch R g S bs L w t) (hn : n ≤ 32) :
    Calls Tryz.prog 199 #[.pointer (some ⟨g, 0, none⟩), .int .i64 (n : Int)] w
      (MPost R B g S bs L w (.int .u32 ((straightD n t.x).1 : Int)) ⟨t.ps, (straightD n t.x).2⟩) := by
  refine (straight_any h.sc h.pd h.ok.x hn).mono ?_
  rintro e w' ⟨rfl, h1, h2⟩
  refine ⟨rfl, ⟨h.sc, h1, Z.only h.row h2 (fun i hi e => ?_), ⟨h.ok.ps, h.ok.len, (straightD_ok h.ok.x).1⟩⟩, h2.mono fun i hi => by rcases hi with h | h; exact .inl h; exact .inr (.inl h)⟩
  rcases e with e | e
  · exact (hB0 i hi).1 (h.sc.tf _ e)
  · exact (hB0 i hi).2 e
theorem lw_bad {t : Pm Dc} (h : Mch R g S bs L w t) : Calls Tryz.prog 133 #[.pointer (some ⟨g, 0, none⟩)] w fun e w' => e = .returned (.bool (decM.bad t.x)) ∧ w = w' := by
  obtain ⟨r, c, bad, hB, hbx⟩ := h.cells
  have : decM.bad t.x = bad := by
    show t.x.isNone = bad
    cases bad with
    | true => rw [hbx.1 rfl]; rfl
    | false =>
      cases hx : t.x with
      | none => have := hbx.2 hx; cases this
      | some _ => rfl
  rw [this]
  exact bad_any hB
end
end Go.Proofs.YtiolfjhddbiglaaGreatDoor

/-
  Meters as numbers: quotas, what is used, and what each call makes of them.
-/
namespace Go.Proofs.YtiolfjhddbiglaaGreatDoor
open Go.RowKit

structure Quo where
  mem : Int
  out : Int
  files : Int
  depth : Int
  steps : Int

structure Tel where
  mem : Int
  peak : Int
  out : Int
  files : Int
  depth : Int
  steps : Int
  code : Int

/-- a quota of which nothing is below 0 -/
def Quo.up (q : Quo) : Quo := ⟨max q.mem 0, max q.out 0, max q.files 0, max q.depth 0, max q.steps 0⟩
def Tel.zero : Tel := ⟨0, 0, 0, 0, 0, 0, 0⟩

/-- the cells of a meter -/
def mCells (q : Quo) (s : Tel) : Array Value :=
  #[.int .i64 q.mem, .int .i64 q.out, .int .i64 q.files, .int .i64 q.depth, .int .i64 q.steps,
    .int .i64 s.mem, .int .i64 s.peak, .int .i64 s.out, .int .i64 s.files, .int .i64 s.depth, .int .i64 s.steps, .int .i64 s.code]
def uArr (s : Tel) : Array Value := #[.int .i64 s.mem, .int .i64 s.peak, .int .i64 s.out, .int .i64 s.files, .int .i64 s.depth, .int .i64 s.steps]
def qArr (q : Quo) : Array Value := #[.int .i64 q.mem, .int .i64 q.out, .int .i64 q.files, .int .i64 q.depth, .int .i64 q.steps]

/-- n more may be used. -/
def fits (code was most n : Int) : Prop := code = 0 ∧ max n 0 ≤ most - was
instance (code was most n : Int) : Decidable (fits code was most n) := by unfold fits; infer_instance
/-- the code behind it -/
def codeOf (code was most n x : Int) : Int := if code = 0 ∧ most - was < max n 0 then x else code
def wasOf (code was most n : Int) : Int := if code = 0 ∧ max n 0 ≤ most - was then was + max n 0 else was

def Tel.doMem (q : Quo) (s : Tel) (n : Int) : Tel :=
  { s with mem := wasOf s.code s.mem q.mem n, peak := max s.peak (wasOf s.code s.mem q.mem n), code := codeOf s.code s.mem q.mem n 101 }
def Tel.doOut (q : Quo) (s : Tel) (n : Int) : Tel := { s with out := wasOf s.code s.out q.out n, code := codeOf s.code s.out q.out n 102 }
def Tel.doFile (q : Quo) (s : Tel) : Tel := { s with files := wasOf s.code s.files q.files 1, code := codeOf s.code s.files q.files 1 103 }
def Tel.doDown (q : Quo) (s : Tel) : Tel := { s with depth := wasOf s.code s.depth q.depth 1, code := codeOf s.code s.depth q.depth 1 104 }
def Tel.doStep (q : Quo) (s : Tel) (n : Int) : Tel := { s with steps := wasOf s.code s.steps q.steps n, code := codeOf s.code s.steps q.steps n 105 }
def Tel.doFree (s : Tel) (n : Int) : Tel := { s with mem := max (s.mem - max n 0) 0 }
def Tel.doUp (s : Tel) : Tel := { s with depth := max (s.depth - 1) 0 }

/-- what is used lies within its quota; nothing is beyond 64 bits -/
structure Fine (q : Quo) (s : Tel) : Prop where
  m0 : 0 ≤ s.mem
  m1 : s.mem ≤ s.peak
  m2 : s.peak ≤ q.mem
  m3 : q.mem ≤ 9223372036854775807
  o0 : 0 ≤ s.out
  o1 : s.out ≤ q.out
  o2 : q.out ≤ 9223372036854775807
  f0 : 0 ≤ s.files
  f1 : s.files ≤ q.files
  f2 : q.files ≤ 9223372036854775807
  d0 : 0 ≤ s.depth
  d1 : s.depth ≤ q.depth
  d2 : q.depth ≤ 9223372036854775807
  s0 : 0 ≤ s.steps
  s1 : s.steps ≤ q.steps
  s2 : q.steps ≤ 9223372036854775807
  c0 : s.code = 0 ∨ (101 ≤ s.code ∧ s.code ≤ 105)

/-- a quota as it comes in -/
structure Lit64 (q : Quo) : Prop where
  m : -9223372036854775808 ≤ q.mem ∧ q.mem ≤ 9223372036854775807
  o : -9223372036854775808 ≤ q.out ∧ q.out ≤ 9223372036854775807
  f : -9223372036854775808 ≤ q.files ∧ q.files ≤ 9223372036854775807
  d : -9223372036854775808 ≤ q.depth ∧ q.depth ≤ 9223372036854775807
  s : -9223372036854775808 ≤ q.steps ∧ q.steps ≤ 9223372036854775807

theorem Fine.new {q : Quo} (h : Lit64 q) : Fine q.up Tel.zero := by
  obtain ⟨h1, h2, h3, h4, h5⟩ := h
  constructor <;> simp only [Quo.up, Tel.zero] <;> first | omega | simp

theorem wasOf_le {code was most n : Int} (_ : 0 ≤ was) (h1 : was ≤ most) : was ≤ wasOf code was most n ∧ wasOf code was most n ≤ most := by
  unfold wasOf
  split <;> omega
theorem codeOf_in {code was most n x : Int} (h : code = 0 ∨ (101 ≤ code ∧ code ≤ 105)) (hx : 101 ≤ x ∧ x ≤ 105) : codeOf code was most n x = 0 ∨ (101 ≤ codeOf code was most n x ∧ codeOf code was most n x ≤ 105) := by
  unfold codeOf
  split <;> omega

section
variable {q : Quo} {s : Tel}
theorem Fine.mem (h : Fine q s) (n : Int) : Fine q (s.doMem q n) := by
  have a := wasOf_le (code := s.code) (n := n) h.m0 (Int.le_trans h.m1 h.m2)
  have b := codeOf_in (was := s.mem) (most := q.mem) (n := n) (x := 101) h.c0 (by omega)
  cases h
  constructor <;> (try simp only [Tel.doMem]) <;> first | assumption | omega
theorem Fine.out (h : Fine q s) (n : Int) : Fine q (s.doOut q n) := by
  have a := wasOf_le (code := s.code) (n := n) h.o0 h.o1
  have b := codeOf_in (was := s.out) (most := q.out) (n := n) (x := 102) h.c0 (by omega)
  cases h
  constructor <;> (try simp only [Tel.doOut]) <;> first | assumption | omega
theorem Fine.file (h : Fine q s) : Fine q (s.doFile q) := by
  have a := wasOf_le (code := s.code) (n := 1) h.f0 h.f1
  have b := codeOf_in (was := s.files) (most := q.files) (n := 1) (x := 103) h.c0 (by omega)
  cases h
  constructor <;> (try simp only [Tel.doFile]) <;> first | assumption | omega
theorem Fine.down (h : Fine q s) : Fine q (s.doDown q) := by
  have a := wasOf_le (code := s.code) (n := 1) h.d0 h.d1
  have b := codeOf_in (was := s.depth) (most := q.depth) (n := 1) (x := 104) h.c0 (by omega)
  cases h
  constructor <;> (try simp only [Tel.doDown]) <;> first | assumption | omega
theorem Fine.step (h : Fine q s) (n : Int) : Fine q (s.doStep q n) := by
  have a := wasOf_le (code := s.code) (n := n) h.s0 h.s1
  have b := codeOf_in (was := s.steps) (most := q.steps) (n := n) (x := 105) h.c0 (by omega)
  cases h
  constructor <;> (try simp only [Tel.doStep]) <;> first | assumption | omega
theorem Fine.free (h : Fine q s) (n : Int) : Fine q (s.doFree n) := by
  cases h
  constructor <;> (try simp only [Tel.doFree]) <;> first | assumption | omega
theorem Fine.upp (h : Fine q s) : Fine q s.doUp := by
  cases h
  constructor <;> (try simp only [Tel.doUp]) <;> first | assumption | omega
end

/-- one thing that is asked for, or given back -/
def Tel.next (q : Quo) (s : Tel) (k n : Int) : Tel :=
  if k = 0 then s.doMem q n else if k = 1 then s.doOut q n else if k = 2 then s.doFile q else if k = 3 then s.doDown q else if k = 4 then s.doStep q n else if k = 5 then s.doFree n else s.doUp
def Tel.said (q : Quo) (s : Tel) (k n : Int) : Bool :=
  if k = 0 then decide (fits s.code s.mem q.mem n) else if k = 1 then decide (fits s.code s.out q.out n) else if k = 2 then decide (fits s.code s.files q.files 1) else if k = 3 then decide (fits s.code s.depth q.depth 1)
  else if k = 4 then decide (fits s.code s.steps q.steps n) else true

theorem Fine.next {q : Quo} {s : Tel} (h : Fine q s) (k n : Int) : Fine q (s.next q k n) := by
  unfold Tel.next
  split
  · exact h.mem n
  split
  · exact h.out n
  split
  · exact h.file
  split
  · exact h.down
  split
  · exact h.step n
  split
  · exact h.free n
  · exact h.upp
end Go.Proofs.YtiolfjhddbiglaaGreatDoor

/-
  Atomic numbers of 64 bits, of one goroutine, and the calls over them: each a contract.
-/
namespace Go.Proofs.YtiolfjhddbiglaaGreatDoor
open Go.RowKit

theorem load_any (a : Addr) (x : Int) (w : World) (h0 : w.cell? a = some (.int .i64 x)) :
    Calls Tryz.prog 30 #[.pointer (some a)] w fun e w' => e = .returned (.int .i64 x) ∧ w = w' := by
  have hl := run_call_load (P := Tryz.prog) Tryz.func56 (by kernel_rfl) (by kernel_rfl) (by kernel_rfl) .i64 (by kernel_rfl) h0
  go_enter Tryz.func30, Tryz.ntmps30
  go_wp2
  go_ret
  exact ⟨rfl, rfl⟩

theorem cas_hit (a : Addr) (x y : Int) (w : World) (h0 : w.cell? a = some (.int .i64 x)) (hz : w.frozen? a = false) :
    Calls Tryz.prog 128 #[.pointer (some a), .int .i64 x, .int .i64 y] w fun e w' => e = .returned (.bool true) ∧ w' = w.setCell a (.int .i64 y) := by
  have hl := run_call_cas_hit (P := Tryz.prog) Tryz.func173 (by kernel_rfl) (by kernel_rfl) (by kernel_rfl) .i64 (by kernel_rfl) (y := y) h0 hz
  go_enter Tryz.func128, Tryz.ntmps128
  go_wp2
  go_ret
  exact ⟨rfl, rfl⟩

section
variable {g i : Nat} {cs : Array Value} {was most n x code : Int} {w : World}

theorem code_any (hB : Blk w g 83 cs) (hc : cs[11]? = some (.int .i64 code)) :
    Calls Tryz.prog 68 #[.pointer (some ⟨g, 0, none⟩)] w fun e w' => e = .returned (.int .i64 code) ∧ w = w' := by
  have h0 : w.cell? ⟨g, 11, none⟩ = some (.int .i64 code) := (hB.cell 11).trans hc
  have K := Lib.hid (load_any _ _ _ h0)
  clear h0 hB hc
  go_enter Tryz.func68, Tryz.ntmps68
  go_wp2_with fail
  refine K.out.mono ?_
  rintro e w' ⟨rfl, rfl⟩
  go_wp2_with fail
  go_ret
  exact ⟨rfl, rfl⟩

theorem spend_zero (hB : Blk w g 83 cs) (hc : cs[11]? = some (.int .i64 0)) :
    Calls Tryz.prog 127 #[.pointer (some ⟨g, 0, none⟩), .int .i64 x] w fun e w' => e = .returned (.tuple #[]) ∧ w' = w.setCell ⟨g, 11, none⟩ (.int .i64 x) := by
  have h0 : w.cell? ⟨g, 11, none⟩ = some (.int .i64 0) := (hB.cell 11).trans hc
  have K := Lib.hid (cas_hit _ _ x _ h0 (hB.free 11))
  clear h0 hB hc
  go_enter Tryz.func127, Tryz.ntmps127
  go_wp2_with fail
  refine K.out.mono ?_
  rintro e w' ⟨rfl, rfl⟩
  go_wp2_with fail
  first | go_end0 | refine bodyPost_ret (results_none rfl _ _ _) rfl ?_
  exact ⟨rfl, rfl⟩

theorem lower_any (hB : Blk w g 83 cs) (hc : cs[i]? = some (.int .i64 was)) (h0 : 0 ≤ was) (h1 : was ≤ 9223372036854775807) (hn : n ≤ 9223372036854775807) :
    Calls Tryz.prog 98 #[.pointer (some ⟨g, i, none⟩), .int .i64 n] w fun e w' => e = .returned (.tuple #[]) ∧ w' = w.setCell ⟨g, i, none⟩ (.int .i64 (max (was - max n 0) 0)) := by
  have hcell : w.cell? ⟨g, i, none⟩ = some (.int .i64 was) := (hB.cell i).trans hc
  have K := Lib.hid (load_any _ _ _ hcell)
  have C := Lib.hid (fun y => cas_hit _ _ y _ hcell (hB.free i))
  have e1 : IntKind.i64.wrap (was - max n 0) = was - max n 0 := IntWalk.i64_in _ (by omega)
  clear hcell hB hc
  go_enter Tryz.func98, Tryz.ntmps98
  go_wp2
  go_loopw [5] (fun _ wr => wr = w) (fun _ _ => 0)
  case atStart => rfl
  case round =>
    obtain rfl := hrel
    go_wp2_with fail
    refine K.out.mono ?_
    rintro e w' ⟨rfl, rfl⟩
    go_wp2_with fail
    refine (C.out _).mono ?_
    rintro e w' ⟨rfl, rfl⟩
    go_wp2_with fail
    first | (refine bodyPost_ret (results_none rfl _ _ _) rfl ?_) | (simp only [Exit.inBlock, Exit.then]; refine bodyPost_ret (results_none rfl _ _ _) rfl ?_)
    exact ⟨rfl, rfl⟩

theorem raise_any {now : Int} (hB : Blk w g 83 cs) (hc : cs[i]? = some (.int .i64 was)) :
    Calls Tryz.prog 96 #[.pointer (some ⟨g, i, none⟩), .int .i64 now] w fun e w' => e = .returned (.tuple #[]) ∧ w' = w.setCell ⟨g, i, none⟩ (.int .i64 (max was now)) := by
  have hcell : w.cell? ⟨g, i, none⟩ = some (.int .i64 was) := (hB.cell i).trans hc
  have K := Lib.hid (load_any _ _ _ hcell)
  have C := Lib.hid (fun y => cas_hit _ _ y _ hcell (hB.free i))
  clear hcell hB hc
  go_enter Tryz.func96, Tryz.ntmps96
  go_wp2
  go_loopw [4] (fun _ wr => wr = w) (fun _ _ => 0)
  case atStart => rfl
  case round =>
    obtain rfl := hrel
    go_wp2_with fail
    refine K.out.mono ?_
    rintro e w' ⟨rfl, rfl⟩
    go_wp2_with fail
    refine (C.out _).mono ?_
    rintro e w' ⟨rfl, rfl⟩
    go_wp2_with fail
    first | (refine bodyPost_ret (results_none rfl _ _ _) rfl ?_) | (simp only [Exit.inBlock, Exit.then]; refine bodyPost_ret (results_none rfl _ _ _) rfl ?_)
    exact ⟨rfl, rfl⟩
end
end Go.Proofs.YtiolfjhddbiglaaGreatDoor

/-
  Something more of a thing: used, or the meter is spent by it, or it was.
-/
namespace Go.Proofs.YtiolfjhddbiglaaGreatDoor
open Go.RowKit

section
variable {g i : Nat} {cs : Array Value} {was most n x code : Int} {w : World}

set_option maxHeartbeats 1000000 in
theorem use_ok (hB : Blk w g 83 cs) (hc : cs[11]? = some (.int .i64 0)) (hw : cs[i]? = some (.int .i64 was)) (h0 : 0 ≤ was) (h1 : was ≤ most) (h2 : most ≤ 9223372036854775807) (hn : max n 0 ≤ most - was) :
    Calls Tryz.prog 95 #[.pointer (some ⟨g, 0, none⟩), .pointer (some ⟨g, i, none⟩), .int .i64 n, .int .i64 most, .int .i64 x] w fun e w' =>
      e = .returned (.tuple #[.int .i64 (was + max n 0), .bool true]) ∧ w' = w.setCell ⟨g, i, none⟩ (.int .i64 (was + max n 0)) := by
  have K0 := Lib.hid (code_any hB hc)
  have hcell : w.cell? ⟨g, i, none⟩ = some (.int .i64 was) := (hB.cell i).trans hw
  have K := Lib.hid (load_any _ _ _ hcell)
  have C := Lib.hid (fun y => cas_hit _ _ y _ hcell (hB.free i))
  have e1 : IntKind.i64.wrap (most - was) = most - was := IntWalk.i64_in _ (by omega)
  have e2 : IntKind.i64.wrap (was + max n 0) = was + max n 0 := IntWalk.i64_in _ (by omega)
  have hn' : ¬ (max n 0 > most - was) := by omega
  clear hcell hB hc hw
  go_enter Tryz.func95, Tryz.ntmps95
  go_wp2
  go_loopw [13] (fun _ wr => wr = w) (fun _ _ => 0)
  case atStart => rfl
  case round =>
    obtain rfl := hrel
    go_wp2_with fail
    refine K0.out.mono ?_
    rintro e w' ⟨rfl, rfl⟩
    go_wp2_with fail
    refine K.out.mono ?_
    rintro e w' ⟨rfl, rfl⟩
    go_wp2_with fail
    refine (C.out _).mono ?_
    rintro e w' ⟨rfl, rfl⟩
    go_wp2_with fail
    go_ret2
    exact ⟨rfl, rfl⟩

set_option maxHeartbeats 1000000 in
theorem use_over (hB : Blk w g 83 cs) (hc : cs[11]? = some (.int .i64 0)) (hw : cs[i]? = some (.int .i64 was)) (h0 : 0 ≤ was) (h1 : was ≤ most) (h2 : most ≤ 9223372036854775807) (hn : most - was < max n 0) :
    Calls Tryz.prog 95 #[.pointer (some ⟨g, 0, none⟩), .pointer (some ⟨g, i, none⟩), .int .i64 n, .int .i64 most, .int .i64 x] w fun e w' =>
      e = .returned (.tuple #[.int .i64 0, .bool false]) ∧ w' = w.setCell ⟨g, 11, none⟩ (.int .i64 x) := by
  have K0 := Lib.hid (code_any hB hc)
  have hcell : w.cell? ⟨g, i, none⟩ = some (.int .i64 was) := (hB.cell i).trans hw
  have K := Lib.hid (load_any _ _ _ hcell)
  have C := Lib.hid (spend_zero (x := x) hB hc)
  have e1 : IntKind.i64.wrap (most - was) = most - was := IntWalk.i64_in _ (by omega)
  have hn' : max n 0 > most - was := by omega
  clear hcell hB hc hw
  go_enter Tryz.func95, Tryz.ntmps95
  go_wp2
  go_loopw [13] (fun _ wr => wr = w) (fun _ _ => 0)
  case atStart => rfl
  case round =>
    obtain rfl := hrel
    go_wp2_with fail
    refine K0.out.mono ?_
    rintro e w' ⟨rfl, rfl⟩
    go_wp2_with fail
    refine K.out.mono ?_
    rintro e w' ⟨rfl, rfl⟩
    go_wp2_with fail
    refine C.out.mono ?_
    rintro e w' ⟨rfl, rfl⟩
    go_wp2_with fail
    go_ret2
    exact ⟨rfl, rfl⟩

set_option maxHeartbeats 1000000 in
theorem use_spent (hB : Blk w g 83 cs) (hc : cs[11]? = some (.int .i64 code)) (hz : code ≠ 0) :
    Calls Tryz.prog 95 #[.pointer (some ⟨g, 0, none⟩), .pointer (some ⟨g, i, none⟩), .int .i64 n, .int .i64 most, .int .i64 x] w fun e w' =>
      e = .returned (.tuple #[.int .i64 0, .bool false]) ∧ w' = w := by
  have K0 := Lib.hid (code_any hB hc)
  clear hB hc
  go_enter Tryz.func95, Tryz.ntmps95
  go_wp2
  go_loopw [13] (fun _ wr => wr = w) (fun _ _ => 0)
  case atStart => rfl
  case round =>
    obtain rfl := hrel
    go_wp2_with fail
    refine K0.out.mono ?_
    rintro e w' ⟨rfl, rfl⟩
    go_wp2_with fail
    go_ret2
    exact ⟨rfl, rfl⟩
end

/-- Block g is a meter of quota q, of which s is used. -/
def MeterAt (w : World) (t : TypeId) (g : Nat) (q : Quo) (s : Tel) : Prop := Blk w g t (mCells q s)

/-- Cell i and the code are as if n more were asked for; the answer. -/
theorem use_any {g i : Nat} {cs : Array Value} {was most n x code : Int} {w : World} (hB : Blk w g 83 cs) (hc : cs[11]? = some (.int .i64 code)) (hw : cs[i]? = some (.int .i64 was)) (hi : i ≠ 11) (h0 : 0 ≤ was) (h1 : was ≤ most) (h2 : most ≤ 9223372036854775807) :
    Calls Tryz.prog 95 #[.pointer (some ⟨g, 0, none⟩), .pointer (some ⟨g, i, none⟩), .int .i64 n, .int .i64 most, .int .i64 x] w fun e w' =>
      ∃ z, e = .returned (.tuple #[.int .i64 z, .bool (decide (fits code was most n))]) ∧ (fits code was most n → z = was + max n 0) ∧
        Blk w' g 83 ((cs.setIfInBounds i (.int .i64 (wasOf code was most n))).setIfInBounds 11 (.int .i64 (codeOf code was most n x))) ∧ w.grownBy w' (some g) := by
  have keep : ∀ (c : Array Value) (j : Nat) (u : Value), c[j]? = some u → c.setIfInBounds j u = c := by
    intro c j u h
    refine Array.ext_getElem? fun k => ?_
    rw [Array.getElem?_setIfInBounds]
    split
    · rename_i hjk
      subst hjk
      split
      · exact h.symm
      · rename_i hlt
        rw [Array.getElem?_eq_none (by omega)] at h
        cases h
    · rfl
  by_cases hz : code = 0
  · subst hz
    by_cases hn : max n 0 ≤ most - was
    · have hf : fits 0 was most n := ⟨rfl, hn⟩
      refine (use_ok hB hc hw h0 h1 h2 hn).mono ?_
      rintro e w' ⟨rfl, rfl⟩
      refine ⟨was + max n 0, by simp [hf], fun _ => rfl, ?_, only_setCell (World.grownBy.refl w _) (.inl rfl) _⟩
      have e1 : wasOf 0 was most n = was + max n 0 := by unfold wasOf; rw [if_pos ⟨rfl, hn⟩]
      have e2 : codeOf 0 was most n x = 0 := by unfold codeOf; rw [if_neg (by omega)]
      rw [e1, e2, keep _ 11 _ (by rw [Array.getElem?_setIfInBounds, if_neg hi]; exact hc)]
      exact hB.put i _
    · have hf : ¬ fits 0 was most n := fun h => hn h.2
      refine (use_over hB hc hw h0 h1 h2 (x := x) (by omega)).mono ?_
      rintro e w' ⟨rfl, rfl⟩
      refine ⟨0, by simp [hf], fun h => absurd h hf, ?_, only_setCell (World.grownBy.refl w _) (.inl rfl) _⟩
      have e1 : wasOf 0 was most n = was := by unfold wasOf; rw [if_neg (fun h => hn h.2)]
      have e2 : codeOf 0 was most n x = x := by unfold codeOf; rw [if_pos ⟨rfl, by omega⟩]
      rw [e1, e2, keep cs i _ hw]
      exact hB.put 11 _
  · have hf : ¬ fits code was most n := fun h => hz h.1
    refine (use_spent hB hc hz).mono ?_
    rintro e w' ⟨rfl, rfl⟩
    refine ⟨0, by simp [hf], fun h => absurd h hf, ?_, World.grownBy.refl w' _⟩
    have e1 : wasOf code was most n = was := by unfold wasOf; rw [if_neg (fun h => hz h.1)]
    have e2 : codeOf code was most n x = code := by unfold codeOf; rw [if_neg (fun h => hz h.1)]
    rw [e1, e2, keep cs i _ hw, keep cs 11 _ hc]
    exact hB
end Go.Proofs.YtiolfjhddbiglaaGreatDoor

/-
  A meter is asked for memory, and given it back; what it tells; a new one.
-/
namespace Go.Proofs.YtiolfjhddbiglaaGreatDoor
open Go.RowKit

theorem MeterAt.drewN {w : World} {t : TypeId} {g : Nat} {q : Quo} {s : Tel} (h : MeterAt w t g q s) (n : Nat) : MeterAt (w.drewN n) t g q s := h
theorem MeterAt.lt {w : World} {t : TypeId} {g : Nat} {q : Quo} {s : Tel} (h : MeterAt w t g q s) : g < w.heap.size := Blk.lt h
theorem MeterAt.alloc {w : World} {t : TypeId} {g : Nat} {q : Quo} {s : Tel} (h : MeterAt w t g q s) (o : Obj) : MeterAt (w.alloc o) t g q s := Blk.alloc h o
theorem MeterAt.below {w w' : World} {t : TypeId} {g : Nat} {q : Quo} {s : Tel} (h : MeterAt w t g q s) (hb : Below w.heap.size w w') : MeterAt w' t g q s := Blk.below h hb
theorem MeterAt.grown {w w' : World} {t : TypeId} {g : Nat} {q : Quo} {s : Tel} {row : Option Nat} (h : MeterAt w t g q s) (hb : w.grownBy w' row) (hg : some g ≠ row) : MeterAt w' t g q s := Blk.grown h hb hg
theorem only_draw {a w : World} {row : Option Nat} (h : a.drew.grownBy w row) : a.grownBy w row := ⟨h.os, h.tape, h.output, h.size, h.block⟩

section
variable {g : Nat} {q : Quo} {s : Tel} {w : World}

set_option maxHeartbeats 1000000 in
theorem mem_any (h : MeterAt w 83 g q s) (hf : Fine q s) (n : Int) :
    Calls Tryz.prog 66 #[.pointer (some ⟨g, 0, none⟩), .int .i64 n] w fun e w' => e = .returned (.bool (decide (fits s.code s.mem q.mem n))) ∧ MeterAt w' 83 g q (s.doMem q n) ∧ w.grownBy w' (some g) := by
  have hB : Blk w.drew g 83 (mCells q s) := h
  have hq : w.cell? ⟨g, 0, none⟩ = some (.int .i64 q.mem) := Blk.cell h 0
  have K := Lib.hid (use_any (n := n) (x := 101) (i := 5) (code := s.code) (was := s.mem) (most := q.mem) hB rfl rfl (by decide) hf.m0 (Int.le_trans hf.m1 hf.m2) hf.m3)
  clear h hB
  go_enter Tryz.func66, Tryz.ntmps66
  go_wp2_with fail
  go_region_held3 (fun w' => w'.cell? ⟨g, 0, none⟩ = some (.int .i64 q.mem))
    (first | assumption | go_keep)
    (first | (go_at_call 95; refine K.out.mono ?_; rintro e w1 ⟨z, rfl, hz, hB, hg⟩; have j0 : w1.cell? ⟨g, 0, none⟩ = some (.int .i64 q.mem) := hB.cell 0; have HB := Lib.hid hB; have HG := Lib.hid hg; clear hB hg))
  by_cases hn : fits s.code s.mem q.mem n
  · have hz := hz hn
    subst hz
    have hd : decide (fits s.code s.mem q.mem n) = true := by simp [hn]
    have ew : wasOf s.code s.mem q.mem n = s.mem + max n 0 := by unfold wasOf; exact if_pos hn
    rw [hd]
    have R := Lib.hid (raise_any (i := 6) (was := s.peak) (now := s.mem + max n 0) HB.out rfl)
    go_wp2_with fail
    refine R.out.mono ?_
    rintro e w2 ⟨rfl, rfl⟩
    go_wp2_with fail
    go_ret
    refine ⟨ret_bool hd.symm, ?_, only_setCell (only_draw HG.out) (.inl rfl) _⟩
    have := HB.out.put 6 (.int .i64 (max s.peak (s.mem + max n 0)))
    rw [← ew] at this ⊢
    exact this
  · have hd : decide (fits s.code s.mem q.mem n) = false := by simp [hn]
    have ew : wasOf s.code s.mem q.mem n = s.mem := by unfold wasOf; exact if_neg hn
    rw [hd]
    go_wp2_with fail
    go_ret
    refine ⟨ret_bool hd.symm, ?_, only_draw HG.out⟩
    have := HB.out
    have ep : max s.peak (wasOf s.code s.mem q.mem n) = s.peak := by rw [ew]; have := hf.m1; omega
    unfold MeterAt Tel.doMem
    rw [ep]
    exact this

set_option maxHeartbeats 1000000 in
theorem free_any (h : MeterAt w 83 g q s) (hf : Fine q s) (n : Int) (hn : n ≤ 9223372036854775807) :
    Calls Tryz.prog 71 #[.pointer (some ⟨g, 0, none⟩), .int .i64 n] w fun e w' => e = .returned (.tuple #[]) ∧ MeterAt w' 83 g q (s.doFree n) ∧ w.grownBy w' (some g) := by
  have K := Lib.hid (lower_any (n := n) (i := 5) (was := s.mem) h rfl hf.m0 (by have := hf.m1; have := hf.m2; have := hf.m3; omega) hn)
  have H := Lib.hid h
  clear h
  go_enter Tryz.func71, Tryz.ntmps71
  go_wp2_with fail
  refine K.out.mono ?_
  rintro e w' ⟨rfl, rfl⟩
  go_wp2_with fail
  first | go_end0 | refine bodyPost_ret (results_none rfl _ _ _) rfl ?_
  exact ⟨rfl, Blk.put H.out 5 _, only_setCell (World.grownBy.refl w _) (.inl rfl) _⟩

end

section
variable {g : Nat} {q : Quo} {s : Tel} {w : World}

theorem still_same {P : Program} {f : FuncId} {args : Array Value} {w : World} {v : Value} (h : Calls P f args w fun e w' => e = .returned v ∧ w = w') :
    Calls P f args w fun e w' => e = .returned v ∧ w' = w := h.mono fun _ _ ⟨he, hm⟩ => ⟨he, hm.symm⟩

set_option maxRecDepth 100000 in
set_option maxHeartbeats 1000000 in
theorem used_any (h : MeterAt w 83 g q s) :
    Calls Tryz.prog 12 #[.pointer (some ⟨g, 0, none⟩)] w fun e w' => e = .returned (.agg (uArr s)) ∧ Below w.heap.size w w' := by
  have hl := h.lt
  have L : ∀ (i : Nat) (x : Int), (mCells q s)[i]? = some (.int .i64 x) → ∀ W, Below w.heap.size w W → Calls Tryz.prog 30 #[.pointer (some ⟨g, i, none⟩)] W fun e w' => e = .returned (.int .i64 x) ∧ W = w' :=
    fun i x hx W hb => load_any _ _ _ (((h.below hb : Blk W g 83 (mCells q s)).cell i).trans hx)
  have K5 := Lib.hid (L 5 s.mem rfl)
  have K6 := Lib.hid (L 6 s.peak rfl)
  have K7 := Lib.hid (L 7 s.out rfl)
  have K8 := Lib.hid (L 8 s.files rfl)
  have K9 := Lib.hid (L 9 s.depth rfl)
  have K10 := Lib.hid (L 10 s.steps rfl)
  clear L h
  go_enter Tryz.func12, Tryz.ntmps12
  go_wp2_with fail
  go_still_tail 24, (by kernel_rfl)
  have hb : Below w.heap.size w ((w.alloc (.cells #[.int .i64 0, .int .i64 0, .int .i64 0, .int .i64 0, .int .i64 0, .int .i64 0] 32)).drewN 1) := below_drewN ((Below.refl _ _).alloc (Nat.le_refl _) _) 1
  still_call (still_same (K5.out _ hb))
  repeat still_step
  still_call (still_same (K6.out _ hb))
  repeat still_step
  still_call (still_same (K7.out _ hb))
  repeat still_step
  still_call (still_same (K8.out _ hb))
  repeat still_step
  still_call (still_same (K9.out _ hb))
  repeat still_step
  still_call (still_same (K10.out _ hb))
  repeat still_step
  refine wpStill_nil ?_
  change wpList _ _ _ _ _ (w.alloc (.cells #[.int .i64 0, .int .i64 0, .int .i64 0, .int .i64 0, .int .i64 0, .int .i64 0] 32)).drew
  go_wp2_with fail
  refine bodyPost_ret (v := .agg (uArr s)) (by simp [results, Tryz.results12, go_sem, uArr]) rfl ⟨rfl, ?_⟩
  exact below_drewN ((Below.refl _ _).alloc (Nat.le_refl _) _) 1
end

theorem meter_fresh {w : World} {t : TypeId} {g : Nat} {q : Quo} {s : Tel} (h : g = w.heap.size) : MeterAt (w.alloc (.cells (mCells q s) t)) t g q s := by
  subst h
  exact Blk.fresh w t (mCells q s)

set_option maxHeartbeats 1000000 in
theorem mnew_any (q : Quo) (w : World) :
    Calls Tryz.prog 16 #[.agg (qArr q)] w fun e w' => ∃ g, e = .returned (.pointer (some ⟨g, 0, none⟩)) ∧ MeterAt w' 83 g q.up Tel.zero ∧ w.heap.size ≤ g ∧ Below w.heap.size w w' := by
  unfold qArr
  go_enter Tryz.func16, Tryz.ntmps16
  go_wp2_with fail
  go_ret
  refine ⟨_, rfl, meter_fresh (q := q.up) (s := Tel.zero) (by simp), by simp, ((Below.refl _ _).alloc (Nat.le_refl _) _).alloc (by simp) _⟩

end Go.Proofs.YtiolfjhddbiglaaGreatDoor

/-
  A window as numbers: its size, all that was put since it was emptied, whether it is closed.
-/
namespace Go.Proofs.YtiolfjhddbiglaaGreatDoor

structure Ws where
  sz : Nat
  l : List UInt8
  shut : Bool

def Ws.has (s : Ws) (d : Int) : Bool := !s.shut && decide (0 ≤ d ∧ d < (s.sz : Int) ∧ d < (s.l.length : Int))
def Ws.at_ (s : Ws) (d : Int) : UInt8 := if s.has d = true then s.l.getD (s.l.length - 1 - d.toNat) 0 else 0
def Ws.put (s : Ws) (b : UInt8) : Ws := if s.shut = true then s else ⟨s.sz, s.l ++ [b], false⟩
def Ws.copy (s : Ws) (d : Int) : Ws := if s.has d = true then s.put (s.at_ d) else s
def Ws.empty (s : Ws) : Ws := ⟨s.sz, [], s.shut⟩
def Ws.close (s : Ws) : Ws := ⟨s.sz, s.l, true⟩
def Ws.count (s : Ws) : Nat := if s.shut = true then 0 else min s.sz s.l.length
def Ws.new (n : Int) : Ws := ⟨(max n 1).toNat, [], false⟩

section
variable {s : Ws}
theorem put_sz (b : UInt8) : (s.put b).sz = s.sz := by unfold Ws.put; split <;> rfl
theorem at_not {d : Int} (h : s.has d = false) : s.at_ d = 0 := by unfold Ws.at_; rw [if_neg (by rw [h]; simp)]
theorem at_has {d : Int} (h : s.has d = true) : s.at_ d = s.l.getD (s.l.length - 1 - d.toNat) 0 := by unfold Ws.at_; rw [if_pos h]
theorem has_iff {d : Int} : s.has d = true ↔ s.shut = false ∧ 0 ≤ d ∧ d < (s.sz : Int) ∧ d < (s.l.length : Int) := by
  unfold Ws.has
  cases s.shut <;> simp
theorem shut_has {d : Int} (h : s.shut = true) : s.has d = false := by unfold Ws.has; rw [h]; rfl
theorem shut_count (h : s.shut = true) : s.count = 0 := by unfold Ws.count; rw [if_pos h]
theorem open_count (h : s.shut = false) : s.count = min s.sz s.l.length := by unfold Ws.count; rw [if_neg (by rw [h]; simp)]
theorem open_put {b : UInt8} (h : s.shut = false) : s.put b = ⟨s.sz, s.l ++ [b], false⟩ := by unfold Ws.put; rw [if_neg (by rw [h]; simp)]
theorem shut_put {b : UInt8} (h : s.shut = true) : s.put b = s := by unfold Ws.put; rw [if_pos h]
theorem count_le : s.count ≤ s.sz := by
  unfold Ws.count
  split
  · exact Nat.zero_le _
  · exact Nat.min_le_left _ _
end

/-- the bytes bs are put, one behind the other -/
def Ws.puts (s : Ws) (bs : List UInt8) : Ws := ⟨s.sz, s.l ++ bs, s.shut⟩
/-- k copies from one distance -/
def Ws.turns (s : Ws) (d : Int) : Nat → Ws
  | 0 => s
  | k + 1 => (s.turns d k).copy d
/-- what is copied from one distance again and again repeats the bytes up to there -/
theorem turns_ok {bs : List UInt8} {k Z : Nat} (hk : k < bs.length) (hz : k < Z) : ∀ i,
    ∃ m : List UInt8, (Ws.puts ⟨Z, [], false⟩ bs).turns (k : Int) i = ⟨Z, bs ++ m, false⟩ ∧ m.length = i ∧
      (⟨Z, bs ++ m, false⟩ : Ws).has (k : Int) = true ∧ (⟨Z, bs ++ m, false⟩ : Ws).at_ (k : Int) = bs.getD (bs.length - 1 - k + i % (k + 1)) 0 ∧
      ∀ j, j < i → m.getD j 0 = bs.getD (bs.length - 1 - k + j % (k + 1)) 0
  | 0 => by
    have hh : (⟨Z, bs ++ [], false⟩ : Ws).has (k : Int) = true := has_iff.2 ⟨rfl, by omega, by show (k : Int) < (Z : Int); omega, by show (k : Int) < ((bs ++ []).length : Int); simp; omega⟩
    refine ⟨[], by simp [Ws.turns, Ws.puts], rfl, hh, ?_, fun j hj => by omega⟩
    rw [at_has hh]
    simp
  | i + 1 => by
    obtain ⟨m, h1, h2, h3, h4, h5⟩ := turns_ok hk hz i
    have hstep : (Ws.puts ⟨Z, [], false⟩ bs).turns (k : Int) (i + 1) = ⟨Z, bs ++ (m ++ [bs.getD (bs.length - 1 - k + i % (k + 1)) 0]), false⟩ := by
      show ((Ws.puts ⟨Z, [], false⟩ bs).turns (k : Int) i).copy (k : Int) = _
      rw [h1]
      unfold Ws.copy
      rw [if_pos h3, h4, open_put rfl, List.append_assoc]
    obtain ⟨x, hx⟩ : ∃ x, x = bs.getD (bs.length - 1 - k + i % (k + 1)) 0 := ⟨_, rfl⟩
    rw [← hx] at hstep
    have hnew : ∀ j, j < i + 1 → (m ++ [x]).getD j 0 = bs.getD (bs.length - 1 - k + j % (k + 1)) 0 := by
      intro j hj
      by_cases hji : j < i
      · rw [← h5 j hji]
        simp only [List.getD]
        rw [List.getElem?_append_left (by omega)]
      · obtain rfl : j = i := by omega
        simp only [List.getD]
        rw [List.getElem?_append_right (by omega), h2, Nat.sub_self]
        show x = _
        rw [hx]
        rfl
    have hh : (⟨Z, bs ++ (m ++ [x]), false⟩ : Ws).has (k : Int) = true := has_iff.2 ⟨rfl, by omega, by show (k : Int) < (Z : Int); omega, by show (k : Int) < ((bs ++ (m ++ [x])).length : Int); simp; omega⟩
    refine ⟨m ++ [x], hstep, by simp [h2], hh, ?_, hnew⟩
    rw [at_has hh]
    show (bs ++ (m ++ [x])).getD ((bs ++ (m ++ [x])).length - 1 - (k : Int).toNat) 0 = _
    have hl : (bs ++ (m ++ [x])).length = bs.length + (i + 1) := by simp [h2]
    rw [hl, Int.toNat_natCast]
    by_cases hlt : i + 1 ≤ k
    · rw [Nat.mod_eq_of_lt (by omega)]
      simp only [List.getD]
      rw [List.getElem?_append_left (by omega)]
      congr 2
      omega
    · have e1 : bs.length + (i + 1) - 1 - k - bs.length = i - k := by omega
      have := hnew (i - k) (by omega)
      simp only [List.getD] at this ⊢
      rw [List.getElem?_append_right (by omega), e1, this]
      have e2 : (i - k) % (k + 1) = (i + 1) % (k + 1) := by
        have : i + 1 = i - k + (k + 1) := by omega
        rw [this, Nat.add_mod_right]
      rw [e2]
end Go.Proofs.YtiolfjhddbiglaaGreatDoor

/-
  A ring of bytes as numbers: where a byte lies, and what a put does.
-/
namespace Go.Proofs.YtiolfjhddbiglaaGreatDoor

/-- the ring holds the window's bytes: byte number i at place i modulo the size, as far back as the size goes -/
def RingOk (s : Ws) (ring : List UInt8) : Prop :=
  1 ≤ s.sz ∧ ring.length ≤ s.sz ∧ s.l.length % s.sz ≤ ring.length ∧ (s.sz ≤ s.l.length → ring.length = s.sz) ∧
    ∀ i, i < s.l.length → s.l.length ≤ i + s.sz → i % s.sz < ring.length ∧ ring.getD (i % s.sz) 0 = s.l.getD i 0

theorem mod_apart {i n z : Nat} (h1 : i < n) (h2 : n < i + z) : i % z ≠ n % z := by
  intro h
  obtain ⟨k, hk⟩ : ∃ k, n = i + k := ⟨n - i, by omega⟩
  have hk0 : 0 < k := by omega
  have hkz : k < z := by omega
  subst hk
  have e : (i + k) % z = (i % z + k) % z := by rw [Nat.add_mod, Nat.mod_eq_of_lt hkz]
  rw [e] at h
  have hi : i % z < z := Nat.mod_lt _ (by omega)
  by_cases hw : i % z + k < z
  · rw [Nat.mod_eq_of_lt hw] at h; omega
  · have e2 : (i % z + k) % z = i % z + k - z := by
      rw [Nat.mod_eq_sub_mod (by omega), Nat.mod_eq_of_lt (by omega)]
    omega

theorem mod_next {n z : Nat} (hz : 1 ≤ z) : (n + 1) % z = if n % z + 1 = z then 0 else n % z + 1 := by
  have hn : n % z < z := Nat.mod_lt _ hz
  by_cases h1 : z = 1
  · subst h1
    rw [Nat.mod_one, Nat.mod_one]
    simp
  · have e : (n + 1) % z = (n % z + 1) % z := by rw [Nat.add_mod, Nat.mod_eq_of_lt (a := 1) (by omega)]
    rw [e]
    split
    · next h => rw [h, Nat.mod_self]
    · next h => exact Nat.mod_eq_of_lt (by omega)

section
variable {s : Ws} {ring : List UInt8}
theorem ring_new {n : Int} (h : n ≤ 1048576) : RingOk (Ws.new n) [] := by
  have e : (Ws.new n).l = [] := rfl
  refine ⟨by show 1 ≤ (max n 1).toNat; omega, by simp, ?_, ?_, ?_⟩
  · rw [e]; simp
  · rw [e]
    intro h
    have : 1 ≤ (Ws.new n).sz := by show 1 ≤ (max n 1).toNat; omega
    simp at h
    omega
  · rw [e]
    intro i hi
    simp at hi
theorem ring_empty (h : RingOk s ring) : RingOk s.empty ring := by
  obtain ⟨h1, h2, h3, h4, h5⟩ := h
  refine ⟨h1, h2, ?_, ?_, ?_⟩
  · show 0 % s.sz ≤ ring.length
    rw [Nat.zero_mod]; exact Nat.zero_le _
  · intro hc
    exfalso
    have : s.sz ≤ 0 := hc
    omega
  · intro i hi
    have : i < 0 := hi
    omega
theorem ring_grow {k : Nat} (h : RingOk s ring) (hk : ring.length + k ≤ s.sz) : RingOk s (ring ++ List.replicate k 0) := by
  obtain ⟨h1, h2, h3, h4, h5⟩ := h
  refine ⟨h1, by simpa using hk, by simp; omega, ?_, ?_⟩
  · intro hc
    have := h4 hc
    simp; omega
  · intro i hi hn
    obtain ⟨a, b⟩ := h5 i hi hn
    refine ⟨by simp; omega, ?_⟩
    rw [← b]
    simp only [List.getD]
    rw [List.getElem?_append_left a]
theorem ring_put {b : UInt8} (h : RingOk s ring) (hn : s.l.length % s.sz < ring.length) : RingOk ⟨s.sz, s.l ++ [b], s.shut⟩ (ring.set (s.l.length % s.sz) b) := by
  obtain ⟨h1, h2, h3, h4, h5⟩ := h
  have hm := mod_next (n := s.l.length) h1
  refine ⟨h1, by simpa using h2, ?_, ?_, ?_⟩
  · show (s.l ++ [b]).length % s.sz ≤ _
    rw [List.length_append, List.length_singleton, hm, List.length_set]
    split <;> omega
  · intro hc
    have hc : s.sz ≤ (s.l ++ [b]).length := hc
    rw [List.length_append, List.length_singleton] at hc
    show (ring.set (s.l.length % s.sz) b).length = s.sz
    rw [List.length_set]
    by_cases hz : s.sz ≤ s.l.length
    · exact h4 hz
    · rw [Nat.mod_eq_of_lt (by omega)] at hn
      omega
  · intro i hi hc
    have hi : i < (s.l ++ [b]).length := hi
    have hc : (s.l ++ [b]).length ≤ i + s.sz := hc
    rw [List.length_append, List.length_singleton] at hi hc
    show i % s.sz < (ring.set (s.l.length % s.sz) b).length ∧ (ring.set (s.l.length % s.sz) b).getD (i % s.sz) 0 = (s.l ++ [b]).getD i 0
    rw [List.length_set]
    by_cases hil : i = s.l.length
    · subst hil
      refine ⟨hn, ?_⟩
      simp only [List.getD]
      rw [List.getElem?_set_self hn, List.getElem?_append_right (Nat.le_refl _), Nat.sub_self]
      rfl
    · obtain ⟨a, e⟩ := h5 i (by omega) (by omega)
      refine ⟨a, ?_⟩
      have hne := mod_apart (i := i) (n := s.l.length) (z := s.sz) (by omega) (by omega)
      simp only [List.getD] at e ⊢
      rw [List.getElem?_set_ne (fun h => hne h.symm), e, List.getElem?_append_left (by omega)]
/-- where a byte lies that is there -/
theorem ring_place {d : Nat} (h : RingOk s ring) (hd : d < s.sz) (hl : d < s.l.length) :
    ∃ p, p < ring.length ∧ ring.getD p 0 = s.l.getD (s.l.length - 1 - d) 0 ∧ (p : Int) = if ((s.l.length % s.sz : Nat) : Int) - 1 - (d : Int) < 0 then ((s.l.length % s.sz : Nat) : Int) - 1 - (d : Int) + (s.sz : Int) else ((s.l.length % s.sz : Nat) : Int) - 1 - (d : Int) := by
  obtain ⟨h1, h2, h3, h4, h5⟩ := h
  obtain ⟨a, b⟩ := h5 (s.l.length - 1 - d) (by omega) (by omega)
  refine ⟨_, a, b, ?_⟩
  generalize s.l.length = n at *
  generalize s.sz = z at *
  have hn : n % z < z := Nat.mod_lt _ h1
  have hq := Nat.div_add_mod n z
  by_cases hc : n % z < d + 1
  · rw [if_pos (by omega)]
    have hq0 : n / z ≠ 0 := by
      intro h0
      rw [h0, Nat.mul_zero, Nat.zero_add] at hq
      rw [hq] at hc
      omega
    obtain ⟨k, hk⟩ : ∃ k, n / z = k + 1 := Nat.exists_eq_succ_of_ne_zero hq0
    rw [hk, Nat.mul_add, Nat.mul_one] at hq
    obtain ⟨t, ht⟩ : ∃ t, t = z * k := ⟨_, rfl⟩
    obtain ⟨u, hu⟩ : ∃ u, u = n % z := ⟨_, rfl⟩
    rw [← hu] at hn hc ⊢
    rw [← ht, ← hu] at hq
    have e : n - 1 - d = u + z - 1 - d + z * k := by rw [← ht]; omega
    rw [e, Nat.add_mul_mod_self_left, Nat.mod_eq_of_lt (by omega)]
    omega
  · rw [if_neg (by omega)]
    obtain ⟨t, ht⟩ : ∃ t, t = z * (n / z) := ⟨_, rfl⟩
    obtain ⟨u, hu⟩ : ∃ u, u = n % z := ⟨_, rfl⟩
    rw [← hu] at hn hc ⊢
    rw [← ht, ← hu] at hq
    have e : n - 1 - d = u - 1 - d + z * (n / z) := by rw [← ht]; omega
    rw [e, Nat.add_mul_mod_self_left, Nat.mod_eq_of_lt (by omega)]
    omega
end
end Go.Proofs.YtiolfjhddbiglaaGreatDoor

/-
  What is owned: a call leaves all but its own blocks as they were.
-/
namespace Go.Proofs.YtiolfjhddbiglaaGreatDoor
open Go.RowKit

/-- what a call leaves: blocks that are owned then were so ahead, or are new; no other has turned -/
def OwnPost (Own : World → (Nat → Prop) → Prop) (w : World) (G : Nat → Prop) (v : Value) (x : Ending) (w' : World) : Prop :=
  x = .returned v ∧ ∃ G', Own w' G' ∧ (∀ i, G' i → G i ∨ w.heap.size ≤ i) ∧ Only G w w'

end Go.Proofs.YtiolfjhddbiglaaGreatDoor

/-
  The program's window in memory; what it tells; it is emptied, and closed.
-/
namespace Go.Proofs.YtiolfjhddbiglaaGreatDoor
open Go.RowKit

def wnCells (z : Int) (A : Option Addr) (n c : Nat) (nx ct : Int) (mp : Option Addr) : Array Value := #[.int .i64 z, .slice A n c, .int .i64 nx, .int .i64 ct, .pointer mp]

/-- The ring's row: none yet, or the whole of a block. -/
def RingAt (w : World) (g : Nat) (G : Nat → Prop) (A : Option Addr) (c : Nat) (ring : List UInt8) : Prop :=
  (ring = [] ∧ A = none ∧ c = 0) ∨ ∃ r, A = some ⟨r, 0, none⟩ ∧ c = ring.length ∧ Blk w r 5 (bv ring).toArray ∧ G r ∧ r ≠ g

/-- An open window, its ring at hand. -/
def Po (w : World) (g : Nat) (G : Nat → Prop) (m : Nat) (s : Ws) (ring : List UInt8) : Prop :=
  s.shut = false ∧ RingOk s ring ∧ G g ∧ (∀ i, G i → i < w.heap.size) ∧
    ∃ A c, Blk w g 167 (wnCells (s.sz : Int) A ring.length c ((s.l.length % s.sz : Nat) : Int) (s.count : Int) (some ⟨m, 0, none⟩)) ∧ RingAt w g G A c ring
/-- A closed one. -/
def Px (w : World) (g : Nat) (G : Nat → Prop) (s : Ws) : Prop :=
  s.shut = true ∧ G g ∧ (∀ i, G i → i < w.heap.size) ∧ Blk w g 167 (wnCells 0 none 0 0 0 0 none)
def Pwin (w : World) (g : Nat) (G : Nat → Prop) (m : Nat) (s : Ws) : Prop := (∃ ring, Po w g G m s ring) ∨ Px w g G s

section
variable {w w' : World} {g m : Nat} {G : Nat → Prop} {s : Ws} {ring : List UInt8}
theorem RingAt.only {S : Nat → Prop} {A : Option Addr} {c : Nat} (h : RingAt w g G A c ring) (hb : Only S w w') (hS : ∀ i, G i → i ≠ g → ¬ S i) : RingAt w' g G A c ring := by
  rcases h with h | ⟨r, e, ec, hB, hr, hn⟩
  · exact .inl h
  · exact .inr ⟨r, e, ec, hB.only hb (hS r hr hn), hr, hn⟩
theorem Po.only {S : Nat → Prop} (h : Po w g G m s ring) (hb : Only S w w') (hS : ∀ i, G i → ¬ S i) : Po w' g G m s ring := by
  obtain ⟨h1, h2, h3, h4, A, c, hB, hR⟩ := h
  exact ⟨h1, h2, h3, fun i hi => Nat.lt_of_lt_of_le (h4 i hi) hb.size, A, c, hB.only hb (hS g h3), hR.only hb (fun i hi _ => hS i hi)⟩
theorem Px.only {S : Nat → Prop} (h : Px w g G s) (hb : Only S w w') (hS : ∀ i, G i → ¬ S i) : Px w' g G s := by
  obtain ⟨h1, h3, h4, hB⟩ := h
  exact ⟨h1, h3, fun i hi => Nat.lt_of_lt_of_le (h4 i hi) hb.size, hB.only hb (hS g h3)⟩
theorem Pwin.only {S : Nat → Prop} (h : Pwin w g G m s) (hb : Only S w w') (hS : ∀ i, G i → ¬ S i) : Pwin w' g G m s := by
  rcases h with ⟨ring, h⟩ | h
  · exact .inl ⟨ring, h.only hb hS⟩
  · exact .inr (h.only hb hS)
theorem Pwin.old (h : Pwin w g G m s) {i : Nat} (hi : G i) : i < w.heap.size := by
  rcases h with ⟨ring, h⟩ | h
  · exact h.2.2.2.1 i hi
  · exact h.2.2.1 i hi
theorem Pwin.cnt (h : Pwin w g G m s) : w.cell? ⟨g, 3, none⟩ = some (.int .i64 (s.count : Int)) := by
  rcases h with ⟨ring, _, _, _, _, A, c, hB, _⟩ | ⟨h1, _, _, hB⟩
  · exact hB.cell 3
  · rw [shut_count h1]; exact hB.cell 3
theorem has_cnt (d : Int) : s.has d = decide (0 ≤ d ∧ d < (s.count : Int)) := by
  cases hs : s.shut with
  | true => rw [shut_has hs, shut_count hs]; symm; simp
  | false =>
    rw [open_count hs]
    unfold Ws.has
    rw [hs]
    simp only [Bool.not_false, Bool.true_and, decide_eq_decide]
    omega

set_option maxRecDepth 100000 in
set_option maxHeartbeats 1000000 in
theorem whas_any {d : Int} (h : Pwin w g G m s) :
    Calls Tryz.prog 145 #[.pointer (some ⟨g, 0, none⟩), .int .i64 d] w fun x w' => x = .returned (.bool (s.has d)) ∧ w = w' := by
  have c3 := h.cnt
  rw [has_cnt]
  clear h
  generalize (s.count : Int) = n at *
  by_cases h1 : d ≥ 0
  · by_cases h2 : d < n
    · have e : decide (0 ≤ d ∧ d < n) = true := by simp; omega
      rw [e]
      go_enter Tryz.func145, Tryz.ntmps145
      go_wp2_with fail
      go_ret
      exact ⟨rfl, rfl⟩
    · have e : decide (0 ≤ d ∧ d < n) = false := by simp; omega
      rw [e]
      go_enter Tryz.func145, Tryz.ntmps145
      go_wp2_with fail
      go_ret
      exact ⟨rfl, rfl⟩
  · have e : decide (0 ≤ d ∧ d < n) = false := by simp; omega
    rw [e]
    go_enter Tryz.func145, Tryz.ntmps145
    go_wp2_with fail
    go_ret
    exact ⟨rfl, rfl⟩

set_option maxRecDepth 100000 in
set_option maxHeartbeats 1000000 in
theorem wcount_any (h : Pwin w g G m s) :
    Calls Tryz.prog 143 #[.pointer (some ⟨g, 0, none⟩)] w fun x w' => x = .returned (.int .i64 (s.count : Int)) ∧ w = w' := by
  have c3 := h.cnt
  clear h
  generalize (s.count : Int) = n at *
  go_enter Tryz.func143, Tryz.ntmps143
  go_wp2_with fail
  go_ret
  exact ⟨rfl, rfl⟩

set_option maxRecDepth 100000 in
set_option maxHeartbeats 1000000 in
theorem wplace_any {nx z d p : Int} (c0 : w.cell? ⟨g, 0, none⟩ = some (.int .i64 z)) (c2 : w.cell? ⟨g, 2, none⟩ = some (.int .i64 nx)) (hz : 0 ≤ z ∧ z ≤ 1048576) (hn : 0 ≤ nx ∧ nx ≤ 1048576) (hd : 0 ≤ d ∧ d ≤ 1048576)
    (hp : p = if nx - 1 - d < 0 then nx - 1 - d + z else nx - 1 - d) :
    Calls Tryz.prog 180 #[.pointer (some ⟨g, 0, none⟩), .int .i64 d] w fun x w' => x = .returned (.int .i64 p) ∧ w = w' := by
  have e1 : IntKind.i64.wrap (nx - 1) = nx - 1 := IntWalk.i64_in _ (by omega)
  have e2 : IntKind.i64.wrap (nx - 1 - d) = nx - 1 - d := IntWalk.i64_in _ (by omega)
  have e3 : IntKind.i64.wrap (nx - 1 - d + z) = nx - 1 - d + z := IntWalk.i64_in _ (by omega)
  by_cases h : nx - 1 - d < 0
  · rw [if_pos h] at hp
    subst hp
    clear hz hn hd
    go_enter Tryz.func180, Tryz.ntmps180
    go_wp2_with fail
    go_ret
    exact ⟨rfl, rfl⟩
  · rw [if_neg h] at hp
    subst hp
    clear hz hn hd
    go_enter Tryz.func180, Tryz.ntmps180
    go_wp2_with fail
    go_ret
    exact ⟨rfl, rfl⟩

set_option maxRecDepth 100000 in
set_option maxHeartbeats 1000000 in
theorem wat_any {d : Int} (h : Pwin w g G m s) (hz : s.sz ≤ 1048576) :
    Calls Tryz.prog 137 #[.pointer (some ⟨g, 0, none⟩), .int .i64 d] w fun x w' => x = .returned (.int .u8 ((s.at_ d).toNat : Int)) ∧ ∃ k, w.drewN k = w' := by
  have K := Lib.hid (whas_any (d := d) h)
  by_cases hh : s.has d = true
  · obtain ⟨hs, h0, h1, h2⟩ := has_iff.1 hh
    rcases h with ⟨ring, h⟩ | h
    · obtain ⟨_, hok, _, _, A, c, hB, hR⟩ := h
      obtain ⟨e, he⟩ : ∃ e : Nat, (e : Int) = d := ⟨d.toNat, by omega⟩
      subst he
      obtain ⟨p, hp, hv, hpi⟩ := ring_place (d := e) hok (by omega) (by omega)
      have hnz : s.l.length % s.sz < s.sz := Nat.mod_lt _ hok.1
      rcases hR with ⟨rfl, _⟩ | ⟨r, rfl, rfl, hBr, _, _⟩
      · exact absurd hp (by simp)
      · have c0 : w.cell? ⟨g, 0, none⟩ = some (.int .i64 (s.sz : Int)) := hB.cell 0
        have c1 : w.cell? ⟨g, 1, none⟩ = some (.slice (some ⟨r, 0, none⟩) ring.length ring.length) := hB.cell 1
        have c2 : w.cell? ⟨g, 2, none⟩ = some (.int .i64 ((s.l.length % s.sz : Nat) : Int)) := hB.cell 2
        have cx : w.cell? ⟨r, p, none⟩ = some (.int .u8 ((s.at_ (e : Int)).toNat : Int)) := by
          rw [hBr.cell p, at_has hh, Int.toNat_natCast, ← hv]
          have := bv_get ring p hp
          simpa using this
        have KP := Lib.hid (fun n => wplace_any (w := w.drewN n) (g := g) (p := (p : Int)) c0 c2 (by omega) (by omega) (by omega : (0 : Int) ≤ (e : Int) ∧ (e : Int) ≤ 1048576) hpi)
        have i0 : (0 : Int) ≤ (p : Int) := by omega
        have i1 : (p : Int) < (ring.length : Int) := by omega
        rw [hh] at K
        clear hB hBr hv hpi hh h0 h1 h2 hz hok hnz hs c0 c2 hp
        generalize s.at_ (e : Int) = x at *
        generalize ring.length = n at *
        go_enter Tryz.func137, Tryz.ntmps137
        go_wp2_with fail
        refine K.out.mono ?_
        rintro y w' ⟨rfl, rfl⟩
        clear K
        go_wp2_with fail
        go_quiet ((go_at_call 180; exact quiet_same_at (KP.out _)))
        go_wp2_with fail
        go_ret
        exact ⟨rfl, _, rfl⟩
    · rw [h.1] at hs; cases hs
  · have hf : s.has d = false := by simpa using hh
    rw [at_not hf]
    rw [hf] at K
    clear h hh hf hz
    go_enter Tryz.func137, Tryz.ntmps137
    go_wp2_with fail
    refine K.out.mono ?_
    rintro y w' ⟨rfl, rfl⟩
    clear K
    go_wp2_with fail
    go_ret
    exact ⟨rfl, 0, rfl⟩

theorem empty_count (s : Ws) : s.empty.count = 0 := by
  unfold Ws.count Ws.empty
  simp

set_option maxRecDepth 100000 in
set_option maxHeartbeats 1000000 in
theorem wclose_any {q : Quo} {t : Tel} (h : Pwin w g G m s) (hz : s.sz ≤ 1048576) (hM : MeterAt w 83 m q t) (hF : Fine q t) (hm : ¬ G m) :
    Calls Tryz.prog 67 #[.pointer (some ⟨g, 0, none⟩)] w fun x w' =>
      x = .returned (.tuple #[]) ∧ ∃ G', Pwin w' g G' m s.close ∧ MeterAt w' 83 m q (if s.shut = true then t else t.doFree (s.sz : Int)) ∧ (∀ i, G' i → G i ∨ w.heap.size ≤ i) ∧ Only (fun i => G i ∨ i = m) w w' := by
  rcases h with ⟨ring, h1, h2, h3, h4, A, c, hB, hR⟩ | ⟨h1, h3, h4, hB⟩
  · have c0 : w.cell? ⟨g, 0, none⟩ = some (.int .i64 (s.sz : Int)) := hB.cell 0
    have c4 : w.cell? ⟨g, 4, none⟩ = some (.pointer (some ⟨m, 0, none⟩)) := hB.cell 4
    have z0 : ((s.sz : Int) == 0) = false := by have := h2.1; simp; omega
    have hgm : g ≠ m := fun e => hm (e ▸ h3)
    have K := Lib.hid (fun n => free_any (w := w.drewN n) (n := (s.sz : Int)) hM hF (by omega))
    rw [h1]
    simp only [Bool.false_eq_true, if_false]
    have hend : ∀ (w1 : World) (n : Nat), MeterAt w1 83 m q (t.doFree (s.sz : Int)) → (w.drewN n).grownBy w1 (some m) → Blk w1 g 167 (wnCells (s.sz : Int) A ring.length c ((s.l.length % s.sz : Nat) : Int) (s.count : Int) (some ⟨m, 0, none⟩)) ∧ (∀ i, G i → i < w1.heap.size) ∧ Only (fun i => G i ∨ i = m) w w1 := by
      intro w1 n hM1 hg
      exact ⟨Blk.grown (w := w.drewN n) hB hg (by intro e; injection e with e; exact hgm e), fun i hi => Nat.lt_of_lt_of_le (h4 i hi) hg.size, Only.of_drewN (Only.of_grown hg (.inr rfl))⟩
    have HE := Lib.hid hend
    have HG := Lib.hid h3
    have HN := Lib.hid hgm
    clear h1 h2 h3 h4 hB hR hend hM hF hm hgm hz
    go_enter Tryz.func67, Tryz.ntmps67
    go_wp2_with fail
    go_region_law ((go_simp; go_at_call 71; refine (K.out _).mono ?_; rintro x w1 ⟨rfl, hM1, hg⟩; have HM := Lib.hid hM1; have HB := Lib.hid (HE.out _ _ hM1 hg); clear hM1 hg))
    all_goals
      obtain ⟨hB1, hl1, hO1⟩ := HB.out
      have hgm := HN.out
      have hsh : MeterAt (((((w1.setCell ⟨g, 0, none⟩ (.int .i64 0)).setCell ⟨g, 1, none⟩ (.slice none 0 0)).setCell ⟨g, 2, none⟩ (.int .i64 0)).setCell ⟨g, 3, none⟩ (.int .i64 0)).setCell ⟨g, 4, none⟩ (.pointer none)) 83 m q (t.doFree (s.sz : Int)) :=
        Blk.far (Blk.far (Blk.far (Blk.far (Blk.far HM.out hgm.symm _) hgm.symm _) hgm.symm _) hgm.symm _) hgm.symm _
      have hOx : ∀ S : Nat → Prop, S g → Only S w1 (((((w1.setCell ⟨g, 0, none⟩ (.int .i64 0)).setCell ⟨g, 1, none⟩ (.slice none 0 0)).setCell ⟨g, 2, none⟩ (.int .i64 0)).setCell ⟨g, 3, none⟩ (.int .i64 0)).setCell ⟨g, 4, none⟩ (.pointer none)) := fun S hS =>
        (((((Only.refl S w1).setCell (p := ⟨g, 0, none⟩) (.inl hS) _).setCell (p := ⟨g, 1, none⟩) (.inl hS) _).setCell (p := ⟨g, 2, none⟩) (.inl hS) _).setCell (p := ⟨g, 3, none⟩) (.inl hS) _).setCell (p := ⟨g, 4, none⟩) (.inl hS) _
      have hxx : Px (((((w1.setCell ⟨g, 0, none⟩ (.int .i64 0)).setCell ⟨g, 1, none⟩ (.slice none 0 0)).setCell ⟨g, 2, none⟩ (.int .i64 0)).setCell ⟨g, 3, none⟩ (.int .i64 0)).setCell ⟨g, 4, none⟩ (.pointer none)) g G s.close :=
        ⟨rfl, HG.out, fun i hi => by have := hl1 i hi; simpa [World.setCell] using this, ((((hB1.put 0 (.int .i64 0)).put 1 (.slice none 0 0)).put 2 (.int .i64 0)).put 3 (.int .i64 0)).put 4 (.pointer none)⟩
      have HX := Lib.hid (And.intro hxx (And.intro hsh (hO1.trans (hOx (fun i => G i ∨ i = m) (.inl HG.out)))))
      have d0 : w1.cell? ⟨g, 0, none⟩ = some (.int .i64 (s.sz : Int)) := hB1.cell 0
      have d1 : w1.cell? ⟨g, 1, none⟩ = some (.slice A ring.length c) := hB1.cell 1
      have d2 : w1.cell? ⟨g, 2, none⟩ = some (.int .i64 ((s.l.length % s.sz : Nat) : Int)) := hB1.cell 2
      have d3 : w1.cell? ⟨g, 3, none⟩ = some (.int .i64 (s.count : Int)) := hB1.cell 3
      have d4 : w1.cell? ⟨g, 4, none⟩ = some (.pointer (some ⟨m, 0, none⟩)) := hB1.cell 4
      have f0 := hB1.free 0
      have f1 := hB1.free 1
      have f2 := hB1.free 2
      have f3 := hB1.free 3
      have f4 := hB1.free 4
      clear K HE HB HM hB1 hl1 hO1 hgm hsh hOx hxx c0 c4
      go_wp2_with fail
      first | go_end0 | refine bodyPost_ret (results_none rfl _ _ _) rfl ?_
      exact ⟨rfl, G, .inr HX.out.1, HX.out.2.1, fun i hi => .inl hi, HX.out.2.2⟩
  · have c0 : w.cell? ⟨g, 0, none⟩ = some (.int .i64 0) := hB.cell 0
    have hx : Px w g G s.close := ⟨rfl, h3, h4, hB⟩
    rw [h1]
    simp only [if_true]
    have HX := Lib.hid hx
    have HM := Lib.hid hM
    clear h1 h3 h4 hB hx hM hF hm hz
    go_enter Tryz.func67, Tryz.ntmps67
    go_wp2_with fail
    first | go_end0 | refine bodyPost_ret (results_none rfl _ _ _) rfl ?_
    exact ⟨rfl, G, .inr HX.out, HM.out, fun i hi => .inl hi, Only.refl _ _⟩
end
end Go.Proofs.YtiolfjhddbiglaaGreatDoor

/-
  The program's window: its ring grows; a byte is put, or copied.
-/
namespace Go.Proofs.YtiolfjhddbiglaaGreatDoor
open Go.RowKit

section
variable {w w' : World} {g m : Nat} {G : Nat → Prop} {s : Ws} {ring : List UInt8}

theorem zeros_bv (k : Nat) : madeCells #[.int .u8 0] (k * 1) = (bv (List.replicate k 0)).toArray := by
  rw [Nat.mul_one]
  unfold madeCells bv
  apply Array.ext
  · simp
  · intro i h1 h2
    simp [Nat.mod_one]

theorem grown_bv (ring : List UInt8) (k : Nat) (_ : ring.length ≤ k) : splice (bv (List.replicate k 0)) 0 (bv ring) = bv (ring ++ List.replicate (k - ring.length) 0) := by
  unfold splice
  rw [bv_append, bv_length]
  simp [bv]

set_option maxRecDepth 100000 in
set_option maxHeartbeats 2000000 in
theorem wgrow_any (h : Po w g G m s ring) (hz : s.sz ≤ 1048576) (hl : ring.length < s.sz) :
    Calls Tryz.prog 132 #[.pointer (some ⟨g, 0, none⟩)] w fun x w' =>
      x = .returned (.tuple #[]) ∧ ∃ ring' G', Po w' g G' m s ring' ∧ ring.length < ring'.length ∧ (∀ i, G' i → G i ∨ w.heap.size ≤ i) ∧ Only (fun i => i = g) w w' := by
  obtain ⟨i, hi, hz0, hz1, hz2⟩ := info_parts info_u8
  obtain ⟨h1, h2, h3, h4, A, c, hB, hR⟩ := h
  obtain ⟨k, hk⟩ : ∃ k : Nat, (k : Int) = min (max (2 * (ring.length : Int)) 64) (s.sz : Int) := ⟨(min (max (2 * (ring.length : Int)) 64) (s.sz : Int)).toNat, by omega⟩
  have hnk : ring.length < k := by omega
  have hks : k ≤ s.sz := by omega
  have c0 : w.cell? ⟨g, 0, none⟩ = some (.int .i64 (s.sz : Int)) := hB.cell 0
  have c1 : w.cell? ⟨g, 1, none⟩ = some (.slice A ring.length c) := hB.cell 1
  have e1 : IntKind.i64.wrap (2 * (ring.length : Int)) = 2 * (ring.length : Int) := IntWalk.i64_in _ (by omega)
  have hmk : ∀ W : World, (Instr.makeSlice 22 (.int .i64 (min (max (2 * (ring.length : Int)) 64) (s.sz : Int))) (.int .i64 (min (max (2 * (ring.length : Int)) 64) (s.sz : Int)))).run Tryz.prog W = .ok (.slice (some ⟨W.heap.size, 0, none⟩) k k) (W.alloc (.cells (bv (List.replicate k 0)).toArray 5)) := by
    intro W
    have := run_make (P := Tryz.prog) W 22 5 i (.int .u8 0) Tryz.underlying22 hi hz0 .i64 .i64 (k : Int) (k : Int) (by omega) (Int.le_refl _) (by rw [hz2]; omega) (by omega)
    rw [hz1, Int.toNat_natCast] at this
    rw [← hk, this]
    rw [show (Value.int .u8 0).cells = #[.int .u8 0] from rfl, zeros_bv]
  have H := Lib.hid (And.intro h1 (And.intro h2 (And.intro h3 (And.intro h4 (And.intro hB hR)))))
  clear h1 h2 h3 h4 hB hR hk hz0 hz1 hz2 hi
  go_enter Tryz.func132, Tryz.ntmps132
  go_wp2_with fail
  go_region
  have hgl : g < w.heap.size := H.out.2.2.2.1 g H.out.2.2.1
  have hW1 : Blk (w.alloc (.cells (bv (List.replicate k 0)).toArray 5)).drew w.heap.size 5 (bv (List.replicate k 0)).toArray := Blk.fresh w _ _
  have hW2 : Below w.heap.size w (w.alloc (.cells (bv (List.replicate k 0)).toArray 5)).drew := ((Below.refl _ _).alloc (Nat.le_refl _) _).trans ⟨rfl, rfl, rfl, Nat.le_refl _, fun _ _ => rfl⟩
  have hW3 : (w.alloc (.cells (bv (List.replicate k 0)).toArray 5)).drew.heap.size = w.heap.size + 1 := by simp [World.drew]
  generalize (w.alloc (.cells (bv (List.replicate k 0)).toArray 5)).drew = W at *
  have c1W : W.cell? ⟨g, 1, none⟩ = some (.slice A ring.length c) := (World.cell?_of_block (hW2.block g hgl)).trans c1
  have hpos : 0 < ring.length → ∃ ad, A = some ad ∧ ∀ j v, (bv ring)[j]? = some v → W.cell? (ad.add j) = some v := by
    intro hp
    rcases H.out.2.2.2.2.2 with ⟨rfl, _⟩ | ⟨r, rfl, _, hBr, hGr, _⟩
    · simp at hp
    · refine ⟨_, rfl, fun j v hv => ?_⟩
      have := (Blk.below hBr hW2).cell j
      rw [show (⟨r, 0, none⟩ : Addr).add j = ⟨r, j, none⟩ by unfold Addr.add; by_cases h0 : j = 0 <;> simp [h0], this]
      simpa using hv
  have hsz1 : (Tryz.prog.info? 5).map (·.size) = some 1 := by kernel_rfl
  have hcp : ∃ w2, (Builtin.copy_ #[22, 22] 3 #[.slice (some ⟨w.heap.size, 0, none⟩) k k, .slice A ring.length c]).run Tryz.prog W = .ok (.int .i64 (ring.length : Int)) w2 ∧
      Hid (Blk w2 w.heap.size 5 (bv (ring ++ List.replicate (k - ring.length) 0)).toArray) ∧ Hid (Below w.heap.size w w2) := by
    have hmin : Nat.min ring.length k = ring.length := Nat.min_eq_left (by omega)
    rw [← grown_bv ring k (by omega)]
    by_cases h0 : ring.length = 0
    · refine ⟨W, ?_, ?_, hW2⟩
      · rw [run_copy_none (P := Tryz.prog) W 22 22 3 5 _ A k k ring.length c Tryz.underlying22 hsz1 (by rw [hmin]; exact h0), h0]
        rfl
      · have : ring = [] := List.eq_nil_of_length_eq_zero h0
        subst this
        refine Lib.hid ?_
        simpa [splice, bv] using hW1
    · obtain ⟨ad, rfl, hsrc⟩ := hpos (by omega)
      refine ⟨_, run_copy_row (P := Tryz.prog) W 22 22 3 5 w.heap.size 0 k k ad ring.length c _ 5 (bv ring) Tryz.underlying22 hsz1 hW1 (by rw [bv_length, hmin]) hsrc (by simp [bv]; omega) (bv_one _) |>.trans (by rw [bv_length]; rfl), ?_, below_setRow hW2 (Nat.le_refl _) _⟩
      have := setRow_heap W w.heap.size _ (List.take 0 (bv (List.replicate k 0)).toArray.toList ++ bv ring ++ List.drop (0 + ring.length) (bv (List.replicate k 0)).toArray.toList).toArray 5 _ hW1
      have e : (List.take 0 (bv (List.replicate k 0)).toArray.toList ++ bv ring ++ List.drop (0 + ring.length) (bv (List.replicate k 0)).toArray.toList) = splice (bv (List.replicate k 0)) 0 (bv ring) := by
        unfold splice
        rw [bv_length]
        simp
      rw [e] at this ⊢
      exact this
  obtain ⟨w2, hrun, HR, HB2⟩ := hcp
  have HK := Lib.hid hnk
  have HKS := Lib.hid hks
  have hB2 : Blk w2 g 167 (wnCells (s.sz : Int) A ring.length c ((s.l.length % s.sz : Nat) : Int) (s.count : Int) (some ⟨m, 0, none⟩)) := Blk.below H.out.2.2.2.2.1 HB2.out
  have d1 : w2.cell? ⟨g, 1, none⟩ = some (.slice A ring.length c) := hB2.cell 1
  have f1 := hB2.free 1
  have hend : ∃ ring' G', Po (w2.setCell ⟨g, 1, none⟩ (.slice (some ⟨w.heap.size, 0, none⟩) k k)) g G' m s ring' ∧ ring.length < ring'.length ∧ (∀ i, G' i → G i ∨ w.heap.size ≤ i) ∧ Only (fun i => i = g) w (w2.setCell ⟨g, 1, none⟩ (.slice (some ⟨w.heap.size, 0, none⟩) k k)) := by
    obtain ⟨h1, h2, h3, h4, hB, hR⟩ := H.out
    have hgl := h4 g h3
    have hk := HK.out
    have hks := HKS.out
    have hlen : (ring ++ List.replicate (k - ring.length) 0).length = k := by simp; omega
    have hr := HR.out
    have HB2 := HB2.out
    have hO : Only (fun i => i = g) w2 (w2.setCell ⟨g, 1, none⟩ (.slice (some ⟨w.heap.size, 0, none⟩) k k)) := (Only.refl (fun i => i = g) w2).setCell (p := ⟨g, 1, none⟩) (.inl rfl) _
    refine ⟨ring ++ List.replicate (k - ring.length) 0, fun i => G i ∨ i = w.heap.size, ⟨h1, ring_grow h2 (by omega), .inl h3, ?_, some ⟨w.heap.size, 0, none⟩, k, ?_, .inr ⟨w.heap.size, rfl, hlen.symm, hr.only hO (by show ¬ w.heap.size = g; omega), .inr rfl, by omega⟩⟩, by omega, ?_, (Only.of_below HB2).trans hO⟩
    · rintro i (hi | rfl)
      · have := h4 i hi; have := HB2.size; simp [World.setCell]; omega
      · have := hr.lt; simpa [World.setCell] using this
    · rw [hlen]
      exact hB2.put 1 (.slice (some ⟨w.heap.size, 0, none⟩) k k)
    · rintro i (hi | rfl)
      · exact .inl hi
      · exact .inr (Nat.le_refl _)
  have HE := Lib.hid hend
  clear hend hB2 HR HB2 hW1 hW2 hW3 HK HKS H hpos hsz1 hmk hgl hnk hks hz hl c0 c1 e1
  go_wp2_with fail
  first | go_end0 | refine bodyPost_ret (results_none rfl _ _ _) rfl ?_
  exact ⟨rfl, HE.out⟩
end
end Go.Proofs.YtiolfjhddbiglaaGreatDoor

/-
  The program's window: a byte is put, or copied.
-/
namespace Go.Proofs.YtiolfjhddbiglaaGreatDoor
open Go.RowKit

/-- the window behind the stores of a put -/
def putW (w : World) (g r nx : Nat) (b : UInt8) (last nw : Int) (wrap : Bool) : World :=
  let w1 := (w.setCell ⟨r, nx, none⟩ (.int .u8 (b.toNat : Int))).setCell ⟨g, 2, none⟩ (.int .i64 last)
  let w2 := if wrap = true then w1.setCell ⟨g, 2, none⟩ (.int .i64 0) else w1
  w2.setCell ⟨g, 3, none⟩ (.int .i64 nw)

section
variable {w w' : World} {g m : Nat} {G : Nat → Prop} {s : Ws} {ring : List UInt8} {b : UInt8}

theorem wbv_set (l : List UInt8) (k : Nat) (b : UInt8) : ((bv l).toArray.setIfInBounds k (.int .u8 (b.toNat : Int))) = (bv (l.set k b)).toArray := by
  simp [bv, List.map_set]

theorem put_count (h : s.shut = false) (b : UInt8) : (((s.put b).count : Nat) : Int) = min ((s.count : Int) + 1) (s.sz : Int) := by
  rw [open_put h, open_count h, open_count rfl]
  simp only [List.length_append, List.length_singleton]
  omega

/-- where a byte is put: the facts of the walk, and its end -/
theorem put_facts {nx : Nat} (h : Po w g G m s ring) (hx : s.l.length % s.sz = nx) (hn : nx < ring.length) :
    ∃ r c old, w.cell? ⟨g, 0, none⟩ = some (.int .i64 (s.sz : Int)) ∧ w.cell? ⟨g, 1, none⟩ = some (.slice (some ⟨r, 0, none⟩) ring.length c) ∧
      w.cell? ⟨g, 2, none⟩ = some (.int .i64 (nx : Int)) ∧ w.cell? ⟨g, 3, none⟩ = some (.int .i64 (s.count : Int)) ∧
      w.cell? ⟨r, nx, none⟩ = some old ∧ w.frozen? ⟨r, nx, none⟩ = false ∧ w.frozen? ⟨g, 2, none⟩ = false ∧ w.frozen? ⟨g, 3, none⟩ = false ∧ r ≠ g ∧
      ∀ wrap : Bool, (wrap = true ↔ nx + 1 = s.sz) →
        Pwin (putW w g r nx b ((nx : Int) + 1) (min ((s.count : Int) + 1) (s.sz : Int)) wrap) g G m (s.put b) ∧
        Only G w (putW w g r nx b ((nx : Int) + 1) (min ((s.count : Int) + 1) (s.sz : Int)) wrap) := by
  subst hx
  obtain ⟨h1, h2, h3, h4, A, c, hB, hR⟩ := h
  rcases hR with ⟨rfl, _⟩ | ⟨r, rfl, rfl, hr, hGr, hrg⟩
  · exact absurd hn (by simp)
  · refine ⟨r, ring.length, (.int .u8 ((ring.getD (s.l.length % s.sz) 0).toNat : Int)), hB.cell 0, hB.cell 1, hB.cell 2, hB.cell 3, ?_, hr.free _, hB.free 2, hB.free 3, hrg, ?_⟩
    · rw [hr.cell]
      have := bv_get ring _ hn
      simpa using this
    · intro wrap hwr
      have hm := mod_next (n := s.l.length) h2.1
      have hOr : ∀ (S : Nat → Prop) (u : Value), S r → Only S w (w.setCell ⟨r, s.l.length % s.sz, none⟩ u) := fun S u hS => (Only.refl S w).setCell (p := ⟨r, s.l.length % s.sz, none⟩) (.inl hS) u
      have hB1 : Blk (w.setCell ⟨r, s.l.length % s.sz, none⟩ (.int .u8 (b.toNat : Int))) g _ _ := hB.only (hOr (fun i => i = r) _ rfl) hrg.symm
      have hr1 := hr.put (s.l.length % s.sz) (.int .u8 (b.toNat : Int))
      rw [wbv_set] at hr1
      have hO1 := hOr G (.int .u8 (b.toNat : Int)) hGr
      have hl1 : ∀ i, G i → i < (w.setCell ⟨r, s.l.length % s.sz, none⟩ (.int .u8 (b.toNat : Int))).heap.size := fun i hi => by have := h4 i hi; simpa [World.setCell] using this
      unfold putW
      generalize w.setCell ⟨r, s.l.length % s.sz, none⟩ (.int .u8 (b.toNat : Int)) = w1 at *
      have hring : RingOk (s.put b) (ring.set (s.l.length % s.sz) b) := by
        rw [open_put h1]
        have := ring_put (b := b) h2 hn
        rw [h1] at this
        exact this
      have hlen : (s.put b).l.length = s.l.length + 1 := by rw [open_put h1]; simp
      have hsz : (s.put b).sz = s.sz := put_sz b
      have key : ∀ w2 : World, Only (fun i => i = g) w1 w2 → Blk w2 g 167 (wnCells (s.sz : Int) (some ⟨r, 0, none⟩) ring.length ring.length (((s.l.length + 1) % s.sz : Nat) : Int) (min ((s.count : Int) + 1) (s.sz : Int)) (some ⟨m, 0, none⟩)) → Pwin w2 g G m (s.put b) ∧ Only G w w2 := by
        intro w2 hO2 hB2
        refine ⟨.inl ⟨ring.set (s.l.length % s.sz) b, by rw [open_put h1], hring, h3, fun i hi => Nat.lt_of_lt_of_le (hl1 i hi) hO2.size, some ⟨r, 0, none⟩, ring.length, ?_, .inr ⟨r, rfl, by simp, hr1.only hO2 hrg, hGr, hrg⟩⟩, hO1.trans (hO2.mono (by rintro i rfl; exact h3))⟩
        rw [put_count h1, hsz, hlen, List.length_set]
        exact hB2
      have hOg : ∀ (W : World) (k : Nat) (u : Value), Only (fun i => i = g) W (W.setCell ⟨g, k, none⟩ u) := fun W k u => (Only.refl (fun i => i = g) W).setCell (p := ⟨g, k, none⟩) (.inl rfl) u
      cases wrap with
      | true =>
        have hw := hwr.1 rfl
        rw [if_pos hw] at hm
        simp only [if_true]
        refine key _ (((hOg _ 2 _).trans (hOg _ 2 _)).trans (hOg _ 3 _)) ?_
        rw [hm]
        exact ((hB1.put 2 (.int .i64 ((s.l.length % s.sz : Nat) + 1 : Int))).put 2 (.int .i64 0)).put 3 (.int .i64 (min ((s.count : Int) + 1) (s.sz : Int)))
      | false =>
        have hw : ¬ s.l.length % s.sz + 1 = s.sz := fun h => by have := hwr.2 h; cases this
        rw [if_neg hw] at hm
        simp only [Bool.false_eq_true, if_false]
        refine key _ ((hOg _ 2 _).trans (hOg _ 3 _)) ?_
        rw [hm]
        exact (hB1.put 2 (.int .i64 ((s.l.length % s.sz : Nat) + 1 : Int))).put 3 (.int .i64 (min ((s.count : Int) + 1) (s.sz : Int)))

set_option maxRecDepth 100000 in
set_option maxHeartbeats 4000000 in
theorem wput_any (h : Pwin w g G m s) (hz : s.sz ≤ 1048576) (hl : s.l.length ≤ 1000000000) :
    Calls Tryz.prog 104 #[.pointer (some ⟨g, 0, none⟩), .int .u8 (b.toNat : Int)] w (OwnPost (fun w' G' => Pwin w' g G' m (s.put b)) w G (.tuple #[])) := by
  rcases h with ⟨ring, h⟩ | h
  · have hsz := h.2.1.1
    have hle := h.2.1.2.1
    have hle2 := h.2.1.2.2.1
    have hnz : s.l.length % s.sz < s.sz := Nat.mod_lt _ hsz
    obtain ⟨nx, hx⟩ : ∃ nx, s.l.length % s.sz = nx := ⟨_, rfl⟩
    rw [hx] at hnz hle2
    have hcs : s.count ≤ s.sz := count_le
    have z0 : ((s.sz : Int) == 0) = false := by simp; omega
    have e1 : IntKind.i64.wrap ((nx : Int) + 1) = (nx : Int) + 1 := IntWalk.i64_in _ (by omega)
    have e2 : IntKind.i64.wrap ((s.count : Int) + 1) = (s.count : Int) + 1 := IntWalk.i64_in _ (by omega)
    by_cases hf : nx = ring.length
    · have K := Lib.hid (fun n => wgrow_any (w := w.drewN n) (g := g) (m := m) (G := G) (s := s) (ring := ring) h hz (by omega))
      have q0 : ((nx : Int) == (ring.length : Int)) = true := by rw [hf]; simp
      obtain ⟨A, c, hB, _⟩ := h.2.2.2.2
      rw [hx] at hB
      have c0 : w.cell? ⟨g, 0, none⟩ = some (.int .i64 (s.sz : Int)) := hB.cell 0
      have c1 : w.cell? ⟨g, 1, none⟩ = some (.slice A ring.length c) := hB.cell 1
      have c2 : w.cell? ⟨g, 2, none⟩ = some (.int .i64 (nx : Int)) := hB.cell 2
      have HF := Lib.hid hf
      have HG := Lib.hid h.2.2.1
      clear hB h hf hle hle2 hz hl hsz hcs hnz
      go_enter Tryz.func104, Tryz.ntmps104
      go_wp2_with fail
      go_region
      go_wp2_with fail
      refine (K.out _).mono ?_
      rintro y w1 ⟨rfl, ring', G1, hP, hlt, hG1, hO⟩
      have HP := Lib.hid hP
      have HN : Hid (nx < ring'.length) := Lib.hid (by have := HF.out; omega)
      have HG1 : Hid (∀ i, G1 i → G i ∨ w.heap.size ≤ i) := Lib.hid hG1
      have HO1 : Hid (∀ w2, Only G1 w1 w2 → Only G w w2) := Lib.hid (fun w2 h2 => (Only.of_drewN (hO.mono (S' := G) (by rintro i rfl; exact HG.out))).trans' h2 hG1)
      clear hP hlt hG1 hO c0 c1 c2 K q0 HF HG
      go_wp2_with fail
      obtain ⟨r, c', old, c0, c1, c2, c3, cr, fr, f2, f3, hrg, hend⟩ := put_facts (b := b) HP.out hx HN.out
      have i0 : (0 : Int) ≤ (nx : Int) := by omega
      have i1 : (nx : Int) < (ring'.length : Int) := by have := HN.out; omega
      have hgr : g ≠ r := fun e => hrg e.symm
      by_cases hw : nx + 1 = s.sz
      · have q1 : (((nx : Int) + 1) == (s.sz : Int)) = true := by simp; omega
        have HE := Lib.hid (hend true (by simp [hw]))
        clear hend hw HP HN
        go_region
        go_wp2_with fail
        go_region
        go_wp2_with fail
        go_region
        go_wp2_with fail
        first | go_end0 | refine bodyPost_ret (results_none rfl _ _ _) rfl ?_
        exact ⟨rfl, G1, HE.out.1, HG1.out, HO1.out _ HE.out.2.drew.drew.drew⟩
      · have q1 : (((nx : Int) + 1) == (s.sz : Int)) = false := by simp; omega
        have HE := Lib.hid (hend false (by simp [hw]))
        clear hend hw HP HN
        go_region
        go_wp2_with fail
        go_region
        go_wp2_with fail
        go_region
        go_wp2_with fail
        first | go_end0 | refine bodyPost_ret (results_none rfl _ _ _) rfl ?_
        exact ⟨rfl, G1, HE.out.1, HG1.out, HO1.out _ HE.out.2.drew.drew.drew⟩
    · have q0 : ((nx : Int) == (ring.length : Int)) = false := by simp; omega
      have HP := Lib.hid h
      have HN : Hid (nx < ring.length) := Lib.hid (by omega)
      obtain ⟨A, c, hB, _⟩ := h.2.2.2.2
      rw [hx] at hB
      have c0 : w.cell? ⟨g, 0, none⟩ = some (.int .i64 (s.sz : Int)) := hB.cell 0
      have c1 : w.cell? ⟨g, 1, none⟩ = some (.slice A ring.length c) := hB.cell 1
      have c2 : w.cell? ⟨g, 2, none⟩ = some (.int .i64 (nx : Int)) := hB.cell 2
      clear hB h hf hle hle2 hz hl hsz hcs hnz
      go_enter Tryz.func104, Tryz.ntmps104
      go_wp2_with fail
      go_region
      go_wp2_with fail
      clear c0 c1 c2
      obtain ⟨r, c', old, c0, c1, c2, c3, cr, fr, f2, f3, hrg, hend⟩ := put_facts (b := b) HP.out hx HN.out
      have i0 : (0 : Int) ≤ (nx : Int) := by omega
      have i1 : (nx : Int) < (ring.length : Int) := by have := HN.out; omega
      have hgr : g ≠ r := fun e => hrg e.symm
      by_cases hw : nx + 1 = s.sz
      · have q1 : (((nx : Int) + 1) == (s.sz : Int)) = true := by simp; omega
        have HE := Lib.hid (hend true (by simp [hw]))
        clear hend hw HP HN
        go_region
        go_wp2_with fail
        go_region
        go_wp2_with fail
        go_region
        go_wp2_with fail
        first | go_end0 | refine bodyPost_ret (results_none rfl _ _ _) rfl ?_
        exact ⟨rfl, G, HE.out.1, fun i hi => .inl hi, HE.out.2.drew.drew.drew.drew⟩
      · have q1 : (((nx : Int) + 1) == (s.sz : Int)) = false := by simp; omega
        have HE := Lib.hid (hend false (by simp [hw]))
        clear hend hw HP HN
        go_region
        go_wp2_with fail
        go_region
        go_wp2_with fail
        go_region
        go_wp2_with fail
        first | go_end0 | refine bodyPost_ret (results_none rfl _ _ _) rfl ?_
        exact ⟨rfl, G, HE.out.1, fun i hi => .inl hi, HE.out.2.drew.drew.drew.drew⟩
  · have c0 : w.cell? ⟨g, 0, none⟩ = some (.int .i64 0) := h.2.2.2.cell 0
    have HX := Lib.hid h
    rw [shut_put h.1]
    clear h hz hl
    go_enter Tryz.func104, Tryz.ntmps104
    go_wp2_with fail
    first | go_end0 | refine bodyPost_ret (results_none rfl _ _ _) rfl ?_
    exact ⟨rfl, G, .inr HX.out, fun i hi => .inl hi, Only.refl _ _⟩
end
end Go.Proofs.YtiolfjhddbiglaaGreatDoor

/-
  The program's window: a copy, a new one.
-/
namespace Go.Proofs.YtiolfjhddbiglaaGreatDoor
open Go.RowKit

section
variable {w w' : World} {g m : Nat} {G : Nat → Prop} {s : Ws}

set_option maxRecDepth 100000 in
set_option maxHeartbeats 2000000 in
theorem wcopy_any {d : Int} (h : Pwin w g G m s) (hz : s.sz ≤ 1048576) (hl : s.l.length ≤ 1000000000) :
    Calls Tryz.prog 146 #[.pointer (some ⟨g, 0, none⟩), .int .i64 d] w (OwnPost (fun w' G' => Pwin w' g G' m (s.copy d)) w G (.int .u8 ((s.at_ d).toNat : Int))) := by
  have K := Lib.hid (whas_any (d := d) h)
  by_cases hh : s.has d = true
  · have KA := Lib.hid (wat_any (d := d) h hz)
    have KP := Lib.hid (fun n => wput_any (w := w.drewN n) (b := s.at_ d) h hz hl)
    rw [show s.copy d = s.put (s.at_ d) by unfold Ws.copy; rw [if_pos hh]]
    rw [hh] at K
    clear h hh hz hl
    generalize s.at_ d = x at *
    go_enter Tryz.func146, Tryz.ntmps146
    go_wp2_with fail
    refine K.out.mono ?_
    rintro y w1 ⟨rfl, rfl⟩
    clear K
    go_wp2_with fail
    refine KA.out.mono ?_
    rintro y w1 ⟨rfl, k, rfl⟩
    clear KA
    go_wp2_with fail
    refine (KP.out _).mono ?_
    rintro y w2 ⟨rfl, G2, hP, hG, hO⟩
    have HE := Lib.hid (And.intro hP (And.intro hG (Only.of_drewN hO)))
    clear hP hG hO KP
    go_wp2_with fail
    go_ret
    exact ⟨rfl, G2, HE.out.1, HE.out.2.1, HE.out.2.2⟩
  · have hf : s.has d = false := by simpa using hh
    rw [show s.copy d = s by unfold Ws.copy; rw [if_neg hh], at_not hf]
    rw [hf] at K
    have HX := Lib.hid h
    clear h hh hf hz hl
    go_enter Tryz.func146, Tryz.ntmps146
    go_wp2_with fail
    refine K.out.mono ?_
    rintro y w1 ⟨rfl, rfl⟩
    clear K
    go_wp2_with fail
    go_ret
    exact ⟨rfl, G, HX.out, fun i hi => .inl hi, Only.refl _ _⟩

set_option maxRecDepth 100000 in
set_option maxHeartbeats 1000000 in
theorem wnew7_any {q : Quo} {t : Tel} {n : Int} (hM : MeterAt w 83 m q t) (hF : Fine q t) (h0 : -9223372036854775808 ≤ n) (h1 : n ≤ 1048576) (hfit : fits t.code t.mem q.mem (max n 1)) :
    Calls Tryz.prog 64 #[.int .i64 n, .pointer (some ⟨m, 0, none⟩)] w fun x w' =>
      ∃ g G, x = .returned (.tuple #[.pointer (some ⟨g, 0, none⟩), .int .i64 0]) ∧ Pwin w' g G m (Ws.new n) ∧ MeterAt w' 83 m q (t.doMem q (max n 1)) ∧ (∀ i, G i → w.heap.size ≤ i) ∧ Only (fun i => i = m) w w' := by
  have K := Lib.hid (mem_any hM hF (max n 1))
  have hd : decide (fits t.code t.mem q.mem (max n 1)) = true := by simp [hfit]
  rw [hd] at K
  have hend : ∀ w1 : World, MeterAt w1 83 m q (t.doMem q (max n 1)) → w.grownBy w1 (some m) →
      Pwin (w1.alloc (.cells #[.int .i64 (max n 1), .slice none 0 0, .int .i64 0, .int .i64 0, .pointer (some ⟨m, 0, none⟩)] 167)) w1.heap.size (fun i => i = w1.heap.size) m (Ws.new n) ∧
        MeterAt (w1.alloc (.cells #[.int .i64 (max n 1), .slice none 0 0, .int .i64 0, .int .i64 0, .pointer (some ⟨m, 0, none⟩)] 167)) 83 m q (t.doMem q (max n 1)) ∧ (∀ i, i = w1.heap.size → w.heap.size ≤ i) ∧
        Only (fun i => i = m) w (w1.alloc (.cells #[.int .i64 (max n 1), .slice none 0 0, .int .i64 0, .int .i64 0, .pointer (some ⟨m, 0, none⟩)] 167)) := by
    intro w1 hM1 hg
    refine ⟨.inl ⟨[], rfl, ring_new h1, rfl, ?_, none, 0, ?_, .inl ⟨rfl, rfl, rfl⟩⟩, hM1.alloc _, ?_, (Only.of_grown (S := fun i => i = m) hg rfl).alloc _⟩
    · rintro i rfl
      simp
    · have e : (((Ws.new n).sz : Nat) : Int) = max n 1 := by show (((max n 1).toNat : Nat) : Int) = _; omega
      have e2 : (Ws.new n).l.length % (Ws.new n).sz = 0 := Nat.zero_mod _
      have e3 : (Ws.new n).count = 0 := by unfold Ws.count Ws.new; simp
      rw [e, e2, e3]
      exact Blk.fresh w1 _ _
    · rintro i rfl
      exact hg.size
  have HE := Lib.hid hend
  clear hend hM hF h0 h1 hfit hd
  go_enter Tryz.func64, Tryz.ntmps64
  go_wp2_with fail
  refine K.out.mono ?_
  rintro y w1 ⟨rfl, hM1, hg⟩
  have HX := Lib.hid (HE.out w1 hM1 hg)
  clear hM1 hg K HE
  go_wp2_with fail
  go_ret2
  exact ⟨_, _, rfl, HX.out.1, HX.out.2.1, HX.out.2.2.1, HX.out.2.2.2⟩

end
end Go.Proofs.YtiolfjhddbiglaaGreatDoor
