/-
  LwRow, MtPure, MtUse, MtUses, MtMem, WnPure: put together.
-/
import Derived.Test.YtjgdjobhhdhfjaaGreatUa03
import Derived.Test.YtjgdjobhhdhfjaaGreatUa05
import Derived.Test.YtjgdjobhhdhfjaaGreatUa01
import Derived.Test.YtjgdjobhhdhfjaaGreatRows
import Derived.Tactics
import Derived.Tactics2
import Derived.Laws.Pointers
import Derived.Laws.LoneSync
import Derived.Lib.MinMax
import Derived.RegionTactic
import Derived.RegionCalls
import Derived.StillTailTactics
import Derived.Deep.RegionHeld3
set_option linter.unusedVariables false
set_option linter.unusedSimpArgs false
/-
  The program's decoder of ranges over probabilities that lie wherever they lie: bits, trees.
-/
namespace Go.Proofs.YtjgdjobhhdhfjaaGreat
open Go.RowKit

/-- what a decoder turns -/
def owns (f g : Nat) (B : Nat → Prop) : Nat → Prop := fun i => i = f ∨ i = g ∨ B i
/-- the machine and its probabilities, in memory -/
structure Mch (R : World → List Nat → Prop) (g f lo : Nat) (bs : List UInt8) (L : Nat) (w : World) (t : Pm Dc) : Prop where
  pd : Pd w g f lo bs t.x
  row : R w t.ps
  ok : PmOk okD L 0 t
def MPost (R : World → List Nat → Prop) (B : Nat → Prop) (g f lo : Nat) (bs : List UInt8) (L : Nat) (w : World) (v : Value) (t : Pm Dc) (e : Ending) (w' : World) : Prop :=
  e = .returned v ∧ Mch R g f lo bs L w' t ∧ Only (owns f g B) w w'
theorem okD_any {L k : Nat} {t : Pm Dc} (h : PmOk okD L 0 t) : PmOk okD L k t := ⟨h.ps, h.len, h.x⟩
theorem okD_zero {L k : Nat} {t : Pm Dc} (h : PmOk okD L k t) : PmOk okD L 0 t := ⟨h.ps, h.len, h.x⟩

section
variable {R : World → List Nat → Prop} {B : Nat → Prop} {ad : Nat → Nat × Nat} {L : Nat} {g f lo r c at_ b i p a : Nat} {w : World} {bs : List UInt8} {ps : List Nat}

set_option maxRecDepth 100000 in
set_option maxHeartbeats 4000000 in
theorem lw_zero (Z : Prb R B ad L) (hB0 : ∀ i, B i → i < lo ∨ g < i) (hab : ad a = (b, i)) (ha : a < L) {z : Nat} (hz : z = r / 2048 * p) (hB : Blk w g 164 (pdCells f r c false)) (hF : Feed w f lo bs at_) (hfg : f < g) (hR : R w ps) (hpi : p = ps.getD a 0)
    (hr0 : 16777216 ≤ r) (hr : r < 4294967296) (hp : POk p) (hlt : c < z) :
    Calls Tryz.prog 109 #[.pointer (some ⟨g, 0, none⟩), .pointer (some ⟨b, i, none⟩)] w fun e w' => e = .returned (.int .i64 0) ∧ Pd w' g f lo bs (lvl z c (bs.drop at_)) ∧ R w' (ps.set a (up0 p)) ∧ Only (owns f g B) w w' := by
  obtain ⟨b0, b1⟩ := bound_in hr0 hr hp
  rw [← hz] at b0 b1
  obtain ⟨p0, p1⟩ := hp
  have hlo := hF.lo
  have hBb : B b := by have := Z.blk ha; rw [hab] at this; exact this
  have hbo := hB0 b hBb
  have hbg : b ≠ g := by omega
  have h1 : w.cell? ⟨g, 1, none⟩ = some (.int .u32 (r : Int)) := hB.cell 1
  have h2 : w.cell? ⟨g, 2, none⟩ = some (.int .u32 (c : Int)) := hB.cell 2
  have h3 : w.cell? ⟨g, 3, none⟩ = some (.bool false) := hB.cell 3
  have z1 : w.frozen? ⟨g, 1, none⟩ = false := hB.free 1
  have hx : w.cell? ⟨b, i, none⟩ = some (.int .u16 (p : Int)) := by have := Z.cell hR ha; rw [hab] at this; rw [hpi]; exact this
  have zx : w.frozen? ⟨b, i, none⟩ = false := by have := Z.free hR ha; rw [hab] at this; exact this
  have e0 : IntKind.u32.wrap (p : Int) = (p : Int) := u32_of _ (by omega) (by omega)
  have e1 : IntKind.u32.wrap ((r : Int) / 2048 * (p : Int)) = (z : Int) := by
    rw [show (r : Int) / 2048 * (p : Int) = (z : Int) by rw [hz]; simp]
    exact u32_of _ (by omega) (by omega)
  have e1' : IntKind.u32.wrap ((r : Int) / 2048) = (r : Int) / 2048 := u32_of _ (by omega) (by omega)
  have hlt' : (c : Int) < (z : Int) := by omega
  clear hz hpi
  have e2 : IntKind.u16.wrap (2048 - (p : Int)) = 2048 - (p : Int) := u16_in _ (by omega)
  obtain ⟨u, hu⟩ : ∃ u, u = (2048 - p) / 32 := ⟨_, rfl⟩
  have e3 : IntKind.u16.wrap ((2048 - (p : Int)).tdiv 32) = (u : Int) := by
    rw [Int.tdiv_eq_ediv_of_nonneg (by omega), show (2048 - (p : Int)) / 32 = (u : Int) by omega]
    exact u16_in _ (by omega)
  have hup : up0 p = p + u := by unfold up0; omega
  have e5 : IntKind.u16.wrap ((p : Int) + (u : Int)) = ((p + u : Nat) : Int) := by rw [← Int.natCast_add]; exact u16_in _ (by omega)
  rw [hup]
  clear hu hup
  generalize p + u = q at *
  have hO1 : ∀ n, Only (fun j => j = g) w ((w.setCell ⟨g, 1, none⟩ (.int .u32 (z : Int))).drewN n) := fun n => ((Only.refl (fun j => j = g) w).setCell (p := ⟨g, 1, none⟩) (.inl rfl) _).drewN n
  have hO : ∀ n, Only (fun j => j = g ∨ j = b) w (((w.setCell ⟨g, 1, none⟩ (.int .u32 (z : Int))).drewN n).setCell ⟨b, i, none⟩ (.int .u16 (q : Int))) := fun n => ((hO1 n).mono (fun j hj => .inl hj)).setCell (p := ⟨b, i, none⟩) (.inl (.inr rfl)) _
  have hB1 : ∀ n, Blk (((w.setCell ⟨g, 1, none⟩ (.int .u32 (z : Int))).drewN n).setCell ⟨b, i, none⟩ (.int .u16 (q : Int))) g 164 (pdCells f z c false) := fun n => ((hB.put 1 _).drewN n).far hbg.symm _
  have HR := Lib.hid (fun n => show R (((w.setCell ⟨g, 1, none⟩ (.int .u32 (z : Int))).drewN n).setCell ⟨b, i, none⟩ (.int .u16 (q : Int))) (ps.set a q) from by have := Z.put (Z.only hR (hO1 n) (fun j hj e => by have := hB0 j hj; omega)) ha q; rw [hab] at this; exact this)
  have K := Lib.hid (fun n => even_any (hB1 n) (hF.only (hO n) (fun j hj => by omega)) hfg (by omega) (Nat.le_of_lt hlt))
  have HO := Lib.hid (fun n => (hO n).mono (S' := owns f g B) (fun j hj => by rcases hj with hj | hj; exact .inr (.inl hj); exact .inr (.inr (hj ▸ hBb))))
  have HZ := Lib.hid Z
  have HB0 := Lib.hid hB0
  clear hB hF hR hB1 hO hO1 Z hB0 hbo hBb hab ha
  go_enter Tryz.func109, Tryz.ntmps109
  go_wp2_with fail
  go_quiet (fail)
  go_wp2_with fail
  go_region
  all_goals go_wp2_with fail
  refine (K.out (nq + 1)).mono ?_
  rintro e w1 ⟨rfl, ⟨at', r', c', bad', hB2, hF2, _, ht⟩, hO2⟩
  have HB2 := Lib.hid hB2
  have HF2 := Lib.hid hF2
  have HT := Lib.hid ht
  have HR2 := Lib.hid (HZ.out.only (HR.out (nq + 1)) hO2 (fun j hj e => by have := HB0.out j hj; rcases e with e | e <;> omega))
  have HO2 := Lib.hid ((HO.out (nq + 1)).trans (hO2.mono fun j hj => by rcases hj with h | h; exact .inl h; exact .inr (.inl h)))
  have KT := Lib.hid (told_any (x := 0) hB2)
  clear hB2 hF2 ht hO2 HO K HR h1 h2 h3 z1 hx zx HZ HB0
  go_wp2_with fail
  refine KT.out.mono ?_
  rintro e w2 ⟨rfl, rfl⟩
  go_wp2_with fail
  go_ret
  exact ⟨by simp, ⟨at', r', c', bad', HB2.out, HF2.out, hfg, HT.out⟩, HR2.out, HO2.out⟩

set_option maxRecDepth 100000 in
set_option maxHeartbeats 4000000 in
theorem lw_one (Z : Prb R B ad L) (hB0 : ∀ i, B i → i < lo ∨ g < i) (hab : ad a = (b, i)) (ha : a < L) {z v : Nat} {d1 : Dc} (hd1 : lvl (r - z) (c - z) (bs.drop at_) = d1) (hv : v = if d1 = none then 0 else 1) (hz : z = r / 2048 * p) (hB : Blk w g 164 (pdCells f r c false)) (hF : Feed w f lo bs at_) (hfg : f < g) (hR : R w ps) (hpi : p = ps.getD a 0)
    (hr0 : 16777216 ≤ r) (hr : r < 4294967296) (hcr : c < r) (hp : POk p) (hlt : ¬ c < z) :
    Calls Tryz.prog 109 #[.pointer (some ⟨g, 0, none⟩), .pointer (some ⟨b, i, none⟩)] w fun e w' => e = .returned (.int .i64 (v : Int)) ∧ Pd w' g f lo bs d1 ∧ R w' (ps.set a (up1 p)) ∧ Only (owns f g B) w w' := by
  obtain ⟨b0, b1⟩ := bound_in hr0 hr hp
  rw [← hz] at b0 b1
  obtain ⟨p0, p1⟩ := hp
  have hlo := hF.lo
  have hBb : B b := by have := Z.blk ha; rw [hab] at this; exact this
  have hbo := hB0 b hBb
  have hbg : b ≠ g := by omega
  have h1 : w.cell? ⟨g, 1, none⟩ = some (.int .u32 (r : Int)) := hB.cell 1
  have h2 : w.cell? ⟨g, 2, none⟩ = some (.int .u32 (c : Int)) := hB.cell 2
  have h3 : w.cell? ⟨g, 3, none⟩ = some (.bool false) := hB.cell 3
  have z1 : w.frozen? ⟨g, 1, none⟩ = false := hB.free 1
  have z2 : w.frozen? ⟨g, 2, none⟩ = false := hB.free 2
  have hx : w.cell? ⟨b, i, none⟩ = some (.int .u16 (p : Int)) := by have := Z.cell hR ha; rw [hab] at this; rw [hpi]; exact this
  have zx : w.frozen? ⟨b, i, none⟩ = false := by have := Z.free hR ha; rw [hab] at this; exact this
  have e0 : IntKind.u32.wrap (p : Int) = (p : Int) := u32_of _ (by omega) (by omega)
  have e1 : IntKind.u32.wrap ((r : Int) / 2048 * (p : Int)) = (z : Int) := by
    rw [show (r : Int) / 2048 * (p : Int) = (z : Int) by rw [hz]; simp]
    exact u32_of _ (by omega) (by omega)
  have e1' : IntKind.u32.wrap ((r : Int) / 2048) = (r : Int) / 2048 := u32_of _ (by omega) (by omega)
  have hlt' : ¬ (c : Int) < (z : Int) := by omega
  clear hz hpi
  have e2 : IntKind.u32.wrap ((c : Int) - (z : Int)) = ((c - z : Nat) : Int) := by rw [show (c : Int) - (z : Int) = ((c - z : Nat) : Int) by omega]; exact u32_of _ (by omega) (by omega)
  have e3 : IntKind.u32.wrap ((r : Int) - (z : Int)) = ((r - z : Nat) : Int) := by rw [show (r : Int) - (z : Int) = ((r - z : Nat) : Int) by omega]; exact u32_of _ (by omega) (by omega)
  have hup : up1 p = p - p / 32 := rfl
  have e5 : IntKind.u16.wrap ((p : Int) - (p : Int) / 32) = ((p - p / 32 : Nat) : Int) := by rw [show (p : Int) - (p : Int) / 32 = ((p - p / 32 : Nat) : Int) by omega]; exact u16_in _ (by omega)
  have e6 : IntKind.u16.wrap ((p : Int) / 32) = (p : Int) / 32 := u16_in _ (by omega)
  rw [hup]
  clear hup
  generalize p - p / 32 = q at *
  have hO1 : ∀ n, Only (fun j => j = g) w (((w.setCell ⟨g, 2, none⟩ (.int .u32 ((c - z : Nat) : Int))).setCell ⟨g, 1, none⟩ (.int .u32 ((r - z : Nat) : Int))).drewN n) := fun n => (((Only.refl (fun j => j = g) w).setCell (p := ⟨g, 2, none⟩) (.inl rfl) _).setCell (p := ⟨g, 1, none⟩) (.inl rfl) _).drewN n
  have hO : ∀ n, Only (fun j => j = g ∨ j = b) w ((((w.setCell ⟨g, 2, none⟩ (.int .u32 ((c - z : Nat) : Int))).setCell ⟨g, 1, none⟩ (.int .u32 ((r - z : Nat) : Int))).drewN n).setCell ⟨b, i, none⟩ (.int .u16 (q : Int))) := fun n => ((hO1 n).mono (fun j hj => .inl hj)).setCell (p := ⟨b, i, none⟩) (.inl (.inr rfl)) _
  have hB1 : ∀ n, Blk ((((w.setCell ⟨g, 2, none⟩ (.int .u32 ((c - z : Nat) : Int))).setCell ⟨g, 1, none⟩ (.int .u32 ((r - z : Nat) : Int))).drewN n).setCell ⟨b, i, none⟩ (.int .u16 (q : Int))) g 164 (pdCells f (r - z) (c - z) false) := fun n => (((hB.put 2 _).put 1 _).drewN n).far hbg.symm _
  have HR := Lib.hid (fun n => show R ((((w.setCell ⟨g, 2, none⟩ (.int .u32 ((c - z : Nat) : Int))).setCell ⟨g, 1, none⟩ (.int .u32 ((r - z : Nat) : Int))).drewN n).setCell ⟨b, i, none⟩ (.int .u16 (q : Int))) (ps.set a q) from by have := Z.put (Z.only hR (hO1 n) (fun j hj e => by have := hB0 j hj; omega)) ha q; rw [hab] at this; exact this)
  have K := Lib.hid (fun n => even_any (hB1 n) (hF.only (hO n) (fun j hj => by omega)) hfg (by omega) (by omega))
  have HO := Lib.hid (fun n => (hO n).mono (S' := owns f g B) (fun j hj => by rcases hj with hj | hj; exact .inr (.inl hj); exact .inr (.inr (hj ▸ hBb))))
  have HZ := Lib.hid Z
  have HB0 := Lib.hid hB0
  have HD1 := Lib.hid hd1
  have HV := Lib.hid hv
  clear hB hF hR hB1 hO hO1 hd1 hv Z hB0 hbo hBb hab ha
  generalize r - z = r1 at *
  generalize c - z = c1 at *
  go_enter Tryz.func109, Tryz.ntmps109
  go_wp2_with fail
  go_quiet (fail)
  go_wp2_with fail
  go_region
  all_goals go_wp2_with fail
  refine (K.out (nq + 1)).mono ?_
  rintro e w1 ⟨rfl, ⟨at', r', c', bad', hB2, hF2, _, ht⟩, hO2⟩
  rw [HD1.out] at ht
  have HB2 := Lib.hid hB2
  have HF2 := Lib.hid hF2
  have HT := Lib.hid ht
  have HR2 := Lib.hid (HZ.out.only (HR.out (nq + 1)) hO2 (fun j hj e => by have := HB0.out j hj; rcases e with e | e <;> omega))
  have HO2 := Lib.hid ((HO.out (nq + 1)).trans (hO2.mono fun j hj => by rcases hj with h | h; exact .inl h; exact .inr (.inl h)))
  have KT := Lib.hid (told_any (x := 1) hB2)
  have hv : v = if bad' = true then 0 else 1 := by
    rw [HV.out]
    rcases ht.2.2.2 with ⟨rfl, h⟩ | ⟨rfl, h⟩
    · rw [if_pos h, if_pos rfl]
    · rw [if_neg (by rw [h]; simp), if_neg (by simp)]
  have HV2 := Lib.hid hv
  clear hB2 hF2 ht hO2 HO K HR h1 h2 h3 z1 z2 hx zx hv HV HZ HB0
  cases bad'
  all_goals
    go_wp2_with fail
    refine KT.out.mono ?_
    rintro e w2 ⟨rfl, rfl⟩
    go_wp2_with fail
    go_ret
    refine ⟨?_, ⟨at', r', c', _, HB2.out, HF2.out, hfg, HT.out⟩, HR2.out, HO2.out⟩
    rw [HV2.out]
    rfl

/-- A bit. -/
theorem lw_bit (Z : Prb R B ad L) (hB0 : ∀ i, B i → i < lo ∨ g < i) (hab : ad a = (b, i)) (ha : a < L) {t : Pm Dc} {k : Int} (h : Mch R g f lo bs L w t) :
    Calls Tryz.prog 109 #[.pointer (some ⟨g, 0, none⟩), .pointer (some ⟨b, i, none⟩)] w (MPost R B g f lo bs L w (.int .i64 ((bitP decM t a k).1 : Int)) (bitP decM t a k).2) := by
  have hnext := (bitP_ok decM_ok (k := 0) (a := a) (w := k) (okD_any h.ok) ha (fun h => by cases h)).2
  have hps := getD_ok h.ok.ps (show a < t.ps.length by rw [h.ok.len]; exact ha)
  obtain ⟨hP, hR, hok⟩ := h
  obtain ⟨at_, r, c, bad, hB, hF, hfg, h0, h1, h2, h3⟩ := hP
  rcases h3 with ⟨rfl, hn⟩ | ⟨rfl, hn⟩
  · refine (bit_bad hB).mono ?_
    rintro e w' ⟨rfl, rfl⟩
    have e1 : (bitP decM t a k).1 = 0 := by show (bitD t.x _).1 = 0; rw [hn]; rfl
    have e2 : (bitP decM t a k).2 = t := by
      show (⟨t.ps.set a (bitD t.x (t.ps.getD a 0)).2.1, (bitD t.x (t.ps.getD a 0)).2.2⟩ : Pm Dc) = t
      rw [hn]
      show (⟨t.ps.set a (t.ps.getD a 0), none⟩ : Pm Dc) = t
      rw [set_same_get _ _ (by rw [hok.len]; exact ha), ← hn]
    rw [e1, e2]
    exact ⟨rfl, ⟨⟨at_, r, c, true, hB, hF, hfg, h0, h1, h2, .inl ⟨rfl, hn⟩⟩, hR, hok⟩, Only.refl _ _⟩
  · obtain ⟨d0, d1, d2⟩ := hok.x _ _ _ hn
    have hx : bitP decM t a k = ((bitD t.x (t.ps.getD a 0)).1, ⟨t.ps.set a (bitD t.x (t.ps.getD a 0)).2.1, (bitD t.x (t.ps.getD a 0)).2.2⟩) := rfl
    rw [hx] at hnext ⊢
    rw [hn] at hnext ⊢
    unfold bitD at hnext ⊢
    simp only [] at hnext ⊢
    by_cases hlt : c < r / 2048 * t.ps.getD a 0
    · rw [if_pos hlt] at hnext ⊢
      refine (lw_zero Z hB0 hab ha rfl hB hF hfg hR rfl d0 d1 hps hlt).mono ?_
      rintro e w' ⟨rfl, g1, g2, g3⟩
      exact ⟨rfl, ⟨g1, g2, hnext⟩, g3⟩
    · rw [if_neg hlt] at hnext ⊢
      refine (lw_one Z hB0 hab ha rfl rfl rfl hB hF hfg hR rfl d0 d1 d2 hps hlt).mono ?_
      rintro e w' ⟨rfl, g1, g2, g3⟩
      cases hl : lvl (r - r / 2048 * t.ps.getD a 0) (c - r / 2048 * t.ps.getD a 0) (bs.drop at_) with
      | none => rw [hl] at hnext g1; exact ⟨rfl, ⟨g1, g2, hnext⟩, g3⟩
      | some u => rw [hl] at hnext g1; exact ⟨rfl, ⟨g1, g2, hnext⟩, g3⟩

theorem Mch.cells {t : Pm Dc} (h : Mch R g f lo bs L w t) : ∃ (r c : Nat) (bad : Bool), Blk w g 164 (pdCells f r c bad) ∧ (bad = true ↔ t.x = none) := by
  obtain ⟨at_, r, c, bad, hB, hF, hfg, h0, h1, h2, h3⟩ := h.pd
  refine ⟨r, c, bad, hB, ?_⟩
  rcases h3 with ⟨rfl, hn⟩ | ⟨rfl, hn⟩
  · simp [hn]
  · simp [hn]

set_option maxRecDepth 100000 in
set_option maxHeartbeats 4000000 in
/-- A number by a tree. -/
theorem lw_tree (Z : Prb R B ad L) (hB0 : ∀ i, B i → i < lo ∨ g < i) {o n len cap v : Nat} {t : Pm Dc} (had : ∀ m, m < 2 ^ n → ad (a + m) = (b, o + m)) (haL : a + 2 ^ n ≤ L) (hv : v = if (treeP decM t a n 0).2.x = none then 0 else (treeP decM t a n 0).1) (h : Mch R g f lo bs L w t) (hn : 2 ^ n ≤ len) (hn8 : n ≤ 8) :
    Calls Tryz.prog 113 #[.pointer (some ⟨g, 0, none⟩), .slice (some ⟨b, o, none⟩) len cap, .int .i64 (n : Int)] w
      (MPost R B g f lo bs L w (.int .i64 (v : Int)) (treeP decM t a n 0).2) := by
  have HP := Lib.hid h
  have HT := Lib.hid (treeG_ok decM_ok (k := 0) (v := 0) (okD_any h.ok) haL (fun h => by cases h))
  have HAL := Lib.hid haL
  have HAD := Lib.hid had
  have HBL := Lib.hid hB0
  have HV := Lib.hid hv
  have HZ := Lib.hid Z
  clear h hB0 hv Z had haL
  go_enter Tryz.func113, Tryz.ntmps113
  go_wp2_with fail
  go_loopw [7, 8, 9, 11] (fun v m _ i wr => ∃ (j x : Nat) (T : Tg Dc), j ≤ n ∧ T = treeG decM t a n 0 j ∧ i = .int .i64 (j : Int) ∧ v = .int .i64 (x : Int) ∧ m = .int .i64 (T.m : Int) ∧ x + 2 ^ j = T.m ∧ Mch R g f lo bs L wr T.t ∧ Only (owns f g B) w wr) (fun _ _ _ i _ => n - (intOf i).toNat)
  case atStart => exact ⟨0, 0, _, Nat.zero_le _, rfl, rfl, rfl, rfl, rfl, HP.out, Only.refl _ _⟩
  case round =>
    clear HP
    obtain ⟨j, x, T, hj, hT, rfl, rfl, rfl, hx, hp, ho⟩ := hrel
    obtain ⟨t1, t2, t3⟩ := HT.out j hj
    rw [← hT] at t1 t2 t3
    have HO := Lib.hid ho
    have HT0 := Lib.hid hT
    clear ho hT t1
    by_cases hlt : j < n
    · have hpow : 2 ^ (j + 1) ≤ 2 ^ n := Nat.pow_le_pow_right (by omega) hlt
      have h256 := pow8 hn8
      have hmn : T.m < 2 ^ n := by omega
      have K := Lib.hid (lw_bit (k := want 0 (n - 1 - j)) HZ.out HBL.out (HAD.out T.m hmn) (by have := HAL.out; omega) hp)
      have hm1 : (T.m : Int) < (len : Int) := by omega
      have hm0 : (0 : Int) ≤ (T.m : Int) := by omega
      have hu := (bitP_ok decM_ok (k := 0) (a := a + T.m) (w := want 0 (n - 1 - j)) (okD_any hp.ok) (by have := HAL.out; omega) (fun h => by cases h)).1
      have HST := Lib.hid (show tgStep decM a j (want 0 (n - 1 - j)) T = treeG decM t a n 0 (j + 1) by rw [HT0.out]; rfl)
      have hsm : (tgStep decM a j (want 0 (n - 1 - j)) T).m = 2 * T.m + (bitP decM T.t (a + T.m) (want 0 (n - 1 - j))).1 := rfl
      have hst : (tgStep decM a j (want 0 (n - 1 - j)) T).t = (bitP decM T.t (a + T.m) (want 0 (n - 1 - j))).2 := rfl
      rw [← hst] at K
      generalize (bitP decM T.t (a + T.m) (want 0 (n - 1 - j))).1 = u at *
      have hlt' : (j : Int) < (n : Int) := by omega
      have hm5 : T.m < 512 := by omega
      have hx5 : x < 512 := by omega
      have e1 : IntKind.i64.wrap (2 * (x : Int)) = 2 * (x : Int) := IntWalk.i64_in _ (by omega)
      have e2 : IntKind.i64.wrap (2 * (T.m : Int)) = 2 * (T.m : Int) := IntWalk.i64_in _ (by omega)
      have e3 : IntKind.i64.wrap (2 * (x : Int) + (u : Int)) = ((2 * x + u : Nat) : Int) := by rw [show 2 * (x : Int) + (u : Int) = ((2 * x + u : Nat) : Int) by omega]; exact IntWalk.i64_in _ (by omega)
      have e4 : IntKind.i64.wrap (2 * (T.m : Int) + (u : Int)) = ((2 * T.m + u : Nat) : Int) := by rw [show 2 * (T.m : Int) + (u : Int) = ((2 * T.m + u : Nat) : Int) by omega]; exact IntWalk.i64_in _ (by omega)
      have HX := Lib.hid hx
      have HSM := Lib.hid hsm
      clear hp t2 t3 hx hpow h256 hu hsm hst HT hmn
      generalize tgStep decM a j (want 0 (n - 1 - j)) T = T' at *
      generalize T.m = y at *
      go_wp2_with fail
      refine K.out.mono ?_
      rintro e w1 ⟨rfl, hp1, ho1⟩
      have HP1 := Lib.hid hp1
      have HO1 := Lib.hid (HO.out.trans ho1)
      clear hp1 ho1 HO K
      go_wp2_with fail
      go_roundw
      case rel =>
        refine ⟨j + 1, 2 * x + u, T', by omega, HST.out, by go_num, rfl, by rw [HSM.out]; go_num, ?_, HP1.out, HO1.out⟩
        have := HX.out
        have := HSM.out
        rw [Nat.pow_succ]
        omega
      case measure => simp [intOf]; omega
    · obtain rfl : j = n := by omega
      obtain ⟨r, c, bad, hB, hbx⟩ := hp.cells
      have HB := Lib.hid hp
      have KT := Lib.hid (told_any (x := (x : Int)) hB)
      have hv : v = if bad = true then 0 else x := by
        have e1 : (treeP decM t a j 0).2 = T.t := by rw [HT0.out]; rfl
        have e2 : (treeP decM t a j 0).1 = x := by show (treeG decM t a j 0 j).m - 2 ^ j = x; rw [← HT0.out]; omega
        rw [HV.out, e1, e2]
        by_cases hb : bad = true
        · rw [if_pos hb, if_pos (hbx.1 hb)]
        · rw [if_neg hb, if_neg (fun h => hb (hbx.2 h))]
      clear hB hbx hx t2 t3 HT HV hp
      generalize T.m = y at *
      cases bad
      all_goals
        simp only [if_true, Bool.false_eq_true, if_false] at hv KT
        subst hv
        go_wp2_with fail
        refine KT.out.mono ?_
        rintro e w2 ⟨rfl, rfl⟩
        go_wp2_with fail
        go_ret
        have e1 : (treeP decM t a j 0).2 = T.t := by rw [HT0.out]; rfl
        rw [e1]
        exact ⟨rfl, HB.out, HO.out⟩

set_option maxRecDepth 100000 in
set_option maxHeartbeats 4000000 in
/-- A number by a tree, the least bit first. -/
theorem lw_rev (Z : Prb R B ad L) (hB0 : ∀ i, B i → i < lo ∨ g < i) {o n len cap v : Nat} {t : Pm Dc} (had : ∀ m, m < 2 ^ n → ad (a + m) = (b, o + m)) (haL : a + 2 ^ n ≤ L) (hv : v = if (revP decM t a n 0).2.x = none then 0 else (revP decM t a n 0).1) (h : Mch R g f lo bs L w t) (hn : 2 ^ n ≤ len) (hn8 : n ≤ 8) :
    Calls Tryz.prog 151 #[.pointer (some ⟨g, 0, none⟩), .slice (some ⟨b, o, none⟩) len cap, .int .i64 (n : Int)] w
      (MPost R B g f lo bs L w (.int .i64 (v : Int)) (revP decM t a n 0).2) := by
  have HP := Lib.hid h
  have HT := Lib.hid (revG_ok decM_ok (k := 0) (v := 0) (okD_any h.ok) haL (fun h => by cases h))
  have HAL := Lib.hid haL
  have HAD := Lib.hid had
  have HBL := Lib.hid hB0
  have HV := Lib.hid hv
  have HZ := Lib.hid Z
  clear h hB0 hv Z had haL
  go_enter Tryz.func151, Tryz.ntmps151
  go_wp2_with fail
  go_loopw [7, 8, 9, 10, 12] (fun v m _ _ i wr => ∃ (j x : Nat) (T : Tg Dc), j ≤ n ∧ T = revG decM t a 0 j ∧ i = .int .i64 (j : Int) ∧ v = .int .i64 (x : Int) ∧ m = .int .i64 (T.m : Int) ∧ x = T.o ∧ Mch R g f lo bs L wr T.t ∧ Only (owns f g B) w wr) (fun _ _ _ _ i _ => n - (intOf i).toNat)
  case atStart => exact ⟨0, 0, _, Nat.zero_le _, rfl, rfl, rfl, rfl, rfl, HP.out, Only.refl _ _⟩
  case round =>
    clear HP
    obtain ⟨j, x, T, hj, hT, rfl, rfl, rfl, hx, hp, ho⟩ := hrel
    obtain ⟨t1, t2, t3, t4⟩ := HT.out j hj
    rw [← hT] at t1 t2 t3 t4
    have HO := Lib.hid ho
    have HT0 := Lib.hid hT
    rw [← hx] at t4
    clear ho hT t1
    by_cases hlt : j < n
    · have hpow : 2 ^ (j + 1) ≤ 2 ^ n := Nat.pow_le_pow_right (by omega) hlt
      have h256 := pow8 hn8
      have hmn : T.m < 2 ^ n := by omega
      have K := Lib.hid (lw_bit (k := want 0 j) HZ.out HBL.out (HAD.out T.m hmn) (by have := HAL.out; omega) hp)
      have hm1 : (T.m : Int) < (len : Int) := by omega
      have hm0 : (0 : Int) ≤ (T.m : Int) := by omega
      have hu := (bitP_ok decM_ok (k := 0) (a := a + T.m) (w := want 0 j) (okD_any hp.ok) (by have := HAL.out; omega) (fun h => by cases h)).1
      have HST := Lib.hid (show tgStep decM a j (want 0 j) T = revG decM t a 0 (j + 1) by rw [HT0.out]; rfl)
      have hsm : (tgStep decM a j (want 0 j) T).m = 2 * T.m + (bitP decM T.t (a + T.m) (want 0 j)).1 := rfl
      have hso : (tgStep decM a j (want 0 j) T).o = T.o + (bitP decM T.t (a + T.m) (want 0 j)).1 * 2 ^ j := rfl
      have hst : (tgStep decM a j (want 0 j) T).t = (bitP decM T.t (a + T.m) (want 0 j)).2 := rfl
      rw [← hst] at K
      generalize (bitP decM T.t (a + T.m) (want 0 j)).1 = u at *
      have hlt' : (j : Int) < (n : Int) := by omega
      have hm5 : T.m < 512 := by omega
      have e1 := i64_or_shift x u j t4 hu (by omega)
      have e2 : IntKind.i64.wrap (2 * (T.m : Int)) = 2 * (T.m : Int) := IntWalk.i64_in _ (by omega)
      have e4 : IntKind.i64.wrap (2 * (T.m : Int) + (u : Int)) = ((2 * T.m + u : Nat) : Int) := by rw [show 2 * (T.m : Int) + (u : Int) = ((2 * T.m + u : Nat) : Int) by omega]; exact IntWalk.i64_in _ (by omega)
      rw [← hx] at hso
      have HSO := Lib.hid hso
      have HSM := Lib.hid hsm
      clear hp t2 t3 t4 hx hpow h256 hu hsm hst HT hmn hso
      generalize x + u * 2 ^ j = x' at *
      generalize tgStep decM a j (want 0 j) T = T' at *
      generalize T.m = y at *
      go_wp2_with fail
      refine K.out.mono ?_
      rintro e w1 ⟨rfl, hp1, ho1⟩
      have HP1 := Lib.hid hp1
      have HO1 := Lib.hid (HO.out.trans ho1)
      clear hp1 ho1 HO K
      go_wp2_with fail
      go_roundw
      case rel => exact ⟨j + 1, x', T', by omega, HST.out, by go_num, rfl, by rw [HSM.out]; go_num, HSO.out.symm, HP1.out, HO1.out⟩
      case measure => simp [intOf]; omega
    · obtain rfl : j = n := by omega
      obtain ⟨r, c, bad, hB, hbx⟩ := hp.cells
      have HB := Lib.hid hp
      have KT := Lib.hid (told_any (x := (x : Int)) hB)
      have hv : v = if bad = true then 0 else x := by
        have e1 : (revP decM t a j 0).2 = T.t := by rw [HT0.out]; rfl
        have e2 : (revP decM t a j 0).1 = x := by show (revG decM t a 0 j).o = x; rw [← HT0.out]; omega
        rw [HV.out, e1, e2]
        by_cases hb : bad = true
        · rw [if_pos hb, if_pos (hbx.1 hb)]
        · rw [if_neg hb, if_neg (fun h => hb (hbx.2 h))]
      clear hB hbx hx t2 t3 t4 HT HV hp
      generalize T.m = y at *
      cases bad
      all_goals
        simp only [if_true, Bool.false_eq_true, if_false] at hv KT
        subst hv
        go_wp2_with fail
        refine KT.out.mono ?_
        rintro e w2 ⟨rfl, rfl⟩
        go_wp2_with fail
        go_ret
        have e1 : (revP decM t a j 0).2 = T.t := by rw [HT0.out]; rfl
        rw [e1]
        exact ⟨rfl, HB.out, HO.out⟩

/-- Bits told straight. -/
theorem lw_straight (Z : Prb R B ad L) (hB0 : ∀ i, B i → i < lo ∨ g < i) {n : Nat} {t : Pm Dc} (h : Mch R g f lo bs L w t) (hn : n ≤ 32) :
    Calls Tryz.prog 152 #[.pointer (some ⟨g, 0, none⟩), .int .i64 (n : Int)] w
      (MPost R B g f lo bs L w (.int .u32 ((straightD n t.x).1 : Int)) ⟨t.ps, (straightD n t.x).2⟩) := by
  refine (straight_any h.pd h.ok.x hn).mono ?_
  rintro e w' ⟨rfl, h1, h2⟩
  refine ⟨rfl, ⟨h1, Z.only h.row h2 (fun i hi e => ?_), ⟨h.ok.ps, h.ok.len, (straightD_ok h.ok.x).1⟩⟩, h2.mono fun i hi => by rcases hi with h | h; exact .inl h; exact .inr (.inl h)⟩
  have h3 := hB0 i hi
  have h4 := h.pd.lo
  rcases e with e | e <;> omega
theorem lw_bad {t : Pm Dc} (h : Mch R g f lo bs L w t) : Calls Tryz.prog 108 #[.pointer (some ⟨g, 0, none⟩)] w fun e w' => e = .returned (.bool (decM.bad t.x)) ∧ w = w' := by
  obtain ⟨r, c, bad, hB, hbx⟩ := h.cells
  have : decM.bad t.x = bad := by
    show t.x.isNone = bad
    cases bad with
    | true => rw [hbx.1 rfl]; rfl
    | false =>
      cases hx : t.x with
      | none => have := hbx.2 hx; cases this
      | some _ => rfl
  rw [this]
  exact bad_any hB
end
end Go.Proofs.YtjgdjobhhdhfjaaGreat

/-
  Meters as numbers: quotas, what is used, and what each call makes of them.
-/
namespace Go.Proofs.YtjgdjobhhdhfjaaGreat
open Go.RowKit

structure Quo where
  mem : Int
  out : Int
  files : Int
  depth : Int
  steps : Int

structure Tel where
  mem : Int
  peak : Int
  out : Int
  files : Int
  depth : Int
  steps : Int
  code : Int

/-- a quota of which nothing is below 0 -/
def Quo.up (q : Quo) : Quo := ⟨max q.mem 0, max q.out 0, max q.files 0, max q.depth 0, max q.steps 0⟩
def Tel.zero : Tel := ⟨0, 0, 0, 0, 0, 0, 0⟩

/-- the cells of a meter -/
def mCells (q : Quo) (s : Tel) : Array Value :=
  #[.int .i64 q.mem, .int .i64 q.out, .int .i64 q.files, .int .i64 q.depth, .int .i64 q.steps,
    .int .i64 s.mem, .int .i64 s.peak, .int .i64 s.out, .int .i64 s.files, .int .i64 s.depth, .int .i64 s.steps, .int .i64 s.code]
def uArr (s : Tel) : Array Value := #[.int .i64 s.mem, .int .i64 s.peak, .int .i64 s.out, .int .i64 s.files, .int .i64 s.depth, .int .i64 s.steps]
def qArr (q : Quo) : Array Value := #[.int .i64 q.mem, .int .i64 q.out, .int .i64 q.files, .int .i64 q.depth, .int .i64 q.steps]

/-- n more may be used. -/
def fits (code was most n : Int) : Prop := code = 0 ∧ max n 0 ≤ most - was
instance (code was most n : Int) : Decidable (fits code was most n) := by unfold fits; infer_instance
/-- the code behind it -/
def codeOf (code was most n x : Int) : Int := if code = 0 ∧ most - was < max n 0 then x else code
def wasOf (code was most n : Int) : Int := if code = 0 ∧ max n 0 ≤ most - was then was + max n 0 else was

def Tel.doMem (q : Quo) (s : Tel) (n : Int) : Tel :=
  { s with mem := wasOf s.code s.mem q.mem n, peak := max s.peak (wasOf s.code s.mem q.mem n), code := codeOf s.code s.mem q.mem n 101 }
def Tel.doOut (q : Quo) (s : Tel) (n : Int) : Tel := { s with out := wasOf s.code s.out q.out n, code := codeOf s.code s.out q.out n 102 }
def Tel.doFile (q : Quo) (s : Tel) : Tel := { s with files := wasOf s.code s.files q.files 1, code := codeOf s.code s.files q.files 1 103 }
def Tel.doDown (q : Quo) (s : Tel) : Tel := { s with depth := wasOf s.code s.depth q.depth 1, code := codeOf s.code s.depth q.depth 1 104 }
def Tel.doStep (q : Quo) (s : Tel) (n : Int) : Tel := { s with steps := wasOf s.code s.steps q.steps n, code := codeOf s.code s.steps q.steps n 105 }
def Tel.doFree (s : Tel) (n : Int) : Tel := { s with mem := max (s.mem - max n 0) 0 }
def Tel.doUp (s : Tel) : Tel := { s with depth := max (s.depth - 1) 0 }

/-- what is used lies within its quota; nothing is beyond 64 bits -/
structure Fine (q : Quo) (s : Tel) : Prop where
  m0 : 0 ≤ s.mem
  m1 : s.mem ≤ s.peak
  m2 : s.peak ≤ q.mem
  m3 : q.mem ≤ 9223372036854775807
  o0 : 0 ≤ s.out
  o1 : s.out ≤ q.out
  o2 : q.out ≤ 9223372036854775807
  f0 : 0 ≤ s.files
  f1 : s.files ≤ q.files
  f2 : q.files ≤ 9223372036854775807
  d0 : 0 ≤ s.depth
  d1 : s.depth ≤ q.depth
  d2 : q.depth ≤ 9223372036854775807
  s0 : 0 ≤ s.steps
  s1 : s.steps ≤ q.steps
  s2 : q.steps ≤ 9223372036854775807
  c0 : s.code = 0 ∨ (101 ≤ s.code ∧ s.code ≤ 105)

/-- a quota as it comes in -/
structure Lit64 (q : Quo) : Prop where
  m : -9223372036854775808 ≤ q.mem ∧ q.mem ≤ 9223372036854775807
  o : -9223372036854775808 ≤ q.out ∧ q.out ≤ 9223372036854775807
  f : -9223372036854775808 ≤ q.files ∧ q.files ≤ 9223372036854775807
  d : -9223372036854775808 ≤ q.depth ∧ q.depth ≤ 9223372036854775807
  s : -9223372036854775808 ≤ q.steps ∧ q.steps ≤ 9223372036854775807

theorem Fine.new {q : Quo} (h : Lit64 q) : Fine q.up Tel.zero := by
  obtain ⟨h1, h2, h3, h4, h5⟩ := h
  constructor <;> simp only [Quo.up, Tel.zero] <;> first | omega | simp

theorem wasOf_le {code was most n : Int} (_ : 0 ≤ was) (h1 : was ≤ most) : was ≤ wasOf code was most n ∧ wasOf code was most n ≤ most := by
  unfold wasOf
  split <;> omega
theorem codeOf_in {code was most n x : Int} (h : code = 0 ∨ (101 ≤ code ∧ code ≤ 105)) (hx : 101 ≤ x ∧ x ≤ 105) : codeOf code was most n x = 0 ∨ (101 ≤ codeOf code was most n x ∧ codeOf code was most n x ≤ 105) := by
  unfold codeOf
  split <;> omega

section
variable {q : Quo} {s : Tel}
theorem Fine.mem (h : Fine q s) (n : Int) : Fine q (s.doMem q n) := by
  have a := wasOf_le (code := s.code) (n := n) h.m0 (Int.le_trans h.m1 h.m2)
  have b := codeOf_in (was := s.mem) (most := q.mem) (n := n) (x := 101) h.c0 (by omega)
  cases h
  constructor <;> (try simp only [Tel.doMem]) <;> first | assumption | omega
theorem Fine.out (h : Fine q s) (n : Int) : Fine q (s.doOut q n) := by
  have a := wasOf_le (code := s.code) (n := n) h.o0 h.o1
  have b := codeOf_in (was := s.out) (most := q.out) (n := n) (x := 102) h.c0 (by omega)
  cases h
  constructor <;> (try simp only [Tel.doOut]) <;> first | assumption | omega
theorem Fine.file (h : Fine q s) : Fine q (s.doFile q) := by
  have a := wasOf_le (code := s.code) (n := 1) h.f0 h.f1
  have b := codeOf_in (was := s.files) (most := q.files) (n := 1) (x := 103) h.c0 (by omega)
  cases h
  constructor <;> (try simp only [Tel.doFile]) <;> first | assumption | omega
theorem Fine.down (h : Fine q s) : Fine q (s.doDown q) := by
  have a := wasOf_le (code := s.code) (n := 1) h.d0 h.d1
  have b := codeOf_in (was := s.depth) (most := q.depth) (n := 1) (x := 104) h.c0 (by omega)
  cases h
  constructor <;> (try simp only [Tel.doDown]) <;> first | assumption | omega
theorem Fine.step (h : Fine q s) (n : Int) : Fine q (s.doStep q n) := by
  have a := wasOf_le (code := s.code) (n := n) h.s0 h.s1
  have b := codeOf_in (was := s.steps) (most := q.steps) (n := n) (x := 105) h.c0 (by omega)
  cases h
  constructor <;> (try simp only [Tel.doStep]) <;> first | assumption | omega
theorem Fine.free (h : Fine q s) (n : Int) : Fine q (s.doFree n) := by
  cases h
  constructor <;> (try simp only [Tel.doFree]) <;> first | assumption | omega
theorem Fine.upp (h : Fine q s) : Fine q s.doUp := by
  cases h
  constructor <;> (try simp only [Tel.doUp]) <;> first | assumption | omega
end

/-- one thing that is asked for, or given back -/
def Tel.next (q : Quo) (s : Tel) (k n : Int) : Tel :=
  if k = 0 then s.doMem q n else if k = 1 then s.doOut q n else if k = 2 then s.doFile q else if k = 3 then s.doDown q else if k = 4 then s.doStep q n else if k = 5 then s.doFree n else s.doUp
def Tel.said (q : Quo) (s : Tel) (k n : Int) : Bool :=
  if k = 0 then decide (fits s.code s.mem q.mem n) else if k = 1 then decide (fits s.code s.out q.out n) else if k = 2 then decide (fits s.code s.files q.files 1) else if k = 3 then decide (fits s.code s.depth q.depth 1)
  else if k = 4 then decide (fits s.code s.steps q.steps n) else true

theorem Fine.next {q : Quo} {s : Tel} (h : Fine q s) (k n : Int) : Fine q (s.next q k n) := by
  unfold Tel.next
  split
  · exact h.mem n
  split
  · exact h.out n
  split
  · exact h.file
  split
  · exact h.down
  split
  · exact h.step n
  split
  · exact h.free n
  · exact h.upp
end Go.Proofs.YtjgdjobhhdhfjaaGreat

/-
  Atomic numbers of 64 bits, of one goroutine, and the calls over them: each a contract.
-/
namespace Go.Proofs.YtjgdjobhhdhfjaaGreat
open Go.RowKit

theorem load_any (a : Addr) (x : Int) (w : World) (h0 : w.cell? a = some (.int .i64 x)) :
    Calls Tryz.prog 36 #[.pointer (some a)] w fun e w' => e = .returned (.int .i64 x) ∧ w = w' := by
  have hl := run_call_load (P := Tryz.prog) Tryz.func79 (by kernel_rfl) (by kernel_rfl) (by kernel_rfl) .i64 (by kernel_rfl) h0
  go_enter Tryz.func36, Tryz.ntmps36
  go_wp2
  go_ret
  exact ⟨rfl, rfl⟩

theorem cas_hit (a : Addr) (x y : Int) (w : World) (h0 : w.cell? a = some (.int .i64 x)) (hz : w.frozen? a = false) :
    Calls Tryz.prog 136 #[.pointer (some a), .int .i64 x, .int .i64 y] w fun e w' => e = .returned (.bool true) ∧ w' = w.setCell a (.int .i64 y) := by
  have hl := run_call_cas_hit (P := Tryz.prog) Tryz.func149 (by kernel_rfl) (by kernel_rfl) (by kernel_rfl) .i64 (by kernel_rfl) (y := y) h0 hz
  go_enter Tryz.func136, Tryz.ntmps136
  go_wp2
  go_ret
  exact ⟨rfl, rfl⟩

section
variable {g i : Nat} {cs : Array Value} {was most n x code : Int} {w : World}

theorem code_any (hB : Blk w g 86 cs) (hc : cs[11]? = some (.int .i64 code)) :
    Calls Tryz.prog 57 #[.pointer (some ⟨g, 0, none⟩)] w fun e w' => e = .returned (.int .i64 code) ∧ w = w' := by
  have h0 : w.cell? ⟨g, 11, none⟩ = some (.int .i64 code) := (hB.cell 11).trans hc
  have K := Lib.hid (load_any _ _ _ h0)
  clear h0 hB hc
  go_enter Tryz.func57, Tryz.ntmps57
  go_wp2_with fail
  refine K.out.mono ?_
  rintro e w' ⟨rfl, rfl⟩
  go_wp2_with fail
  go_ret
  exact ⟨rfl, rfl⟩

theorem spend_zero (hB : Blk w g 86 cs) (hc : cs[11]? = some (.int .i64 0)) :
    Calls Tryz.prog 135 #[.pointer (some ⟨g, 0, none⟩), .int .i64 x] w fun e w' => e = .returned (.tuple #[]) ∧ w' = w.setCell ⟨g, 11, none⟩ (.int .i64 x) := by
  have h0 : w.cell? ⟨g, 11, none⟩ = some (.int .i64 0) := (hB.cell 11).trans hc
  have K := Lib.hid (cas_hit _ _ x _ h0 (hB.free 11))
  clear h0 hB hc
  go_enter Tryz.func135, Tryz.ntmps135
  go_wp2_with fail
  refine K.out.mono ?_
  rintro e w' ⟨rfl, rfl⟩
  go_wp2_with fail
  first | go_end0 | refine bodyPost_ret (results_none rfl _ _ _) rfl ?_
  exact ⟨rfl, rfl⟩

theorem lower_any (hB : Blk w g 86 cs) (hc : cs[i]? = some (.int .i64 was)) (h0 : 0 ≤ was) (h1 : was ≤ 9223372036854775807) (hn : n ≤ 9223372036854775807) :
    Calls Tryz.prog 105 #[.pointer (some ⟨g, i, none⟩), .int .i64 n] w fun e w' => e = .returned (.tuple #[]) ∧ w' = w.setCell ⟨g, i, none⟩ (.int .i64 (max (was - max n 0) 0)) := by
  have hcell : w.cell? ⟨g, i, none⟩ = some (.int .i64 was) := (hB.cell i).trans hc
  have K := Lib.hid (load_any _ _ _ hcell)
  have C := Lib.hid (fun y => cas_hit _ _ y _ hcell (hB.free i))
  have e1 : IntKind.i64.wrap (was - max n 0) = was - max n 0 := IntWalk.i64_in _ (by omega)
  clear hcell hB hc
  go_enter Tryz.func105, Tryz.ntmps105
  go_wp2
  go_loopw [5] (fun _ wr => wr = w) (fun _ _ => 0)
  case atStart => rfl
  case round =>
    obtain rfl := hrel
    go_wp2_with fail
    refine K.out.mono ?_
    rintro e w' ⟨rfl, rfl⟩
    go_wp2_with fail
    refine (C.out _).mono ?_
    rintro e w' ⟨rfl, rfl⟩
    go_wp2_with fail
    first | (refine bodyPost_ret (results_none rfl _ _ _) rfl ?_) | (simp only [Exit.inBlock, Exit.then]; refine bodyPost_ret (results_none rfl _ _ _) rfl ?_)
    exact ⟨rfl, rfl⟩

theorem raise_any {now : Int} (hB : Blk w g 86 cs) (hc : cs[i]? = some (.int .i64 was)) :
    Calls Tryz.prog 103 #[.pointer (some ⟨g, i, none⟩), .int .i64 now] w fun e w' => e = .returned (.tuple #[]) ∧ w' = w.setCell ⟨g, i, none⟩ (.int .i64 (max was now)) := by
  have hcell : w.cell? ⟨g, i, none⟩ = some (.int .i64 was) := (hB.cell i).trans hc
  have K := Lib.hid (load_any _ _ _ hcell)
  have C := Lib.hid (fun y => cas_hit _ _ y _ hcell (hB.free i))
  clear hcell hB hc
  go_enter Tryz.func103, Tryz.ntmps103
  go_wp2
  go_loopw [4] (fun _ wr => wr = w) (fun _ _ => 0)
  case atStart => rfl
  case round =>
    obtain rfl := hrel
    go_wp2_with fail
    refine K.out.mono ?_
    rintro e w' ⟨rfl, rfl⟩
    go_wp2_with fail
    refine (C.out _).mono ?_
    rintro e w' ⟨rfl, rfl⟩
    go_wp2_with fail
    first | (refine bodyPost_ret (results_none rfl _ _ _) rfl ?_) | (simp only [Exit.inBlock, Exit.then]; refine bodyPost_ret (results_none rfl _ _ _) rfl ?_)
    exact ⟨rfl, rfl⟩
end
end Go.Proofs.YtjgdjobhhdhfjaaGreat

/-
  Something more of a thing: used, or the meter is spent by it, or it was.
-/
namespace Go.Proofs.YtjgdjobhhdhfjaaGreat
open Go.RowKit

section
variable {g i : Nat} {cs : Array Value} {was most n x code : Int} {w : World}

set_option maxHeartbeats 1000000 in
theorem use_ok (hB : Blk w g 86 cs) (hc : cs[11]? = some (.int .i64 0)) (hw : cs[i]? = some (.int .i64 was)) (h0 : 0 ≤ was) (h1 : was ≤ most) (h2 : most ≤ 9223372036854775807) (hn : max n 0 ≤ most - was) :
    Calls Tryz.prog 102 #[.pointer (some ⟨g, 0, none⟩), .pointer (some ⟨g, i, none⟩), .int .i64 n, .int .i64 most, .int .i64 x] w fun e w' =>
      e = .returned (.tuple #[.int .i64 (was + max n 0), .bool true]) ∧ w' = w.setCell ⟨g, i, none⟩ (.int .i64 (was + max n 0)) := by
  have K0 := Lib.hid (code_any hB hc)
  have hcell : w.cell? ⟨g, i, none⟩ = some (.int .i64 was) := (hB.cell i).trans hw
  have K := Lib.hid (load_any _ _ _ hcell)
  have C := Lib.hid (fun y => cas_hit _ _ y _ hcell (hB.free i))
  have e1 : IntKind.i64.wrap (most - was) = most - was := IntWalk.i64_in _ (by omega)
  have e2 : IntKind.i64.wrap (was + max n 0) = was + max n 0 := IntWalk.i64_in _ (by omega)
  have hn' : ¬ (max n 0 > most - was) := by omega
  clear hcell hB hc hw
  go_enter Tryz.func102, Tryz.ntmps102
  go_wp2
  go_loopw [13] (fun _ wr => wr = w) (fun _ _ => 0)
  case atStart => rfl
  case round =>
    obtain rfl := hrel
    go_wp2_with fail
    refine K0.out.mono ?_
    rintro e w' ⟨rfl, rfl⟩
    go_wp2_with fail
    refine K.out.mono ?_
    rintro e w' ⟨rfl, rfl⟩
    go_wp2_with fail
    refine (C.out _).mono ?_
    rintro e w' ⟨rfl, rfl⟩
    go_wp2_with fail
    go_ret2
    exact ⟨rfl, rfl⟩

set_option maxHeartbeats 1000000 in
theorem use_over (hB : Blk w g 86 cs) (hc : cs[11]? = some (.int .i64 0)) (hw : cs[i]? = some (.int .i64 was)) (h0 : 0 ≤ was) (h1 : was ≤ most) (h2 : most ≤ 9223372036854775807) (hn : most - was < max n 0) :
    Calls Tryz.prog 102 #[.pointer (some ⟨g, 0, none⟩), .pointer (some ⟨g, i, none⟩), .int .i64 n, .int .i64 most, .int .i64 x] w fun e w' =>
      e = .returned (.tuple #[.int .i64 0, .bool false]) ∧ w' = w.setCell ⟨g, 11, none⟩ (.int .i64 x) := by
  have K0 := Lib.hid (code_any hB hc)
  have hcell : w.cell? ⟨g, i, none⟩ = some (.int .i64 was) := (hB.cell i).trans hw
  have K := Lib.hid (load_any _ _ _ hcell)
  have C := Lib.hid (spend_zero (x := x) hB hc)
  have e1 : IntKind.i64.wrap (most - was) = most - was := IntWalk.i64_in _ (by omega)
  have hn' : max n 0 > most - was := by omega
  clear hcell hB hc hw
  go_enter Tryz.func102, Tryz.ntmps102
  go_wp2
  go_loopw [13] (fun _ wr => wr = w) (fun _ _ => 0)
  case atStart => rfl
  case round =>
    obtain rfl := hrel
    go_wp2_with fail
    refine K0.out.mono ?_
    rintro e w' ⟨rfl, rfl⟩
    go_wp2_with fail
    refine K.out.mono ?_
    rintro e w' ⟨rfl, rfl⟩
    go_wp2_with fail
    refine C.out.mono ?_
    rintro e w' ⟨rfl, rfl⟩
    go_wp2_with fail
    go_ret2
    exact ⟨rfl, rfl⟩

set_option maxHeartbeats 1000000 in
theorem use_spent (hB : Blk w g 86 cs) (hc : cs[11]? = some (.int .i64 code)) (hz : code ≠ 0) :
    Calls Tryz.prog 102 #[.pointer (some ⟨g, 0, none⟩), .pointer (some ⟨g, i, none⟩), .int .i64 n, .int .i64 most, .int .i64 x] w fun e w' =>
      e = .returned (.tuple #[.int .i64 0, .bool false]) ∧ w' = w := by
  have K0 := Lib.hid (code_any hB hc)
  clear hB hc
  go_enter Tryz.func102, Tryz.ntmps102
  go_wp2
  go_loopw [13] (fun _ wr => wr = w) (fun _ _ => 0)
  case atStart => rfl
  case round =>
    obtain rfl := hrel
    go_wp2_with fail
    refine K0.out.mono ?_
    rintro e w' ⟨rfl, rfl⟩
    go_wp2_with fail
    go_ret2
    exact ⟨rfl, rfl⟩
end

/-- Block g is a meter of quota q, of which s is used. -/
def MeterAt (w : World) (t : TypeId) (g : Nat) (q : Quo) (s : Tel) : Prop := Blk w g t (mCells q s)

/-- Cell i and the code are as if n more were asked for; the answer. -/
theorem use_any {g i : Nat} {cs : Array Value} {was most n x code : Int} {w : World} (hB : Blk w g 86 cs) (hc : cs[11]? = some (.int .i64 code)) (hw : cs[i]? = some (.int .i64 was)) (hi : i ≠ 11) (h0 : 0 ≤ was) (h1 : was ≤ most) (h2 : most ≤ 9223372036854775807) :
    Calls Tryz.prog 102 #[.pointer (some ⟨g, 0, none⟩), .pointer (some ⟨g, i, none⟩), .int .i64 n, .int .i64 most, .int .i64 x] w fun e w' =>
      ∃ z, e = .returned (.tuple #[.int .i64 z, .bool (decide (fits code was most n))]) ∧ (fits code was most n → z = was + max n 0) ∧
        Blk w' g 86 ((cs.setIfInBounds i (.int .i64 (wasOf code was most n))).setIfInBounds 11 (.int .i64 (codeOf code was most n x))) ∧ w.grownBy w' (some g) := by
  have keep : ∀ (c : Array Value) (j : Nat) (u : Value), c[j]? = some u → c.setIfInBounds j u = c := by
    intro c j u h
    refine Array.ext_getElem? fun k => ?_
    rw [Array.getElem?_setIfInBounds]
    split
    · rename_i hjk
      subst hjk
      split
      · exact h.symm
      · rename_i hlt
        rw [Array.getElem?_eq_none (by omega)] at h
        cases h
    · rfl
  by_cases hz : code = 0
  · subst hz
    by_cases hn : max n 0 ≤ most - was
    · have hf : fits 0 was most n := ⟨rfl, hn⟩
      refine (use_ok hB hc hw h0 h1 h2 hn).mono ?_
      rintro e w' ⟨rfl, rfl⟩
      refine ⟨was + max n 0, by simp [hf], fun _ => rfl, ?_, only_setCell (World.grownBy.refl w _) (.inl rfl) _⟩
      have e1 : wasOf 0 was most n = was + max n 0 := by unfold wasOf; rw [if_pos ⟨rfl, hn⟩]
      have e2 : codeOf 0 was most n x = 0 := by unfold codeOf; rw [if_neg (by omega)]
      rw [e1, e2, keep _ 11 _ (by rw [Array.getElem?_setIfInBounds, if_neg hi]; exact hc)]
      exact hB.put i _
    · have hf : ¬ fits 0 was most n := fun h => hn h.2
      refine (use_over hB hc hw h0 h1 h2 (x := x) (by omega)).mono ?_
      rintro e w' ⟨rfl, rfl⟩
      refine ⟨0, by simp [hf], fun h => absurd h hf, ?_, only_setCell (World.grownBy.refl w _) (.inl rfl) _⟩
      have e1 : wasOf 0 was most n = was := by unfold wasOf; rw [if_neg (fun h => hn h.2)]
      have e2 : codeOf 0 was most n x = x := by unfold codeOf; rw [if_pos ⟨rfl, by omega⟩]
      rw [e1, e2, keep cs i _ hw]
      exact hB.put 11 _
  · have hf : ¬ fits code was most n := fun h => hz h.1
    refine (use_spent hB hc hz).mono ?_
    rintro e w' ⟨rfl, rfl⟩
    refine ⟨0, by simp [hf], fun h => absurd h hf, ?_, World.grownBy.refl w' _⟩
    have e1 : wasOf code was most n = was := by unfold wasOf; rw [if_neg (fun h => hz h.1)]
    have e2 : codeOf code was most n x = code := by unfold codeOf; rw [if_neg (fun h => hz h.1)]
    rw [e1, e2, keep cs i _ hw, keep cs 11 _ hc]
    exact hB
end Go.Proofs.YtjgdjobhhdhfjaaGreat

/-
  A meter is asked for memory, and given it back; what it tells; a new one.
-/
namespace Go.Proofs.YtjgdjobhhdhfjaaGreat
open Go.RowKit

theorem MeterAt.drewN {w : World} {t : TypeId} {g : Nat} {q : Quo} {s : Tel} (h : MeterAt w t g q s) (n : Nat) : MeterAt (w.drewN n) t g q s := h
theorem MeterAt.lt {w : World} {t : TypeId} {g : Nat} {q : Quo} {s : Tel} (h : MeterAt w t g q s) : g < w.heap.size := Blk.lt h
theorem MeterAt.alloc {w : World} {t : TypeId} {g : Nat} {q : Quo} {s : Tel} (h : MeterAt w t g q s) (o : Obj) : MeterAt (w.alloc o) t g q s := Blk.alloc h o
theorem MeterAt.below {w w' : World} {t : TypeId} {g : Nat} {q : Quo} {s : Tel} (h : MeterAt w t g q s) (hb : Below w.heap.size w w') : MeterAt w' t g q s := Blk.below h hb
theorem MeterAt.grown {w w' : World} {t : TypeId} {g : Nat} {q : Quo} {s : Tel} {row : Option Nat} (h : MeterAt w t g q s) (hb : w.grownBy w' row) (hg : some g ≠ row) : MeterAt w' t g q s := Blk.grown h hb hg
theorem only_draw {a w : World} {row : Option Nat} (h : a.drew.grownBy w row) : a.grownBy w row := ⟨h.os, h.tape, h.output, h.size, h.block⟩

section
variable {g : Nat} {q : Quo} {s : Tel} {w : World}

set_option maxHeartbeats 1000000 in
theorem mem_any (h : MeterAt w 86 g q s) (hf : Fine q s) (n : Int) :
    Calls Tryz.prog 55 #[.pointer (some ⟨g, 0, none⟩), .int .i64 n] w fun e w' => e = .returned (.bool (decide (fits s.code s.mem q.mem n))) ∧ MeterAt w' 86 g q (s.doMem q n) ∧ w.grownBy w' (some g) := by
  have hB : Blk w.drew g 86 (mCells q s) := h
  have hq : w.cell? ⟨g, 0, none⟩ = some (.int .i64 q.mem) := Blk.cell h 0
  have K := Lib.hid (use_any (n := n) (x := 101) (i := 5) (code := s.code) (was := s.mem) (most := q.mem) hB rfl rfl (by decide) hf.m0 (Int.le_trans hf.m1 hf.m2) hf.m3)
  clear h hB
  go_enter Tryz.func55, Tryz.ntmps55
  go_wp2_with fail
  go_region_held3 (fun w' => w'.cell? ⟨g, 0, none⟩ = some (.int .i64 q.mem))
    (first | assumption | go_keep)
    (first | (go_at_call 102; refine K.out.mono ?_; rintro e w1 ⟨z, rfl, hz, hB, hg⟩; have j0 : w1.cell? ⟨g, 0, none⟩ = some (.int .i64 q.mem) := hB.cell 0; have HB := Lib.hid hB; have HG := Lib.hid hg; clear hB hg))
  by_cases hn : fits s.code s.mem q.mem n
  · have hz := hz hn
    subst hz
    have hd : decide (fits s.code s.mem q.mem n) = true := by simp [hn]
    have ew : wasOf s.code s.mem q.mem n = s.mem + max n 0 := by unfold wasOf; exact if_pos hn
    rw [hd]
    have R := Lib.hid (raise_any (i := 6) (was := s.peak) (now := s.mem + max n 0) HB.out rfl)
    go_wp2_with fail
    refine R.out.mono ?_
    rintro e w2 ⟨rfl, rfl⟩
    go_wp2_with fail
    go_ret
    refine ⟨ret_bool hd.symm, ?_, only_setCell (only_draw HG.out) (.inl rfl) _⟩
    have := HB.out.put 6 (.int .i64 (max s.peak (s.mem + max n 0)))
    rw [← ew] at this ⊢
    exact this
  · have hd : decide (fits s.code s.mem q.mem n) = false := by simp [hn]
    have ew : wasOf s.code s.mem q.mem n = s.mem := by unfold wasOf; exact if_neg hn
    rw [hd]
    go_wp2_with fail
    go_ret
    refine ⟨ret_bool hd.symm, ?_, only_draw HG.out⟩
    have := HB.out
    have ep : max s.peak (wasOf s.code s.mem q.mem n) = s.peak := by rw [ew]; have := hf.m1; omega
    unfold MeterAt Tel.doMem
    rw [ep]
    exact this

set_option maxHeartbeats 1000000 in
theorem free_any (h : MeterAt w 86 g q s) (hf : Fine q s) (n : Int) (hn : n ≤ 9223372036854775807) :
    Calls Tryz.prog 60 #[.pointer (some ⟨g, 0, none⟩), .int .i64 n] w fun e w' => e = .returned (.tuple #[]) ∧ MeterAt w' 86 g q (s.doFree n) ∧ w.grownBy w' (some g) := by
  have K := Lib.hid (lower_any (n := n) (i := 5) (was := s.mem) h rfl hf.m0 (by have := hf.m1; have := hf.m2; have := hf.m3; omega) hn)
  have H := Lib.hid h
  clear h
  go_enter Tryz.func60, Tryz.ntmps60
  go_wp2_with fail
  refine K.out.mono ?_
  rintro e w' ⟨rfl, rfl⟩
  go_wp2_with fail
  first | go_end0 | refine bodyPost_ret (results_none rfl _ _ _) rfl ?_
  exact ⟨rfl, Blk.put H.out 5 _, only_setCell (World.grownBy.refl w _) (.inl rfl) _⟩

end

section
variable {g : Nat} {q : Quo} {s : Tel} {w : World}

theorem still_same {P : Program} {f : FuncId} {args : Array Value} {w : World} {v : Value} (h : Calls P f args w fun e w' => e = .returned v ∧ w = w') :
    Calls P f args w fun e w' => e = .returned v ∧ w' = w := h.mono fun _ _ ⟨he, hm⟩ => ⟨he, hm.symm⟩

theorem mcode_any (h : MeterAt w 86 g q s) :
    Calls Tryz.prog 57 #[.pointer (some ⟨g, 0, none⟩)] w fun e w' => e = .returned (.int .i64 s.code) ∧ w = w' := code_any h rfl

set_option maxRecDepth 100000 in
set_option maxHeartbeats 1000000 in
theorem used_any (h : MeterAt w 86 g q s) :
    Calls Tryz.prog 14 #[.pointer (some ⟨g, 0, none⟩)] w fun e w' => e = .returned (.agg (uArr s)) ∧ Below w.heap.size w w' := by
  have hl := h.lt
  have L : ∀ (i : Nat) (x : Int), (mCells q s)[i]? = some (.int .i64 x) → ∀ W, Below w.heap.size w W → Calls Tryz.prog 36 #[.pointer (some ⟨g, i, none⟩)] W fun e w' => e = .returned (.int .i64 x) ∧ W = w' :=
    fun i x hx W hb => load_any _ _ _ (((h.below hb : Blk W g 86 (mCells q s)).cell i).trans hx)
  have K5 := Lib.hid (L 5 s.mem rfl)
  have K6 := Lib.hid (L 6 s.peak rfl)
  have K7 := Lib.hid (L 7 s.out rfl)
  have K8 := Lib.hid (L 8 s.files rfl)
  have K9 := Lib.hid (L 9 s.depth rfl)
  have K10 := Lib.hid (L 10 s.steps rfl)
  clear L h
  go_enter Tryz.func14, Tryz.ntmps14
  go_wp2_with fail
  go_still_tail 24, (by kernel_rfl)
  have hb : Below w.heap.size w ((w.alloc (.cells #[.int .i64 0, .int .i64 0, .int .i64 0, .int .i64 0, .int .i64 0, .int .i64 0] 35)).drewN 1) := below_drewN ((Below.refl _ _).alloc (Nat.le_refl _) _) 1
  still_call (still_same (K5.out _ hb))
  repeat still_step
  still_call (still_same (K6.out _ hb))
  repeat still_step
  still_call (still_same (K7.out _ hb))
  repeat still_step
  still_call (still_same (K8.out _ hb))
  repeat still_step
  still_call (still_same (K9.out _ hb))
  repeat still_step
  still_call (still_same (K10.out _ hb))
  repeat still_step
  refine wpStill_nil ?_
  change wpList _ _ _ _ _ (w.alloc (.cells #[.int .i64 0, .int .i64 0, .int .i64 0, .int .i64 0, .int .i64 0, .int .i64 0] 35)).drew
  go_wp2_with fail
  refine bodyPost_ret (v := .agg (uArr s)) (by simp [results, Tryz.results14, go_sem, uArr]) rfl ⟨rfl, ?_⟩
  exact below_drewN ((Below.refl _ _).alloc (Nat.le_refl _) _) 1
end

theorem meter_fresh {w : World} {t : TypeId} {g : Nat} {q : Quo} {s : Tel} (h : g = w.heap.size) : MeterAt (w.alloc (.cells (mCells q s) t)) t g q s := by
  subst h
  exact Blk.fresh w t (mCells q s)

set_option maxHeartbeats 1000000 in
theorem mnew_any (q : Quo) (w : World) :
    Calls Tryz.prog 25 #[.agg (qArr q)] w fun e w' => ∃ g, e = .returned (.pointer (some ⟨g, 0, none⟩)) ∧ MeterAt w' 86 g q.up Tel.zero ∧ w.heap.size ≤ g ∧ Below w.heap.size w w' := by
  unfold qArr
  go_enter Tryz.func25, Tryz.ntmps25
  go_wp2_with fail
  go_ret
  refine ⟨_, rfl, meter_fresh (q := q.up) (s := Tel.zero) (by simp), by simp, ((Below.refl _ _).alloc (Nat.le_refl _) _).alloc (by simp) _⟩

end Go.Proofs.YtjgdjobhhdhfjaaGreat

/-
  A window as numbers: its size, all that was put since it was emptied, whether it is closed.
-/
namespace Go.Proofs.YtjgdjobhhdhfjaaGreat

structure Ws where
  sz : Nat
  l : List UInt8
  shut : Bool

def Ws.has (s : Ws) (d : Int) : Bool := !s.shut && decide (0 ≤ d ∧ d < (s.sz : Int) ∧ d < (s.l.length : Int))
def Ws.at_ (s : Ws) (d : Int) : UInt8 := if s.has d = true then s.l.getD (s.l.length - 1 - d.toNat) 0 else 0
def Ws.put (s : Ws) (b : UInt8) : Ws := if s.shut = true then s else ⟨s.sz, s.l ++ [b], false⟩
def Ws.copy (s : Ws) (d : Int) : Ws := if s.has d = true then s.put (s.at_ d) else s
def Ws.empty (s : Ws) : Ws := ⟨s.sz, [], s.shut⟩
def Ws.close (s : Ws) : Ws := ⟨s.sz, s.l, true⟩
def Ws.count (s : Ws) : Nat := if s.shut = true then 0 else min s.sz s.l.length
def Ws.new (n : Int) : Ws := ⟨(max n 1).toNat, [], false⟩

section
variable {s : Ws}
theorem put_sz (b : UInt8) : (s.put b).sz = s.sz := by unfold Ws.put; split <;> rfl
theorem put_len (b : UInt8) : (s.put b).l.length ≤ s.l.length + 1 := by
  unfold Ws.put
  split
  · omega
  · simp
theorem copy_sz (d : Int) : (s.copy d).sz = s.sz := by unfold Ws.copy; split; exact put_sz _; rfl
theorem copy_len (d : Int) : (s.copy d).l.length ≤ s.l.length + 1 := by
  unfold Ws.copy
  split
  · exact put_len _
  · omega
theorem at_not {d : Int} (h : s.has d = false) : s.at_ d = 0 := by unfold Ws.at_; rw [if_neg (by rw [h]; simp)]
theorem at_has {d : Int} (h : s.has d = true) : s.at_ d = s.l.getD (s.l.length - 1 - d.toNat) 0 := by unfold Ws.at_; rw [if_pos h]
theorem has_iff {d : Int} : s.has d = true ↔ s.shut = false ∧ 0 ≤ d ∧ d < (s.sz : Int) ∧ d < (s.l.length : Int) := by
  unfold Ws.has
  cases s.shut <;> simp
theorem shut_has {d : Int} (h : s.shut = true) : s.has d = false := by unfold Ws.has; rw [h]; rfl
theorem shut_count (h : s.shut = true) : s.count = 0 := by unfold Ws.count; rw [if_pos h]
theorem open_count (h : s.shut = false) : s.count = min s.sz s.l.length := by unfold Ws.count; rw [if_neg (by rw [h]; simp)]
theorem open_put {b : UInt8} (h : s.shut = false) : s.put b = ⟨s.sz, s.l ++ [b], false⟩ := by unfold Ws.put; rw [if_neg (by rw [h]; simp)]
theorem shut_put {b : UInt8} (h : s.shut = true) : s.put b = s := by unfold Ws.put; rw [if_pos h]
theorem shut_copy {d : Int} (h : s.shut = true) : s.copy d = s := by unfold Ws.copy; rw [if_neg (by rw [shut_has h]; simp)]
theorem count_le : s.count ≤ s.sz := by
  unfold Ws.count
  split
  · exact Nat.zero_le _
  · exact Nat.min_le_left _ _
end

/-- the bytes bs are put, one behind the other -/
def Ws.puts (s : Ws) (bs : List UInt8) : Ws := ⟨s.sz, s.l ++ bs, s.shut⟩
theorem puts_snoc {s : Ws} {bs : List UInt8} {b : UInt8} (h : s.shut = false) : (s.puts bs).put b = s.puts (bs ++ [b]) := by
  rw [open_put (by exact h)]
  unfold Ws.puts
  rw [h, List.append_assoc]

/-- k copies from one distance -/
def Ws.turns (s : Ws) (d : Int) : Nat → Ws
  | 0 => s
  | k + 1 => (s.turns d k).copy d
/-- what is copied from one distance again and again repeats the bytes up to there -/
theorem turns_ok {bs : List UInt8} {k Z : Nat} (hk : k < bs.length) (hz : k < Z) : ∀ i,
    ∃ m : List UInt8, (Ws.puts ⟨Z, [], false⟩ bs).turns (k : Int) i = ⟨Z, bs ++ m, false⟩ ∧ m.length = i ∧
      (⟨Z, bs ++ m, false⟩ : Ws).has (k : Int) = true ∧ (⟨Z, bs ++ m, false⟩ : Ws).at_ (k : Int) = bs.getD (bs.length - 1 - k + i % (k + 1)) 0 ∧
      ∀ j, j < i → m.getD j 0 = bs.getD (bs.length - 1 - k + j % (k + 1)) 0
  | 0 => by
    have hh : (⟨Z, bs ++ [], false⟩ : Ws).has (k : Int) = true := has_iff.2 ⟨rfl, by omega, by show (k : Int) < (Z : Int); omega, by show (k : Int) < ((bs ++ []).length : Int); simp; omega⟩
    refine ⟨[], by simp [Ws.turns, Ws.puts], rfl, hh, ?_, fun j hj => by omega⟩
    rw [at_has hh]
    simp
  | i + 1 => by
    obtain ⟨m, h1, h2, h3, h4, h5⟩ := turns_ok hk hz i
    have hstep : (Ws.puts ⟨Z, [], false⟩ bs).turns (k : Int) (i + 1) = ⟨Z, bs ++ (m ++ [bs.getD (bs.length - 1 - k + i % (k + 1)) 0]), false⟩ := by
      show ((Ws.puts ⟨Z, [], false⟩ bs).turns (k : Int) i).copy (k : Int) = _
      rw [h1]
      unfold Ws.copy
      rw [if_pos h3, h4, open_put rfl, List.append_assoc]
    obtain ⟨x, hx⟩ : ∃ x, x = bs.getD (bs.length - 1 - k + i % (k + 1)) 0 := ⟨_, rfl⟩
    rw [← hx] at hstep
    have hnew : ∀ j, j < i + 1 → (m ++ [x]).getD j 0 = bs.getD (bs.length - 1 - k + j % (k + 1)) 0 := by
      intro j hj
      by_cases hji : j < i
      · rw [← h5 j hji]
        simp only [List.getD]
        rw [List.getElem?_append_left (by omega)]
      · obtain rfl : j = i := by omega
        simp only [List.getD]
        rw [List.getElem?_append_right (by omega), h2, Nat.sub_self]
        show x = _
        rw [hx]
        rfl
    have hh : (⟨Z, bs ++ (m ++ [x]), false⟩ : Ws).has (k : Int) = true := has_iff.2 ⟨rfl, by omega, by show (k : Int) < (Z : Int); omega, by show (k : Int) < ((bs ++ (m ++ [x])).length : Int); simp; omega⟩
    refine ⟨m ++ [x], hstep, by simp [h2], hh, ?_, hnew⟩
    rw [at_has hh]
    show (bs ++ (m ++ [x])).getD ((bs ++ (m ++ [x])).length - 1 - (k : Int).toNat) 0 = _
    have hl : (bs ++ (m ++ [x])).length = bs.length + (i + 1) := by simp [h2]
    rw [hl, Int.toNat_natCast]
    by_cases hlt : i + 1 ≤ k
    · rw [Nat.mod_eq_of_lt (by omega)]
      simp only [List.getD]
      rw [List.getElem?_append_left (by omega)]
      congr 2
      omega
    · have e1 : bs.length + (i + 1) - 1 - k - bs.length = i - k := by omega
      have := hnew (i - k) (by omega)
      simp only [List.getD] at this ⊢
      rw [List.getElem?_append_right (by omega), e1, this]
      have e2 : (i - k) % (k + 1) = (i + 1) % (k + 1) := by
        have : i + 1 = i - k + (k + 1) := by omega
        rw [this, Nat.add_mod_right]
      rw [e2]
end Go.Proofs.YtjgdjobhhdhfjaaGreat
