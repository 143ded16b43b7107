/-
  LwRow, MtPure: put together.
-/
import Derived.Test.YtdhhibfppcpieaaGreatDoorR04
import Derived.Test.YtdhhibfppcpieaaGreatDoorR08
import Derived.Test.YtdhhibfppcpieaaGreatDoorR02
import Derived.Test.YtdhhibfppcpieaaGreatDoorR01
set_option linter.unusedVariables false
set_option linter.unusedSimpArgs false
/-
  The program's decoder of ranges over probabilities that lie wherever they lie: bits, trees.
-/
namespace Go.Proofs.YtdhhibfppcpieaaGreatDoor
open Go.RowKit

/-- what a decoder turns -/
def owns (f g : Nat) (B : Nat → Prop) : Nat → Prop := fun i => i = f ∨ i = g ∨ B i
/-- the machine and its probabilities, in memory -/
structure Mch (R : World → List Nat → Prop) (g f lo : Nat) (bs : List UInt8) (L : Nat) (w : World) (t : Pm Dc) : Prop where
  pd : Pd w g f lo bs t.x
  row : R w t.ps
  ok : PmOk okD L 0 t
def MPost (R : World → List Nat → Prop) (B : Nat → Prop) (g f lo : Nat) (bs : List UInt8) (L : Nat) (w : World) (v : Value) (t : Pm Dc) (e : Ending) (w' : World) : Prop :=
  e = .returned v ∧ Mch R g f lo bs L w' t ∧ Only (owns f g B) w w'
theorem okD_any {L k : Nat} {t : Pm Dc} (h : PmOk okD L 0 t) : PmOk okD L k t := ⟨h.ps, h.len, h.x⟩
section
variable {R : World → List Nat → Prop} {B : Nat → Prop} {ad : Nat → Nat × Nat} {L : Nat} {g f lo r c at_ b i p a : Nat} {w : World} {bs : List UInt8} {ps : List Nat}

set_option maxRecDepth 100000 in
set_option maxHeartbeats 4000000 in
theorem lw_zero (Z : Prb R B ad L) (hB0 : ∀ i, B i → i < lo ∨ g < i) (hab : ad a = (b, i)) (ha : a < L) {z : Nat} (hz : z = r / 2048 * p) (hB : Blk w g 218 (pdCells f r c false)) (hF : Feed w f lo bs at_) (hfg : f < g) (hR : R w ps) (hpi : p = ps.getD a 0)
    (hr0 : 16777216 ≤ r) (hr : r < 4294967296) (hp : POk p) (hlt : c < z) :
    Calls Tryz.prog 128 #[.pointer (some ⟨g, 0, none⟩), .pointer (some ⟨b, i, none⟩)] w fun e w' => e = .returned (.int .i64 0) ∧ Pd w' g f lo bs (lvl z c (bs.drop at_)) ∧ R w' (ps.set a (up0 p)) ∧ Only (owns f g B) w w' := by
  obtain ⟨b0, b1⟩ := bound_in hr0 hr hp
  rw [← hz] at b0 b1
  obtain ⟨p0, p1⟩ := hp
  have hlo := hF.lo
  have hBb : B b := by have := Z.blk ha; rw [hab] at this; exact this
  have hbo := hB0 b hBb
  have hbg : b ≠ g := by omega
  have h1 : w.cell? ⟨g, 1, none⟩ = some (.int .u32 (r : Int)) := hB.cell 1
  have h2 : w.cell? ⟨g, 2, none⟩ = some (.int .u32 (c : Int)) := hB.cell 2
  have h3 : w.cell? ⟨g, 3, none⟩ = some (.bool false) := hB.cell 3
  have z1 : w.frozen? ⟨g, 1, none⟩ = false := hB.free 1
  have hx : w.cell? ⟨b, i, none⟩ = some (.int .u16 (p : Int)) := by have := Z.cell hR ha; rw [hab] at this; rw [hpi]; exact this
  have zx : w.frozen? ⟨b, i, none⟩ = false := by have := Z.free hR ha; rw [hab] at this; exact this
  have e0 : IntKind.u32.wrap (p : Int) = (p : Int) := u32_of _ (by omega) (by omega)
  have e1 : IntKind.u32.wrap ((r : Int) / 2048 * (p : Int)) = (z : Int) := by
    rw [show (r : Int) / 2048 * (p : Int) = (z : Int) by rw [hz]; simp]
    exact u32_of _ (by omega) (by omega)
  have e1' : IntKind.u32.wrap ((r : Int) / 2048) = (r : Int) / 2048 := u32_of _ (by omega) (by omega)
  have hlt' : (c : Int) < (z : Int) := by omega
  clear hz hpi
  have e2 : IntKind.u16.wrap (2048 - (p : Int)) = 2048 - (p : Int) := u16_in _ (by omega)
  obtain ⟨u, hu⟩ : ∃ u, u = (2048 - p) / 32 := ⟨_, rfl⟩
  have e3 : IntKind.u16.wrap ((2048 - (p : Int)).tdiv 32) = (u : Int) := by
    rw [Int.tdiv_eq_ediv_of_nonneg (by omega), show (2048 - (p : Int)) / 32 = (u : Int) by omega]
    exact u16_in _ (by omega)
  have hup : up0 p = p + u := by unfold up0; omega
  have e5 : IntKind.u16.wrap ((p : Int) + (u : Int)) = ((p + u : Nat) : Int) := by rw [← Int.natCast_add]; exact u16_in _ (by omega)
  rw [hup]
  clear hu hup
  generalize p + u = q at *
  have hO1 : ∀ n, Only (fun j => j = g) w ((w.setCell ⟨g, 1, none⟩ (.int .u32 (z : Int))).drewN n) := fun n => ((Only.refl (fun j => j = g) w).setCell (p := ⟨g, 1, none⟩) (.inl rfl) _).drewN n
  have hO : ∀ n, Only (fun j => j = g ∨ j = b) w (((w.setCell ⟨g, 1, none⟩ (.int .u32 (z : Int))).drewN n).setCell ⟨b, i, none⟩ (.int .u16 (q : Int))) := fun n => ((hO1 n).mono (fun j hj => .inl hj)).setCell (p := ⟨b, i, none⟩) (.inl (.inr rfl)) _
  have hB1 : ∀ n, Blk (((w.setCell ⟨g, 1, none⟩ (.int .u32 (z : Int))).drewN n).setCell ⟨b, i, none⟩ (.int .u16 (q : Int))) g 218 (pdCells f z c false) := fun n => ((hB.put 1 _).drewN n).far hbg.symm _
  have HR := Lib.hid (fun n => show R (((w.setCell ⟨g, 1, none⟩ (.int .u32 (z : Int))).drewN n).setCell ⟨b, i, none⟩ (.int .u16 (q : Int))) (ps.set a q) from by have := Z.put (Z.only hR (hO1 n) (fun j hj e => by have := hB0 j hj; omega)) ha q; rw [hab] at this; exact this)
  have K := Lib.hid (fun n => even_any (hB1 n) (hF.only (hO n) (fun j hj => by omega)) hfg (by omega) (Nat.le_of_lt hlt))
  have HO := Lib.hid (fun n => (hO n).mono (S' := owns f g B) (fun j hj => by rcases hj with hj | hj; exact .inr (.inl hj); exact .inr (.inr (hj ▸ hBb))))
  have HZ := Lib.hid Z
  have HB0 := Lib.hid hB0
  clear hB hF hR hB1 hO hO1 Z hB0 hbo hBb hab ha
  go_enter Tryz.func128, Tryz.ntmps128
  go_wp2_with fail
  go_quiet (fail)
  go_wp2_with fail
  go_region
  all_goals go_wp2_with fail
  refine (K.out (nq + 1)).mono ?_
  rintro e w1 ⟨rfl, ⟨at', r', c', bad', hB2, hF2, _, ht⟩, hO2⟩
  have HB2 := Lib.hid hB2
  have HF2 := Lib.hid hF2
  have HT := Lib.hid ht
  have HR2 := Lib.hid (HZ.out.only (HR.out (nq + 1)) hO2 (fun j hj e => by have := HB0.out j hj; rcases e with e | e <;> omega))
  have HO2 := Lib.hid ((HO.out (nq + 1)).trans (hO2.mono fun j hj => by rcases hj with h | h; exact .inl h; exact .inr (.inl h)))
  have KT := Lib.hid (told_any (x := 0) hB2)
  clear hB2 hF2 ht hO2 HO K HR h1 h2 h3 z1 hx zx HZ HB0
  go_wp2_with fail
  refine KT.out.mono ?_
  rintro e w2 ⟨rfl, rfl⟩
  go_wp2_with fail
  go_ret
  exact ⟨by simp, ⟨at', r', c', bad', HB2.out, HF2.out, hfg, HT.out⟩, HR2.out, HO2.out⟩

set_option maxRecDepth 100000 in
set_option maxHeartbeats 4000000 in
theorem lw_one (Z : Prb R B ad L) (hB0 : ∀ i, B i → i < lo ∨ g < i) (hab : ad a = (b, i)) (ha : a < L) {z v : Nat} {d1 : Dc} (hd1 : lvl (r - z) (c - z) (bs.drop at_) = d1) (hv : v = if d1 = none then 0 else 1) (hz : z = r / 2048 * p) (hB : Blk w g 218 (pdCells f r c false)) (hF : Feed w f lo bs at_) (hfg : f < g) (hR : R w ps) (hpi : p = ps.getD a 0)
    (hr0 : 16777216 ≤ r) (hr : r < 4294967296) (hcr : c < r) (hp : POk p) (hlt : ¬ c < z) :
    Calls Tryz.prog 128 #[.pointer (some ⟨g, 0, none⟩), .pointer (some ⟨b, i, none⟩)] w fun e w' => e = .returned (.int .i64 (v : Int)) ∧ Pd w' g f lo bs d1 ∧ R w' (ps.set a (up1 p)) ∧ Only (owns f g B) w w' := by
  obtain ⟨b0, b1⟩ := bound_in hr0 hr hp
  rw [← hz] at b0 b1
  obtain ⟨p0, p1⟩ := hp
  have hlo := hF.lo
  have hBb : B b := by have := Z.blk ha; rw [hab] at this; exact this
  have hbo := hB0 b hBb
  have hbg : b ≠ g := by omega
  have h1 : w.cell? ⟨g, 1, none⟩ = some (.int .u32 (r : Int)) := hB.cell 1
  have h2 : w.cell? ⟨g, 2, none⟩ = some (.int .u32 (c : Int)) := hB.cell 2
  have h3 : w.cell? ⟨g, 3, none⟩ = some (.bool false) := hB.cell 3
  have z1 : w.frozen? ⟨g, 1, none⟩ = false := hB.free 1
  have z2 : w.frozen? ⟨g, 2, none⟩ = false := hB.free 2
  have hx : w.cell? ⟨b, i, none⟩ = some (.int .u16 (p : Int)) := by have := Z.cell hR ha; rw [hab] at this; rw [hpi]; exact this
  have zx : w.frozen? ⟨b, i, none⟩ = false := by have := Z.free hR ha; rw [hab] at this; exact this
  have e0 : IntKind.u32.wrap (p : Int) = (p : Int) := u32_of _ (by omega) (by omega)
  have e1 : IntKind.u32.wrap ((r : Int) / 2048 * (p : Int)) = (z : Int) := by
    rw [show (r : Int) / 2048 * (p : Int) = (z : Int) by rw [hz]; simp]
    exact u32_of _ (by omega) (by omega)
  have e1' : IntKind.u32.wrap ((r : Int) / 2048) = (r : Int) / 2048 := u32_of _ (by omega) (by omega)
  have hlt' : ¬ (c : Int) < (z : Int) := by omega
  clear hz hpi
  have e2 : IntKind.u32.wrap ((c : Int) - (z : Int)) = ((c - z : Nat) : Int) := by rw [show (c : Int) - (z : Int) = ((c - z : Nat) : Int) by omega]; exact u32_of _ (by omega) (by omega)
  have e3 : IntKind.u32.wrap ((r : Int) - (z : Int)) = ((r - z : Nat) : Int) := by rw [show (r : Int) - (z : Int) = ((r - z : Nat) : Int) by omega]; exact u32_of _ (by omega) (by omega)
  have hup : up1 p = p - p / 32 := rfl
  have e5 : IntKind.u16.wrap ((p : Int) - (p : Int) / 32) = ((p - p / 32 : Nat) : Int) := by rw [show (p : Int) - (p : Int) / 32 = ((p - p / 32 : Nat) : Int) by omega]; exact u16_in _ (by omega)
  have e6 : IntKind.u16.wrap ((p : Int) / 32) = (p : Int) / 32 := u16_in _ (by omega)
  rw [hup]
  clear hup
  generalize p - p / 32 = q at *
  have hO1 : ∀ n, Only (fun j => j = g) w (((w.setCell ⟨g, 2, none⟩ (.int .u32 ((c - z : Nat) : Int))).setCell ⟨g, 1, none⟩ (.int .u32 ((r - z : Nat) : Int))).drewN n) := fun n => (((Only.refl (fun j => j = g) w).setCell (p := ⟨g, 2, none⟩) (.inl rfl) _).setCell (p := ⟨g, 1, none⟩) (.inl rfl) _).drewN n
  have hO : ∀ n, Only (fun j => j = g ∨ j = b) w ((((w.setCell ⟨g, 2, none⟩ (.int .u32 ((c - z : Nat) : Int))).setCell ⟨g, 1, none⟩ (.int .u32 ((r - z : Nat) : Int))).drewN n).setCell ⟨b, i, none⟩ (.int .u16 (q : Int))) := fun n => ((hO1 n).mono (fun j hj => .inl hj)).setCell (p := ⟨b, i, none⟩) (.inl (.inr rfl)) _
  have hB1 : ∀ n, Blk ((((w.setCell ⟨g, 2, none⟩ (.int .u32 ((c - z : Nat) : Int))).setCell ⟨g, 1, none⟩ (.int .u32 ((r - z : Nat) : Int))).drewN n).setCell ⟨b, i, none⟩ (.int .u16 (q : Int))) g 218 (pdCells f (r - z) (c - z) false) := fun n => (((hB.put 2 _).put 1 _).drewN n).far hbg.symm _
  have HR := Lib.hid (fun n => show R ((((w.setCell ⟨g, 2, none⟩ (.int .u32 ((c - z : Nat) : Int))).setCell ⟨g, 1, none⟩ (.int .u32 ((r - z : Nat) : Int))).drewN n).setCell ⟨b, i, none⟩ (.int .u16 (q : Int))) (ps.set a q) from by have := Z.put (Z.only hR (hO1 n) (fun j hj e => by have := hB0 j hj; omega)) ha q; rw [hab] at this; exact this)
  have K := Lib.hid (fun n => even_any (hB1 n) (hF.only (hO n) (fun j hj => by omega)) hfg (by omega) (by omega))
  have HO := Lib.hid (fun n => (hO n).mono (S' := owns f g B) (fun j hj => by rcases hj with hj | hj; exact .inr (.inl hj); exact .inr (.inr (hj ▸ hBb))))
  have HZ := Lib.hid Z
  have HB0 := Lib.hid hB0
  have HD1 := Lib.hid hd1
  have HV := Lib.hid hv
  clear hB hF hR hB1 hO hO1 hd1 hv Z hB0 hbo hBb hab ha
  generalize r - z = r1 at *
  generalize c - z = c1 at *
  go_enter Tryz.func128, Tryz.ntmps128
  go_wp2_with fail
  go_quiet (fail)
  go_wp2_with fail
  go_region
  all_goals go_wp2_with fail
  refine (K.out (nq + 1)).mono ?_
  rintro e w1 ⟨rfl, ⟨at', r', c', bad', hB2, hF2, _, ht⟩, hO2⟩
  rw [HD1.out] at ht
  have HB2 := Lib.hid hB2
  have HF2 := Lib.hid hF2
  have HT := Lib.hid ht
  have HR2 := Lib.hid (HZ.out.only (HR.out (nq + 1)) hO2 (fun j hj e => by have := HB0.out j hj; rcases e with e | e <;> omega))
  have HO2 := Lib.hid ((HO.out (nq + 1)).trans (hO2.mono fun j hj => by rcases hj with h | h; exact .inl h; exact .inr (.inl h)))
  have KT := Lib.hid (told_any (x := 1) hB2)
  have hv : v = if bad' = true then 0 else 1 := by
    rw [HV.out]
    rcases ht.2.2.2 with ⟨rfl, h⟩ | ⟨rfl, h⟩
    · rw [if_pos h, if_pos rfl]
    · rw [if_neg (by rw [h]; simp), if_neg (by simp)]
  have HV2 := Lib.hid hv
  clear hB2 hF2 ht hO2 HO K HR h1 h2 h3 z1 z2 hx zx hv HV HZ HB0
  cases bad'
  all_goals
    go_wp2_with fail
    refine KT.out.mono ?_
    rintro e w2 ⟨rfl, rfl⟩
    go_wp2_with fail
    go_ret
    refine ⟨?_, ⟨at', r', c', _, HB2.out, HF2.out, hfg, HT.out⟩, HR2.out, HO2.out⟩
    rw [HV2.out]
    rfl

/-- A bit. -/
theorem lw_bit (Z : Prb R B ad L) (hB0 : ∀ i, B i → i < lo ∨ g < i) (hab : ad a = (b, i)) (ha : a < L) {t : Pm Dc} {k : Int} (h : Mch R g f lo bs L w t) :
    Calls Tryz.prog 128 #[.pointer (some ⟨g, 0, none⟩), .pointer (some ⟨b, i, none⟩)] w (MPost R B g f lo bs L w (.int .i64 ((bitP decM t a k).1 : Int)) (bitP decM t a k).2) := by
  have hnext := (bitP_ok decM_ok (k := 0) (a := a) (w := k) (okD_any h.ok) ha (fun h => by cases h)).2
  have hps := getD_ok h.ok.ps (show a < t.ps.length by rw [h.ok.len]; exact ha)
  obtain ⟨hP, hR, hok⟩ := h
  obtain ⟨at_, r, c, bad, hB, hF, hfg, h0, h1, h2, h3⟩ := hP
  rcases h3 with ⟨rfl, hn⟩ | ⟨rfl, hn⟩
  · refine (bit_bad hB).mono ?_
    rintro e w' ⟨rfl, rfl⟩
    have e1 : (bitP decM t a k).1 = 0 := by show (bitD t.x _).1 = 0; rw [hn]; rfl
    have e2 : (bitP decM t a k).2 = t := by
      show (⟨t.ps.set a (bitD t.x (t.ps.getD a 0)).2.1, (bitD t.x (t.ps.getD a 0)).2.2⟩ : Pm Dc) = t
      rw [hn]
      show (⟨t.ps.set a (t.ps.getD a 0), none⟩ : Pm Dc) = t
      rw [set_same_get _ _ (by rw [hok.len]; exact ha), ← hn]
    rw [e1, e2]
    exact ⟨rfl, ⟨⟨at_, r, c, true, hB, hF, hfg, h0, h1, h2, .inl ⟨rfl, hn⟩⟩, hR, hok⟩, Only.refl _ _⟩
  · obtain ⟨d0, d1, d2⟩ := hok.x _ _ _ hn
    have hx : bitP decM t a k = ((bitD t.x (t.ps.getD a 0)).1, ⟨t.ps.set a (bitD t.x (t.ps.getD a 0)).2.1, (bitD t.x (t.ps.getD a 0)).2.2⟩) := rfl
    rw [hx] at hnext ⊢
    rw [hn] at hnext ⊢
    unfold bitD at hnext ⊢
    simp only [] at hnext ⊢
    by_cases hlt : c < r / 2048 * t.ps.getD a 0
    · rw [if_pos hlt] at hnext ⊢
      refine (lw_zero Z hB0 hab ha rfl hB hF hfg hR rfl d0 d1 hps hlt).mono ?_
      rintro e w' ⟨rfl, g1, g2, g3⟩
      exact ⟨rfl, ⟨g1, g2, hnext⟩, g3⟩
    · rw [if_neg hlt] at hnext ⊢
      refine (lw_one Z hB0 hab ha rfl rfl rfl hB hF hfg hR rfl d0 d1 d2 hps hlt).mono ?_
      rintro e w' ⟨rfl, g1, g2, g3⟩
      cases hl : lvl (r - r / 2048 * t.ps.getD a 0) (c - r / 2048 * t.ps.getD a 0) (bs.drop at_) with
      | none => rw [hl] at hnext g1; exact ⟨rfl, ⟨g1, g2, hnext⟩, g3⟩
      | some u => rw [hl] at hnext g1; exact ⟨rfl, ⟨g1, g2, hnext⟩, g3⟩

theorem Mch.cells {t : Pm Dc} (h : Mch R g f lo bs L w t) : ∃ (r c : Nat) (bad : Bool), Blk w g 218 (pdCells f r c bad) ∧ (bad = true ↔ t.x = none) := by
  obtain ⟨at_, r, c, bad, hB, hF, hfg, h0, h1, h2, h3⟩ := h.pd
  refine ⟨r, c, bad, hB, ?_⟩
  rcases h3 with ⟨rfl, hn⟩ | ⟨rfl, hn⟩
  · simp [hn]
  · simp [hn]

end
end Go.Proofs.YtdhhibfppcpieaaGreatDoor

/-
  Meters as numbers: quotas, what is used, and what each call makes of them.
-/
namespace Go.Proofs.YtdhhibfppcpieaaGreatDoor
open Go.RowKit

structure Quo where
  mem : Int
  out : Int
  files : Int
  depth : Int
  steps : Int

structure Tel where
  mem : Int
  peak : Int
  out : Int
  files : Int
  depth : Int
  steps : Int
  code : Int

/-- a quota of which nothing is below 0 -/
def Quo.up (q : Quo) : Quo := ⟨max q.mem 0, max q.out 0, max q.files 0, max q.depth 0, max q.steps 0⟩
def Tel.zero : Tel := ⟨0, 0, 0, 0, 0, 0, 0⟩

/-- the cells of a meter -/
def mCells (q : Quo) (s : Tel) : Array Value :=
  #[.int .i64 q.mem, .int .i64 q.out, .int .i64 q.files, .int .i64 q.depth, .int .i64 q.steps,
    .int .i64 s.mem, .int .i64 s.peak, .int .i64 s.out, .int .i64 s.files, .int .i64 s.depth, .int .i64 s.steps, .int .i64 s.code]
def uArr (s : Tel) : Array Value := #[.int .i64 s.mem, .int .i64 s.peak, .int .i64 s.out, .int .i64 s.files, .int .i64 s.depth, .int .i64 s.steps]
def qArr (q : Quo) : Array Value := #[.int .i64 q.mem, .int .i64 q.out, .int .i64 q.files, .int .i64 q.depth, .int .i64 q.steps]

/-- n more may be used. -/
def fits (code was most n : Int) : Prop := code = 0 ∧ max n 0 ≤ most - was
instance (code was most n : Int) : Decidable (fits code was most n) := by unfold fits; infer_instance
/-- the code behind it -/
def codeOf (code was most n x : Int) : Int := if code = 0 ∧ most - was < max n 0 then x else code
def wasOf (code was most n : Int) : Int := if code = 0 ∧ max n 0 ≤ most - was then was + max n 0 else was

def Tel.doMem (q : Quo) (s : Tel) (n : Int) : Tel :=
  { s with mem := wasOf s.code s.mem q.mem n, peak := max s.peak (wasOf s.code s.mem q.mem n), code := codeOf s.code s.mem q.mem n 101 }
def Tel.doOut (q : Quo) (s : Tel) (n : Int) : Tel := { s with out := wasOf s.code s.out q.out n, code := codeOf s.code s.out q.out n 102 }
def Tel.doFile (q : Quo) (s : Tel) : Tel := { s with files := wasOf s.code s.files q.files 1, code := codeOf s.code s.files q.files 1 103 }
def Tel.doDown (q : Quo) (s : Tel) : Tel := { s with depth := wasOf s.code s.depth q.depth 1, code := codeOf s.code s.depth q.depth 1 104 }
def Tel.doStep (q : Quo) (s : Tel) (n : Int) : Tel := { s with steps := wasOf s.code s.steps q.steps n, code := codeOf s.code s.steps q.steps n 105 }
def Tel.doFree (s : Tel) (n : Int) : Tel := { s with mem := max (s.mem - max n 0) 0 }
def Tel.doUp (s : Tel) : Tel := { s with depth := max (s.depth - 1) 0 }

/-- what is used lies within its quota; nothing is beyond 64 bits -/
structure Fine (q : Quo) (s : Tel) : Prop where
  m0 : 0 ≤ s.mem
  m1 : s.mem ≤ s.peak
  m2 : s.peak ≤ q.mem
  m3 : q.mem ≤ 9223372036854775807
  o0 : 0 ≤ s.out
  o1 : s.out ≤ q.out
  o2 : q.out ≤ 9223372036854775807
  f0 : 0 ≤ s.files
  f1 : s.files ≤ q.files
  f2 : q.files ≤ 9223372036854775807
  d0 : 0 ≤ s.depth
  d1 : s.depth ≤ q.depth
  d2 : q.depth ≤ 9223372036854775807
  s0 : 0 ≤ s.steps
  s1 : s.steps ≤ q.steps
  s2 : q.steps ≤ 9223372036854775807
  c0 : s.code = 0 ∨ (101 ≤ s.code ∧ s.code ≤ 105)

/-- a quota as it comes in -/
structure Lit64 (q : Quo) : Prop where
  m : -9223372036854775808 ≤ q.mem ∧ q.mem ≤ 9223372036854775807
  o : -9223372036854775808 ≤ q.out ∧ q.out ≤ 9223372036854775807
  f : -9223372036854775808 ≤ q.files ∧ q.files ≤ 9223372036854775807
  d : -9223372036854775808 ≤ q.depth ∧ q.depth ≤ 9223372036854775807
  s : -9223372036854775808 ≤ q.steps ∧ q.steps ≤ 9223372036854775807

theorem Fine.new {q : Quo} (h : Lit64 q) : Fine q.up Tel.zero := by
  obtain ⟨h1, h2, h3, h4, h5⟩ := h
  constructor <;> simp only [Quo.up, Tel.zero] <;> first | omega | simp

theorem wasOf_le {code was most n : Int} (_ : 0 ≤ was) (h1 : was ≤ most) : was ≤ wasOf code was most n ∧ wasOf code was most n ≤ most := by
  unfold wasOf
  split <;> omega
theorem codeOf_in {code was most n x : Int} (h : code = 0 ∨ (101 ≤ code ∧ code ≤ 105)) (hx : 101 ≤ x ∧ x ≤ 105) : codeOf code was most n x = 0 ∨ (101 ≤ codeOf code was most n x ∧ codeOf code was most n x ≤ 105) := by
  unfold codeOf
  split <;> omega

section
variable {q : Quo} {s : Tel}
theorem Fine.mem (h : Fine q s) (n : Int) : Fine q (s.doMem q n) := by
  have a := wasOf_le (code := s.code) (n := n) h.m0 (Int.le_trans h.m1 h.m2)
  have b := codeOf_in (was := s.mem) (most := q.mem) (n := n) (x := 101) h.c0 (by omega)
  cases h
  constructor <;> (try simp only [Tel.doMem]) <;> first | assumption | omega
theorem Fine.out (h : Fine q s) (n : Int) : Fine q (s.doOut q n) := by
  have a := wasOf_le (code := s.code) (n := n) h.o0 h.o1
  have b := codeOf_in (was := s.out) (most := q.out) (n := n) (x := 102) h.c0 (by omega)
  cases h
  constructor <;> (try simp only [Tel.doOut]) <;> first | assumption | omega
theorem Fine.file (h : Fine q s) : Fine q (s.doFile q) := by
  have a := wasOf_le (code := s.code) (n := 1) h.f0 h.f1
  have b := codeOf_in (was := s.files) (most := q.files) (n := 1) (x := 103) h.c0 (by omega)
  cases h
  constructor <;> (try simp only [Tel.doFile]) <;> first | assumption | omega
theorem Fine.down (h : Fine q s) : Fine q (s.doDown q) := by
  have a := wasOf_le (code := s.code) (n := 1) h.d0 h.d1
  have b := codeOf_in (was := s.depth) (most := q.depth) (n := 1) (x := 104) h.c0 (by omega)
  cases h
  constructor <;> (try simp only [Tel.doDown]) <;> first | assumption | omega
theorem Fine.step (h : Fine q s) (n : Int) : Fine q (s.doStep q n) := by
  have a := wasOf_le (code := s.code) (n := n) h.s0 h.s1
  have b := codeOf_in (was := s.steps) (most := q.steps) (n := n) (x := 105) h.c0 (by omega)
  cases h
  constructor <;> (try simp only [Tel.doStep]) <;> first | assumption | omega
theorem Fine.free (h : Fine q s) (n : Int) : Fine q (s.doFree n) := by
  cases h
  constructor <;> (try simp only [Tel.doFree]) <;> first | assumption | omega
theorem Fine.upp (h : Fine q s) : Fine q s.doUp := by
  cases h
  constructor <;> (try simp only [Tel.doUp]) <;> first | assumption | omega
end

/-- one thing that is asked for, or given back -/
def Tel.next (q : Quo) (s : Tel) (k n : Int) : Tel :=
  if k = 0 then s.doMem q n else if k = 1 then s.doOut q n else if k = 2 then s.doFile q else if k = 3 then s.doDown q else if k = 4 then s.doStep q n else if k = 5 then s.doFree n else s.doUp
def Tel.said (q : Quo) (s : Tel) (k n : Int) : Bool :=
  if k = 0 then decide (fits s.code s.mem q.mem n) else if k = 1 then decide (fits s.code s.out q.out n) else if k = 2 then decide (fits s.code s.files q.files 1) else if k = 3 then decide (fits s.code s.depth q.depth 1)
  else if k = 4 then decide (fits s.code s.steps q.steps n) else true

theorem Fine.next {q : Quo} {s : Tel} (h : Fine q s) (k n : Int) : Fine q (s.next q k n) := by
  unfold Tel.next
  split
  · exact h.mem n
  split
  · exact h.out n
  split
  · exact h.file
  split
  · exact h.down
  split
  · exact h.step n
  split
  · exact h.free n
  · exact h.upp
end Go.Proofs.YtdhhibfppcpieaaGreatDoor
