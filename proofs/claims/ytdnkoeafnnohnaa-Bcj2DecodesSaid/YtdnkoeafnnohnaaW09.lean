/-
  LwRow, B2Mem, B2Read, B2Next: put together.
-/
import Derived.Test.YtdnkoeafnnohnaaW06
import Derived.Test.YtdnkoeafnnohnaaW07
import Derived.Test.YtdnkoeafnnohnaaW01
import Derived.Test.YtdnkoeafnnohnaaW02
import Derived.LoopTactic
set_option linter.unusedVariables false
set_option linter.unusedSimpArgs false
/-
  The program's decoder of ranges over probabilities that lie wherever they lie: bits, trees.
-/
namespace Go.Proofs.Ytdnkoeafnnohnaa
open Go.RowKit

/-- what a decoder turns -/
def owns (S : Sc) (g : Nat) (B : Nat → Prop) : Nat → Prop := fun i => S.turn i ∨ i = g ∨ B i
/-- the machine and its probabilities, in memory -/
structure Mch (R : World → List Nat → Prop) (g : Nat) (S : Sc) (bs : List UInt8) (L : Nat) (w : World) (t : Pm Dc) : Prop where
  sc : ScOk S
  pd : Pd w g S bs t.x
  row : R w t.ps
  ok : PmOk okD L 0 t
def MPost (R : World → List Nat → Prop) (B : Nat → Prop) (g : Nat) (S : Sc) (bs : List UInt8) (L : Nat) (w : World) (v : Value) (t : Pm Dc) (e : Ending) (w' : World) : Prop :=
  e = .returned v ∧ Mch R g S bs L w' t ∧ Only (owns S g B) w w'
theorem okD_any {L k : Nat} {t : Pm Dc} (h : PmOk okD L 0 t) : PmOk okD L k t := ⟨h.ps, h.len, h.x⟩
section
variable {R : World → List Nat → Prop} {B : Nat → Prop} {ad : Nat → Nat × Nat} {L : Nat} {S : Sc} {g r c at_ b i p a : Nat} {w : World} {bs : List UInt8} {ps : List Nat}

set_option maxRecDepth 100000 in
set_option maxHeartbeats 4000000 in
theorem lw_zero (hS : ScOk S) (Z : Prb R B ad L) (hB0 : ∀ i, B i → ¬ S.hold i ∧ i ≠ g) (hab : ad a = (b, i)) (ha : a < L) {z : Nat} (hz : z = r / 2048 * p) (hB : Blk w g 91 (pdCells S.f r c false)) (hF : S.At w bs at_) (hg : ¬ S.hold g) (hR : R w ps) (hpi : p = ps.getD a 0)
    (hr0 : 16777216 ≤ r) (hr : r < 4294967296) (hp : POk p) (hlt : c < z) :
    Calls Try.prog 48 #[.pointer (some ⟨g, 0, none⟩), .pointer (some ⟨b, i, none⟩)] w fun e w' => e = .returned (.int .i64 0) ∧ Pd w' g S bs (lvl z c (bs.drop at_)) ∧ R w' (ps.set a (up0 p)) ∧ Only (owns S g B) w w' := by
  obtain ⟨b0, b1⟩ := bound_in hr0 hr hp
  rw [← hz] at b0 b1
  obtain ⟨p0, p1⟩ := hp
  have HS := Lib.hid hS
  have hBb : B b := by have := Z.blk ha; rw [hab] at this; exact this
  have hbo := hB0 b hBb
  have hbg : b ≠ g := hbo.2
  have h1 : w.cell? ⟨g, 1, none⟩ = some (.int .u32 (r : Int)) := hB.cell 1
  have h2 : w.cell? ⟨g, 2, none⟩ = some (.int .u32 (c : Int)) := hB.cell 2
  have h3 : w.cell? ⟨g, 3, none⟩ = some (.bool false) := hB.cell 3
  have z1 : w.frozen? ⟨g, 1, none⟩ = false := hB.free 1
  have hx : w.cell? ⟨b, i, none⟩ = some (.int .u16 (p : Int)) := by have := Z.cell hR ha; rw [hab] at this; rw [hpi]; exact this
  have zx : w.frozen? ⟨b, i, none⟩ = false := by have := Z.free hR ha; rw [hab] at this; exact this
  have e0 : IntKind.u32.wrap (p : Int) = (p : Int) := u32_of _ (by omega) (by omega)
  have e1 : IntKind.u32.wrap ((r : Int) / 2048 * (p : Int)) = (z : Int) := by
    rw [show (r : Int) / 2048 * (p : Int) = (z : Int) by rw [hz]; simp]
    exact u32_of _ (by omega) (by omega)
  have e1' : IntKind.u32.wrap ((r : Int) / 2048) = (r : Int) / 2048 := u32_of _ (by omega) (by omega)
  have hlt' : (c : Int) < (z : Int) := by omega
  clear hz hpi
  have e2 : IntKind.u16.wrap (2048 - (p : Int)) = 2048 - (p : Int) := u16_in _ (by omega)
  obtain ⟨u, hu⟩ : ∃ u, u = (2048 - p) / 32 := ⟨_, rfl⟩
  have e3 : IntKind.u16.wrap ((2048 - (p : Int)).tdiv 32) = (u : Int) := by
    rw [Int.tdiv_eq_ediv_of_nonneg (by omega), show (2048 - (p : Int)) / 32 = (u : Int) by omega]
    exact u16_in _ (by omega)
  have hup : up0 p = p + u := by unfold up0; omega
  have e5 : IntKind.u16.wrap ((p : Int) + (u : Int)) = ((p + u : Nat) : Int) := by rw [← Int.natCast_add]; exact u16_in _ (by omega)
  rw [hup]
  clear hu hup
  generalize p + u = q at *
  have hO1 : ∀ n, Only (fun j => j = g) w ((w.setCell ⟨g, 1, none⟩ (.int .u32 (z : Int))).drewN n) := fun n => ((Only.refl (fun j => j = g) w).setCell (p := ⟨g, 1, none⟩) (.inl rfl) _).drewN n
  have hO : ∀ n, Only (fun j => j = g ∨ j = b) w (((w.setCell ⟨g, 1, none⟩ (.int .u32 (z : Int))).drewN n).setCell ⟨b, i, none⟩ (.int .u16 (q : Int))) := fun n => ((hO1 n).mono (fun j hj => .inl hj)).setCell (p := ⟨b, i, none⟩) (.inl (.inr rfl)) _
  have hB1 : ∀ n, Blk (((w.setCell ⟨g, 1, none⟩ (.int .u32 (z : Int))).drewN n).setCell ⟨b, i, none⟩ (.int .u16 (q : Int))) g 91 (pdCells S.f z c false) := fun n => ((hB.put 1 _).drewN n).far hbg.symm _
  have HR := Lib.hid (fun n => show R (((w.setCell ⟨g, 1, none⟩ (.int .u32 (z : Int))).drewN n).setCell ⟨b, i, none⟩ (.int .u16 (q : Int))) (ps.set a q) from by have := Z.put (Z.only hR (hO1 n) (fun j hj e => (hB0 j hj).2 e)) ha q; rw [hab] at this; exact this)
  have K := Lib.hid (fun n => even_any (hB1 n) hS (hS.only hF (hO n) (fun j hj => by rcases hj with rfl | rfl; exact hg; exact hbo.1)) hg (by omega) (Nat.le_of_lt hlt))
  have HO := Lib.hid (fun n => (hO n).mono (S' := owns S g B) (fun j hj => by rcases hj with hj | hj; exact .inr (.inl hj); exact .inr (.inr (hj ▸ hBb))))
  have HZ := Lib.hid Z
  have HB0 := Lib.hid hB0
  clear hB hF hR hB1 hO hO1 Z hB0 hbo hBb hab ha hS
  go_enter Try.func48, Try.ntmps48
  go_wp2_with fail
  go_quiet (fail)
  go_wp2_with fail
  go_region
  all_goals go_wp2_with fail
  refine (K.out (nq + 1)).mono ?_
  rintro e w1 ⟨rfl, ⟨at', r', c', bad', hB2, hF2, _, ht⟩, hO2⟩
  have HB2 := Lib.hid hB2
  have HF2 := Lib.hid hF2
  have HT := Lib.hid ht
  have HR2 := Lib.hid (HZ.out.only (HR.out (nq + 1)) hO2 (fun j hj e => by rcases e with e | e; exact (HB0.out j hj).1 (HS.out.tf _ e); exact (HB0.out j hj).2 e))
  have HO2 := Lib.hid ((HO.out (nq + 1)).trans (hO2.mono fun j hj => by rcases hj with h | h; exact .inl h; exact .inr (.inl h)))
  have KT := Lib.hid (told_any (x := 0) hB2)
  clear hB2 hF2 ht hO2 HO K HR h1 h2 h3 z1 hx zx HZ HB0
  go_wp2_with fail
  refine KT.out.mono ?_
  rintro e w2 ⟨rfl, rfl⟩
  go_wp2_with fail
  go_ret
  exact ⟨by simp, ⟨at', r', c', bad', HB2.out, HF2.out, hg, HT.out⟩, HR2.out, HO2.out⟩

set_option maxRecDepth 100000 in
set_option maxHeartbeats 4000000 in
theorem lw_one (hS : ScOk S) (Z : Prb R B ad L) (hB0 : ∀ i, B i → ¬ S.hold i ∧ i ≠ g) (hab : ad a = (b, i)) (ha : a < L) {z v : Nat} {d1 : Dc} (hd1 : lvl (r - z) (c - z) (bs.drop at_) = d1) (hv : v = if d1 = none then 0 else 1) (hz : z = r / 2048 * p) (hB : Blk w g 91 (pdCells S.f r c false)) (hF : S.At w bs at_) (hg : ¬ S.hold g) (hR : R w ps) (hpi : p = ps.getD a 0)
    (hr0 : 16777216 ≤ r) (hr : r < 4294967296) (hcr : c < r) (hp : POk p) (hlt : ¬ c < z) :
    Calls Try.prog 48 #[.pointer (some ⟨g, 0, none⟩), .pointer (some ⟨b, i, none⟩)] w fun e w' => e = .returned (.int .i64 (v : Int)) ∧ Pd w' g S bs d1 ∧ R w' (ps.set a (up1 p)) ∧ Only (owns S g B) w w' := by
  obtain ⟨b0, b1⟩ := bound_in hr0 hr hp
  rw [← hz] at b0 b1
  obtain ⟨p0, p1⟩ := hp
  have HS := Lib.hid hS
  have hBb : B b := by have := Z.blk ha; rw [hab] at this; exact this
  have hbo := hB0 b hBb
  have hbg : b ≠ g := hbo.2
  have h1 : w.cell? ⟨g, 1, none⟩ = some (.int .u32 (r : Int)) := hB.cell 1
  have h2 : w.cell? ⟨g, 2, none⟩ = some (.int .u32 (c : Int)) := hB.cell 2
  have h3 : w.cell? ⟨g, 3, none⟩ = some (.bool false) := hB.cell 3
  have z1 : w.frozen? ⟨g, 1, none⟩ = false := hB.free 1
  have z2 : w.frozen? ⟨g, 2, none⟩ = false := hB.free 2
  have hx : w.cell? ⟨b, i, none⟩ = some (.int .u16 (p : Int)) := by have := Z.cell hR ha; rw [hab] at this; rw [hpi]; exact this
  have zx : w.frozen? ⟨b, i, none⟩ = false := by have := Z.free hR ha; rw [hab] at this; exact this
  have e0 : IntKind.u32.wrap (p : Int) = (p : Int) := u32_of _ (by omega) (by omega)
  have e1 : IntKind.u32.wrap ((r : Int) / 2048 * (p : Int)) = (z : Int) := by
    rw [show (r : Int) / 2048 * (p : Int) = (z : Int) by rw [hz]; simp]
    exact u32_of _ (by omega) (by omega)
  have e1' : IntKind.u32.wrap ((r : Int) / 2048) = (r : Int) / 2048 := u32_of _ (by omega) (by omega)
  have hlt' : ¬ (c : Int) < (z : Int) := by omega
  clear hz hpi
  have e2 : IntKind.u32.wrap ((c : Int) - (z : Int)) = ((c - z : Nat) : Int) := by rw [show (c : Int) - (z : Int) = ((c - z : Nat) : Int) by omega]; exact u32_of _ (by omega) (by omega)
  have e3 : IntKind.u32.wrap ((r : Int) - (z : Int)) = ((r - z : Nat) : Int) := by rw [show (r : Int) - (z : Int) = ((r - z : Nat) : Int) by omega]; exact u32_of _ (by omega) (by omega)
  have hup : up1 p = p - p / 32 := rfl
  have e5 : IntKind.u16.wrap ((p : Int) - (p : Int) / 32) = ((p - p / 32 : Nat) : Int) := by rw [show (p : Int) - (p : Int) / 32 = ((p - p / 32 : Nat) : Int) by omega]; exact u16_in _ (by omega)
  have e6 : IntKind.u16.wrap ((p : Int) / 32) = (p : Int) / 32 := u16_in _ (by omega)
  rw [hup]
  clear hup
  generalize p - p / 32 = q at *
  have hO1 : ∀ n, Only (fun j => j = g) w (((w.setCell ⟨g, 2, none⟩ (.int .u32 ((c - z : Nat) : Int))).setCell ⟨g, 1, none⟩ (.int .u32 ((r - z : Nat) : Int))).drewN n) := fun n => (((Only.refl (fun j => j = g) w).setCell (p := ⟨g, 2, none⟩) (.inl rfl) _).setCell (p := ⟨g, 1, none⟩) (.inl rfl) _).drewN n
  have hO : ∀ n, Only (fun j => j = g ∨ j = b) w ((((w.setCell ⟨g, 2, none⟩ (.int .u32 ((c - z : Nat) : Int))).setCell ⟨g, 1, none⟩ (.int .u32 ((r - z : Nat) : Int))).drewN n).setCell ⟨b, i, none⟩ (.int .u16 (q : Int))) := fun n => ((hO1 n).mono (fun j hj => .inl hj)).setCell (p := ⟨b, i, none⟩) (.inl (.inr rfl)) _
  have hB1 : ∀ n, Blk ((((w.setCell ⟨g, 2, none⟩ (.int .u32 ((c - z : Nat) : Int))).setCell ⟨g, 1, none⟩ (.int .u32 ((r - z : Nat) : Int))).drewN n).setCell ⟨b, i, none⟩ (.int .u16 (q : Int))) g 91 (pdCells S.f (r - z) (c - z) false) := fun n => (((hB.put 2 _).put 1 _).drewN n).far hbg.symm _
  have HR := Lib.hid (fun n => show R ((((w.setCell ⟨g, 2, none⟩ (.int .u32 ((c - z : Nat) : Int))).setCell ⟨g, 1, none⟩ (.int .u32 ((r - z : Nat) : Int))).drewN n).setCell ⟨b, i, none⟩ (.int .u16 (q : Int))) (ps.set a q) from by have := Z.put (Z.only hR (hO1 n) (fun j hj e => (hB0 j hj).2 e)) ha q; rw [hab] at this; exact this)
  have K := Lib.hid (fun n => even_any (hB1 n) hS (hS.only hF (hO n) (fun j hj => by rcases hj with rfl | rfl; exact hg; exact hbo.1)) hg (by omega) (by omega))
  have HO := Lib.hid (fun n => (hO n).mono (S' := owns S g B) (fun j hj => by rcases hj with hj | hj; exact .inr (.inl hj); exact .inr (.inr (hj ▸ hBb))))
  have HZ := Lib.hid Z
  have HB0 := Lib.hid hB0
  have HD1 := Lib.hid hd1
  have HV := Lib.hid hv
  clear hB hF hR hB1 hO hO1 hd1 hv Z hB0 hbo hBb hab ha hS
  generalize r - z = r1 at *
  generalize c - z = c1 at *
  go_enter Try.func48, Try.ntmps48
  go_wp2_with fail
  go_quiet (fail)
  go_wp2_with fail
  go_region
  all_goals go_wp2_with fail
  refine (K.out (nq + 1)).mono ?_
  rintro e w1 ⟨rfl, ⟨at', r', c', bad', hB2, hF2, _, ht⟩, hO2⟩
  rw [HD1.out] at ht
  have HB2 := Lib.hid hB2
  have HF2 := Lib.hid hF2
  have HT := Lib.hid ht
  have HR2 := Lib.hid (HZ.out.only (HR.out (nq + 1)) hO2 (fun j hj e => by rcases e with e | e; exact (HB0.out j hj).1 (HS.out.tf _ e); exact (HB0.out j hj).2 e))
  have HO2 := Lib.hid ((HO.out (nq + 1)).trans (hO2.mono fun j hj => by rcases hj with h | h; exact .inl h; exact .inr (.inl h)))
  have KT := Lib.hid (told_any (x := 1) hB2)
  have hv : v = if bad' = true then 0 else 1 := by
    rw [HV.out]
    rcases ht.2.2.2 with ⟨rfl, h⟩ | ⟨rfl, h⟩
    · rw [if_pos h, if_pos rfl]
    · rw [if_neg (by rw [h]; simp), if_neg (by simp)]
  have HV2 := Lib.hid hv
  clear hB2 hF2 ht hO2 HO K HR h1 h2 h3 z1 z2 hx zx hv HV HZ HB0
  cases bad'
  all_goals
    go_wp2_with fail
    refine KT.out.mono ?_
    rintro e w2 ⟨rfl, rfl⟩
    go_wp2_with fail
    go_ret
    refine ⟨?_, ⟨at', r', c', _, HB2.out, HF2.out, hg, HT.out⟩, HR2.out, HO2.out⟩
    rw [HV2.out]
    rfl

/-- A bit. -/
theorem lw_bit (Z : Prb R B ad L) (hB0 : ∀ i, B i → ¬ S.hold i ∧ i ≠ g) (hab : ad a = (b, i)) (ha : a < L) {t : Pm Dc} {k : Int} (h : Mch R g S bs L w t) :
    Calls Try.prog 48 #[.pointer (some ⟨g, 0, none⟩), .pointer (some ⟨b, i, none⟩)] w (MPost R B g S bs L w (.int .i64 ((bitP decM t a k).1 : Int)) (bitP decM t a k).2) := by
  have hnext := (bitP_ok decM_ok (k := 0) (a := a) (w := k) (okD_any h.ok) ha (fun h => by cases h)).2
  have hps := getD_ok h.ok.ps (show a < t.ps.length by rw [h.ok.len]; exact ha)
  obtain ⟨hS, hP, hR, hok⟩ := h
  obtain ⟨at_, r, c, bad, hB, hF, hg, h0, h1, h2, h3⟩ := hP
  rcases h3 with ⟨rfl, hn⟩ | ⟨rfl, hn⟩
  · refine (bit_bad hB).mono ?_
    rintro e w' ⟨rfl, rfl⟩
    have e1 : (bitP decM t a k).1 = 0 := by show (bitD t.x _).1 = 0; rw [hn]; rfl
    have e2 : (bitP decM t a k).2 = t := by
      show (⟨t.ps.set a (bitD t.x (t.ps.getD a 0)).2.1, (bitD t.x (t.ps.getD a 0)).2.2⟩ : Pm Dc) = t
      rw [hn]
      show (⟨t.ps.set a (t.ps.getD a 0), none⟩ : Pm Dc) = t
      rw [set_same_get _ _ (by rw [hok.len]; exact ha), ← hn]
    rw [e1, e2]
    exact ⟨rfl, ⟨hS, ⟨at_, r, c, true, hB, hF, hg, h0, h1, h2, .inl ⟨rfl, hn⟩⟩, hR, hok⟩, Only.refl _ _⟩
  · obtain ⟨d0, d1, d2⟩ := hok.x _ _ _ hn
    have hx : bitP decM t a k = ((bitD t.x (t.ps.getD a 0)).1, ⟨t.ps.set a (bitD t.x (t.ps.getD a 0)).2.1, (bitD t.x (t.ps.getD a 0)).2.2⟩) := rfl
    rw [hx] at hnext ⊢
    rw [hn] at hnext ⊢
    unfold bitD at hnext ⊢
    simp only [] at hnext ⊢
    by_cases hlt : c < r / 2048 * t.ps.getD a 0
    · rw [if_pos hlt] at hnext ⊢
      refine (lw_zero hS Z hB0 hab ha rfl hB hF hg hR rfl d0 d1 hps hlt).mono ?_
      rintro e w' ⟨rfl, g1, g2, g3⟩
      exact ⟨rfl, ⟨hS, g1, g2, hnext⟩, g3⟩
    · rw [if_neg hlt] at hnext ⊢
      refine (lw_one hS Z hB0 hab ha rfl rfl rfl hB hF hg hR rfl d0 d1 d2 hps hlt).mono ?_
      rintro e w' ⟨rfl, g1, g2, g3⟩
      cases hl : lvl (r - r / 2048 * t.ps.getD a 0) (c - r / 2048 * t.ps.getD a 0) (bs.drop at_) with
      | none => rw [hl] at hnext g1; exact ⟨rfl, ⟨hS, g1, g2, hnext⟩, g3⟩
      | some u => rw [hl] at hnext g1; exact ⟨rfl, ⟨hS, g1, g2, hnext⟩, g3⟩

theorem Mch.cells {t : Pm Dc} (h : Mch R g S bs L w t) : ∃ (r c : Nat) (bad : Bool), Blk w g 91 (pdCells S.f r c bad) ∧ (bad = true ↔ t.x = none) := by
  obtain ⟨at_, r, c, bad, hB, hF, hfg, h0, h1, h2, h3⟩ := h.pd
  refine ⟨r, c, bad, hB, ?_⟩
  rcases h3 with ⟨rfl, hn⟩ | ⟨rfl, hn⟩
  · simp [hn]
  · simp [hn]

end
end Go.Proofs.Ytdnkoeafnnohnaa

/-
  The filter of four streams in memory: its cells, its four sources, its decoder.
-/
namespace Go.Proofs.Ytdnkoeafnnohnaa
open Go.RowKit

def fdV (f : Nat) : Value := .iface 37 (.pointer (some ⟨f, 0, none⟩))
/-- the filter's cells -/
def b2c (f : Nat → Nat) (g : Nat) (s : B2) (i : Nat) : Value :=
  if i < 4 then fdV (f i)
  else if i = 4 then .pointer (some ⟨g, 0, none⟩)
  else if i < 263 then .int .u16 ((s.ps.getD (i - 5) 0 : Nat) : Int)
  else if i = 263 then .bool s.dead
  else if i = 264 then .int .i64 (s.left : Int)
  else if i = 265 then .int .u32 (s.told : Int)
  else if i = 266 then .int .u8 (s.ahead : Int)
  else if i = 267 then .bool s.opn
  else if i = 268 then .int .i64 (s.num : Int)
  else if i = 269 then .int .u32 (s.target : Int)
  else if i = 270 then .int .i64 (s.waits : Int)
  else .nilIface
def FlB (w : World) (F : Nat) (f : Nat → Nat) (g : Nat) (s : B2) : Prop :=
  s.ps.length = 258 ∧ ∃ cs, Blk w F 70 cs ∧ cs.size = 271 ∧ ∀ i, i < 271 → cs[i]? = some (b2c f g s i)

section
variable {w w' : World} {F g : Nat} {f : Nat → Nat} {s s' : B2}
theorem FlB.lt (h : FlB w F f g s) : F < w.heap.size := by obtain ⟨_, _, h, _⟩ := h; exact h.lt
theorem FlB.cell (h : FlB w F f g s) (i : Nat) (hi : i < 271) : w.cell? ⟨F, i, none⟩ = some (b2c f g s i) := by
  obtain ⟨_, cs, hB, _, hc⟩ := h
  rw [hB.cell i, hc i hi]
theorem FlB.free (h : FlB w F f g s) (i : Nat) : w.frozen? ⟨F, i, none⟩ = false := by
  obtain ⟨_, cs, hB, _⟩ := h
  exact hB.free i
theorem FlB.only {T : Nat → Prop} (h : FlB w F f g s) (hO : Only T w w') (hF : ¬ T F) : FlB w' F f g s := by
  obtain ⟨h0, cs, hB, hz, hc⟩ := h
  exact ⟨h0, cs, hB.only hO hF, hz, hc⟩
theorem FlB.put (h : FlB w F f g s) (i : Nat) (v : Value) (hl : s'.ps.length = 258) (hi : i < 271) (he : b2c f g s' i = v) (hn : ∀ j, j < 271 → j ≠ i → b2c f g s' j = b2c f g s j) : FlB (w.setCell ⟨F, i, none⟩ v) F f g s' := by
  obtain ⟨_, cs, hB, hz, hc⟩ := h
  refine ⟨hl, _, hB.put i v, by rw [Array.size_setIfInBounds]; exact hz, fun j hj => ?_⟩
  rw [Array.getElem?_setIfInBounds]
  by_cases e : i = j
  · subst e
    rw [if_pos rfl, if_pos (by omega), he]
  · rw [if_neg e, hc j hj, hn j hj (by omega)]
theorem FlB.src (h : FlB w F f g s) {k : Nat} (hk : k < 4) : w.cell? ⟨F, k, none⟩ = some (fdV (f k)) := by
  rw [h.cell k (by omega)]; unfold b2c; rw [if_pos hk]
theorem FlB.dec (h : FlB w F f g s) : w.cell? ⟨F, 4, none⟩ = some (.pointer (some ⟨g, 0, none⟩)) := h.cell 4 (by omega)
theorem FlB.ps (h : FlB w F f g s) {a : Nat} (ha : a < 258) : w.cell? ⟨F, 5 + a, none⟩ = some (.int .u16 ((s.ps.getD a 0 : Nat) : Int)) := by
  rw [h.cell (5 + a) (by omega)]; unfold b2c
  rw [if_neg (by omega), if_neg (by omega), if_pos (by omega), show 5 + a - 5 = a by omega]
theorem FlB.dead (h : FlB w F f g s) : w.cell? ⟨F, 263, none⟩ = some (.bool s.dead) := h.cell 263 (by omega)
theorem FlB.left (h : FlB w F f g s) : w.cell? ⟨F, 264, none⟩ = some (.int .i64 (s.left : Int)) := h.cell 264 (by omega)
theorem FlB.told (h : FlB w F f g s) : w.cell? ⟨F, 265, none⟩ = some (.int .u32 (s.told : Int)) := h.cell 265 (by omega)
theorem FlB.ahead (h : FlB w F f g s) : w.cell? ⟨F, 266, none⟩ = some (.int .u8 (s.ahead : Int)) := h.cell 266 (by omega)
theorem FlB.opn (h : FlB w F f g s) : w.cell? ⟨F, 267, none⟩ = some (.bool s.opn) := h.cell 267 (by omega)
theorem FlB.num (h : FlB w F f g s) : w.cell? ⟨F, 268, none⟩ = some (.int .i64 (s.num : Int)) := h.cell 268 (by omega)
theorem FlB.target (h : FlB w F f g s) : w.cell? ⟨F, 269, none⟩ = some (.int .u32 (s.target : Int)) := h.cell 269 (by omega)
theorem FlB.waits (h : FlB w F f g s) : w.cell? ⟨F, 270, none⟩ = some (.int .i64 (s.waits : Int)) := h.cell 270 (by omega)
theorem FlB.putDead (h : FlB w F f g s) (x : Bool) : FlB (w.setCell ⟨F, 263, none⟩ (.bool x)) F f g { s with dead := x } :=
  h.put 263 _ h.1 (by omega) rfl fun j _ hn => by simp [b2c, hn]
theorem FlB.putLeft (h : FlB w F f g s) (x : Nat) : FlB (w.setCell ⟨F, 264, none⟩ (.int .i64 (x : Int))) F f g { s with left := x } :=
  h.put 264 _ h.1 (by omega) rfl fun j _ hn => by simp [b2c, hn]
theorem FlB.putTold (h : FlB w F f g s) (x : Nat) : FlB (w.setCell ⟨F, 265, none⟩ (.int .u32 (x : Int))) F f g { s with told := x } :=
  h.put 265 _ h.1 (by omega) rfl fun j _ hn => by simp [b2c, hn]
theorem FlB.putAhead (h : FlB w F f g s) (x : Nat) : FlB (w.setCell ⟨F, 266, none⟩ (.int .u8 (x : Int))) F f g { s with ahead := x } :=
  h.put 266 _ h.1 (by omega) rfl fun j _ hn => by simp [b2c, hn]
theorem FlB.putOpn (h : FlB w F f g s) (x : Bool) : FlB (w.setCell ⟨F, 267, none⟩ (.bool x)) F f g { s with opn := x } :=
  h.put 267 _ h.1 (by omega) rfl fun j _ hn => by simp [b2c, hn]
theorem FlB.putNum (h : FlB w F f g s) (x : Nat) : FlB (w.setCell ⟨F, 268, none⟩ (.int .i64 (x : Int))) F f g { s with num := x } :=
  h.put 268 _ h.1 (by omega) rfl fun j _ hn => by simp [b2c, hn]
theorem FlB.putTarget (h : FlB w F f g s) (x : Nat) : FlB (w.setCell ⟨F, 269, none⟩ (.int .u32 (x : Int))) F f g { s with target := x } :=
  h.put 269 _ h.1 (by omega) rfl fun j _ hn => by simp [b2c, hn]
theorem FlB.putWaits (h : FlB w F f g s) (x : Nat) : FlB (w.setCell ⟨F, 270, none⟩ (.int .i64 (x : Int))) F f g { s with waits := x } :=
  h.put 270 _ h.1 (by omega) rfl fun j _ hn => by simp [b2c, hn]
theorem FlB.putPs (h : FlB w F f g s) {a : Nat} (ha : a < 258) (q : Nat) : FlB (w.setCell ⟨F, 5 + a, none⟩ (.int .u16 (q : Int))) F f g { s with ps := s.ps.set a q } :=
  h.put (5 + a) _ (by show (s.ps.set a q).length = 258; rw [List.length_set]; exact h.1) (by omega) (by
    unfold b2c
    rw [if_neg (by omega), if_neg (by omega), if_pos (by omega), show 5 + a - 5 = a by omega]
    have := h.1
    simp [List.getD, show a < s.ps.length by omega]) fun j hj hn => by
    unfold b2c
    by_cases h1 : 5 ≤ j ∧ j < 263
    · rw [if_neg (by omega), if_neg (by omega), if_pos (by omega), if_neg (by omega), if_neg (by omega), if_pos (by omega)]
      simp [List.getD, show a ≠ j - 5 by omega]
    · by_cases h2 : j < 4
      · simp only [if_pos h2]
      · by_cases h3 : j = 4
        · simp only [if_neg h2, if_pos h3]
        · simp only [if_neg h2, if_neg h3, if_neg (show ¬ j < 263 by omega)]
/-- what of the state the filter's own block doesn't hold -/
theorem FlB.same (h : FlB w F f g s) (src : Nat → List UInt8) (d : Dc) : FlB w F f g { s with src := src, d := d } := by
  obtain ⟨h0, cs, hB, hz, hc⟩ := h
  exact ⟨h0, cs, hB, hz, hc⟩
end

/-- its probabilities, wherever they lie -/
theorem b2_prb (F : Nat) (f : Nat → Nat) (g : Nat) (s : B2) : Prb (fun w ps => FlB w F f g { s with ps := ps }) (fun i => i = F) (fun a => (F, 5 + a)) 258 where
  blk _ := rfl
  cell h ha := h.ps ha
  free h _ := h.free _
  put h ha q := h.putPs ha q
  only h hO hS := h.only hO (hS F rfl)
  len h := h.1
  old h hi := by subst hi; exact h.lt

/-- four sources, the decoder and the filter, apart from each other -/
structure Apt (F g : Nat) (S : Nat → Sc) : Prop where
  ok : ∀ k, k < 4 → ScOk (S k)
  dis : ∀ k l, k < 4 → l < 4 → k ≠ l → ∀ i, (S k).hold i → ¬ (S l).hold i
  nF : ∀ k, k < 4 → ¬ (S k).hold F
  ng : ∀ k, k < 4 → ¬ (S k).hold g
  ne : F ≠ g
def fset (F g : Nat) (S : Nat → Sc) : Nat → Prop := fun i => i = F ∨ i = g ∨ ∃ k, k < 4 ∧ (S k).turn i
/-- the filter at block F with the decoder at block g over four sources of the bytes bs; its state is s -/
structure Fl (w : World) (F g : Nat) (S : Nat → Sc) (bs : Nat → List UInt8) (s : B2) : Prop where
  blk : FlB w F (fun k => (S k).f) g s
  ok : B2Ok s
  apt : Apt F g S
  at_ : s.dead = false → ∀ k, k < 3 → ∃ n, (S k).At w (bs k) n ∧ s.src k = (bs k).drop n
  pd : s.dead = false → Pd w g (S 3) (bs 3) s.d
def BPost (w : World) (F g : Nat) (S : Nat → Sc) (bs : Nat → List UInt8) (v : Value) (s : B2) (e : Ending) (w' : World) : Prop :=
  e = .returned v ∧ Fl w' F g S bs s ∧ Only (fset F g S) w w'

section
variable {w w' : World} {F g : Nat} {S : Nat → Sc} {bs : Nat → List UInt8} {s s' : B2}
theorem Apt.turn (h : Apt F g S) {k : Nat} (hk : k < 4) {i : Nat} (hi : (S k).turn i) : i ≠ F ∧ i ≠ g := by
  have := (h.ok k hk).tf i hi
  exact ⟨fun e => h.nF k hk (e ▸ this), fun e => h.ng k hk (e ▸ this)⟩
theorem Fl.drewN (h : Fl w F g S bs s) (n : Nat) : Fl (w.drewN n) F g S bs s :=
  ⟨h.blk.only ((Only.refl (fun _ => False) w).drewN n) (fun h => h), h.ok, h.apt, fun hd k hk => by
    obtain ⟨m, h1, h2⟩ := h.at_ hd k hk
    exact ⟨m, (h.apt.ok k (by omega)).only h1 ((Only.refl (fun _ => False) w).drewN n) (fun _ h => h.elim), h2⟩, fun hd => (h.pd hd).drewN (h.apt.ok 3 (by decide)) n⟩
/-- Other blocks turn. -/
theorem Fl.only {T : Nat → Prop} (h : Fl w F g S bs s) (hO : Only T w w') (hT : ∀ i, T i → i ≠ F ∧ i ≠ g ∧ ∀ k, k < 4 → ¬ (S k).hold i) : Fl w' F g S bs s :=
  ⟨h.blk.only hO (fun hh => (hT F hh).1 rfl), h.ok, h.apt, fun hd k hk => by
    obtain ⟨m, h1, h2⟩ := h.at_ hd k hk
    exact ⟨m, (h.apt.ok k (by omega)).only h1 hO (fun i hi => (hT i hi).2.2 k (by omega)), h2⟩, fun hd => (h.pd hd).only (h.apt.ok 3 (by decide)) hO (fun i hi => ⟨(hT i hi).2.2 3 (by decide), (hT i hi).2.1⟩)⟩
/-- The filter's own block turns. -/
theorem Fl.own (h : Fl w F g S bs s) (hB : FlB w' F (fun k => (S k).f) g s') (hO : Only (fun i => i = F) w w') (hok : B2Ok s') (hd : s'.dead = false → s.dead = false) (hsrc : s'.src = s.src) (hdd : s'.d = s.d) : Fl w' F g S bs s' :=
  ⟨hB, hok, h.apt, fun he k hk => by
    obtain ⟨m, h1, h2⟩ := h.at_ (hd he) k hk
    exact ⟨m, (h.apt.ok k (by omega)).only h1 hO (fun i hi hh => h.apt.nF k (by omega) (hi ▸ hh)), by rw [hsrc]; exact h2⟩, fun he => by
    rw [hdd]
    exact (h.pd (hd he)).only (h.apt.ok 3 (by decide)) hO (fun i hi => ⟨fun hh => h.apt.nF 3 (by decide) (hi ▸ hh), fun e => h.apt.ne (hi.symm.trans e)⟩)⟩
theorem own_fset {w w' : World} (h : Only (fun i => i = F) w w') : Only (fset F g S) w w' := h.mono fun i hi => .inl hi
theorem Fl.old (h : Fl w F g S bs s) : F < w.heap.size := h.blk.lt

theorem B2Ok.withD (h : B2Ok s) : B2Ok { s with dead := true } := ⟨h.d, h.ps, h.len, h.told, h.ahead, h.num, h.target, h.waits, h.left⟩

set_option maxHeartbeats 1000000 in
theorem flbad_any (h : Fl w F g S bs s) : Calls Try.prog 33 #[.pointer (some ⟨F, 0, none⟩)] w fun e w' => e = .returned (.bool s.bad) ∧ w = w' := by
  have c3 := h.blk.dead
  have c4 := h.blk.dec
  cases hd : s.dead
  · obtain ⟨at_, r, c, bad, hB, _, _, _, _, _, ht⟩ := h.pd hd
    have hb : s.bad = bad := by
      unfold B2.bad
      rw [hd]
      rcases ht with ⟨rfl, e⟩ | ⟨rfl, e⟩
      · rw [e]; rfl
      · rw [e]; rfl
    rw [hd] at c3
    have K := Lib.hid (bad_any hB)
    rw [hb]
    clear hB ht h hb hd
    go_enter Try.func33, Try.ntmps33
    go_wp2_with fail
    refine K.out.mono ?_
    rintro e w' ⟨rfl, rfl⟩
    go_wp2_with fail
    go_ret
    exact ⟨rfl, rfl⟩
  · have hb : s.bad = true := by unfold B2.bad; rw [hd]; rfl
    rw [hd] at c3
    rw [hb]
    clear h hb hd
    go_enter Try.func33, Try.ntmps33
    go_wp2_with fail
    go_ret
    exact ⟨rfl, rfl⟩
end
end Go.Proofs.Ytdnkoeafnnohnaa

/-
  The filter's small calls: a stream's next byte, a place, the bit of an instruction, what is drawn.
-/
namespace Go.Proofs.Ytdnkoeafnnohnaa
open Go.RowKit

theorem b2_more {s : B2} {k n : Nat} {b : List UInt8} (hb : s.bad = false) (hs : s.src k = b.drop n) (hn : n < b.length) :
    s.read k = ((b.getD n 0).toNat, { s with src := fun i => if i = k then b.drop (n + 1) else s.src i }) := by
  have e : b.drop n = b.getD n 0 :: b.drop (n + 1) := by
    rw [List.drop_eq_getElem_cons hn]
    simp [List.getD, hn]
  unfold B2.read
  rw [if_neg (by rw [hb]; simp), hs, e]
theorem b2_end {s : B2} {k : Nat} (hb : s.bad = false) (hs : s.src k = []) : s.read k = (0, { s with dead := true }) := by
  unfold B2.read
  rw [if_neg (by rw [hb]; simp), hs]
theorem b2_read_bad {s : B2} {k : Nat} (hb : s.bad = true) : s.read k = (0, s) := by
  unfold B2.read
  rw [if_pos hb]
theorem bad_of {s : B2} (h : s.bad = false) : s.dead = false ∧ s.d ≠ none := by
  unfold B2.bad at h
  rw [Bool.or_eq_false_iff] at h
  refine ⟨h.1, fun e => ?_⟩
  rw [e] at h
  cases h.2
theorem b2_read_lt (s : B2) (k : Nat) : (s.read k).1 < 256 := by
  unfold B2.read
  split
  · simp
  · split
    · simp
    · exact UInt8.toNat_lt _

section
variable {w w' : World} {F g : Nat} {S : Nat → Sc} {bs : Nat → List UInt8} {s s' : B2}

/-- A source turns. -/
theorem Fl.took (h : Fl w F g S bs s) {k n : Nat} (hk : k < 3) (hA : (S k).At w' (bs k) n) (hO : Only (S k).turn w w') :
    Fl w' F g S bs { s with src := fun i => if i = k then (bs k).drop n else s.src i } := by
  have ht := fun i (hi : (S k).turn i) => (h.apt.ok k (by omega)).tf i hi
  refine ⟨(h.blk.only hO (fun hh => h.apt.nF k (by omega) (ht F hh))).same _ s.d, ⟨h.ok.d, h.ok.ps, h.ok.len, h.ok.told, h.ok.ahead, h.ok.num, h.ok.target, h.ok.waits, h.ok.left⟩, h.apt, fun hd l hl => ?_, fun hd => ?_⟩
  · by_cases e : l = k
    · subst e
      exact ⟨n, hA, if_pos rfl⟩
    · obtain ⟨m, h1, h2⟩ := h.at_ hd l hl
      exact ⟨m, (h.apt.ok l (by omega)).only h1 hO (fun i hi hh => h.apt.dis k l (by omega) (by omega) (fun e' => e e'.symm) i (ht i hi) hh), (if_neg e).trans h2⟩
  · exact (h.pd hd).only (h.apt.ok 3 (by decide)) hO (fun i hi => ⟨fun hh => h.apt.dis k 3 (by omega) (by decide) (by omega) i (ht i hi) hh, fun e => h.apt.ng k (by omega) (e ▸ ht i hi)⟩)
theorem Fl.die (h : Fl w F g S bs s) : Fl (w.setCell ⟨F, 263, none⟩ (.bool true)) F g S bs { s with dead := true } :=
  h.own (h.blk.putDead true) ((Only.refl (fun i => i = F) w).setCell (p := ⟨F, 263, none⟩) (.inl rfl) _) h.ok.withD (fun e => by cases e) rfl rfl

set_option maxRecDepth 100000 in
set_option maxHeartbeats 2000000 in
theorem b2read_any {k : Nat} (hk : k < 3) (h : Fl w F g S bs s) :
    Calls Try.prog 50 #[.pointer (some ⟨F, 0, none⟩), .int .i64 (k : Int)] w (BPost w F g S bs (.int .u8 ((s.read k).1 : Int)) (s.read k).2) := by
  have KB := Lib.hid (flbad_any h)
  cases hb : s.bad with
  | true =>
    rw [b2_read_bad hb]
    rw [hb] at KB
    have HH := Lib.hid h
    clear h hb
    go_enter Try.func50, Try.ntmps50
    go_wp2_with fail
    refine KB.out.mono ?_
    rintro e w1 ⟨rfl, rfl⟩
    go_wp2_with fail
    go_ret
    exact ⟨rfl, HH.out, Only.refl _ _⟩
  | false =>
    obtain ⟨hd, hdn⟩ := bad_of hb
    obtain ⟨n, hA, hs⟩ := h.at_ hd k hk
    have hok := h.apt.ok k (by omega)
    have hle := hok.le hA
    have cs : w.cell? ⟨F, k, none⟩ = some (.iface 37 (.pointer (some ⟨(S k).f, 0, none⟩))) := h.blk.src (by omega)
    have z3 := h.blk.free 263
    have k0 : (0 : Int) ≤ (k : Int) := by omega
    have k4 : (k : Int) < 4 := by omega
    have hm := method_next
    rw [hb] at KB
    by_cases hlt : n < (bs k).length
    · rw [b2_more hb hs hlt]
      have K := Lib.hid (hok.more hA hlt)
      have HH := Lib.hid h
      obtain ⟨x, hx⟩ : ∃ x, x = (bs k).getD n 0 := ⟨_, rfl⟩
      rw [← hx] at K ⊢
      clear h hb hd hdn hA hs hok hle hlt hx z3
      go_enter Try.func50, Try.ntmps50
      go_wp2_with fail
      refine KB.out.mono ?_
      rintro e w1 ⟨rfl, rfl⟩
      go_wp2_with fail
      refine K.out.mono ?_
      rintro e w1 ⟨rfl, hA1, hO1⟩
      have HA := Lib.hid (And.intro hA1 hO1)
      clear hA1 hO1 K KB cs
      go_wp2_with fail
      go_ret
      exact ⟨rfl, HH.out.took hk HA.out.1 HA.out.2, HA.out.2.mono fun i hi => .inr (.inr ⟨k, by omega, hi⟩)⟩
    · have hn : n = (bs k).length := by omega
      subst hn
      have hs0 : s.src k = [] := by rw [hs]; exact List.drop_length
      rw [b2_end hb hs0]
      have K := Lib.hid (hok.done hA)
      have HH := Lib.hid (And.intro h hs)
      clear h hb hd hdn hA hs hs0 hok hle hlt
      go_enter Try.func50, Try.ntmps50
      go_wp2_with fail
      refine KB.out.mono ?_
      rintro e w1 ⟨rfl, rfl⟩
      go_wp2_with fail
      refine K.out.mono ?_
      rintro e w1 ⟨rfl, hA1, hO1⟩
      have hF1 := HH.out.1.took hk hA1 hO1
      have es : (fun i => if i = k then (bs k).drop (bs k).length else s.src i) = s.src := by
        funext i
        by_cases e : i = k
        · subst e; rw [if_pos rfl, HH.out.2]
        · rw [if_neg e]
      rw [es] at hF1
      have z3 := hF1.blk.free 263
      have c3 : w1.cell? ⟨F, 263, none⟩ = some (.bool s.dead) := hF1.blk.dead
      have HA := Lib.hid (And.intro hF1 hO1)
      clear hA1 hO1 K KB cs hF1 es
      go_wp2_with fail
      go_ret
      exact ⟨rfl, HA.out.1.die, (HA.out.2.mono fun i hi => .inr (.inr ⟨k, by omega, hi⟩)).setCell (.inl (.inl rfl)) _⟩
end
end Go.Proofs.Ytdnkoeafnnohnaa

/-
  The filter's next byte.
-/
namespace Go.Proofs.Ytdnkoeafnnohnaa
open Go.RowKit

theorem b2_many_lt (k : Nat) (s : B2) : ∀ j, (B2.many k j (0, s)).1 < 256 ^ j
  | 0 => by simp [B2.many]
  | j + 1 => by
    have h1 := b2_many_lt k s j
    have h2 := b2_read_lt (B2.many k j (0, s)).2 k
    show (B2.many k j (0, s)).1 * 256 + ((B2.many k j (0, s)).2.read k).1 < _
    rw [Nat.pow_succ]
    omega
theorem b2_wr (x : Nat) : wr32 x < 4294967296 := Nat.mod_lt _ (by decide)

section
variable {w w' : World} {F g : Nat} {S : Nat → Sc} {bs : Nat → List UInt8} {s s' : B2}

set_option maxRecDepth 100000 in
set_option maxHeartbeats 2000000 in
theorem b2place_any (h : Fl w F g S bs s) :
    Calls Try.prog 49 #[.pointer (some ⟨F, 0, none⟩)] w (BPost w F g S bs (.int .u32 (s.place.1 : Int)) s.place.2) := by
  have c8 := h.blk.num
  have KC := Lib.hid (isCall_any s.num w)
  obtain ⟨k, hk⟩ : ∃ k, k = s.strm := ⟨_, rfl⟩
  have hk3 : k < 3 := by rw [hk]; unfold B2.strm; split <;> omega
  have HP := Lib.hid (show s.place = B2.many k 4 (0, s) by unfold B2.place; rw [hk])
  rw [HP.out]
  have HH := Lib.hid h
  have go : ∀ b : Bool, b = decide (s.num < 256) → Calls Try.prog 49 #[.pointer (some ⟨F, 0, none⟩)] w (BPost w F g S bs (.int .u32 ((B2.many k 4 (0, s)).1 : Int)) (B2.many k 4 (0, s)).2) := by
    intro b hb
    rw [← hb] at KC
    have hkb : k = if b = true then 1 else 2 := by
      rw [hk, hb]; unfold B2.strm
      by_cases e : s.num < 256
      · rw [if_pos e, decide_eq_true e]; rfl
      · rw [if_neg e, decide_eq_false e]; rfl
    clear hb hk h
    cases b
    · obtain rfl : k = 2 := hkb
      clear hk3
      go_enter Try.func49, Try.ntmps49
      go_wp2_with fail
      refine KC.out.mono ?_
      rintro e w1 ⟨rfl, rfl⟩
      clear KC
      go_wp2_with fail
      go_loopw [4, 10] (fun p i wr => ∃ j : Nat, j ≤ 4 ∧ i = .int .i64 (j : Int) ∧ p = .int .u32 (((B2.many 2 j (0, s)).1 : Nat) : Int) ∧ Fl wr F g S bs (B2.many 2 j (0, s)).2 ∧ Only (fset F g S) w wr) (fun _ i _ => 4 - (intOf i).toNat)
      case atStart => exact ⟨0, by omega, rfl, rfl, HH.out, Only.refl _ _⟩
      case round =>
        clear HH
        obtain ⟨j, hj, rfl, rfl, hf, ho⟩ := hrel
        by_cases hlt : j < 4
        · have K := Lib.hid (b2read_any (k := 2) (by omega) hf)
          have hx := b2_read_lt (B2.many 2 j (0, s)).2 2
          have hp : (B2.many 2 j (0, s)).1 < 16777216 := Nat.lt_of_lt_of_le (b2_many_lt 2 s j) (Nat.pow_le_pow_right (n := 256) (by omega) (show j ≤ 3 by omega))
          have HO := Lib.hid ho
          have hlt' : (j : Int) < 4 := by omega
          have HN := Lib.hid (show B2.many 2 (j + 1) (0, s) = ((B2.many 2 j (0, s)).1 * 256 + ((B2.many 2 j (0, s)).2.read 2).1, ((B2.many 2 j (0, s)).2.read 2).2) from rfl)
          clear hf ho
          generalize B2.many 2 j (0, s) = t at *
          generalize t.2.read 2 = u at *
          have e1 : IntKind.u32.wrap ((t.1 : Int) * 256) = (t.1 : Int) * 256 := u32_of _ (by omega) (by omega)
          have e2 := u32_or_byte t.1 u.1 hp hx
          have e3 : IntKind.u32.wrap (u.1 : Int) = (u.1 : Int) := u32_of _ (by omega) (by omega)
          clear hp hx
          go_wp2_with fail
          refine K.out.mono ?_
          rintro e w1 ⟨rfl, hf1, ho1⟩
          have HF := Lib.hid (And.intro hf1 (HO.out.trans ho1))
          clear hf1 ho1 K HO
          go_wp2_with fail
          go_roundw
          case rel => exact ⟨j + 1, by omega, by go_num, by rw [HN.out]; go_num, by rw [HN.out]; exact HF.out.1, HF.out.2⟩
          case measure => simp [intOf]; omega
        · obtain rfl : j = 4 := by omega
          have HF := Lib.hid (And.intro hf ho)
          clear hf ho
          go_wp2_with fail
          go_ret
          exact ⟨rfl, HF.out.1, HF.out.2⟩
    · obtain rfl : k = 1 := hkb
      clear hk3
      go_enter Try.func49, Try.ntmps49
      go_wp2_with fail
      refine KC.out.mono ?_
      rintro e w1 ⟨rfl, rfl⟩
      clear KC
      go_wp2_with fail
      go_loopw [4, 10] (fun p i wr => ∃ j : Nat, j ≤ 4 ∧ i = .int .i64 (j : Int) ∧ p = .int .u32 (((B2.many 1 j (0, s)).1 : Nat) : Int) ∧ Fl wr F g S bs (B2.many 1 j (0, s)).2 ∧ Only (fset F g S) w wr) (fun _ i _ => 4 - (intOf i).toNat)
      case atStart => exact ⟨0, by omega, rfl, rfl, HH.out, Only.refl _ _⟩
      case round =>
        clear HH
        obtain ⟨j, hj, rfl, rfl, hf, ho⟩ := hrel
        by_cases hlt : j < 4
        · have K := Lib.hid (b2read_any (k := 1) (by omega) hf)
          have hx := b2_read_lt (B2.many 1 j (0, s)).2 1
          have hp : (B2.many 1 j (0, s)).1 < 16777216 := Nat.lt_of_lt_of_le (b2_many_lt 1 s j) (Nat.pow_le_pow_right (n := 256) (by omega) (show j ≤ 3 by omega))
          have HO := Lib.hid ho
          have hlt' : (j : Int) < 4 := by omega
          have HN := Lib.hid (show B2.many 1 (j + 1) (0, s) = ((B2.many 1 j (0, s)).1 * 256 + ((B2.many 1 j (0, s)).2.read 1).1, ((B2.many 1 j (0, s)).2.read 1).2) from rfl)
          clear hf ho
          generalize B2.many 1 j (0, s) = t at *
          generalize t.2.read 1 = u at *
          have e1 : IntKind.u32.wrap ((t.1 : Int) * 256) = (t.1 : Int) * 256 := u32_of _ (by omega) (by omega)
          have e2 := u32_or_byte t.1 u.1 hp hx
          have e3 : IntKind.u32.wrap (u.1 : Int) = (u.1 : Int) := u32_of _ (by omega) (by omega)
          clear hp hx
          go_wp2_with fail
          refine K.out.mono ?_
          rintro e w1 ⟨rfl, hf1, ho1⟩
          have HF := Lib.hid (And.intro hf1 (HO.out.trans ho1))
          clear hf1 ho1 K HO
          go_wp2_with fail
          go_roundw
          case rel => exact ⟨j + 1, by omega, by go_num, by rw [HN.out]; go_num, by rw [HN.out]; exact HF.out.1, HF.out.2⟩
          case measure => simp [intOf]; omega
        · obtain rfl : j = 4 := by omega
          have HF := Lib.hid (And.intro hf ho)
          clear hf ho
          go_wp2_with fail
          go_ret
          exact ⟨rfl, HF.out.1, HF.out.2⟩
  exact go _ rfl

/-- An instruction's bit. -/
theorem b2bit_any (h : Fl w F g S bs s) (hd : s.dead = false) :
    Calls Try.prog 48 #[.pointer (some ⟨g, 0, none⟩), .pointer (some ⟨F, 5 + s.num, none⟩)] w (BPost w F g S bs (.int .i64 (s.bit.1 : Int)) s.bit.2) := by
  have hM : Mch (fun w ps => FlB w F (fun k => (S k).f) g { s with ps := ps }) g (S 3) (bs 3) 258 w ⟨s.ps, s.d⟩ := ⟨h.apt.ok 3 (by decide), h.pd hd, h.blk, ⟨h.ok.ps, h.ok.len, h.ok.d⟩⟩
  refine (lw_bit (k := 0) (b2_prb F (fun k => (S k).f) g s) (fun i hi => hi ▸ ⟨h.apt.nF 3 (by decide), h.apt.ne⟩) rfl h.ok.num hM).mono ?_
  rintro e w' ⟨rfl, hm, ho⟩
  have hO : Only (fset F g S) w w' := ho.mono fun i hi => by
    rcases hi with hi | hi | hi
    · exact .inr (.inr ⟨3, by decide, hi⟩)
    · exact .inr (.inl hi)
    · exact .inl hi
  refine ⟨rfl, ⟨FlB.same hm.row s.src s.bit.2.d, ⟨hm.ok.x, hm.ok.ps, hm.ok.len, h.ok.told, h.ok.ahead, h.ok.num, h.ok.target, h.ok.waits, h.ok.left⟩, h.apt, fun hd k hk => ?_, fun _ => hm.pd⟩, hO⟩
  obtain ⟨m, h1, h2⟩ := h.at_ hd k hk
  refine ⟨m, (h.apt.ok k (by omega)).only h1 ho (fun i hi hh => ?_), h2⟩
  rcases hi with hi | hi | hi
  · exact h.apt.dis 3 k (by decide) (by omega) (by omega) i ((h.apt.ok 3 (by decide)).tf i hi) hh
  · exact h.apt.ng k (by omega) (hi ▸ hh)
  · exact h.apt.nF k (by omega) (hi ▸ hh)
end
end Go.Proofs.Ytdnkoeafnnohnaa
