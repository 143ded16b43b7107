/-
  CwRow, CwTree, PkLay, CwMem, ZeroKit, CwZero, PkRow, PkSt: put together.
-/
import Derived.Test.YtoencondpbkomaaGreatQ03
import Derived.Test.YtoencondpbkomaaGreatQ01
import Derived.Laws.Tables
import Derived.Deep.Cut
set_option linter.unusedVariables false
set_option linter.unusedSimpArgs false
/-
  The program's coder of ranges over probabilities that lie wherever they lie: bits, trees, straight.
-/
namespace Go.Proofs.YtoencondpbkomaaGreat
open Go.RowKit

/-- what a coder turns -/
def cset (g : Nat) (G : Option Nat) (B : Nat → Prop) : Nat → Prop := fun i => i = g ∨ G = some i ∨ B i
theorem cset_of {g : Nat} {G : Option Nat} {B : Nat → Prop} {i : Nat} (h : pset g G i) : cset g G B i := by
  rcases h with h | h
  · exact .inl h
  · exact .inr (.inl h)
theorem cset_trans {w w1 w2 : World} {g : Nat} {B : Nat → Prop} {G G1 : Option Nat} (h : Only (cset g G B) w w1) (hn : Nwr w G G1) (k : Only (cset g G1 B) w1 w2) : Only (cset g G B) w w2 :=
  h.trans' k fun i hi => by
    rcases hi with hi | hi | hi
    · exact .inl (.inl hi)
    · rcases hn i hi with h1 | h1
      · exact .inl (.inr (.inl h1))
      · exact .inr h1
    · exact .inl (.inr (.inr hi))
/-- its probabilities lie apart from it -/
def Off (g : Nat) (G : Option Nat) (B : Nat → Prop) : Prop := ∀ i, B i → i ≠ g ∧ G ≠ some i
theorem Off.grow {w : World} {g : Nat} {G G' : Option Nat} {B : Nat → Prop} (h : Off g G B) (hn : Nwr w G G') (ho : ∀ i, B i → i < w.heap.size) : Off g G' B := fun i hi => ⟨(h i hi).1, fun e => by
  rcases hn i e with h1 | h1
  · exact (h i hi).2 h1
  · have := ho i hi
    omega⟩
/-- the machine and its probabilities, in memory; it may be asked for k bits more -/
structure Cmch (R : World → List Nat → Prop) (g : Nat) (G : Option Nat) (L k : Nat) (w : World) (t : Pm En) : Prop where
  pn : Pn w g G t.x
  row : R w t.ps
  ok : PmOk okE L k t
def CPost (R : World → List Nat → Prop) (B : Nat → Prop) (g : Nat) (G : Option Nat) (L k : Nat) (w : World) (t : Pm En) (e : Ending) (w' : World) : Prop :=
  e = .returned (.tuple #[]) ∧ ∃ G', Cmch R g G' L k w' t ∧ Nwr w G G' ∧ Only (cset g G B) w w'

section
variable {R : World → List Nat → Prop} {B : Nat → Prop} {ad : Nat → Nat × Nat} {L g b i p a k : Nat} {G : Option Nat} {w : World} {c : Co} {r : Nat} {e : En} {ps : List Nat} {t : Pm En}

/-- low is more, the range less, a probability another one -/
theorem Pw.tur {lo' r' q n : Nat} (Z : Prb R B ad L) (h : Pw w g G c r) (hR : R w ps) (hab : ad a = (b, i)) (ha : a < L) (hB : Off g G B) :
    Pw (((w.setCell ⟨g, 0, none⟩ (.int .u64 (lo' : Int))).setCell ⟨g, 1, none⟩ (.int .u32 (r' : Int))).drewN n |>.setCell ⟨b, i, none⟩ (.int .u16 (q : Int))) g G ⟨c.gs, c.wt, c.fu, lo'⟩ r' ∧
    R (((w.setCell ⟨g, 0, none⟩ (.int .u64 (lo' : Int))).setCell ⟨g, 1, none⟩ (.int .u32 (r' : Int))).drewN n |>.setCell ⟨b, i, none⟩ (.int .u16 (q : Int))) (ps.set a q) ∧
    Only (cset g G B) w (((w.setCell ⟨g, 0, none⟩ (.int .u64 (lo' : Int))).setCell ⟨g, 1, none⟩ (.int .u32 (r' : Int))).drewN n |>.setCell ⟨b, i, none⟩ (.int .u16 (q : Int))) := by
  have hBb : B b := by have := Z.blk ha; rw [hab] at this; exact this
  obtain ⟨hbg, hbG⟩ := hB b hBb
  obtain ⟨A, m, hB', hOw, hG, hne⟩ := h
  have h1 : Only (fun j => j = g) w (((w.setCell ⟨g, 0, none⟩ (.int .u64 (lo' : Int))).setCell ⟨g, 1, none⟩ (.int .u32 (r' : Int))).drewN n) :=
    (((Only.refl (fun j => j = g) w).setCell (p := ⟨g, 0, none⟩) (.inl rfl) _).setCell (p := ⟨g, 1, none⟩) (.inl rfl) _).drewN n
  have h2 := (h1.mono (S' := fun j => j = g ∨ j = b) (fun j hj => .inl hj)).setCell (p := ⟨b, i, none⟩) (.inl (.inr rfl)) (.int .u16 (q : Int))
  have hp := Z.put (Z.only hR h1 (fun j hj e => (hB j hj).1 e)) ha q
  rw [hab] at hp
  refine ⟨⟨A, m, (((hB'.put 0 _).put 1 _).drewN n).far hbg.symm _, own_only' hOw h2 ?_, hG, hne⟩, hp, h2.mono ?_⟩
  · intro j hj hs
    rcases hs with hs | hs
    · exact hne (hG.symm.trans (hs ▸ hj))
    · exact hbG (hG.symm.trans (hs ▸ hj))
  · intro j hj
    rcases hj with hj | hj
    · exact .inl hj
    · exact .inr (.inr (hj ▸ hBb))
/-- the range is less, a probability another one -/
theorem Pw.tur' {r' q n : Nat} (Z : Prb R B ad L) (h : Pw w g G c r) (hR : R w ps) (hab : ad a = (b, i)) (ha : a < L) (hB : Off g G B) :
    Pw ((w.setCell ⟨g, 1, none⟩ (.int .u32 (r' : Int))).drewN n |>.setCell ⟨b, i, none⟩ (.int .u16 (q : Int))) g G c r' ∧
    R ((w.setCell ⟨g, 1, none⟩ (.int .u32 (r' : Int))).drewN n |>.setCell ⟨b, i, none⟩ (.int .u16 (q : Int))) (ps.set a q) ∧
    Only (cset g G B) w ((w.setCell ⟨g, 1, none⟩ (.int .u32 (r' : Int))).drewN n |>.setCell ⟨b, i, none⟩ (.int .u16 (q : Int))) := by
  have hBb : B b := by have := Z.blk ha; rw [hab] at this; exact this
  obtain ⟨hbg, hbG⟩ := hB b hBb
  obtain ⟨A, m, hB', hOw, hG, hne⟩ := h
  have h1 : Only (fun j => j = g) w ((w.setCell ⟨g, 1, none⟩ (.int .u32 (r' : Int))).drewN n) :=
    ((Only.refl (fun j => j = g) w).setCell (p := ⟨g, 1, none⟩) (.inl rfl) _).drewN n
  have h2 := (h1.mono (S' := fun j => j = g ∨ j = b) (fun j hj => .inl hj)).setCell (p := ⟨b, i, none⟩) (.inl (.inr rfl)) (.int .u16 (q : Int))
  have hp := Z.put (Z.only hR h1 (fun j hj e => (hB j hj).1 e)) ha q
  rw [hab] at hp
  refine ⟨⟨A, m, ((hB'.put 1 _).drewN n).far hbg.symm _, own_only' hOw h2 ?_, hG, hne⟩, hp, h2.mono ?_⟩
  · intro j hj hs
    rcases hs with hs | hs
    · exact hne (hG.symm.trans (hs ▸ hj))
    · exact hbG (hG.symm.trans (hs ▸ hj))
  · intro j hj
    rcases hj with hj | hj
    · exact .inl hj
    · exact .inr (.inr (hj ▸ hBb))

def CBit (R : World → List Nat → Prop) (B : Nat → Prop) (g : Nat) (G : Option Nat) (w : World) (ps : List Nat) (e' : En) (x : Ending) (w' : World) : Prop :=
  x = .returned (.tuple #[]) ∧ ∃ G', Pn w' g G' e' ∧ R w' ps ∧ Nwr w G G' ∧ Only (cset g G B) w w'
/-- the end of a bit: what was evened out -/
theorem cbit_end {w w1 w2 : World} {ps : List Nat} {x : Ending} {e' : En} (Z : Prb R B ad L) (hR : R w1 ps) (hO : Only (cset g G B) w w1) (hB : Off g G B) (hs : w.heap.size = w1.heap.size) (h : PnPost w1 g G (.tuple #[]) e' x w2) : CBit R B g G w ps e' x w2 := by
  obtain ⟨rfl, G', hP, hN, hO2⟩ := h
  refine ⟨rfl, G', hP, Z.only hR hO2 (fun i hi h => ?_), fun i hi => (hN i hi).imp id (fun h => by rw [hs]; exact h), hO.trans (hO2.mono fun i hi => cset_of hi)⟩
  rcases h with h | h
  · exact (hB i hi).1 h
  · exact (hB i hi).2 h

set_option maxHeartbeats 4000000 in
theorem cbit_zero {z : Nat} (hz : z = e.r / 2048 * p) (Z : Prb R B ad L) (h : Pn w g G e) (he : EnOk e) (hR : R w ps) (hab : ad a = (b, i)) (ha : a < L) (hpi : p = ps.getD a 0) (hp : POk p) (hB : Off g G B) (hlen : e.l ≤ 999999999) :
    Calls Tryz.prog 84 #[.pointer (some ⟨g, 0, none⟩), .pointer (some ⟨b, i, none⟩), .int .i64 0] w (CBit R B g G w (ps.set a (up0 p)) (En.even ⟨e.n, e.l, z⟩)) := by
  obtain ⟨b0, b1⟩ := bound_in he.1 he.2.1 hp
  have hr := he.2.1
  obtain ⟨p0, p1⟩ := hp
  obtain ⟨c, hP, hc⟩ := h
  rw [← hz] at b0 b1
  obtain ⟨c1, z1⟩ := hP.cell1
  have hx : w.cell? ⟨b, i, none⟩ = some (.int .u16 (p : Int)) := by have := Z.cell hR ha; rw [hab] at this; rw [hpi]; exact this
  have zx : w.frozen? ⟨b, i, none⟩ = false := by have := Z.free hR ha; rw [hab] at this; exact this
  have e0 : IntKind.u32.wrap (p : Int) = (p : Int) := u32_of _ (by omega) (by omega)
  have e1 : IntKind.u32.wrap ((e.r : Int) / 2048 * (p : Int)) = (z : Int) := by
    rw [show (e.r : Int) / 2048 * (p : Int) = (z : Int) by rw [hz]; simp]
    exact u32_of _ (by omega) (by omega)
  have e1' : IntKind.u32.wrap ((e.r : Int) / 2048) = (e.r : Int) / 2048 := u32_of _ (by omega) (by omega)
  have hcz : CoN c e.n e.l z := hc.mono (by omega) (by omega)
  have e2 : IntKind.u16.wrap (2048 - (p : Int)) = 2048 - (p : Int) := u16_in _ (by omega)
  obtain ⟨u, hu⟩ : ∃ u, u = (2048 - p) / 32 := ⟨_, rfl⟩
  have e3 : IntKind.u16.wrap ((2048 - (p : Int)).tdiv 32) = (u : Int) := by
    rw [Int.tdiv_eq_ediv_of_nonneg (by omega), show (2048 - (p : Int)) / 32 = (u : Int) by omega]
    exact u16_in _ (by omega)
  have hup : up0 p = p + u := by unfold up0; omega
  have e5 : IntKind.u16.wrap ((p : Int) + (u : Int)) = ((p + u : Nat) : Int) := by rw [← Int.natCast_add]; exact u16_in _ (by omega)
  rw [hup]
  have HT := Lib.hid (fun n => Pw.tur' (r' := z) (q := p + u) (n := n) Z hP hR hab ha hB)
  have K := Lib.hid (fun n => evenOut_any (HT.out n).1 hcz (by omega) (by omega))
  have HS := Lib.hid (fun n => show w.heap.size = ((w.setCell ⟨g, 1, none⟩ (.int .u32 (z : Int))).drewN n |>.setCell ⟨b, i, none⟩ (.int .u16 ((p + u : Nat) : Int))).heap.size by simp [World.setCell, World.drewN])
  have HB := Lib.hid hB
  have HZ := Lib.hid Z
  have hbg : b ≠ g := (hB b (by have := Z.blk ha; rw [hab] at this; exact this)).1
  clear hu hup hz hpi hP hc hcz hR he hB Z ha hab
  generalize p + u = q at *
  go_enter Tryz.func84, Tryz.ntmps84
  go_wp2_with fail
  go_quiet (fail)
  go_wp2_with fail
  go_region
  all_goals go_wp2_with fail
  refine (K.out (nq + 1)).mono ?_
  intro x w2 hx2
  have HE := Lib.hid (cbit_end HZ.out (HT.out (nq + 1)).2.1 (HT.out (nq + 1)).2.2 HB.out (HS.out (nq + 1)) hx2)
  obtain ⟨rfl, _⟩ := hx2
  clear HT K HS
  go_wp2_with fail
  first | go_end0 | refine bodyPost_ret (results_none rfl _ _ _) rfl ?_
  exact HE.out

set_option maxHeartbeats 4000000 in
theorem cbit_one {z : Nat} (hz : z = e.r / 2048 * p) (Z : Prb R B ad L) (h : Pn w g G e) (he : EnOk e) (hR : R w ps) (hab : ad a = (b, i)) (ha : a < L) (hpi : p = ps.getD a 0) (hp : POk p) (hB : Off g G B) (hlen : e.l ≤ 999999999) :
    Calls Tryz.prog 84 #[.pointer (some ⟨g, 0, none⟩), .pointer (some ⟨b, i, none⟩), .int .i64 1] w (CBit R B g G w (ps.set a (up1 p)) (En.even ⟨e.n + z, e.l, e.r - z⟩)) := by
  obtain ⟨b0, b1⟩ := bound_in he.1 he.2.1 hp
  have hr := he.2.1
  obtain ⟨p0, p1⟩ := hp
  obtain ⟨c, hP, hc⟩ := h
  rw [← hz] at b0 b1
  obtain ⟨c1, z1⟩ := hP.cell1
  obtain ⟨c0, z0⟩ : w.cell? ⟨g, 0, none⟩ = some (.int .u64 (c.lo : Int)) ∧ w.frozen? ⟨g, 0, none⟩ = false := by obtain ⟨A, m, hB, _⟩ := hP; exact ⟨hB.cell 0, hB.free 0⟩
  have hx : w.cell? ⟨b, i, none⟩ = some (.int .u16 (p : Int)) := by have := Z.cell hR ha; rw [hab] at this; rw [hpi]; exact this
  have zx : w.frozen? ⟨b, i, none⟩ = false := by have := Z.free hR ha; rw [hab] at this; exact this
  have e0 : IntKind.u32.wrap (p : Int) = (p : Int) := u32_of _ (by omega) (by omega)
  have e1 : IntKind.u32.wrap ((e.r : Int) / 2048 * (p : Int)) = (z : Int) := by
    rw [show (e.r : Int) / 2048 * (p : Int) = (z : Int) by rw [hz]; simp]
    exact u32_of _ (by omega) (by omega)
  have e1' : IntKind.u32.wrap ((e.r : Int) / 2048) = (e.r : Int) / 2048 := u32_of _ (by omega) (by omega)
  have hlo := hc.low
  have e7 : IntKind.u64.wrap (z : Int) = (z : Int) := u64_in _ (by omega)
  have e8 : IntKind.u64.wrap ((c.lo : Int) + (z : Int)) = ((c.lo + z : Nat) : Int) := by rw [← Int.natCast_add]; exact u64_in _ (by omega)
  have e9 : IntKind.u32.wrap ((e.r : Int) - (z : Int)) = ((e.r - z : Nat) : Int) := by rw [show (e.r : Int) - (z : Int) = ((e.r - z : Nat) : Int) by omega]; exact u32_of _ (by omega) (by omega)
  have hcz : CoN (c.plus z) (e.n + z) e.l (e.r - z) := hc.plus (by omega) (by omega)
  have hup : up1 p = p - p / 32 := rfl
  have e5 : IntKind.u16.wrap ((p : Int) - (p : Int) / 32) = ((p - p / 32 : Nat) : Int) := by rw [show (p : Int) - (p : Int) / 32 = ((p - p / 32 : Nat) : Int) by omega]; exact u16_in _ (by omega)
  have e6 : IntKind.u16.wrap ((p : Int) / 32) = (p : Int) / 32 := u16_in _ (by omega)
  rw [hup]
  have HT := Lib.hid (fun n => Pw.tur (lo' := c.lo + z) (r' := e.r - z) (q := p - p / 32) (n := n) Z hP hR hab ha hB)
  have K := Lib.hid (fun n => evenOut_any (HT.out n).1 hcz (by omega) (by omega))
  have HS := Lib.hid (fun n => show w.heap.size = (((w.setCell ⟨g, 0, none⟩ (.int .u64 ((c.lo + z : Nat) : Int))).setCell ⟨g, 1, none⟩ (.int .u32 ((e.r - z : Nat) : Int))).drewN n |>.setCell ⟨b, i, none⟩ (.int .u16 ((p - p / 32 : Nat) : Int))).heap.size by simp [World.setCell, World.drewN])
  have HB := Lib.hid hB
  have HZ := Lib.hid Z
  have hbg : b ≠ g := (hB b (by have := Z.blk ha; rw [hab] at this; exact this)).1
  clear hup hz hpi hP hc hcz hR he hB Z ha hab hlo
  generalize p - p / 32 = q at *
  generalize e.r - z = r1 at *
  generalize c.lo + z = lo1 at *
  go_enter Tryz.func84, Tryz.ntmps84
  go_wp2_with fail
  go_quiet (fail)
  go_wp2_with fail
  go_region
  all_goals go_wp2_with fail
  refine (K.out (nq + 1)).mono ?_
  intro x w2 hx2
  have HE := Lib.hid (cbit_end HZ.out (HT.out (nq + 1)).2.1 (HT.out (nq + 1)).2.2 HB.out (HS.out (nq + 1)) hx2)
  obtain ⟨rfl, _⟩ := hx2
  clear HT K HS
  go_wp2_with fail
  first | go_end0 | refine bodyPost_ret (results_none rfl _ _ _) rfl ?_
  exact HE.out

theorem cw_bit {bit : Nat} (Z : Prb R B ad L) (hB : Off g G B) (hab : ad a = (b, i)) (ha : a < L) (h : Cmch R g G L (k + 1) w t) (hb : bit ≤ 1) :
    Calls Tryz.prog 84 #[.pointer (some ⟨g, 0, none⟩), .pointer (some ⟨b, i, none⟩), .int .i64 (bit : Int)] w (CPost R B g G L k w (bitP encM t a (bit : Int)).2) := by
  have hal : a < t.ps.length := by rw [h.ok.len]; exact ha
  have hok := (bitP_ok encM_ok (a := a) (w := (bit : Int)) h.ok ha (fun _ => by omega)).2
  have hlen : t.x.l ≤ 999999999 := by have := h.ok.x.2; omega
  have hdef : (bitP encM t a (bit : Int)).2 = ⟨t.ps.set a (upOf (t.ps.getD a 0) bit), t.x.bit (t.ps.getD a 0) bit⟩ := rfl
  rw [hdef] at hok ⊢
  have hp := getD_ok h.ok.ps hal
  unfold upOf En.bit at hok ⊢
  by_cases hb0 : bit = 0
  · subst hb0
    rw [if_pos rfl, if_pos rfl] at hok ⊢
    refine (cbit_zero rfl Z h.pn h.ok.x.1 h.row hab ha rfl hp hB hlen).mono ?_
    rintro x w' ⟨rfl, G', h1, h2, h3, h4⟩
    exact ⟨rfl, G', ⟨h1, h2, hok⟩, h3, h4⟩
  · obtain rfl : bit = 1 := by omega
    rw [if_neg hb0, if_neg hb0] at hok ⊢
    refine (cbit_one rfl Z h.pn h.ok.x.1 h.row hab ha rfl hp hB hlen).mono ?_
    rintro x w' ⟨rfl, G', h1, h2, h3, h4⟩
    exact ⟨rfl, G', ⟨h1, h2, hok⟩, h3, h4⟩
theorem cw_straight {n V : Nat} (Z : Prb R B ad L) (hB : Off g G B) (h : Cmch R g G L (k + 1) w t) (hn : n ≤ 32) (hV : V < 4294967296) (hok : okE k (strE t.x V n n)) :
    Calls Tryz.prog 112 #[.pointer (some ⟨g, 0, none⟩), .int .i64 (n : Int), .int .u32 (V : Int)] w (CPost R B g G L k w ⟨t.ps, strE t.x V n n⟩) := by
  refine (pstraight_any h.pn h.ok.x.1 hn hV (by have := h.ok.x.2; omega)).mono ?_
  rintro x w' ⟨rfl, G', hP, hN, hO⟩
  refine ⟨rfl, G', ⟨hP, Z.only h.row hO (fun i hi e => ?_), ⟨h.ok.ps, h.ok.len, hok⟩⟩, hN, hO.mono fun i hi => cset_of hi⟩
  rcases e with e | e
  · exact (hB i hi).1 e
  · exact (hB i hi).2 e
end
end Go.Proofs.YtoencondpbkomaaGreat

/-
  The program's coder of ranges codes numbers by trees that lie wherever they lie.
-/
namespace Go.Proofs.YtoencondpbkomaaGreat
open Go.RowKit

section
variable {R : World → List Nat → Prop} {B : Nat → Prop} {ad : Nat → Nat × Nat} {L g a k : Nat} {G : Option Nat} {w : World} {t : Pm En}

set_option maxHeartbeats 4000000 in
theorem cw_tree {n b o len cap V : Nat} (Z : Prb R B ad L) (hB : Off g G B) (had : ∀ m, m < 2 ^ n → ad (a + m) = (b, o + m)) (haL : a + 2 ^ n ≤ L) (h : Cmch R g G L (k + n) w t) (hn : 2 ^ n ≤ len) (hn8 : n ≤ 8) (hV : V < 4294967296) :
    Calls Tryz.prog 90 #[.pointer (some ⟨g, 0, none⟩), .slice (some ⟨b, o, none⟩) len cap, .int .i64 (n : Int), .int .u32 (V : Int)] w
      (CPost R B g G L k w (treeP encM t a n (V : Int)).2) := by
  have HZ := Lib.hid Z
  have HB := Lib.hid hB
  have HAD := Lib.hid had
  have HM := Lib.hid h
  have HV := Lib.hid hV
  have HT := Lib.hid (treeG_ok encM_ok (k := k) (a := a) (n := n) (v := (V : Int)) h.ok haL (fun _ => by omega))
  have en1 : IntKind.i64.wrap ((n : Int) - 1) = (n : Int) - 1 := IntWalk.i64_in _ (by omega)
  have HLL := Lib.hid haL
  clear h Z hB had hV haL
  go_enter Tryz.func90, Tryz.ntmps90
  go_wp2_with fail
  go_loopw [8, 9, 10, 12] (fun m _ _ i wr => ∃ (j : Nat) (T : Tg En) (G' : Option Nat), j ≤ n ∧ T = treeG encM t a n (V : Int) j ∧ i = .int .i64 (j : Int) ∧ m = .int .i64 (T.m : Int) ∧ Cmch R g G' L (k + n - j) wr T.t ∧ Nwr w G G' ∧ Only (cset g G B) w wr) (fun _ _ _ i _ => n - (intOf i).toNat)
  case atStart => exact ⟨0, _, G, Nat.zero_le _, rfl, rfl, rfl, HM.out, Nwr.refl _ _, Only.refl _ _⟩
  case round =>
    obtain ⟨j, T, G', hj, hT, rfl, rfl, hM, hN, hO⟩ := hrel
    have tok := HT.out j hj
    rw [← hT] at tok
    have t4 := tok.2.1
    have t5 := tok.2.2
    have HO := Lib.hid hO
    have HN := Lib.hid hN
    have HT0 := Lib.hid hT
    by_cases hlt : j < n
    · have hpow : 2 ^ (j + 1) ≤ 2 ^ n := Nat.pow_le_pow_right (by omega) hlt
      have h256 := pow8 hn8
      obtain ⟨kk, hk⟩ : ∃ k, k = n - 1 - j := ⟨_, rfl⟩
      have hbit := bitOf_le V kk
      have hil : T.m < 2 ^ n := by omega
      have hoff := HB.out.grow hN (fun i hi => HZ.out.old HM.out.row hi)
      have K := cw_bit (k := k + n - (j + 1)) (a := a + T.m) (i := o + T.m) (bit := bitOf V kk) HZ.out hoff (HAD.out T.m hil) (by have := HLL.out; omega) (by rw [show k + n - (j + 1) + 1 = k + n - j by omega]; exact hM) hbit
      have hm1 : (T.m : Int) < (len : Int) := by omega
      have hm0 : (0 : Int) ≤ (T.m : Int) := by omega
      have hst : tgStep encM a j (want (V : Int) kk) T = treeG encM t a n (V : Int) (j + 1) := by rw [HT0.out, hk]; rfl
      rw [want_nat] at hst
      have HST := Lib.hid hst
      have hsm : (tgStep encM a j ((bitOf V kk : Nat) : Int) T).m = 2 * T.m + bitOf V kk := rfl
      have hsd : (tgStep encM a j ((bitOf V kk : Nat) : Int) T).t = (bitP encM T.t (a + T.m) ((bitOf V kk : Nat) : Int)).2 := rfl
      rw [← hsd] at K
      have K := Lib.hid K
      have eb := bit_and V kk HV.out
      have hmin : min kk 32 = kk := by omega
      have hk0 : (0 : Int) ≤ (kk : Int) := by omega
      have HSZ := Lib.hid hO.size
      have e3 : IntKind.i64.wrap ((n : Int) - 1 - (j : Int)) = (kk : Int) := by rw [show (n : Int) - 1 - (j : Int) = (kk : Int) by omega]; exact IntWalk.i64_in _ (by omega)
      have hlt' : (j : Int) < (n : Int) := by omega
      have hm5 : T.m < 512 := by omega
      have ej : IntKind.i64.wrap ((j : Int) + 1) = (j : Int) + 1 := IntWalk.i64_in _ (by omega)
      have HSM := Lib.hid hsm
      generalize bitOf V kk = u at *
      have e2 : IntKind.i64.wrap (2 * (T.m : Int)) = 2 * (T.m : Int) := IntWalk.i64_in _ (by omega)
      have e4 : IntKind.i64.wrap (2 * (T.m : Int) + (u : Int)) = ((2 * T.m + u : Nat) : Int) := by rw [show 2 * (T.m : Int) + (u : Int) = ((2 * T.m + u : Nat) : Int) by omega]; exact IntWalk.i64_in _ (by omega)
      have e5 : IntKind.i64.wrap (u : Int) = (u : Int) := IntWalk.i64_in _ (by omega)
      clear hM hN hO hT tok t4 t5 hpow h256 hbit hil hsm hsd hoff hst HT hk hm5
      generalize tgStep encM a j (u : Int) T = T' at *
      generalize T.m = y at *
      go_wp2_with fail
      refine K.out.mono ?_
      rintro x w1 ⟨rfl, G2, hM1, hN1, hO1⟩
      have HM1 := Lib.hid hM1
      have HN1 := Lib.hid (HN.out.trans hN1 HSZ.out)
      have HO1 := Lib.hid (cset_trans HO.out HN.out hO1)
      clear hM1 hN1 hO1 HO HN K
      go_wp2_with fail
      go_roundw
      case rel =>
        exact ⟨j + 1, T', G2, by omega, HST.out, by go_num, by rw [HSM.out]; go_num, HM1.out, HN1.out, HO1.out⟩
      case measure => simp [intOf]; omega
    · obtain rfl : j = n := by omega
      rw [show k + j - j = k by omega] at hM
      have HM2 := Lib.hid hM
      clear hM hN hO tok t4 t5 HT hT
      generalize T.m = y at *
      go_wp2_with fail
      first | go_end0 | refine bodyPost_ret (results_none rfl _ _ _) rfl ?_
      have := HM2.out
      rw [HT0.out] at this
      exact ⟨rfl, G', this, HN.out, HO.out⟩

set_option maxHeartbeats 4000000 in
theorem cw_rev {n b o len cap V : Nat} (Z : Prb R B ad L) (hB : Off g G B) (had : ∀ m, m < 2 ^ n → ad (a + m) = (b, o + m)) (haL : a + 2 ^ n ≤ L) (h : Cmch R g G L (k + n) w t) (hn : 2 ^ n ≤ len) (hn8 : n ≤ 8) (hV : V < 4294967296) :
    Calls Tryz.prog 111 #[.pointer (some ⟨g, 0, none⟩), .slice (some ⟨b, o, none⟩) len cap, .int .i64 (n : Int), .int .u32 (V : Int)] w
      (CPost R B g G L k w (revP encM t a n (V : Int)).2) := by
  have HZ := Lib.hid Z
  have HB := Lib.hid hB
  have HAD := Lib.hid had
  have HM := Lib.hid h
  have HV := Lib.hid hV
  have HT := Lib.hid (revG_ok encM_ok (k := k) (a := a) (n := n) (v := (V : Int)) h.ok haL (fun _ => by omega))
  have HLL := Lib.hid haL
  clear h Z hB had hV haL
  go_enter Tryz.func111, Tryz.ntmps111
  go_wp2_with fail
  go_loopw [8, 9, 10, 12] (fun m _ _ i wr => ∃ (j : Nat) (T : Tg En) (G' : Option Nat), j ≤ n ∧ T = revG encM t a (V : Int) j ∧ i = .int .i64 (j : Int) ∧ m = .int .i64 (T.m : Int) ∧ Cmch R g G' L (k + n - j) wr T.t ∧ Nwr w G G' ∧ Only (cset g G B) w wr) (fun _ _ _ i _ => n - (intOf i).toNat)
  case atStart => exact ⟨0, _, G, Nat.zero_le _, rfl, rfl, rfl, HM.out, Nwr.refl _ _, Only.refl _ _⟩
  case round =>
    obtain ⟨j, T, G', hj, hT, rfl, rfl, hM, hN, hO⟩ := hrel
    have tok := HT.out j hj
    rw [← hT] at tok
    have t4 := tok.2.1
    have t5 := tok.2.2.1
    have HO := Lib.hid hO
    have HN := Lib.hid hN
    have HT0 := Lib.hid hT
    by_cases hlt : j < n
    · have hpow : 2 ^ (j + 1) ≤ 2 ^ n := Nat.pow_le_pow_right (by omega) hlt
      have h256 := pow8 hn8
      have hbit := bitOf_le V j
      have hil : T.m < 2 ^ n := by omega
      have hoff := HB.out.grow hN (fun i hi => HZ.out.old HM.out.row hi)
      have K := cw_bit (k := k + n - (j + 1)) (a := a + T.m) (i := o + T.m) (bit := bitOf V j) HZ.out hoff (HAD.out T.m hil) (by have := HLL.out; omega) (by rw [show k + n - (j + 1) + 1 = k + n - j by omega]; exact hM) hbit
      have hm1 : (T.m : Int) < (len : Int) := by omega
      have hm0 : (0 : Int) ≤ (T.m : Int) := by omega
      have hst : tgStep encM a j (want (V : Int) j) T = revG encM t a (V : Int) (j + 1) := by rw [HT0.out]; rfl
      rw [want_nat] at hst
      have HST := Lib.hid hst
      have hsm : (tgStep encM a j ((bitOf V j : Nat) : Int) T).m = 2 * T.m + bitOf V j := rfl
      have hsd : (tgStep encM a j ((bitOf V j : Nat) : Int) T).t = (bitP encM T.t (a + T.m) ((bitOf V j : Nat) : Int)).2 := rfl
      rw [← hsd] at K
      have K := Lib.hid K
      have eb := bit_and V j HV.out
      have hmin : min j 32 = j := by omega
      have hk0 : (0 : Int) ≤ (j : Int) := by omega
      have HSZ := Lib.hid hO.size
      have hlt' : (j : Int) < (n : Int) := by omega
      have hm5 : T.m < 512 := by omega
      have ej : IntKind.i64.wrap ((j : Int) + 1) = (j : Int) + 1 := IntWalk.i64_in _ (by omega)
      have HSM := Lib.hid hsm
      generalize bitOf V j = u at *
      have e2 : IntKind.i64.wrap (2 * (T.m : Int)) = 2 * (T.m : Int) := IntWalk.i64_in _ (by omega)
      have e4 : IntKind.i64.wrap (2 * (T.m : Int) + (u : Int)) = ((2 * T.m + u : Nat) : Int) := by rw [show 2 * (T.m : Int) + (u : Int) = ((2 * T.m + u : Nat) : Int) by omega]; exact IntWalk.i64_in _ (by omega)
      have e5 : IntKind.i64.wrap (u : Int) = (u : Int) := IntWalk.i64_in _ (by omega)
      clear hM hN hO hT tok t4 t5 hpow h256 hbit hil hsm hsd hoff hst HT  hm5
      generalize tgStep encM a j (u : Int) T = T' at *
      generalize T.m = y at *
      go_wp2_with fail
      refine K.out.mono ?_
      rintro x w1 ⟨rfl, G2, hM1, hN1, hO1⟩
      have HM1 := Lib.hid hM1
      have HN1 := Lib.hid (HN.out.trans hN1 HSZ.out)
      have HO1 := Lib.hid (cset_trans HO.out HN.out hO1)
      clear hM1 hN1 hO1 HO HN K
      go_wp2_with fail
      go_roundw
      case rel =>
        exact ⟨j + 1, T', G2, by omega, HST.out, by go_num, by rw [HSM.out]; go_num, HM1.out, HN1.out, HO1.out⟩
      case measure => simp [intOf]; omega
    · obtain rfl : j = n := by omega
      rw [show k + j - j = k by omega] at hM
      have HM2 := Lib.hid hM
      clear hM hN hO tok t4 t5 HT hT
      generalize T.m = y at *
      go_wp2_with fail
      first | go_end0 | refine bodyPost_ret (results_none rfl _ _ _) rfl ?_
      have := HM2.out
      rw [HT0.out] at this
      exact ⟨rfl, G', this, HN.out, HO.out⟩

end
end Go.Proofs.YtoencondpbkomaaGreat

/-
  The program's probabilities of packets: where the one with the document's number lies, behind the first.
-/
namespace Go.Proofs.YtoencondpbkomaaGreat
open Go.RowKit

/-- where the probability with the document's number lies -/
def sg (a : Nat) : Nat := if a < 192 then a else if a < 240 then a + 192 else if a < 432 then a - 48 else if a < 688 then a + 1159 else a - 256
theorem sg_lt {a : Nat} (h : a < 1847) : sg a < 1847 := by unfold sg; repeat' split
                                                           all_goals omega
theorem sg_inj {a b : Nat} (ha : a < 1847) (hb : b < 1847) (h : sg a = sg b) : a = b := by
  unfold sg at h
  repeat' split at h
  all_goals omega
theorem sg_low {a : Nat} (h : a < 192) : sg a = a := by unfold sg; rw [if_pos h]
theorem sg_rep {a : Nat} (h : 192 ≤ a) (h1 : a < 240) : sg a = a + 192 := by unfold sg; rw [if_neg (by omega), if_pos h1]
theorem sg_long {a : Nat} (h : 240 ≤ a) (h1 : a < 432) : sg a = a - 48 := by unfold sg; rw [if_neg (by omega), if_neg (by omega), if_pos h1]
theorem sg_slot {a : Nat} (h : 432 ≤ a) (h1 : a < 688) : sg a = a + 1159 := by unfold sg; rw [if_neg (by omega), if_neg (by omega), if_neg (by omega), if_pos h1]
theorem sg_rest {a : Nat} (h : 688 ≤ a) : sg a = a - 256 := by unfold sg; rw [if_neg (by omega), if_neg (by omega), if_neg (by omega), if_neg (by omega)]

/-- all probabilities but literals' lie in the block g, from o0 on -/
def Lay (ad : Nat → Nat × Nat) (g o0 : Nat) : Prop := ∀ a, a < 1847 → ad a = (g, o0 + sg a)
section
variable {ad : Nat → Nat × Nat} {g o0 a i : Nat}
theorem Lay.low (h : Lay ad g o0) (h0 : a < 192) (hi : i = o0 + a) : ad a = (g, i) := by rw [h a (by omega), sg_low h0, hi]
theorem Lay.rep (h : Lay ad g o0) (h0 : 192 ≤ a) (h1 : a < 240) (hi : i = o0 + (a + 192)) : ad a = (g, i) := by rw [h a (by omega), sg_rep h0 h1, hi]
theorem Lay.long (h : Lay ad g o0) (h0 : 240 ≤ a) (h1 : a < 432) (hi : i = o0 + (a - 48)) : ad a = (g, i) := by rw [h a (by omega), sg_long h0 h1, hi]
theorem Lay.slot (h : Lay ad g o0) (h0 : 432 ≤ a) (h1 : a < 688) (hi : i = o0 + (a + 1159)) : ad a = (g, i) := by rw [h a (by omega), sg_slot h0 h1, hi]
theorem Lay.rest (h : Lay ad g o0) (h0 : 688 ≤ a) (h1 : a < 1847) (hi : i = o0 + (a - 256)) : ad a = (g, i) := by rw [h a h1, sg_rest h0, hi]
end
end Go.Proofs.YtoencondpbkomaaGreat

/-
  The program's coder of LZMA in memory: its numbers, its probabilities, its coder of ranges, the bytes that were told.
-/
namespace Go.Proofs.YtoencondpbkomaaGreat
open Go.RowKit

/-- where the number k of its fields lies, all probabilities left out -/
def cfat (k : Nat) : Nat := if k < 11 then k else k + 1847
theorem cfat_sg {a k : Nat} (h : a < 1847) : cfat k ≠ 11 + sg a := by
  have := sg_lt h
  unfold cfat
  split <;> omega
theorem cfat_inj {j k : Nat} (h : cfat j = cfat k) : j = k := by
  unfold cfat at h
  repeat' split at h
  all_goals omega

/-- Block g is a coder: its fields, and the probabilities in it. -/
def LcAt (w : World) (g : Nat) (fs : List Value) (ps : List Nat) : Prop :=
  ∃ cs : Array Value, Blk w g 82 cs ∧ cs.size = 1860 ∧ fs.length = 13 ∧ (∀ k, k < 13 → cs[cfat k]? = fs[k]?) ∧ ∀ a, a < 1847 → cs[11 + sg a]? = some (.int .u16 ((ps.getD a 0 : Nat) : Int))

section
variable {w w' : World} {g : Nat} {fs : List Value} {ps : List Nat}
theorem LcAt.lt (h : LcAt w g fs ps) : g < w.heap.size := by
  obtain ⟨cs, hB, _⟩ := h
  exact hB.lt
theorem LcAt.only {S : Nat → Prop} (h : LcAt w g fs ps) (hO : Only S w w') (hg : ¬ S g) : LcAt w' g fs ps := by
  obtain ⟨cs, hB, r⟩ := h
  exact ⟨cs, hB.only hO hg, r⟩
theorem LcAt.cell (h : LcAt w g fs ps) (k : Nat) (hk : k < 13) : w.cell? ⟨g, cfat k, none⟩ = fs[k]? := by
  obtain ⟨cs, hB, _, _, h1, _⟩ := h
  rw [hB.cell, h1 k hk]
theorem LcAt.free (h : LcAt w g fs ps) (i : Nat) : w.frozen? ⟨g, i, none⟩ = false := by
  obtain ⟨cs, hB, _⟩ := h
  exact hB.free i
theorem LcAt.chance (h : LcAt w g fs ps) {a : Nat} (ha : a < 1847) : w.cell? ⟨g, 11 + sg a, none⟩ = some (.int .u16 ((ps.getD a 0 : Nat) : Int)) := by
  obtain ⟨cs, hB, _, _, _, h2⟩ := h
  rw [hB.cell, h2 a ha]
theorem LcAt.put (h : LcAt w g fs ps) (k : Nat) (hk : k < 13) (v : Value) : LcAt (w.setCell ⟨g, cfat k, none⟩ v) g (fs.set k v) ps := by
  obtain ⟨cs, hB, hs, hl, h1, h2⟩ := h
  have hf : cfat k < 1860 := by unfold cfat; split <;> omega
  refine ⟨_, hB.put (cfat k) v, by simp [hs], by simp [hl], fun j hj => ?_, fun a ha => ?_⟩
  · by_cases hjk : j = k
    · subst hjk
      rw [Array.getElem?_setIfInBounds, List.getElem?_set]
      simp [hs, hf, hl, hj]
    · rw [Array.getElem?_setIfInBounds_ne (fun e => hjk (cfat_inj e.symm)), List.getElem?_set_ne (fun e => hjk e.symm)]
      exact h1 j hj
  · rw [Array.getElem?_setIfInBounds_ne (cfat_sg ha)]
    exact h2 a ha
theorem LcAt.prob (h : LcAt w g fs ps) {a : Nat} (ha : a < 1847) (hl : 1847 ≤ ps.length) (q : Nat) : LcAt (w.setCell ⟨g, 11 + sg a, none⟩ (.int .u16 (q : Int))) g fs (ps.set a q) := by
  obtain ⟨cs, hB, hs, hfl, h1, h2⟩ := h
  have hf := sg_lt ha
  refine ⟨_, hB.put (11 + sg a) _, by simp [hs], hfl, fun j hj => ?_, fun b hb => ?_⟩
  · rw [Array.getElem?_setIfInBounds_ne (cfat_sg ha).symm]
    exact h1 j hj
  · by_cases hab : a = b
    · subst hab
      rw [Array.getElem?_setIfInBounds]
      simp only [List.getD, List.getElem?_set]
      simp [hs, show 11 + sg a < 1860 by omega, show a < ps.length by omega]
    · rw [Array.getElem?_setIfInBounds_ne (fun e => hab (sg_inj ha hb (by omega))), h2 b hb]
      simp only [List.getD, List.getElem?_set_ne hab]
theorem LcAt.same {ps' : List Nat} (h : LcAt w g fs ps) (he : ∀ a, a < 1847 → ps'.getD a 0 = ps.getD a 0) : LcAt w g fs ps' := by
  obtain ⟨cs, hB, hs, hfl, h1, h2⟩ := h
  exact ⟨cs, hB, hs, hfl, h1, fun a ha => by rw [he a ha]; exact h2 a ha⟩
end

/-- what stays where it is: the coder, the literals' probabilities (so many), the coder of ranges -/
structure Koc where
  g : Nat
  lb : Nat
  nl : Nat
  eg : Nat
def Koc.Bk (K : Koc) : Nat → Prop := fun i => i = K.g ∨ i = K.lb
def Koc.ad (K : Koc) (a : Nat) : Nat × Nat := if a < 1847 then (K.g, 11 + sg a) else (K.lb, a - 1847)
def Ck (K : Koc) (fs : List Value) (w : World) (ps : List Nat) : Prop := LcAt w K.g fs ps ∧ Row w K.lb (ps.drop 1847) K.nl ∧ ps.length = 1847 + K.nl

theorem Koc.prb (K : Koc) (fs : List Value) (hn : K.g ≠ K.lb) : Prb (Ck K fs) K.Bk K.ad (1847 + K.nl) where
  blk {a} _ := by unfold Koc.ad Koc.Bk; split <;> simp
  cell {w ps a} h ha := by
    unfold Koc.ad
    split
    · rename_i h1
      exact h.1.chance h1
    · rename_i h1
      have hlen := h.2.2
      have hi : a - 1847 < (ps.drop 1847).length := by rw [List.length_drop]; omega
      have := h.2.1.cell hi
      dsimp only
      rw [this]
      simp only [List.getD, List.getElem?_drop]
      rw [show 1847 + (a - 1847) = a by omega]
  free {w ps a} h ha := by
    unfold Koc.ad
    split
    · exact h.1.free _
    · exact h.2.1.free _
  put {w ps a} h ha q := by
    have hlen := h.2.2
    unfold Koc.ad
    split
    · rename_i h1
      dsimp only
      refine ⟨h.1.prob h1 (by omega) q, ?_, by rw [List.length_set]; exact hlen⟩
      rw [List.drop_set_of_lt h1]
      exact h.2.1.only ((Only.refl (fun j => j = K.g) w).setCell (p := ⟨K.g, _, none⟩) (.inl rfl) _) (fun e => hn e.symm)
    · rename_i h1
      dsimp only
      refine ⟨(h.1.only ((Only.refl (fun j => j = K.lb) w).setCell (p := ⟨K.lb, _, none⟩) (.inl rfl) _) hn).same (fun b hb => ?_), ?_, by rw [List.length_set]; exact hlen⟩
      · simp only [List.getD]
        rw [List.getElem?_set_ne (by omega)]
      · have := h.2.1.put (a - 1847) q
        have e : (ps.set a q).drop 1847 = (ps.drop 1847).set (a - 1847) q := by
          rw [List.drop_set, if_neg (by omega)]
        rw [e]
        exact this
  only {w w' ps S} h hO hS := ⟨h.1.only hO (hS _ (.inl rfl)), h.2.1.only hO (hS _ (.inr rfl)), h.2.2⟩
  len h := h.2.2
  old {w ps i} h hi := by
    rcases hi with rfl | rfl
    · exact h.1.lt
    · exact h.2.1.lt

/-- its fields -/
def cwFs (K : Koc) (z : Lzs) (A : Option Addr) (c : Nat) : List Value :=
  [.int .i64 (z.lc : Int), .int .i64 (z.lp : Int), .int .i64 (z.pb : Int), .int .i64 (z.dict : Int), .pointer (some ⟨K.eg, 0, none⟩), .slice A z.out.length c,
    .int .i64 (z.st : Int), .int .u32 (z.r0 : Int), .int .u32 (z.r1 : Int), .int .u32 (z.r2 : Int), .int .u32 (z.r3 : Int), .slice (some ⟨K.lb, 0, none⟩) K.nl K.nl, .bool z.ended]
/-- the block of what was told -/
def tb (A : Option Addr) (n c : Nat) : Option Nat := (Value.slice A n c).ownBlock

/-- what lies apart: Ge the bytes of the coder of ranges, Gt what was told -/
structure Cap (K : Koc) (Ge Gt : Option Nat) : Prop where
  gl : K.g ≠ K.lb
  ge : K.g ≠ K.eg
  le : K.lb ≠ K.eg
  eo : ∀ i, Ge = some i → i ≠ K.g ∧ i ≠ K.lb ∧ i ≠ K.eg
  ta : ∀ i, Gt = some i → i ≠ K.g ∧ i ≠ K.lb ∧ i ≠ K.eg ∧ Ge ≠ some i
theorem Cap.off {K : Koc} {Ge Gt : Option Nat} (h : Cap K Ge Gt) : Off K.eg Ge K.Bk := by
  rintro i (rfl | rfl)
  · exact ⟨h.ge, fun e => (h.eo _ e).1 rfl⟩
  · exact ⟨h.le, fun e => (h.eo _ e).2.1 rfl⟩

/-- The coder, whole: state z as numbers, machine t; it may be asked for k bits more. -/
structure Cw (K : Koc) (w : World) (Ge : Option Nat) (A : Option Addr) (c : Nat) (z : Lzs) (k : Nat) (t : Pm En) : Prop where
  mch : Cmch (Ck K (cwFs K z A c)) K.eg Ge (1847 + K.nl) k w t
  told : w.ownsRow 0 5 1 (.slice A z.out.length c) z.out.length (bv z.out)
  ap : Cap K Ge (tb A z.out.length c)
/-- what a call turns that tells nothing -/
def Koc.own (K : Koc) (Ge : Option Nat) : Nat → Prop := cset K.eg Ge K.Bk
def CMid (K : Koc) (w : World) (Ge : Option Nat) (v : Value) (A : Option Addr) (c : Nat) (z : Lzs) (k : Nat) (t : Pm En) (e : Ending) (w' : World) : Prop :=
  e = .returned v ∧ ∃ Ge', Cw K w' Ge' A c z k t ∧ Nwr w Ge Ge' ∧ Only (K.own Ge) w w'
/-- what a call turns that tells bytes -/
def Koc.all (K : Koc) (Ge Gt : Option Nat) : Nat → Prop := fun i => K.own Ge i ∨ Gt = some i
def CPut (K : Koc) (w : World) (Ge Gt : Option Nat) (v : Value) (z : Lzs) (k : Nat) (t : Pm En) (e : Ending) (w' : World) : Prop :=
  e = .returned v ∧ ∃ Ge' A c, Cw K w' Ge' A c z k t ∧ Nwr w Ge Ge' ∧ Nwr w Gt (tb A z.out.length c) ∧ Only (K.all Ge Gt) w w'

section
variable {K : Koc} {w w' : World} {Ge Ge' : Option Nat} {A : Option Addr} {c : Nat} {z : Lzs} {k : Nat} {t : Pm En}
theorem Cw.dec (h : Cw K w Ge A c z k t) : LcAt w K.g (cwFs K z A c) t.ps := h.mch.row.1
theorem Cw.old (h : Cw K w Ge A c z k t) : K.g < w.heap.size ∧ K.lb < w.heap.size ∧ K.eg < w.heap.size ∧ (∀ i, Ge = some i → i < w.heap.size) ∧ ∀ i, tb A z.out.length c = some i → i < w.heap.size :=
  ⟨h.mch.row.1.lt, h.mch.row.2.1.lt, h.mch.pn.lt, fun _ hi => h.mch.pn.old hi, fun _ hi => own_old h.told hi⟩
theorem Cap.grow {Gt : Option Nat} (ha : Cap K Ge Gt) (hn : Nwr w Ge Ge') (h1 : K.g < w.heap.size) (h2 : K.lb < w.heap.size) (h3 : K.eg < w.heap.size) (h4 : ∀ i, Gt = some i → i < w.heap.size) : Cap K Ge' Gt := by
  refine ⟨ha.gl, ha.ge, ha.le, fun i hi => ?_, fun i hi => ?_⟩
  · rcases hn i hi with e | e
    · exact ha.eo i e
    · omega
  · obtain ⟨a1, a2, a3, a4⟩ := ha.ta i hi
    refine ⟨a1, a2, a3, fun e => ?_⟩
    rcases hn i e with e | e
    · exact a4 e
    · have := h4 i hi
      omega
theorem Cap.own {Gt : Option Nat} (h : Cap K Ge Gt) {i : Nat} (hi : Gt = some i) : ¬ K.own Ge i := by
  obtain ⟨a1, a2, a3, a4⟩ := h.ta i hi
  rintro (e | e | e | e)
  · exact a3 e
  · exact a4 e
  · exact a1 e
  · exact a2 e
theorem Cw.only {S : Nat → Prop} (h : Cw K w Ge A c z k t) (hO : Only S w w') (hg : ¬ S K.g) (hl : ¬ S K.lb) (he : ¬ S K.eg) (hG : ∀ i, Ge = some i → ¬ S i) (hT : ∀ i, tb A z.out.length c = some i → ¬ S i) : Cw K w' Ge A c z k t :=
  ⟨⟨h.mch.pn.only hO he hG, (K.prb _ h.ap.gl).only h.mch.row hO (fun i hi => by rcases hi with rfl | rfl; exact hg; exact hl), h.mch.ok⟩, own_only' h.told hO hT, h.ap⟩
theorem Cw.quiet (h : Cw K w Ge A c z k t) (hO : Only (fun _ => False) w w') : Cw K w' Ge A c z k t := h.only hO (fun h => h) (fun h => h) (fun h => h) (fun _ _ h => h) (fun _ _ h => h)
theorem Cw.drewN (h : Cw K w Ge A c z k t) (n : Nat) : Cw K (w.drewN n) Ge A c z k t := h.quiet ((Only.refl _ w).drewN n)
theorem Cw.less (h : Cw K w Ge A c z k t) {k' : Nat} (hk : k' ≤ k) : Cw K w Ge A c z k' t := ⟨⟨h.mch.pn, h.mch.row, h.mch.ok.mono encM_ok hk⟩, h.told, h.ap⟩
/-- a call of the coder of ranges -/
theorem Cw.bits {t' : Pm En} {k' : Nat} {e : Ending} (h : Cw K w Ge A c z k t) (hp : CPost (Ck K (cwFs K z A c)) K.Bk K.eg Ge (1847 + K.nl) k' w t' e w') : CMid K w Ge (.tuple #[]) A c z k' t' e w' := by
  obtain ⟨rfl, G', hm, hn, ho⟩ := hp
  obtain ⟨o1, o2, o3, o4, o5⟩ := h.old
  exact ⟨rfl, G', ⟨hm, own_only' h.told ho (fun i hi => h.ap.own hi), h.ap.grow hn o1 o2 o3 o5⟩, hn, ho⟩
/-- a field is stored -/
theorem Cw.put (h : Cw K w Ge A c z k t) (i : Nat) (hi : i < 13) (v : Value) {z' : Lzs} (hz : (cwFs K z A c).set i v = cwFs K z' A c) (ho : z'.out = z.out) : Cw K (w.setCell ⟨K.g, cfat i, none⟩ v) Ge A c z' k t := by
  have hO := (Only.refl (fun j => j = K.g) w).setCell (p := ⟨K.g, cfat i, none⟩) (.inl rfl) v
  refine ⟨⟨h.mch.pn.only hO (fun e => h.ap.ge e.symm) (fun j hj => (h.ap.eo j hj).1), ⟨?_, h.mch.row.2.1.only hO (fun e => h.ap.gl e.symm), h.mch.row.2.2⟩, h.mch.ok⟩, ?_, ?_⟩
  · have := h.dec.put i hi v
    rw [hz] at this
    exact this
  · rw [ho]
    exact own_only' h.told hO (fun j hj => (h.ap.ta j hj).1)
  · rw [ho]
    exact h.ap
theorem Only.cwn_put (h : Only (K.own Ge) w w') (i : Nat) (v : Value) : Only (K.own Ge) w (w'.setCell ⟨K.g, cfat i, none⟩ v) := h.setCell (p := ⟨K.g, cfat i, none⟩) (.inl (.inr (.inr (.inl rfl)))) v
theorem CMid.trans {w1 : World} {Ge1 : Option Nat} {v : Value} {z' : Lzs} {t' : Pm En} {k' : Nat} {e : Ending} (hn : Nwr w Ge Ge1) (h : Only (K.own Ge) w w1) (hp : CMid K w1 Ge1 v A c z' k' t' e w') : CMid K w Ge v A c z' k' t' e w' := by
  obtain ⟨rfl, G2, hz, hn2, ho2⟩ := hp
  exact ⟨rfl, G2, hz, hn.trans hn2 h.size, cset_trans h hn ho2⟩
end
end Go.Proofs.YtoencondpbkomaaGreat

/-
  Zeros of great structs, cell by cell.
-/
namespace Go.Proofs.YtoencondpbkomaaGreat
open Go.RowKit

/-- a type's zero, cell by cell; it is never written out -/
def zOf (P : Program) (t : TypeId) : Array Value := match P.info? t with
  | some i => (match i.zero with | some v => v.cells | none => #[])
  | none => #[]
/-- kinds of zeros -/
def vk : Nat → Value
  | 0 => .int .u16 0
  | 1 => .int .i64 0
  | 2 => .int .u32 0
  | 3 => .nilIface
  | 4 => .pointer none
  | 5 => .slice none 0 0
  | _ => .bool false
def isz (k : Nat) (v : Value) : Bool := match k, v with
  | 0, .int .u16 x => x == 0
  | 1, .int .i64 x => x == 0
  | 2, .int .u32 x => x == 0
  | 3, .nilIface => true
  | 4, .pointer none => true
  | 5, .slice none 0 0 => true
  | 6, .bool false => true
  | _, _ => false
theorem isz_sound (k : Nat) (v : Value) (h : isz k v = true) : v = vk k := by
  unfold isz at h
  split at h
  all_goals first
    | (cases h; done)
    | rfl
    | (have := eq_of_beq h; subst this; rfl)
end Go.Proofs.YtoencondpbkomaaGreat

/-
  The program's coder of LZMA, as it is built.
-/
namespace Go.Proofs.YtoencondpbkomaaGreat
open Go.RowKit

def czk (i : Nat) : Nat := if i < 4 then 1 else if i = 4 then 4 else if i = 5 then 5 else if i = 6 then 1 else if i < 11 then 2 else if i < 1858 then 0 else if i = 1858 then 5 else 6
def cchk : Nat → List Value → Bool
  | i, [] => i == 1860
  | i, v :: l => isz (czk i) v && cchk (i + 1) l
theorem cchk_sound : ∀ (l : List Value) (i : Nat), cchk i l = true → i + l.length = 1860 ∧ ∀ j, j < l.length → l[j]? = some (vk (czk (i + j)))
  | [], i, h => ⟨by have := eq_of_beq h; simpa using this, fun j hj => by simp at hj⟩
  | v :: l, i, h => by
    unfold cchk at h
    obtain ⟨h1, h2⟩ := Bool.and_eq_true_iff.1 h
    obtain ⟨g1, g2⟩ := cchk_sound l (i + 1) h2
    refine ⟨by simp only [List.length_cons]; omega, fun j hj => ?_⟩
    cases j with
    | zero => simp [isz_sound _ _ h1]
    | succ j =>
      simp only [List.length_cons] at hj
      rw [List.getElem?_cons_succ, g2 j (by omega)]
      congr 3
      omega
set_option maxRecDepth 1000000 in
theorem czero_chk : cchk 0 (zOf Tryz.prog 82).toList = true := by kernel_rfl
def madeCo (Z : Array Value) (a b c d : Int) (x : Option Addr) : Array Value :=
  ((((Z.setIfInBounds 0 (.int .i64 a)).setIfInBounds 1 (.int .i64 b)).setIfInBounds 2 (.int .i64 c)).setIfInBounds 3 (.int .i64 d)).setIfInBounds 4 (.pointer x)
theorem czero_size : (zOf Tryz.prog 82).size = 1860 := by
  have := (cchk_sound _ _ czero_chk).1
  rw [Array.length_toList] at this
  omega
theorem czero_get (i : Nat) (h : i < 1860) : (zOf Tryz.prog 82)[i]? = some (vk (czk i)) := by
  have := (cchk_sound _ _ czero_chk).2 i (by rw [Array.length_toList, czero_size]; exact h)
  rw [Nat.zero_add, Array.getElem?_toList] at this
  exact this
theorem czero_low (a : Nat) (h : a < 1847) : (zOf Tryz.prog 82)[11 + a]? = some (.int .u16 0) := by
  rw [czero_get _ (by omega)]
  unfold czk
  rw [if_neg (by omega), if_neg (by omega), if_neg (by omega), if_neg (by omega), if_neg (by omega), if_pos (by omega)]
  rfl
def coPlaces : List (Nat × Nat) := [(0, 4), (4, 1), (5, 1), (6, 1), (7, 4), (11, 1847), (1858, 1), (1859, 1)]
/-- the fields of a coder that was built, and not begun -/
def coFs (a b c d : Int) (eg : Nat) (v : Value) : List Value :=
  [.int .i64 a, .int .i64 b, .int .i64 c, .int .i64 d, .pointer (some ⟨eg, 0, none⟩), .slice none 0 0, .int .i64 0, .int .u32 0, .int .u32 0, .int .u32 0, .int .u32 0, v, .bool false]
theorem made_co {g eg : Nat} {a b c d : Int} {w : World} (hB : Blk w g 82 (madeCo (zOf Tryz.prog 82) a b c d (some ⟨eg, 0, none⟩))) : LcAt w g (coFs a b c d eg (.slice none 0 0)) (List.replicate 1847 0) := by
  have hs := czero_size
  refine ⟨_, hB, by unfold madeCo; simp [hs], rfl, fun k hk => ?_, fun a ha => ?_⟩
  · unfold madeCo
    match k, hk with
    | 0, _ => exact (by rw [show cfat 0 = 0 from rfl]; simp [hs]; rfl)
    | 1, _ => exact (by rw [show cfat 1 = 1 from rfl]; simp [hs]; rfl)
    | 2, _ => exact (by rw [show cfat 2 = 2 from rfl]; simp [hs]; rfl)
    | 3, _ => exact (by rw [show cfat 3 = 3 from rfl]; simp [hs]; rfl)
    | 4, _ => exact (by rw [show cfat 4 = 4 from rfl]; simp [hs]; rfl)
    | 5, _ => exact (by rw [show cfat 5 = 5 from rfl]; simp [czero_get 5 (by decide)]; rfl)
    | 6, _ => exact (by rw [show cfat 6 = 6 from rfl]; simp [czero_get 6 (by decide)]; rfl)
    | 7, _ => exact (by rw [show cfat 7 = 7 from rfl]; simp [czero_get 7 (by decide)]; rfl)
    | 8, _ => exact (by rw [show cfat 8 = 8 from rfl]; simp [czero_get 8 (by decide)]; rfl)
    | 9, _ => exact (by rw [show cfat 9 = 9 from rfl]; simp [czero_get 9 (by decide)]; rfl)
    | 10, _ => exact (by rw [show cfat 10 = 10 from rfl]; simp [czero_get 10 (by decide)]; rfl)
    | 11, _ => exact (by rw [show cfat 11 = 1858 from rfl]; simp [czero_get 1858 (by decide)]; rfl)
    | 12, _ => exact (by rw [show cfat 12 = 1859 from rfl]; simp [czero_get 1859 (by decide)]; rfl)
    | k + 13, hk => omega
  · have := sg_lt ha
    unfold madeCo
    rw [Array.getElem?_setIfInBounds_ne (by omega), Array.getElem?_setIfInBounds_ne (by omega), Array.getElem?_setIfInBounds_ne (by omega), Array.getElem?_setIfInBounds_ne (by omega), Array.getElem?_setIfInBounds_ne (by omega), czero_low _ this]
    have e : (List.replicate 1847 (0 : Nat)).getD a 0 = 0 := by
      unfold List.getD
      rw [List.getElem?_replicate, if_pos ha]
      rfl
    rw [e]
    rfl

set_option maxRecDepth 1000000 in
theorem czeroCells_chk : cchk 0 Tryz.zeroCells82.toList = true := by kernel_rfl
theorem czero_link : Tryz.zeroCells82 = zOf Tryz.prog 82 := by
  have hs : Tryz.zeroCells82.size = 1860 := by
    have := (cchk_sound _ _ czeroCells_chk).1
    rw [Array.length_toList] at this
    omega
  have hg : ∀ i, i < 1860 → Tryz.zeroCells82[i]? = some (vk (czk i)) := by
    intro i h
    have := (cchk_sound _ _ czeroCells_chk).2 i (by rw [Array.length_toList, hs]; exact h)
    rw [Nat.zero_add, Array.getElem?_toList] at this
    exact this
  apply Array.ext_getElem?
  intro i
  by_cases h : i < 1860
  · rw [hg i h, czero_get i h]
  · rw [Array.getElem?_eq_none (by omega), Array.getElem?_eq_none (by rw [czero_size]; omega)]
end Go.Proofs.YtoencondpbkomaaGreat

/-
  The program's probabilities of packets: those of a literal, and of a distance's slot.
-/
namespace Go.Proofs.YtoencondpbkomaaGreat
open Go.RowKit

theorem ofInt_w64 (a : Nat) (h : a < 18446744073709551616) : (BitVec.ofInt 64 (a : Int)).toNat = a := by simp; omega
theorem i64_and_low (n k : Nat) (hn : n < 9223372036854775808) (hk : k ≤ 62) : bits .and .i64 (n : Int) (wrap64 (wrap64 (2 ^ k) - 1)) = ((n % 2 ^ k : Nat) : Int) := by
  have hp : 2 ^ k ≤ 2 ^ 62 := Nat.pow_le_pow_right (by omega) hk
  have h1 : 1 ≤ 2 ^ k := Nat.one_le_two_pow
  have hw : wrap64 (2 ^ k) = ((2 ^ k : Nat) : Int) := by
    rw [cast_pow2]
    generalize 2 ^ k = y at *
    unfold wrap64
    omega
  have hw2 : wrap64 (((2 ^ k : Nat) : Int) - 1) = ((2 ^ k - 1 : Nat) : Int) := by
    generalize 2 ^ k = y at *
    unfold wrap64
    omega
  rw [hw, hw2]
  show IntKind.i64.wrap ((BitVec.ofInt 64 (n : Int) &&& BitVec.ofInt 64 ((2 ^ k - 1 : Nat) : Int)).toNat : Int) = _
  rw [BitVec.toNat_and, ofInt_w64 n (by omega), ofInt_w64 (2 ^ k - 1) (by omega), Nat.and_two_pow_sub_one_eq_mod]
  have := Nat.mod_le n (2 ^ k)
  exact IntWalk.i64_in _ (by omega)

theorem pow_pb {k : Nat} (h : k ≤ 4) : 2 ^ k ≤ 16 := Nat.le_trans (Nat.pow_le_pow_right (by omega) h) (by decide)
theorem mod_pb {n k : Nat} (h : k ≤ 4) : n % 2 ^ k ≤ 15 := by
  have h1 := pow_pb h
  have h2 := Nat.mod_lt n (Nat.two_pow_pos k)
  omega

theorem wrap_id (x : Nat) (h : x < 9223372036854775808) : wrap64 (x : Int) = (x : Int) := by unfold wrap64; omega
theorem shr_nat (x k : Nat) (h : x < 9223372036854775808) : wrap64 (x : Int) / 2 ^ k = ((x / 2 ^ k : Nat) : Int) := by
  rw [wrap_id x h, cast_pow2]
  exact (Int.natCast_ediv x (2 ^ k)).symm
theorem shl_nat (x k y : Nat) (hy : y = x * 2 ^ k) (h : y < 9223372036854775808) : wrap64 ((x : Int) * 2 ^ k) = (y : Int) := by
  rw [cast_pow2, ← Int.natCast_mul, ← hy]
  exact wrap_id y h

theorem row_small {a x nl : Nat} (h : a = 768 * x) (h1 : a + 768 ≤ nl) (h2 : nl ≤ 100000000) : x ≤ 200000 ∧ a ≤ 100000000 := by omega
theorem row_facts {a S b nl P2 last : Nat} (h : a = 768 * (P2 + last)) (h1 : a + 768 ≤ nl) (h2 : nl ≤ 100000000) (hS : S = P2 + last) (hb : b = a + 768) :
    wrap64 ((P2 : Int) + (last : Int)) = (S : Int) ∧ wrap64 (768 * (S : Int)) = (a : Int) ∧ wrap64 ((a : Int) + 768) = (b : Int) ∧ (0 : Int) ≤ (a : Int) ∧ (a : Int) ≤ (b : Int) ∧ (b : Int) ≤ (nl : Int) ∧ ¬ nl = a := by
  have hs := row_small h h1 h2
  refine ⟨?_, ?_, ?_, by omega, by omega, by omega, by omega⟩
  · rw [← Int.natCast_add, ← hS]
    exact wrap_id _ (by omega)
  · rw [show 768 * (S : Int) = (a : Int) by omega]
    exact wrap_id _ (by omega)
  · rw [show (a : Int) + 768 = (b : Int) by omega]
    exact wrap_id _ (by omega)


set_option maxRecDepth 100000 in
set_option maxHeartbeats 2000000 in
theorem pslot_any {g o0 l ml : Nat} (hm : ml = min l 3) (w : World) :
    Calls Tryz.prog 110 #[.pointer (some ⟨g, o0, none⟩), .int .i64 (l : Int)] w fun e w' => e = .returned (.slice (some ⟨g, o0 + 1591 + ml * 64, none⟩) 64 64) ∧ w = w' := by
  by_cases h3 : l ≤ 3
  · obtain rfl : ml = l := by omega
    have g3 : (ml : Int) ≤ 3 := by omega
    have g3' : (ml : Int) < 4 := by omega
    have g0 : (0 : Int) ≤ (ml : Int) := by omega
    have gm : min (ml : Int) 3 = (ml : Int) := by omega
    clear hm h3
    go_enter Tryz.func110, Tryz.ntmps110
    go_wp2_with fail
    go_ret
    exact ⟨rfl, rfl⟩
  · obtain rfl : ml = 3 := by omega
    have g3 : ¬ (l : Int) ≤ 3 := by omega
    have gm : min (l : Int) 3 = 3 := by omega
    clear hm h3
    go_enter Tryz.func110, Tryz.ntmps110
    go_wp2_with fail
    go_ret
    exact ⟨rfl, rfl⟩

set_option maxRecDepth 100000 in
set_option maxHeartbeats 4000000 in
theorem prow_any {b nl lc lp n last a : Nat} {pb d : Int} (hlc : lc ≤ 8) (hlp : lp ≤ 4) (hn : n ≤ 1000000) (hla : last < 256) (ha : a = 768 * (n % 2 ^ lp * 2 ^ lc + last / 2 ^ (8 - lc))) (h1 : a + 768 ≤ nl) (h2 : nl ≤ 100000000) (w : World) :
    Calls Tryz.prog 86 #[.slice (some ⟨b, 0, none⟩) nl nl, .agg #[.int .i64 (lc : Int), .int .i64 (lp : Int), .int .i64 pb, .int .i64 d], .int .i64 (n : Int), .int .u8 (last : Int)] w fun e w' => e = .returned (.slice (some ⟨b, a, none⟩) 768 (nl - a)) ∧ Only (fun _ => False) w w' := by
  have hl4 : min lp 64 = lp := by omega
  have hl8 : min lc 64 = lc := by omega
  have hl88 : min (8 - lc) 64 = 8 - lc := by omega
  obtain ⟨w1, hw1⟩ : ∃ w1, w1 = w.alloc (.cells #[.int .i64 (lc : Int), .int .i64 (lp : Int), .int .i64 pb, .int .i64 d] 24) := ⟨_, rfl⟩
  have hb1 : Only (fun _ => False) w w1 := by rw [hw1]; exact (Only.refl _ w).alloc _
  have HBk : Blk w1 w.heap.size 24 #[.int .i64 (lc : Int), .int .i64 (lp : Int), .int .i64 pb, .int .i64 d] := by rw [hw1]; exact Blk.fresh w _ _
  have c0 : w1.cell? ⟨w.heap.size, 0, none⟩ = some (.int .i64 (lc : Int)) := HBk.cell 0
  have c1 : w1.cell? ⟨w.heap.size, 1, none⟩ = some (.int .i64 (lp : Int)) := HBk.cell 1
  have e0 : IntKind.i64.wrap (8 - (lc : Int)) = ((8 - lc : Nat) : Int) := by rw [show 8 - (lc : Int) = ((8 - lc : Nat) : Int) by omega]; exact IntWalk.i64_in _ (by omega)
  have E1 := Lib.hid (i64_and_low n lp (by omega) (by omega))
  obtain ⟨P, hP⟩ : ∃ P, P = n % 2 ^ lp := ⟨_, rfl⟩
  rw [← hP] at E1 ha
  have E2 := Lib.hid (shr_nat last (8 - lc) (by omega))
  obtain ⟨la, hla2⟩ : ∃ x, x = last / 2 ^ (8 - lc) := ⟨_, rfl⟩
  rw [← hla2] at E2 ha
  obtain ⟨P2, hP2⟩ : ∃ x, x = P * 2 ^ lc := ⟨_, rfl⟩
  rw [← hP2] at ha
  have hsm := row_small ha h1 h2
  have f1 := shl_nat P lc P2 hP2 (Nat.lt_of_le_of_lt (Nat.le_trans (Nat.le_add_right _ _) hsm.1) (by decide))
  obtain ⟨S, hS⟩ : ∃ S, S = P2 + la := ⟨_, rfl⟩
  obtain ⟨b2, hb⟩ : ∃ b, b = a + 768 := ⟨_, rfl⟩
  obtain ⟨f2, f3, f4, g1, g2, g3, g4⟩ := row_facts ha h1 h2 hS hb
  have HB := Lib.hid hb
  have HF := Lib.hid (And.intro f1 (And.intro f2 (And.intro f3 (And.intro f4 (And.intro g1 (And.intro g2 (And.intro g3 g4)))))))
  have HW1 := Lib.hid hw1
  have HB1 := Lib.hid hb1
  clear hb ha hP hla2 hP2 hsm f1 f2 f3 f4 g1 g2 g3 g4 hS hn h1 h2 hla hw1 hb1 HBk
  go_enter Tryz.func86, Tryz.ntmps86
  go_upto_region 1 with fail
  rw [← HW1.out]
  clear HW1
  go_upto_region 2 with fail
  rw [E1.out]
  go_quiet (fail)
  rw [E2.out]
  have HB2 := Lib.hid (HB1.out.drewN nq)
  obtain ⟨f1, f2, f3, f4, g1, g2, g3, g4⟩ := HF.out
  clear e0 E1 E2 HF c0 c1 HB1
  generalize w1.drewN nq = w2 at *
  go_wp2_with fail
  go_ret
  have e768 : b2 - a = 768 := by have := HB.out; omega
  exact ⟨congrArg (fun n => Ending.returned (.slice (some ⟨b, a, none⟩) n (nl - a))) e768, HB2.out⟩
end Go.Proofs.YtoencondpbkomaaGreat

/-
  The program's states: behind each packet.
-/
namespace Go.Proofs.YtoencondpbkomaaGreat
open Go.RowKit

set_option maxRecDepth 100000 in
set_option maxHeartbeats 1000000 in
theorem papart_any (st : Nat) (w : World) :
    Calls Tryz.prog 88 #[.int .i64 (st : Int)] w fun e w' => e = .returned (.bool (decide (7 ≤ st))) ∧ w = w' := by
  have hu : decide ((st : Int) ≥ 7) = decide (7 ≤ st) := by rw [Bool.eq_iff_iff]; simp; omega
  have HU := Lib.hid hu
  clear hu
  go_enter Tryz.func88, Tryz.ntmps88
  go_wp2_with fail
  go_ret
  exact ⟨congrArg (fun x => Ending.returned (.bool x)) HU.out, rfl⟩

set_option maxRecDepth 100000 in
set_option maxHeartbeats 1000000 in
theorem pbehind_any (st a b : Nat) (w : World) :
    Calls Tryz.prog 95 #[.int .i64 (st : Int), .int .i64 (a : Int), .int .i64 (b : Int)] w fun e w' => e = .returned (.int .i64 ((aft a b st : Nat) : Int)) ∧ w = w' := by
  have KA := Lib.hid (papart_any st w)
  unfold aft
  by_cases h7 : st < 7
  · have g7 : decide (7 ≤ st) = false := decide_eq_false (by omega)
    rw [g7] at KA
    rw [if_pos h7]
    clear h7 g7
    go_enter Tryz.func95, Tryz.ntmps95
    go_wp2_with fail
    refine KA.out.mono ?_
    rintro e w1 ⟨rfl, rfl⟩
    go_wp2_with fail
    go_ret
    exact ⟨rfl, rfl⟩
  · have g7 : decide (7 ≤ st) = true := decide_eq_true (by omega)
    rw [g7] at KA
    rw [if_neg h7]
    clear h7 g7
    go_enter Tryz.func95, Tryz.ntmps95
    go_wp2_with fail
    refine KA.out.mono ?_
    rintro e w1 ⟨rfl, rfl⟩
    go_wp2_with fail
    go_ret
    exact ⟨rfl, rfl⟩

set_option maxRecDepth 100000 in
set_option maxHeartbeats 1000000 in
theorem pmat_any (st : Nat) (w : World) :
    Calls Tryz.prog 93 #[.int .i64 (st : Int)] w fun e w' => e = .returned (.int .i64 ((aft 7 10 st : Nat) : Int)) ∧ w = w' := by
  have KA := Lib.hid (pbehind_any st 7 10 w)
  go_enter Tryz.func93, Tryz.ntmps93
  go_wp2_with fail
  refine KA.out.mono ?_
  rintro e w1 ⟨rfl, rfl⟩
  go_wp2_with fail
  go_ret
  exact ⟨rfl, rfl⟩

set_option maxRecDepth 100000 in
set_option maxHeartbeats 1000000 in
theorem pag_any (st : Nat) (w : World) :
    Calls Tryz.prog 96 #[.int .i64 (st : Int)] w fun e w' => e = .returned (.int .i64 ((aft 8 11 st : Nat) : Int)) ∧ w = w' := by
  have KA := Lib.hid (pbehind_any st 8 11 w)
  go_enter Tryz.func96, Tryz.ntmps96
  go_wp2_with fail
  refine KA.out.mono ?_
  rintro e w1 ⟨rfl, rfl⟩
  go_wp2_with fail
  go_ret
  exact ⟨rfl, rfl⟩

set_option maxRecDepth 100000 in
set_option maxHeartbeats 1000000 in
theorem psing_any (st : Nat) (w : World) :
    Calls Tryz.prog 68 #[.int .i64 (st : Int)] w fun e w' => e = .returned (.int .i64 ((aft 9 11 st : Nat) : Int)) ∧ w = w' := by
  have KA := Lib.hid (pbehind_any st 9 11 w)
  go_enter Tryz.func68, Tryz.ntmps68
  go_wp2_with fail
  refine KA.out.mono ?_
  rintro e w1 ⟨rfl, rfl⟩
  go_wp2_with fail
  go_ret
  exact ⟨rfl, rfl⟩

set_option maxRecDepth 100000 in
set_option maxHeartbeats 1000000 in
theorem llit7_any (st : Nat) (hs : st ≤ 11) (w : World) :
    Calls Tryz.prog 91 #[.int .i64 (st : Int)] w fun e w' => e = .returned (.int .i64 ((litSt st : Nat) : Int)) ∧ w = w' := by
  unfold litSt
  by_cases h4 : st < 4
  · have g4 : (st : Int) < 4 := by omega
    rw [if_pos h4]
    clear h4 hs
    go_enter Tryz.func91, Tryz.ntmps91
    go_wp2_with fail
    go_ret
    exact ⟨rfl, rfl⟩
  · have g4 : ¬ (st : Int) < 4 := by omega
    rw [if_neg h4]
    by_cases h10 : st < 10
    · have g10 : (st : Int) < 10 := by omega
      rw [if_pos h10]
      have e1 : IntKind.i64.wrap ((st : Int) - 3) = ((st - 3 : Nat) : Int) := by rw [show (st : Int) - 3 = ((st - 3 : Nat) : Int) by omega]; exact IntWalk.i64_in _ (by omega)
      clear h4 h10 hs
      go_enter Tryz.func91, Tryz.ntmps91
      go_wp2_with fail
      go_ret
      exact ⟨rfl, rfl⟩
    · have g10 : ¬ (st : Int) < 10 := by omega
      rw [if_neg h10]
      have e1 : IntKind.i64.wrap ((st : Int) - 6) = ((st - 6 : Nat) : Int) := by rw [show (st : Int) - 6 = ((st - 6 : Nat) : Int) by omega]; exact IntWalk.i64_in _ (by omega)
      clear h4 h10 hs
      go_enter Tryz.func91, Tryz.ntmps91
      go_wp2_with fail
      go_ret
      exact ⟨rfl, rfl⟩
end Go.Proofs.YtoencondpbkomaaGreat
