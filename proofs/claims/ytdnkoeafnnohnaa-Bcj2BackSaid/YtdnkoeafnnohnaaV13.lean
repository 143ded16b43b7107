/-
  CwRow, PcFin: put together.
-/
import Derived.Test.YtdnkoeafnnohnaaV10
import Derived.Test.YtdnkoeafnnohnaaV12
set_option linter.unusedVariables false
set_option linter.unusedSimpArgs false
/-
  The program's coder of ranges over probabilities that lie wherever they lie: bits, trees, straight.
-/
namespace Go.Proofs.Ytdnkoeafnnohnaa
open Go.RowKit

/-- what a coder turns -/
def cset (g : Nat) (G : Option Nat) (B : Nat → Prop) : Nat → Prop := fun i => i = g ∨ G = some i ∨ B i
theorem cset_of {g : Nat} {G : Option Nat} {B : Nat → Prop} {i : Nat} (h : pset g G i) : cset g G B i := by
  rcases h with h | h
  · exact .inl h
  · exact .inr (.inl h)
/-- its probabilities lie apart from it -/
def Off (g : Nat) (G : Option Nat) (B : Nat → Prop) : Prop := ∀ i, B i → i ≠ g ∧ G ≠ some i
/-- the machine and its probabilities, in memory; it may be asked for k bits more -/
structure Cmch (R : World → List Nat → Prop) (g : Nat) (G : Option Nat) (L k : Nat) (w : World) (t : Pm En) : Prop where
  pn : Pn w g G t.x
  row : R w t.ps
  ok : PmOk okE L k t
def CPost (R : World → List Nat → Prop) (B : Nat → Prop) (g : Nat) (G : Option Nat) (L k : Nat) (w : World) (t : Pm En) (e : Ending) (w' : World) : Prop :=
  e = .returned (.tuple #[]) ∧ ∃ G', Cmch R g G' L k w' t ∧ Nwr w G G' ∧ Only (cset g G B) w w'

section
variable {R : World → List Nat → Prop} {B : Nat → Prop} {ad : Nat → Nat × Nat} {L g b i p a k : Nat} {G : Option Nat} {w : World} {c : Co} {r : Nat} {e : En} {ps : List Nat} {t : Pm En}

/-- low is more, the range less, a probability another one -/
theorem Pw.tur {lo' r' q n : Nat} (Z : Prb R B ad L) (h : Pw w g G c r) (hR : R w ps) (hab : ad a = (b, i)) (ha : a < L) (hB : Off g G B) :
    Pw (((w.setCell ⟨g, 0, none⟩ (.int .u64 (lo' : Int))).setCell ⟨g, 1, none⟩ (.int .u32 (r' : Int))).drewN n |>.setCell ⟨b, i, none⟩ (.int .u16 (q : Int))) g G ⟨c.gs, c.wt, c.fu, lo'⟩ r' ∧
    R (((w.setCell ⟨g, 0, none⟩ (.int .u64 (lo' : Int))).setCell ⟨g, 1, none⟩ (.int .u32 (r' : Int))).drewN n |>.setCell ⟨b, i, none⟩ (.int .u16 (q : Int))) (ps.set a q) ∧
    Only (cset g G B) w (((w.setCell ⟨g, 0, none⟩ (.int .u64 (lo' : Int))).setCell ⟨g, 1, none⟩ (.int .u32 (r' : Int))).drewN n |>.setCell ⟨b, i, none⟩ (.int .u16 (q : Int))) := by
  have hBb : B b := by have := Z.blk ha; rw [hab] at this; exact this
  obtain ⟨hbg, hbG⟩ := hB b hBb
  obtain ⟨A, m, hB', hOw, hG, hne⟩ := h
  have h1 : Only (fun j => j = g) w (((w.setCell ⟨g, 0, none⟩ (.int .u64 (lo' : Int))).setCell ⟨g, 1, none⟩ (.int .u32 (r' : Int))).drewN n) :=
    (((Only.refl (fun j => j = g) w).setCell (p := ⟨g, 0, none⟩) (.inl rfl) _).setCell (p := ⟨g, 1, none⟩) (.inl rfl) _).drewN n
  have h2 := (h1.mono (S' := fun j => j = g ∨ j = b) (fun j hj => .inl hj)).setCell (p := ⟨b, i, none⟩) (.inl (.inr rfl)) (.int .u16 (q : Int))
  have hp := Z.put (Z.only hR h1 (fun j hj e => (hB j hj).1 e)) ha q
  rw [hab] at hp
  refine ⟨⟨A, m, (((hB'.put 0 _).put 1 _).drewN n).far hbg.symm _, own_only' hOw h2 ?_, hG, hne⟩, hp, h2.mono ?_⟩
  · intro j hj hs
    rcases hs with hs | hs
    · exact hne (hG.symm.trans (hs ▸ hj))
    · exact hbG (hG.symm.trans (hs ▸ hj))
  · intro j hj
    rcases hj with hj | hj
    · exact .inl hj
    · exact .inr (.inr (hj ▸ hBb))
/-- the range is less, a probability another one -/
theorem Pw.tur' {r' q n : Nat} (Z : Prb R B ad L) (h : Pw w g G c r) (hR : R w ps) (hab : ad a = (b, i)) (ha : a < L) (hB : Off g G B) :
    Pw ((w.setCell ⟨g, 1, none⟩ (.int .u32 (r' : Int))).drewN n |>.setCell ⟨b, i, none⟩ (.int .u16 (q : Int))) g G c r' ∧
    R ((w.setCell ⟨g, 1, none⟩ (.int .u32 (r' : Int))).drewN n |>.setCell ⟨b, i, none⟩ (.int .u16 (q : Int))) (ps.set a q) ∧
    Only (cset g G B) w ((w.setCell ⟨g, 1, none⟩ (.int .u32 (r' : Int))).drewN n |>.setCell ⟨b, i, none⟩ (.int .u16 (q : Int))) := by
  have hBb : B b := by have := Z.blk ha; rw [hab] at this; exact this
  obtain ⟨hbg, hbG⟩ := hB b hBb
  obtain ⟨A, m, hB', hOw, hG, hne⟩ := h
  have h1 : Only (fun j => j = g) w ((w.setCell ⟨g, 1, none⟩ (.int .u32 (r' : Int))).drewN n) :=
    ((Only.refl (fun j => j = g) w).setCell (p := ⟨g, 1, none⟩) (.inl rfl) _).drewN n
  have h2 := (h1.mono (S' := fun j => j = g ∨ j = b) (fun j hj => .inl hj)).setCell (p := ⟨b, i, none⟩) (.inl (.inr rfl)) (.int .u16 (q : Int))
  have hp := Z.put (Z.only hR h1 (fun j hj e => (hB j hj).1 e)) ha q
  rw [hab] at hp
  refine ⟨⟨A, m, ((hB'.put 1 _).drewN n).far hbg.symm _, own_only' hOw h2 ?_, hG, hne⟩, hp, h2.mono ?_⟩
  · intro j hj hs
    rcases hs with hs | hs
    · exact hne (hG.symm.trans (hs ▸ hj))
    · exact hbG (hG.symm.trans (hs ▸ hj))
  · intro j hj
    rcases hj with hj | hj
    · exact .inl hj
    · exact .inr (.inr (hj ▸ hBb))

def CBit (R : World → List Nat → Prop) (B : Nat → Prop) (g : Nat) (G : Option Nat) (w : World) (ps : List Nat) (e' : En) (x : Ending) (w' : World) : Prop :=
  x = .returned (.tuple #[]) ∧ ∃ G', Pn w' g G' e' ∧ R w' ps ∧ Nwr w G G' ∧ Only (cset g G B) w w'
/-- the end of a bit: what was evened out -/
theorem cbit_end {w w1 w2 : World} {ps : List Nat} {x : Ending} {e' : En} (Z : Prb R B ad L) (hR : R w1 ps) (hO : Only (cset g G B) w w1) (hB : Off g G B) (hs : w.heap.size = w1.heap.size) (h : PnPost w1 g G (.tuple #[]) e' x w2) : CBit R B g G w ps e' x w2 := by
  obtain ⟨rfl, G', hP, hN, hO2⟩ := h
  refine ⟨rfl, G', hP, Z.only hR hO2 (fun i hi h => ?_), fun i hi => (hN i hi).imp id (fun h => by rw [hs]; exact h), hO.trans (hO2.mono fun i hi => cset_of hi)⟩
  rcases h with h | h
  · exact (hB i hi).1 h
  · exact (hB i hi).2 h

set_option maxHeartbeats 4000000 in
theorem cbit_zero {z : Nat} (hz : z = e.r / 2048 * p) (Z : Prb R B ad L) (h : Pn w g G e) (he : EnOk e) (hR : R w ps) (hab : ad a = (b, i)) (ha : a < L) (hpi : p = ps.getD a 0) (hp : POk p) (hB : Off g G B) (hlen : e.l ≤ 999999999) :
    Calls Try.prog 41 #[.pointer (some ⟨g, 0, none⟩), .pointer (some ⟨b, i, none⟩), .int .i64 0] w (CBit R B g G w (ps.set a (up0 p)) (En.even ⟨e.n, e.l, z⟩)) := by
  obtain ⟨b0, b1⟩ := bound_in he.1 he.2.1 hp
  have hr := he.2.1
  obtain ⟨p0, p1⟩ := hp
  obtain ⟨c, hP, hc⟩ := h
  rw [← hz] at b0 b1
  obtain ⟨c1, z1⟩ := hP.cell1
  have hx : w.cell? ⟨b, i, none⟩ = some (.int .u16 (p : Int)) := by have := Z.cell hR ha; rw [hab] at this; rw [hpi]; exact this
  have zx : w.frozen? ⟨b, i, none⟩ = false := by have := Z.free hR ha; rw [hab] at this; exact this
  have e0 : IntKind.u32.wrap (p : Int) = (p : Int) := u32_of _ (by omega) (by omega)
  have e1 : IntKind.u32.wrap ((e.r : Int) / 2048 * (p : Int)) = (z : Int) := by
    rw [show (e.r : Int) / 2048 * (p : Int) = (z : Int) by rw [hz]; simp]
    exact u32_of _ (by omega) (by omega)
  have e1' : IntKind.u32.wrap ((e.r : Int) / 2048) = (e.r : Int) / 2048 := u32_of _ (by omega) (by omega)
  have hcz : CoN c e.n e.l z := hc.mono (by omega) (by omega)
  have e2 : IntKind.u16.wrap (2048 - (p : Int)) = 2048 - (p : Int) := u16_in _ (by omega)
  obtain ⟨u, hu⟩ : ∃ u, u = (2048 - p) / 32 := ⟨_, rfl⟩
  have e3 : IntKind.u16.wrap ((2048 - (p : Int)).tdiv 32) = (u : Int) := by
    rw [Int.tdiv_eq_ediv_of_nonneg (by omega), show (2048 - (p : Int)) / 32 = (u : Int) by omega]
    exact u16_in _ (by omega)
  have hup : up0 p = p + u := by unfold up0; omega
  have e5 : IntKind.u16.wrap ((p : Int) + (u : Int)) = ((p + u : Nat) : Int) := by rw [← Int.natCast_add]; exact u16_in _ (by omega)
  rw [hup]
  have HT := Lib.hid (fun n => Pw.tur' (r' := z) (q := p + u) (n := n) Z hP hR hab ha hB)
  have K := Lib.hid (fun n => evenOut_any (HT.out n).1 hcz (by omega) (by omega))
  have HS := Lib.hid (fun n => show w.heap.size = ((w.setCell ⟨g, 1, none⟩ (.int .u32 (z : Int))).drewN n |>.setCell ⟨b, i, none⟩ (.int .u16 ((p + u : Nat) : Int))).heap.size by simp [World.setCell, World.drewN])
  have HB := Lib.hid hB
  have HZ := Lib.hid Z
  have hbg : b ≠ g := (hB b (by have := Z.blk ha; rw [hab] at this; exact this)).1
  clear hu hup hz hpi hP hc hcz hR he hB Z ha hab
  generalize p + u = q at *
  go_enter Try.func41, Try.ntmps41
  go_wp2_with fail
  go_quiet (fail)
  go_wp2_with fail
  go_region
  all_goals go_wp2_with fail
  refine (K.out (nq + 1)).mono ?_
  intro x w2 hx2
  have HE := Lib.hid (cbit_end HZ.out (HT.out (nq + 1)).2.1 (HT.out (nq + 1)).2.2 HB.out (HS.out (nq + 1)) hx2)
  obtain ⟨rfl, _⟩ := hx2
  clear HT K HS
  go_wp2_with fail
  first | go_end0 | refine bodyPost_ret (results_none rfl _ _ _) rfl ?_
  exact HE.out

set_option maxHeartbeats 4000000 in
theorem cbit_one {z : Nat} (hz : z = e.r / 2048 * p) (Z : Prb R B ad L) (h : Pn w g G e) (he : EnOk e) (hR : R w ps) (hab : ad a = (b, i)) (ha : a < L) (hpi : p = ps.getD a 0) (hp : POk p) (hB : Off g G B) (hlen : e.l ≤ 999999999) :
    Calls Try.prog 41 #[.pointer (some ⟨g, 0, none⟩), .pointer (some ⟨b, i, none⟩), .int .i64 1] w (CBit R B g G w (ps.set a (up1 p)) (En.even ⟨e.n + z, e.l, e.r - z⟩)) := by
  obtain ⟨b0, b1⟩ := bound_in he.1 he.2.1 hp
  have hr := he.2.1
  obtain ⟨p0, p1⟩ := hp
  obtain ⟨c, hP, hc⟩ := h
  rw [← hz] at b0 b1
  obtain ⟨c1, z1⟩ := hP.cell1
  obtain ⟨c0, z0⟩ : w.cell? ⟨g, 0, none⟩ = some (.int .u64 (c.lo : Int)) ∧ w.frozen? ⟨g, 0, none⟩ = false := by obtain ⟨A, m, hB, _⟩ := hP; exact ⟨hB.cell 0, hB.free 0⟩
  have hx : w.cell? ⟨b, i, none⟩ = some (.int .u16 (p : Int)) := by have := Z.cell hR ha; rw [hab] at this; rw [hpi]; exact this
  have zx : w.frozen? ⟨b, i, none⟩ = false := by have := Z.free hR ha; rw [hab] at this; exact this
  have e0 : IntKind.u32.wrap (p : Int) = (p : Int) := u32_of _ (by omega) (by omega)
  have e1 : IntKind.u32.wrap ((e.r : Int) / 2048 * (p : Int)) = (z : Int) := by
    rw [show (e.r : Int) / 2048 * (p : Int) = (z : Int) by rw [hz]; simp]
    exact u32_of _ (by omega) (by omega)
  have e1' : IntKind.u32.wrap ((e.r : Int) / 2048) = (e.r : Int) / 2048 := u32_of _ (by omega) (by omega)
  have hlo := hc.low
  have e7 : IntKind.u64.wrap (z : Int) = (z : Int) := u64_in _ (by omega)
  have e8 : IntKind.u64.wrap ((c.lo : Int) + (z : Int)) = ((c.lo + z : Nat) : Int) := by rw [← Int.natCast_add]; exact u64_in _ (by omega)
  have e9 : IntKind.u32.wrap ((e.r : Int) - (z : Int)) = ((e.r - z : Nat) : Int) := by rw [show (e.r : Int) - (z : Int) = ((e.r - z : Nat) : Int) by omega]; exact u32_of _ (by omega) (by omega)
  have hcz : CoN (c.plus z) (e.n + z) e.l (e.r - z) := hc.plus (by omega) (by omega)
  have hup : up1 p = p - p / 32 := rfl
  have e5 : IntKind.u16.wrap ((p : Int) - (p : Int) / 32) = ((p - p / 32 : Nat) : Int) := by rw [show (p : Int) - (p : Int) / 32 = ((p - p / 32 : Nat) : Int) by omega]; exact u16_in _ (by omega)
  have e6 : IntKind.u16.wrap ((p : Int) / 32) = (p : Int) / 32 := u16_in _ (by omega)
  rw [hup]
  have HT := Lib.hid (fun n => Pw.tur (lo' := c.lo + z) (r' := e.r - z) (q := p - p / 32) (n := n) Z hP hR hab ha hB)
  have K := Lib.hid (fun n => evenOut_any (HT.out n).1 hcz (by omega) (by omega))
  have HS := Lib.hid (fun n => show w.heap.size = (((w.setCell ⟨g, 0, none⟩ (.int .u64 ((c.lo + z : Nat) : Int))).setCell ⟨g, 1, none⟩ (.int .u32 ((e.r - z : Nat) : Int))).drewN n |>.setCell ⟨b, i, none⟩ (.int .u16 ((p - p / 32 : Nat) : Int))).heap.size by simp [World.setCell, World.drewN])
  have HB := Lib.hid hB
  have HZ := Lib.hid Z
  have hbg : b ≠ g := (hB b (by have := Z.blk ha; rw [hab] at this; exact this)).1
  clear hup hz hpi hP hc hcz hR he hB Z ha hab hlo
  generalize p - p / 32 = q at *
  generalize e.r - z = r1 at *
  generalize c.lo + z = lo1 at *
  go_enter Try.func41, Try.ntmps41
  go_wp2_with fail
  go_quiet (fail)
  go_wp2_with fail
  go_region
  all_goals go_wp2_with fail
  refine (K.out (nq + 1)).mono ?_
  intro x w2 hx2
  have HE := Lib.hid (cbit_end HZ.out (HT.out (nq + 1)).2.1 (HT.out (nq + 1)).2.2 HB.out (HS.out (nq + 1)) hx2)
  obtain ⟨rfl, _⟩ := hx2
  clear HT K HS
  go_wp2_with fail
  first | go_end0 | refine bodyPost_ret (results_none rfl _ _ _) rfl ?_
  exact HE.out

theorem cw_bit {bit : Nat} (Z : Prb R B ad L) (hB : Off g G B) (hab : ad a = (b, i)) (ha : a < L) (h : Cmch R g G L (k + 1) w t) (hb : bit ≤ 1) :
    Calls Try.prog 41 #[.pointer (some ⟨g, 0, none⟩), .pointer (some ⟨b, i, none⟩), .int .i64 (bit : Int)] w (CPost R B g G L k w (bitP encM t a (bit : Int)).2) := by
  have hal : a < t.ps.length := by rw [h.ok.len]; exact ha
  have hok := (bitP_ok encM_ok (a := a) (w := (bit : Int)) h.ok ha (fun _ => by omega)).2
  have hlen : t.x.l ≤ 999999999 := by have := h.ok.x.2; omega
  have hdef : (bitP encM t a (bit : Int)).2 = ⟨t.ps.set a (upOf (t.ps.getD a 0) bit), t.x.bit (t.ps.getD a 0) bit⟩ := rfl
  rw [hdef] at hok ⊢
  have hp := getD_ok h.ok.ps hal
  unfold upOf En.bit at hok ⊢
  by_cases hb0 : bit = 0
  · subst hb0
    rw [if_pos rfl, if_pos rfl] at hok ⊢
    refine (cbit_zero rfl Z h.pn h.ok.x.1 h.row hab ha rfl hp hB hlen).mono ?_
    rintro x w' ⟨rfl, G', h1, h2, h3, h4⟩
    exact ⟨rfl, G', ⟨h1, h2, hok⟩, h3, h4⟩
  · obtain rfl : bit = 1 := by omega
    rw [if_neg hb0, if_neg hb0] at hok ⊢
    refine (cbit_one rfl Z h.pn h.ok.x.1 h.row hab ha rfl hp hB hlen).mono ?_
    rintro x w' ⟨rfl, G', h1, h2, h3, h4⟩
    exact ⟨rfl, G', ⟨h1, h2, hok⟩, h3, h4⟩
end
end Go.Proofs.Ytdnkoeafnnohnaa

/-
  The program's coder is finished.
-/
namespace Go.Proofs.Ytdnkoeafnnohnaa
open Go.RowKit

/-- What a finish leaves: the coder's bytes, and a coder that begins. -/
def FinPost (w : World) (g : Nat) (G : Option Nat) (e : En) (x : Ending) (w' : World) : Prop :=
  ∃ A m bs, x = .returned (.slice A bs.length m) ∧ w'.ownsRow 0 5 1 (.slice A bs.length m) bs.length (bv bs) ∧ be bs = e.n ∧ bs.length = e.l ∧ Nwr w G (Value.slice A bs.length m).ownBlock ∧ (Value.slice A bs.length m).ownBlock ≠ some g ∧ Pn w' g none En.new ∧ Only (pset g G) w w'

set_option maxHeartbeats 4000000 in
theorem finish_any {w : World} {g : Nat} {G : Option Nat} {e : En} (h : Pn w g G e) (hlen : e.l ≤ 999999990) :
    Calls Try.prog 26 #[.pointer (some ⟨g, 0, none⟩)] w (FinPost w g G e) := by
  obtain ⟨c, hP, hc⟩ := h
  have HP := Lib.hid hP
  have HC := Lib.hid hc
  have HLEN := Lib.hid hlen
  clear hP hc hlen
  go_enter Try.func26, Try.ntmps26
  go_wp2_with fail
  go_loopw [4] (fun i wr => ∃ (k : Nat) (G' : Option Nat), k ≤ 5 ∧ i = .int .i64 (k : Int) ∧ Pw wr g G' (c.gives k) e.r ∧ Nwr w G G' ∧ Only (pset g G) w wr) (fun i _ => 5 - (intOf i).toNat)
  case atStart => exact ⟨0, G, Nat.zero_le _, rfl, HP.out, Nwr.refl _ _, Only.refl _ _⟩
  case round =>
    clear HP
    obtain ⟨k, G', hk, rfl, hP, hN, hO⟩ := hrel
    have HN := Lib.hid hN
    have HO := Lib.hid hO
    by_cases hlt : k < 5
    · have h5 := (HC.out.mono HC.out.pos (Nat.le_refl 1)).gives k
      have K := Lib.hid (give_any hP h5.wt h5.low (by have h1 := gives_len c k; have h2 := HC.out.len; have h3 := HLEN.out; omega))
      have hlt' : (k : Int) < 5 := by omega
      clear hP hN hO h5
      go_wp2_with fail
      refine K.out.mono ?_
      rintro x w3 ⟨rfl, G2, hP2, hN2, hO2⟩
      have HP2 := Lib.hid hP2
      have HN2 := Lib.hid (HN.out.trans hN2 HO.out.size)
      have HO2 := Lib.hid (pset_trans HO.out HN.out hO2)
      clear hP2 hN2 hO2 HN HO K
      go_wp2_with fail
      go_roundw
      case rel => exact ⟨k + 1, G2, by omega, by go_num, HP2.out, HN2.out, HO2.out⟩
      case measure => simp [intOf]; omega
    · obtain rfl : k = 5 := by omega
      have hirr : ¬ ((5 : Nat) : Int) < 5 := by omega
      obtain ⟨A, m, hB, hOw, hG, hne⟩ := hP
      have c0 : wr.cell? ⟨g, 0, none⟩ = some (.int .u64 ((c.gives 5).lo : Int)) := hB.cell 0
      have c1 : wr.cell? ⟨g, 1, none⟩ = some (.int .u32 (e.r : Int)) := hB.cell 1
      have c2 : wr.cell? ⟨g, 2, none⟩ = some (.slice A (c.gives 5).gs.length m) := hB.cell 2
      have HB := Lib.hid hB
      have HOw := Lib.hid hOw
      have HG := Lib.hid hG
      have HNE := Lib.hid hne
      have K := Lib.hid (cnew_any wr)
      clear hB hOw hG hne hN hO hk hlt
      go_wp2_with fail
      refine K.out.mono ?_
      rintro x w3 ⟨rfl, hw3⟩
      have hO3 : Only (fun _ => False) wr w3 := by rw [hw3]; exact (Only.refl _ wr).alloc _
      have hN3 : Blk w3 wr.heap.size 78 (pcCells 0 4294967295 (.slice none 0 0) 0 0) := by rw [hw3]; exact Blk.fresh wr _ _
      have hB3 : Blk w3 g 78 _ := HB.out.only hO3 (fun h => h)
      obtain ⟨n0, n1, n2, n3, n4⟩ : w3.cell? ⟨wr.heap.size, 0, none⟩ = some (.int .u64 0) ∧ w3.cell? ⟨wr.heap.size, 1, none⟩ = some (.int .u32 4294967295) ∧ w3.cell? ⟨wr.heap.size, 2, none⟩ = some (.slice none 0 0) ∧ w3.cell? ⟨wr.heap.size, 3, none⟩ = some (.int .u8 0) ∧ w3.cell? ⟨wr.heap.size, 4, none⟩ = some (.int .i64 0) := ⟨hN3.cell 0, hN3.cell 1, hN3.cell 2, hN3.cell 3, hN3.cell 4⟩
      obtain ⟨g0, g1, g2, g3, g4⟩ : w3.cell? ⟨g, 0, none⟩ = some (.int .u64 ((c.gives 5).lo : Int)) ∧ w3.cell? ⟨g, 1, none⟩ = some (.int .u32 (e.r : Int)) ∧ w3.cell? ⟨g, 2, none⟩ = some (.slice A (c.gives 5).gs.length m) ∧ w3.cell? ⟨g, 3, none⟩ = some (.int .u8 ((c.gives 5).wt : Int)) ∧ w3.cell? ⟨g, 4, none⟩ = some (.int .i64 ((c.gives 5).fu : Int)) := ⟨hB3.cell 0, hB3.cell 1, hB3.cell 2, hB3.cell 3, hB3.cell 4⟩
      obtain ⟨z0, z1, z2, z3, z4⟩ : w3.frozen? ⟨g, 0, none⟩ = false ∧ w3.frozen? ⟨g, 1, none⟩ = false ∧ w3.frozen? ⟨g, 2, none⟩ = false ∧ w3.frozen? ⟨g, 3, none⟩ = false ∧ w3.frozen? ⟨g, 4, none⟩ = false := ⟨hB3.free 0, hB3.free 1, hB3.free 2, hB3.free 3, hB3.free 4⟩
      have HB3 := Lib.hid hB3
      have HO3 := Lib.hid hO3
      clear hO3 hN3 hB3 hw3 c0 c1 c2 K
      go_wp2_with fail
      first | go_end0 | (go_ret) | refine bodyPost_ret (results_none rfl _ _ _) rfl ?_
      obtain ⟨f1, f2⟩ := HC.out.finish
      have S5 : Only (fun i => i = g) w3 (((((w3.setCell ⟨g, 0, none⟩ (.int .u64 0)).setCell ⟨g, 1, none⟩ (.int .u32 4294967295)).setCell ⟨g, 2, none⟩ (.slice none 0 0)).setCell ⟨g, 3, none⟩ (.int .u8 0)).setCell ⟨g, 4, none⟩ (.int .i64 0)) :=
        (((((Only.refl (fun i => i = g) w3).setCell (p := ⟨g, 0, none⟩) (.inl rfl) _).setCell (p := ⟨g, 1, none⟩) (.inl rfl) _).setCell (p := ⟨g, 2, none⟩) (.inl rfl) _).setCell (p := ⟨g, 3, none⟩) (.inl rfl) _).setCell (p := ⟨g, 4, none⟩) (.inl rfl) _
      have P5 := ((((HB3.out.put 0 (.int .u64 0)).put 1 (.int .u32 4294967295)).put 2 (.slice none 0 0)).put 3 (.int .u8 0)).put 4 (.int .i64 0)
      have hgn : ∀ i, (Value.slice A (c.gives 5).gs.length m).ownBlock = some i → ¬ i = g := fun i hi e => HNE.out (HG.out.symm.trans (e ▸ hi))
      refine ⟨A, m, (c.gives 5).gs, rfl, own_only' (own_only' HOw.out HO3.out (fun _ _ h => h)) S5 hgn, f1, f2, ?_, ?_, ⟨Co.new, ⟨none, 0, P5, ⟨rfl, .inl ⟨rfl, rfl⟩⟩, rfl, by simp⟩, coN_new⟩, ?_⟩
      · rw [HG.out]; exact HN.out
      · rw [HG.out]; exact HNE.out
      · exact (HO.out.trans (HO3.out.mono (fun _ h => h.elim))).trans (S5.mono (fun i hi => .inl hi))
end Go.Proofs.Ytdnkoeafnnohnaa
