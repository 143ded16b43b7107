/-
  The program's coder codes a bit with a probability.
-/
import Derived.Test.YtokkaidepahepaaPcLevel
namespace Go.Proofs.Ytokkaidepahepaa
open Go.RowKit

def qset (g : Nat) (G : Option Nat) (b : Nat) : Nat → Prop := fun i => i = g ∨ G = some i ∨ i = b
theorem qset_of {g : Nat} {G : Option Nat} {b i : Nat} (h : pset g G i) : qset g G b i := by
  rcases h with h | h
  · exact .inl h
  · exact .inr (.inl h)
theorem qset_trans {w w1 w2 : World} {g b : Nat} {G G1 : Option Nat} (h : Only (qset g G b) w w1) (hn : Nwr w G G1) (k : Only (qset g G1 b) w1 w2) : Only (qset g G b) w w2 :=
  h.trans' k fun i hi => by
    rcases hi with hi | hi | hi
    · exact .inl (.inl hi)
    · rcases hn i hi with h1 | h1
      · exact .inl (.inr (.inl h1))
      · exact .inr h1
    · exact .inl (.inr (.inr hi))
theorem nwr_ne {w : World} {G G' : Option Nat} {b : Nat} (h : Nwr w G G') (hb : b < w.heap.size) (hn : G ≠ some b) : G' ≠ some b := fun e => by
  rcases h b e with h1 | h1
  · exact hn h1
  · omega

/-- What is coded leaves: behind a definition, so that no walk looks into it. -/
def CodPost (w : World) (g : Nat) (G : Option Nat) (b pc : Nat) (ps : List Nat) (e' : En) (x : Ending) (w' : World) : Prop :=
  x = .returned (.tuple #[]) ∧ ∃ G', Pn w' g G' e' ∧ Nwr w G G' ∧ Row w' b ps pc ∧ Only (qset g G b) w w'

section
variable {w : World} {g b i p pc : Nat} {G : Option Nat} {c : Co} {r : Nat} {e : En} {ps : List Nat}

/-- low is more, the range less, a probability another one -/
theorem Pw.turned {lo' r' q n : Nat} (h : Pw w g G c r) (hR : Row w b ps pc) (hbg : b ≠ g) (hbG : G ≠ some b) :
    Pw (((w.setCell ⟨g, 0, none⟩ (.int .u64 (lo' : Int))).setCell ⟨g, 1, none⟩ (.int .u32 (r' : Int))).drewN n |>.setCell ⟨b, i, none⟩ (.int .u16 (q : Int))) g G ⟨c.gs, c.wt, c.fu, lo'⟩ r' ∧
    Row (((w.setCell ⟨g, 0, none⟩ (.int .u64 (lo' : Int))).setCell ⟨g, 1, none⟩ (.int .u32 (r' : Int))).drewN n |>.setCell ⟨b, i, none⟩ (.int .u16 (q : Int))) b (ps.set i q) pc ∧
    Only (qset g G b) w (((w.setCell ⟨g, 0, none⟩ (.int .u64 (lo' : Int))).setCell ⟨g, 1, none⟩ (.int .u32 (r' : Int))).drewN n |>.setCell ⟨b, i, none⟩ (.int .u16 (q : Int))) := by
  obtain ⟨A, m, hB, hOw, hG, hne⟩ := h
  have h1 : Only (fun j => j = g) w (((w.setCell ⟨g, 0, none⟩ (.int .u64 (lo' : Int))).setCell ⟨g, 1, none⟩ (.int .u32 (r' : Int))).drewN n) :=
    (((Only.refl (fun j => j = g) w).setCell (p := ⟨g, 0, none⟩) (.inl rfl) _).setCell (p := ⟨g, 1, none⟩) (.inl rfl) _).drewN n
  have h2 := (h1.mono (S' := fun j => j = g ∨ j = b) (fun j hj => .inl hj)).setCell (p := ⟨b, i, none⟩) (.inl (.inr rfl)) (.int .u16 (q : Int))
  refine ⟨⟨A, m, (((hB.put 0 _).put 1 _).drewN n).far hbg.symm _, own_only' hOw h2 ?_, hG, hne⟩, (hR.only h1 hbg).put i q, h2.mono ?_⟩
  · intro j hj hs
    rcases hs with hs | hs
    · exact hne (hG.symm.trans (hs ▸ hj))
    · exact hbG (hG.symm.trans (hs ▸ hj))
  · intro j hj
    rcases hj with hj | hj
    · exact .inl hj
    · exact .inr (.inr hj)
/-- the range is less, a probability another one -/
theorem Pw.turned' {r' q n : Nat} (h : Pw w g G c r) (hR : Row w b ps pc) (hbg : b ≠ g) (hbG : G ≠ some b) :
    Pw ((w.setCell ⟨g, 1, none⟩ (.int .u32 (r' : Int))).drewN n |>.setCell ⟨b, i, none⟩ (.int .u16 (q : Int))) g G c r' ∧
    Row ((w.setCell ⟨g, 1, none⟩ (.int .u32 (r' : Int))).drewN n |>.setCell ⟨b, i, none⟩ (.int .u16 (q : Int))) b (ps.set i q) pc ∧
    Only (qset g G b) w ((w.setCell ⟨g, 1, none⟩ (.int .u32 (r' : Int))).drewN n |>.setCell ⟨b, i, none⟩ (.int .u16 (q : Int))) := by
  obtain ⟨A, m, hB, hOw, hG, hne⟩ := h
  have h1 : Only (fun j => j = g) w ((w.setCell ⟨g, 1, none⟩ (.int .u32 (r' : Int))).drewN n) :=
    ((Only.refl (fun j => j = g) w).setCell (p := ⟨g, 1, none⟩) (.inl rfl) _).drewN n
  have h2 := (h1.mono (S' := fun j => j = g ∨ j = b) (fun j hj => .inl hj)).setCell (p := ⟨b, i, none⟩) (.inl (.inr rfl)) (.int .u16 (q : Int))
  refine ⟨⟨A, m, ((hB.put 1 _).drewN n).far hbg.symm _, own_only' hOw h2 ?_, hG, hne⟩, (hR.only h1 hbg).put i q, h2.mono ?_⟩
  · intro j hj hs
    rcases hs with hs | hs
    · exact hne (hG.symm.trans (hs ▸ hj))
    · exact hbG (hG.symm.trans (hs ▸ hj))
  · intro j hj
    rcases hj with hj | hj
    · exact .inl hj
    · exact .inr (.inr hj)

/-- the end of a bit: what was evened out -/
theorem bit_end {w w1 w2 : World} {ps : List Nat} {x : Ending} {e' : En} (hR : Row w1 b ps pc) (hO : Only (qset g G b) w w1) (hbg : b ≠ g) (hbG : G ≠ some b) (hs : w.heap.size = w1.heap.size) (h : PnPost w1 g G (.tuple #[]) e' x w2) : CodPost w g G b pc ps e' x w2 := by
  obtain ⟨rfl, G', hP, hN, hO2⟩ := h
  refine ⟨rfl, G', hP, fun i hi => (hN i hi).imp id (fun h => by rw [hs]; exact h), hR.only hO2 ?_, hO.trans (hO2.mono fun i hi => qset_of hi)⟩
  intro h
  rcases h with h | h
  · exact hbg h
  · exact hbG h

set_option maxHeartbeats 4000000 in
theorem pbit_zero {z : Nat} (hz : z = e.r / 2048 * p) (h : Pn w g G e) (he : EnOk e) (hR : Row w b ps pc) (hi : i < ps.length) (hpi : p = ps.getD i 0) (hp : POk p) (hbg : b ≠ g) (hbG : G ≠ some b) (hlen : e.l ≤ 999999999) :
    Calls Try.prog 27 #[.pointer (some ⟨g, 0, none⟩), .pointer (some ⟨b, i, none⟩), .int .i64 0] w (CodPost w g G b pc (ps.set i (up0 p)) (En.even ⟨e.n, e.l, z⟩)) := by
  obtain ⟨b0, b1⟩ := bound_in he.1 he.2.1 hp
  have hr := he.2.1
  obtain ⟨p0, p1⟩ := hp
  obtain ⟨c, hP, hc⟩ := h
  rw [← hz] at b0 b1
  obtain ⟨c1, z1⟩ := hP.cell1
  have hx : w.cell? ⟨b, i, none⟩ = some (.int .u16 (p : Int)) := by rw [hpi]; exact hR.cell hi
  have zx : w.frozen? ⟨b, i, none⟩ = false := hR.free i
  have e0 : IntKind.u32.wrap (p : Int) = (p : Int) := u32_of _ (by omega) (by omega)
  have e1 : IntKind.u32.wrap ((e.r : Int) / 2048 * (p : Int)) = (z : Int) := by
    rw [show (e.r : Int) / 2048 * (p : Int) = (z : Int) by rw [hz]; simp]
    exact u32_of _ (by omega) (by omega)
  have e1' : IntKind.u32.wrap ((e.r : Int) / 2048) = (e.r : Int) / 2048 := u32_of _ (by omega) (by omega)
  have hcz : CoN c e.n e.l z := hc.mono (by omega) (by omega)
  have e2 : IntKind.u16.wrap (2048 - (p : Int)) = 2048 - (p : Int) := u16_in _ (by omega)
  obtain ⟨u, hu⟩ : ∃ u, u = (2048 - p) / 32 := ⟨_, rfl⟩
  have e3 : IntKind.u16.wrap ((2048 - (p : Int)).tdiv 32) = (u : Int) := by
    rw [Int.tdiv_eq_ediv_of_nonneg (by omega), show (2048 - (p : Int)) / 32 = (u : Int) by omega]
    exact u16_in _ (by omega)
  have hup : up0 p = p + u := by unfold up0; omega
  have e5 : IntKind.u16.wrap ((p : Int) + (u : Int)) = ((p + u : Nat) : Int) := by rw [← Int.natCast_add]; exact u16_in _ (by omega)
  rw [hup]
  have HT := Lib.hid (fun n => Pw.turned' (i := i) (r' := z) (q := p + u) (n := n) hP hR hbg hbG)
  have K := Lib.hid (fun n => evenOut_any (HT.out n).1 hcz (by omega) (by omega))
  have HS := Lib.hid (fun n => show w.heap.size = ((w.setCell ⟨g, 1, none⟩ (.int .u32 (z : Int))).drewN n |>.setCell ⟨b, i, none⟩ (.int .u16 ((p + u : Nat) : Int))).heap.size by simp [World.setCell, World.drewN])
  have HBG := Lib.hid hbg
  have HBG2 := Lib.hid hbG
  clear hu hup hz hpi hP hc hcz hR he hbG
  generalize p + u = q at *
  go_enter Try.func27, Try.ntmps27
  go_wp2_with fail
  go_quiet (fail)
  go_wp2_with fail
  go_region
  all_goals go_wp2_with fail
  refine (K.out (nq + 1)).mono ?_
  intro x w2 hx2
  have HE := Lib.hid (bit_end (HT.out (nq + 1)).2.1 (HT.out (nq + 1)).2.2 HBG.out HBG2.out (HS.out (nq + 1)) hx2)
  obtain ⟨rfl, _⟩ := hx2
  clear HT K HS
  go_wp2_with fail
  first | go_end0 | refine bodyPost_ret (results_none rfl _ _ _) rfl ?_
  exact HE.out

set_option maxHeartbeats 4000000 in
theorem pbit_one {z : Nat} (hz : z = e.r / 2048 * p) (h : Pn w g G e) (he : EnOk e) (hR : Row w b ps pc) (hi : i < ps.length) (hpi : p = ps.getD i 0) (hp : POk p) (hbg : b ≠ g) (hbG : G ≠ some b) (hlen : e.l ≤ 999999999) :
    Calls Try.prog 27 #[.pointer (some ⟨g, 0, none⟩), .pointer (some ⟨b, i, none⟩), .int .i64 1] w (CodPost w g G b pc (ps.set i (up1 p)) (En.even ⟨e.n + z, e.l, e.r - z⟩)) := by
  obtain ⟨b0, b1⟩ := bound_in he.1 he.2.1 hp
  have hr := he.2.1
  obtain ⟨p0, p1⟩ := hp
  obtain ⟨c, hP, hc⟩ := h
  rw [← hz] at b0 b1
  obtain ⟨c1, z1⟩ := hP.cell1
  obtain ⟨c0, z0⟩ : w.cell? ⟨g, 0, none⟩ = some (.int .u64 (c.lo : Int)) ∧ w.frozen? ⟨g, 0, none⟩ = false := by obtain ⟨A, m, hB, _⟩ := hP; exact ⟨hB.cell 0, hB.free 0⟩
  have hx : w.cell? ⟨b, i, none⟩ = some (.int .u16 (p : Int)) := by rw [hpi]; exact hR.cell hi
  have zx : w.frozen? ⟨b, i, none⟩ = false := hR.free i
  have e0 : IntKind.u32.wrap (p : Int) = (p : Int) := u32_of _ (by omega) (by omega)
  have e1 : IntKind.u32.wrap ((e.r : Int) / 2048 * (p : Int)) = (z : Int) := by
    rw [show (e.r : Int) / 2048 * (p : Int) = (z : Int) by rw [hz]; simp]
    exact u32_of _ (by omega) (by omega)
  have e1' : IntKind.u32.wrap ((e.r : Int) / 2048) = (e.r : Int) / 2048 := u32_of _ (by omega) (by omega)
  have hlo := hc.low
  have e7 : IntKind.u64.wrap (z : Int) = (z : Int) := u64_in _ (by omega)
  have e8 : IntKind.u64.wrap ((c.lo : Int) + (z : Int)) = ((c.lo + z : Nat) : Int) := by rw [← Int.natCast_add]; exact u64_in _ (by omega)
  have e9 : IntKind.u32.wrap ((e.r : Int) - (z : Int)) = ((e.r - z : Nat) : Int) := by rw [show (e.r : Int) - (z : Int) = ((e.r - z : Nat) : Int) by omega]; exact u32_of _ (by omega) (by omega)
  have hcz : CoN (c.plus z) (e.n + z) e.l (e.r - z) := hc.plus (by omega) (by omega)
  have hup : up1 p = p - p / 32 := rfl
  have e5 : IntKind.u16.wrap ((p : Int) - (p : Int) / 32) = ((p - p / 32 : Nat) : Int) := by rw [show (p : Int) - (p : Int) / 32 = ((p - p / 32 : Nat) : Int) by omega]; exact u16_in _ (by omega)
  have e6 : IntKind.u16.wrap ((p : Int) / 32) = (p : Int) / 32 := u16_in _ (by omega)
  rw [hup]
  have HT := Lib.hid (fun n => Pw.turned (i := i) (lo' := c.lo + z) (r' := e.r - z) (q := p - p / 32) (n := n) hP hR hbg hbG)
  have K := Lib.hid (fun n => evenOut_any (HT.out n).1 hcz (by omega) (by omega))
  have HS := Lib.hid (fun n => show w.heap.size = (((w.setCell ⟨g, 0, none⟩ (.int .u64 ((c.lo + z : Nat) : Int))).setCell ⟨g, 1, none⟩ (.int .u32 ((e.r - z : Nat) : Int))).drewN n |>.setCell ⟨b, i, none⟩ (.int .u16 ((p - p / 32 : Nat) : Int))).heap.size by simp [World.setCell, World.drewN])
  have HBG := Lib.hid hbg
  have HBG2 := Lib.hid hbG
  clear hup hz hpi hP hc hcz hR he hbG hlo
  generalize p - p / 32 = q at *
  generalize e.r - z = r1 at *
  generalize c.lo + z = lo1 at *
  go_enter Try.func27, Try.ntmps27
  go_wp2_with fail
  go_quiet (fail)
  go_wp2_with fail
  go_region
  all_goals go_wp2_with fail
  refine (K.out (nq + 1)).mono ?_
  intro x w2 hx2
  have HE := Lib.hid (bit_end (HT.out (nq + 1)).2.1 (HT.out (nq + 1)).2.2 HBG.out HBG2.out (HS.out (nq + 1)) hx2)
  obtain ⟨rfl, _⟩ := hx2
  clear HT K HS
  go_wp2_with fail
  first | go_end0 | refine bodyPost_ret (results_none rfl _ _ _) rfl ?_
  exact HE.out

theorem pbit_any {bit : Nat} (h : Pn w g G e) (he : EnOk e) (hR : Row w b ps pc) (hi : i < ps.length) (hp : POk (ps.getD i 0)) (hbg : b ≠ g) (hbG : G ≠ some b) (hb : bit ≤ 1) (hlen : e.l ≤ 999999999) :
    Calls Try.prog 27 #[.pointer (some ⟨g, 0, none⟩), .pointer (some ⟨b, i, none⟩), .int .i64 (bit : Int)] w (CodPost w g G b pc (ps.set i (upOf (ps.getD i 0) bit)) (e.bit (ps.getD i 0) bit)) := by
  unfold upOf En.bit
  by_cases hb0 : bit = 0
  · subst hb0
    rw [if_pos rfl, if_pos rfl]
    exact pbit_zero rfl h he hR hi rfl hp hbg hbG hlen
  · obtain rfl : bit = 1 := by omega
    rw [if_neg hb0, if_neg hb0]
    exact pbit_one rfl h he hR hi rfl hp hbg hbG hlen
end
end Go.Proofs.Ytokkaidepahepaa
