/-
  PcEven, PcLevel, PcBit: put together.
-/
import Derived.Test.YtdnkoeafnnohnaaV09
import Derived.Test.YtdnkoeafnnohnaaV04
set_option linter.unusedVariables false
set_option linter.unusedSimpArgs false
/-
  The program's coder gives a byte.
-/
namespace Go.Proofs.Ytdnkoeafnnohnaa
open Go.RowKit

theorem low_and (lo : Nat) (h : lo < 8589934592) : bits .and .u64 (IntKind.u64.wrap ((lo : Int) * 256)) 4294967295 = ((lo % 16777216 * 256 : Nat) : Int) := by
  have e : IntKind.u64.wrap ((lo : Int) * 256) = ((lo * 256 : Nat) : Int) := by rw [show (lo : Int) * 256 = ((lo * 256 : Nat) : Int) by omega]; exact u64_in _ (by omega)
  rw [e]
  show IntKind.u64.wrap ((BitVec.ofInt 64 ((lo * 256 : Nat) : Int) &&& BitVec.ofInt 64 ((4294967295 : Nat) : Int)).toNat : Int) = _
  rw [BitVec.toNat_and, ofInt_u64' _ (by omega), ofInt_u64' _ (by omega), show (4294967295 : Nat) = 2 ^ 32 - 1 from rfl, Nat.and_two_pow_sub_one_eq_mod, show lo * 256 % 2 ^ 32 = lo % 16777216 * 256 by omega]
  exact u64_in _ (by omega)

section
variable {w : World} {g : Nat} {G : Option Nat} {c : Co} {r : Nat}

theorem giveWaiting_one (h : Pw w g G c r) (hw : c.wt < 256) (hlen : c.gs.length + c.fu ≤ 1000000000) :
    Calls Try.prog 54 #[.pointer (some ⟨g, 0, none⟩), .bool true] w (PwPost w g G (.tuple #[]) ⟨c.gave 1, c.wt, 0, c.lo⟩ r) := giveWaiting_any true h hw hlen
theorem giveWaiting_zero (h : Pw w g G c r) (hw : c.wt < 256) (hlen : c.gs.length + c.fu ≤ 1000000000) :
    Calls Try.prog 54 #[.pointer (some ⟨g, 0, none⟩), .bool false] w (PwPost w g G (.tuple #[]) ⟨c.gave 0, c.wt, 0, c.lo⟩ r) := giveWaiting_any false h hw hlen

/-- behind what waited: a byte waits now, and low -/
theorem gave_end {w w1 : World} {G1 : Option Nat} {t lo lo' wt : Nat} {gs : List UInt8} (h : Pw w1 g G1 ⟨gs, wt, 0, lo⟩ r) (hN : Nwr w G G1) (hO : Only (pset g G) w w1) :
    PwPost w g G (.tuple #[]) ⟨gs, t, 0, lo'⟩ r (.returned (.tuple #[])) ((w1.setCell ⟨g, 3, none⟩ (.int .u8 (t : Int))).setCell ⟨g, 0, none⟩ (.int .u64 (lo' : Int))) := by
  obtain ⟨A, m, hB, hOw, hG, hne⟩ := h
  refine ⟨rfl, G1, ⟨A, m, (hB.put 3 (.int .u8 (t : Int))).put 0 (.int .u64 (lo' : Int)), ?_, hG, hne⟩, hN, (hO.setCell (p := ⟨g, 3, none⟩) (.inl (.inl rfl)) _).setCell (p := ⟨g, 0, none⟩) (.inl (.inl rfl)) _⟩
  exact own_only' (S := fun i => i = g) hOw (((Only.refl (fun i => i = g) w1).setCell (p := ⟨g, 3, none⟩) (.inl rfl) _).setCell (p := ⟨g, 0, none⟩) (.inl rfl) _) (fun i hi e => hne (hG.symm.trans (e ▸ hi)))

set_option maxHeartbeats 4000000 in
theorem give_any (h : Pw w g G c r) (hw : c.wt < 256) (hlo : c.lo < 8589934592) (hlen : c.gs.length + c.fu ≤ 999999999) :
    Calls Try.prog 43 #[.pointer (some ⟨g, 0, none⟩)] w (PwPost w g G (.tuple #[]) c.give r) := by
  have ea := low_and c.lo hlo
  have ea2 : bits .and .u64 ((c.lo : Int) * 256) 4294967295 = ((c.lo % 16777216 * 256 : Nat) : Int) := by
    have := low_and c.lo hlo
    have e : IntKind.u64.wrap ((c.lo : Int) * 256) = (c.lo : Int) * 256 := by rw [show (c.lo : Int) * 256 = ((c.lo * 256 : Nat) : Int) by omega]; exact u64_in _ (by omega)
    rwa [e] at this
  have c0 : w.cell? ⟨g, 0, none⟩ = some (.int .u64 (c.lo : Int)) := by obtain ⟨A1, m1, hB1, _⟩ := h; exact hB1.cell 0
  by_cases hc : 4294967296 ≤ c.lo
  · have hgive : c.give = ⟨c.gave 1, c.lo / 16777216 % 256, 0, c.lo % 16777216 * 256⟩ := by unfold Co.give; rw [if_pos hc]
    rw [hgive]
    have K := Lib.hid (giveWaiting_one h hw (by omega))
    have hgt : (c.lo : Int) > 4294967295 := by omega
    obtain ⟨t, ht⟩ : ∃ t : Nat, t = c.lo / 16777216 % 256 := ⟨_, rfl⟩
    have et1 : (c.lo : Int) / 16777216 % 256 = (t : Int) := by omega
    have et2 : IntKind.u8.wrap ((c.lo : Int) / 16777216) = (t : Int) := by simp [IntKind.wrap, IntKind.bits, IntKind.signed]; exact et1
    rw [← ht]
    clear hgive hc hlo hw hlen h ht
    generalize c.lo % 16777216 * 256 = lo' at *
    generalize c.lo = lo at *
    go_enter Try.func43, Try.ntmps43
    go_wp2_with fail
    refine K.out.mono ?_
    rintro e w1 ⟨rfl, G1, hP, hN, hO⟩
    obtain ⟨j0, j3, z0, z3⟩ : w1.cell? ⟨g, 0, none⟩ = some (.int .u64 (lo : Int)) ∧ w1.cell? ⟨g, 3, none⟩ = some (.int .u8 (c.wt : Int)) ∧ w1.frozen? ⟨g, 0, none⟩ = false ∧ w1.frozen? ⟨g, 3, none⟩ = false := by
      obtain ⟨A1, m1, hB1, _⟩ := hP; exact ⟨hB1.cell 0, hB1.cell 3, hB1.free 0, hB1.free 3⟩
    have HP := Lib.hid hP
    have HN := Lib.hid hN
    have HO := Lib.hid hO
    clear hP hN hO K c0
    go_wp2_with fail
    first | go_end0 | refine bodyPost_ret (results_none rfl _ _ _) rfl ?_
    exact gave_end HP.out HN.out HO.out
  · have hgt : ¬ (c.lo : Int) > 4294967295 := by omega
    by_cases hl : c.lo < 4278190080
    · have hgive : c.give = ⟨c.gave 0, c.lo / 16777216, 0, c.lo % 16777216 * 256⟩ := by unfold Co.give; rw [if_neg hc, if_pos hl]
      rw [hgive]
      have K := Lib.hid (giveWaiting_zero h hw (by omega))
      have hll : (c.lo : Int) < 4278190080 := by omega
      obtain ⟨t, ht⟩ : ∃ t : Nat, t = c.lo / 16777216 := ⟨_, rfl⟩
      have et1 : (c.lo : Int) / 16777216 % 256 = (t : Int) := by omega
      have et2 : IntKind.u8.wrap ((c.lo : Int) / 16777216) = (t : Int) := by simp [IntKind.wrap, IntKind.bits, IntKind.signed]; exact et1
      rw [← ht]
      clear hgive hc hlo hw hlen h ht hl
      generalize c.lo % 16777216 * 256 = lo' at *
      generalize c.lo = lo at *
      go_enter Try.func43, Try.ntmps43
      go_wp2_with fail
      refine K.out.mono ?_
      rintro e w1 ⟨rfl, G1, hP, hN, hO⟩
      obtain ⟨j0, j3, z0, z3⟩ : w1.cell? ⟨g, 0, none⟩ = some (.int .u64 (lo : Int)) ∧ w1.cell? ⟨g, 3, none⟩ = some (.int .u8 (c.wt : Int)) ∧ w1.frozen? ⟨g, 0, none⟩ = false ∧ w1.frozen? ⟨g, 3, none⟩ = false := by
        obtain ⟨A1, m1, hB1, _⟩ := hP; exact ⟨hB1.cell 0, hB1.cell 3, hB1.free 0, hB1.free 3⟩
      have HP := Lib.hid hP
      have HN := Lib.hid hN
      have HO := Lib.hid hO
      clear hP hN hO K c0
      go_wp2_with fail
      first | go_end0 | refine bodyPost_ret (results_none rfl _ _ _) rfl ?_
      exact gave_end HP.out HN.out HO.out
    · have hgive : c.give = ⟨c.gs, c.wt, c.fu + 1, c.lo % 16777216 * 256⟩ := by unfold Co.give; rw [if_neg hc, if_neg hl]
      rw [hgive]
      have hll : ¬ (c.lo : Int) < 4278190080 := by omega
      have ef : IntKind.i64.wrap ((c.fu : Int) + 1) = ((c.fu + 1 : Nat) : Int) := by rw [show (c.fu : Int) + 1 = ((c.fu + 1 : Nat) : Int) by omega]; exact IntWalk.i64_in _ (by omega)
      obtain ⟨A, m, hB, hOw, hG, hne⟩ := h
      have c4 : w.cell? ⟨g, 4, none⟩ = some (.int .i64 (c.fu : Int)) := hB.cell 4
      have z0 : w.frozen? ⟨g, 0, none⟩ = false := hB.free 0
      have z4 : w.frozen? ⟨g, 4, none⟩ = false := hB.free 4
      have HB := Lib.hid hB
      have HOw := Lib.hid hOw
      have HG := Lib.hid hG
      have HNE := Lib.hid hne
      clear hgive hc hlo hw hlen hl hB hOw hG hne
      generalize c.lo % 16777216 * 256 = lo' at *
      generalize c.lo = lo at *
      generalize c.fu + 1 = fu' at *
      go_enter Try.func43, Try.ntmps43
      go_wp2_with fail
      first | go_end0 | refine bodyPost_ret (results_none rfl _ _ _) rfl ?_
      refine ⟨rfl, G, ⟨A, m, (HB.out.put 4 (.int .i64 (fu' : Int))).put 0 (.int .u64 (lo' : Int)), ?_, HG.out, HNE.out⟩, Nwr.refl _ _, ((Only.refl (pset g G) w).setCell (p := ⟨g, 4, none⟩) (.inl (.inl rfl)) _).setCell (p := ⟨g, 0, none⟩) (.inl (.inl rfl)) _⟩
      exact own_only' (S := fun i => i = g) HOw.out (((Only.refl (fun i => i = g) w).setCell (p := ⟨g, 4, none⟩) (.inl rfl) _).setCell (p := ⟨g, 0, none⟩) (.inl rfl) _) (fun i hi e => HNE.out (HG.out.symm.trans (e ▸ hi)))
end
end Go.Proofs.Ytdnkoeafnnohnaa

/-
  The program's coder: evened out; made; how many bytes; finished.
-/
namespace Go.Proofs.Ytdnkoeafnnohnaa
open Go.RowKit

/-- Block g is the program's coder; its state is e. -/
def Pn (w : World) (g : Nat) (G : Option Nat) (e : En) : Prop := ∃ c, Pw w g G c e.r ∧ CoN c e.n e.l e.r
def PnPost (w : World) (g : Nat) (G : Option Nat) (v : Value) (e' : En) (e : Ending) (w' : World) : Prop :=
  e = .returned v ∧ ∃ G', Pn w' g G' e' ∧ Nwr w G G' ∧ Only (pset g G) w w'

section
variable {w w' : World} {g : Nat} {G : Option Nat} {c : Co} {r : Nat} {e : En}
theorem Pn.lt (h : Pn w g G e) : g < w.heap.size := by obtain ⟨c, hP, _⟩ := h; exact hP.lt
theorem Pn.old (h : Pn w g G e) {i : Nat} (hi : G = some i) : i < w.heap.size := by obtain ⟨c, hP, _⟩ := h; exact hP.old hi
theorem Pn.only {S : Nat → Prop} (h : Pn w g G e) (hb : Only S w w') (hg : ¬ S g) (hG : ∀ i, G = some i → ¬ S i) : Pn w' g G e := by
  obtain ⟨c, hP, hc⟩ := h
  exact ⟨c, hP.only hb hg hG, hc⟩
theorem Pn.drewN (h : Pn w g G e) (n : Nat) : Pn (w.drewN n) g G e := h
theorem Pw.span {w : World} {g : Nat} {G : Option Nat} {c : Co} {r R : Nat} (h : Pw w g G c r) : Pw (w.setCell ⟨g, 1, none⟩ (.int .u32 (R : Int))) g G c R := by
  obtain ⟨A, m, hB, hOw, hG, hne⟩ := h
  exact ⟨A, m, hB.put 1 (.int .u32 (R : Int)), own_only' (S := fun i => i = g) hOw ((Only.refl (fun i => i = g) w).setCell (p := ⟨g, 1, none⟩) (.inl rfl) _) (fun i hi e => hne (hG.symm.trans (e ▸ hi))), hG, hne⟩
theorem Pw.cell1 {w : World} {g : Nat} {G : Option Nat} {c : Co} {r : Nat} (h : Pw w g G c r) : w.cell? ⟨g, 1, none⟩ = some (.int .u32 (r : Int)) ∧ w.frozen? ⟨g, 1, none⟩ = false := by
  obtain ⟨A, m, hB, _⟩ := h
  exact ⟨hB.cell 1, hB.free 1⟩

set_option maxHeartbeats 1000000 in
theorem evenOut_high (h : Pw w g G c r) (hr : ¬ r < 16777216) :
    Calls Try.prog 52 #[.pointer (some ⟨g, 0, none⟩)] w fun e w' => e = .returned (.tuple #[]) ∧ w = w' := by
  have c1 := h.cell1.1
  have hri : (r : Int) > 0 ∧ ¬ (r : Int) < 16777216 := by omega
  clear h hr
  generalize (r : Int) = ri at *
  have HR := Lib.hid hri
  clear hri
  go_enter Try.func52, Try.ntmps52
  go_wp2_with fail
  go_loopw [] (fun wr => wr = w) (fun _ => 0)
  case atStart => rfl
  case round =>
    subst hrel
    obtain ⟨h02, hr2⟩ := HR.out
    go_wp2_with fail
    first | go_end0 | refine bodyPost_ret (results_none rfl _ _ _) rfl ?_
    exact ⟨rfl, rfl⟩

/-- the range has been multiplied, and a byte given -/
def EvenDone (w wr : World) (g : Nat) (G : Option Nat) (c : Co) (R : Nat) : Prop := ∃ G', Pw wr g G' c.give R ∧ Nwr w G G' ∧ Only (pset g G) w wr
open Classical in
/-- whether the range is still the one that was -/
noncomputable def evenLeft (wr : World) (g : Nat) (ri : Int) : Nat := if wr.cell? ⟨g, 1, none⟩ = some (.int .u32 ri) then 1 else 0

set_option maxHeartbeats 4000000 in
theorem evenOut_low (h : Pw w g G c r) (hw : c.wt < 256) (hlo : c.lo < 8589934592) (hr : r < 16777216) (hr0 : 65536 ≤ r) (hlen : c.gs.length + c.fu ≤ 999999999) :
    Calls Try.prog 52 #[.pointer (some ⟨g, 0, none⟩)] w (PwPost w g G (.tuple #[]) c.give (r * 256)) := by
  obtain ⟨c1, f1⟩ := h.cell1
  have e1 : IntKind.u32.wrap ((r : Int) * 256) = ((r * 256 : Nat) : Int) := by rw [show (r : Int) * 256 = ((r * 256 : Nat) : Int) by omega]; exact u32_of _ (by omega) (by omega)
  have hrR : r ≠ r * 256 := by omega
  have hR2 : ¬ r * 256 < 16777216 := by omega
  have hR0 : 0 < r * 256 := by omega
  obtain ⟨R, hR⟩ : ∃ R, R = r * 256 := ⟨_, rfl⟩
  rw [← hR] at e1 hrR hR2 hR0
  rw [← hR]
  have K := Lib.hid (give_any (h.span (R := R)) hw hlo hlen)
  have HO := Lib.hid ((Only.refl (pset g G) w).setCell (p := ⟨g, 1, none⟩) (.inl (.inl rfl)) (.int .u32 (R : Int)))
  have HSZ := Lib.hid (show (w.setCell ⟨g, 1, none⟩ (.int .u32 (R : Int))).heap.size = w.heap.size by simp [World.setCell])
  obtain ⟨ri, hri⟩ : ∃ ri : Int, ri = (r : Int) := ⟨_, rfl⟩
  obtain ⟨Ri, hRi⟩ : ∃ Ri : Int, Ri = (R : Int) := ⟨_, rfl⟩
  have HF := Lib.hid (show ri > 0 ∧ ri < 16777216 ∧ Ri > 0 ∧ ¬ Ri < 16777216 ∧ Ri ≠ ri by omega)
  have HRI := Lib.hid hRi
  rw [← hri] at c1 e1
  rw [← hRi] at e1 K HO HSZ
  clear h hR hlen hw hlo hr hr0 hR2 hR0 hrR hri hRi
  go_enter Try.func52, Try.ntmps52
  go_wp2_with fail
  go_loopw [] (fun wr => wr = w ∨ EvenDone w wr g G c R) (fun wr => evenLeft wr g ri)
  case atStart => exact .inl rfl
  case round =>
    have HREL := Lib.hid hrel
    clear hrel
    rcases HREL.out with hw | hd
    · clear HREL
      obtain rfl : w = wr := hw.symm
      obtain ⟨h0, hr', _⟩ := HF.out
      go_wp2_with fail
      refine K.out.mono ?_
      rintro e w3 ⟨rfl, G', hP, hN, hO⟩
      have k1 := hP.cell1.1
      rw [← HRI.out] at k1
      have HD := Lib.hid (show EvenDone w w3 g G c R from ⟨G', hP, fun i hi => (hN i hi).imp id (fun h => by rw [HSZ.out] at h; exact h), HO.out.trans hO⟩)
      clear hP hN hO f1 K
      go_wp2_with fail
      go_roundw
      case rel => exact .inr HD.out
      case measure =>
        unfold evenLeft
        rw [if_neg (by rw [k1]; intro e; injection e with e; injection e with _ e; exact HF.out.2.2.2.2 e), if_pos c1]
        omega
    · clear HREL
      have HD := Lib.hid hd
      obtain ⟨G', hP, hN, hO⟩ := hd
      have k1 := hP.cell1.1
      rw [← HRI.out] at k1
      clear hP hN hO c1 f1
      obtain ⟨_, _, h0, hr2, _⟩ := HF.out
      go_wp2_with fail
      first | go_end0 | refine bodyPost_ret (results_none rfl _ _ _) rfl ?_
      exact ⟨rfl, HD.out⟩

theorem evenOut_any {n l : Nat} (h : Pw w g G c r) (hc : CoN c n l r) (hr0 : 65536 ≤ r) (hlen : l ≤ 1000000000) :
    Calls Try.prog 52 #[.pointer (some ⟨g, 0, none⟩)] w (PnPost w g G (.tuple #[]) (En.even ⟨n, l, r⟩)) := by
  unfold En.even
  have hl := hc.len
  by_cases hr : r < 16777216
  · rw [if_pos hr]
    refine (evenOut_low h hc.wt hc.low hr hr0 (by omega)).mono ?_
    rintro e w' ⟨rfl, G', hP, hN, hO⟩
    exact ⟨rfl, G', ⟨c.give, hP, hc.give hr⟩, hN, hO⟩
  · rw [if_neg hr]
    refine (evenOut_high h hr).mono ?_
    rintro e w' ⟨rfl, rfl⟩
    exact ⟨rfl, G, ⟨c, h, hc⟩, Nwr.refl _ _, Only.refl _ _⟩

set_option maxHeartbeats 1000000 in
theorem cnew_any (w : World) : Calls Try.prog 23 #[] w fun e w' => e = .returned (.pointer (some ⟨w.heap.size, 0, none⟩)) ∧ w' = w.alloc (.cells (pcCells 0 4294967295 (.slice none 0 0) 0 0) 78) := by
  go_enter Try.func23, Try.ntmps23
  go_wp2_with fail
  go_ret
  exact ⟨rfl, rfl⟩
end
end Go.Proofs.Ytdnkoeafnnohnaa

/-
  The program's coder codes a bit with a probability.
-/
namespace Go.Proofs.Ytdnkoeafnnohnaa
open Go.RowKit

def qset (g : Nat) (G : Option Nat) (b : Nat) : Nat → Prop := fun i => i = g ∨ G = some i ∨ i = b
/-- What is coded leaves: behind a definition, so that no walk looks into it. -/
def CodPost (w : World) (g : Nat) (G : Option Nat) (b pc : Nat) (ps : List Nat) (e' : En) (x : Ending) (w' : World) : Prop :=
  x = .returned (.tuple #[]) ∧ ∃ G', Pn w' g G' e' ∧ Nwr w G G' ∧ Row w' b ps pc ∧ Only (qset g G b) w w'

section
variable {w : World} {g b i p pc : Nat} {G : Option Nat} {c : Co} {r : Nat} {e : En} {ps : List Nat}

end
end Go.Proofs.Ytdnkoeafnnohnaa
