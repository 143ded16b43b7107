/-
  The program's coder: evened out; made; how many bytes; finished.
-/
import Derived.Test.YtokkaidepahepaaPcEven
import Derived.Test.YtokkaidepahepaaRcRefs
namespace Go.Proofs.Ytokkaidepahepaa
open Go.RowKit

/-- Block g is the program's coder; its state is e. -/
def Pn (w : World) (g : Nat) (G : Option Nat) (e : En) : Prop := ∃ c, Pw w g G c e.r ∧ CoN c e.n e.l e.r
def PnPost (w : World) (g : Nat) (G : Option Nat) (v : Value) (e' : En) (e : Ending) (w' : World) : Prop :=
  e = .returned v ∧ ∃ G', Pn w' g G' e' ∧ Nwr w G G' ∧ Only (pset g G) w w'

section
variable {w w' : World} {g : Nat} {G : Option Nat} {c : Co} {r : Nat} {e : En}
theorem Pn.lt (h : Pn w g G e) : g < w.heap.size := by obtain ⟨c, hP, _⟩ := h; exact hP.lt
theorem Pn.old (h : Pn w g G e) {i : Nat} (hi : G = some i) : i < w.heap.size := by obtain ⟨c, hP, _⟩ := h; exact hP.old hi
theorem Pn.only {S : Nat → Prop} (h : Pn w g G e) (hb : Only S w w') (hg : ¬ S g) (hG : ∀ i, G = some i → ¬ S i) : Pn w' g G e := by
  obtain ⟨c, hP, hc⟩ := h
  exact ⟨c, hP.only hb hg hG, hc⟩
theorem Pn.drewN (h : Pn w g G e) (n : Nat) : Pn (w.drewN n) g G e := h
theorem Pw.span {w : World} {g : Nat} {G : Option Nat} {c : Co} {r R : Nat} (h : Pw w g G c r) : Pw (w.setCell ⟨g, 1, none⟩ (.int .u32 (R : Int))) g G c R := by
  obtain ⟨A, m, hB, hOw, hG, hne⟩ := h
  exact ⟨A, m, hB.put 1 (.int .u32 (R : Int)), own_only' (S := fun i => i = g) hOw ((Only.refl (fun i => i = g) w).setCell (p := ⟨g, 1, none⟩) (.inl rfl) _) (fun i hi e => hne (hG.symm.trans (e ▸ hi))), hG, hne⟩
theorem Pw.cell1 {w : World} {g : Nat} {G : Option Nat} {c : Co} {r : Nat} (h : Pw w g G c r) : w.cell? ⟨g, 1, none⟩ = some (.int .u32 (r : Int)) ∧ w.frozen? ⟨g, 1, none⟩ = false := by
  obtain ⟨A, m, hB, _⟩ := h
  exact ⟨hB.cell 1, hB.free 1⟩

set_option maxHeartbeats 1000000 in
theorem evenOut_high (h : Pw w g G c r) (hr : ¬ r < 16777216) :
    Calls Try.prog 41 #[.pointer (some ⟨g, 0, none⟩)] w fun e w' => e = .returned (.tuple #[]) ∧ w = w' := by
  have c1 := h.cell1.1
  have hri : (r : Int) > 0 ∧ ¬ (r : Int) < 16777216 := by omega
  clear h hr
  generalize (r : Int) = ri at *
  have HR := Lib.hid hri
  clear hri
  go_enter Try.func41, Try.ntmps41
  go_wp2_with fail
  go_loopw [] (fun wr => wr = w) (fun _ => 0)
  case atStart => rfl
  case round =>
    subst hrel
    obtain ⟨h02, hr2⟩ := HR.out
    go_wp2_with fail
    first | go_end0 | refine bodyPost_ret (results_none rfl _ _ _) rfl ?_
    exact ⟨rfl, rfl⟩

/-- the range has been multiplied, and a byte given -/
def EvenDone (w wr : World) (g : Nat) (G : Option Nat) (c : Co) (R : Nat) : Prop := ∃ G', Pw wr g G' c.give R ∧ Nwr w G G' ∧ Only (pset g G) w wr
open Classical in
/-- whether the range is still the one that was -/
noncomputable def evenLeft (wr : World) (g : Nat) (ri : Int) : Nat := if wr.cell? ⟨g, 1, none⟩ = some (.int .u32 ri) then 1 else 0

set_option maxHeartbeats 4000000 in
theorem evenOut_low (h : Pw w g G c r) (hw : c.wt < 256) (hlo : c.lo < 8589934592) (hr : r < 16777216) (hr0 : 65536 ≤ r) (hlen : c.gs.length + c.fu ≤ 999999999) :
    Calls Try.prog 41 #[.pointer (some ⟨g, 0, none⟩)] w (PwPost w g G (.tuple #[]) c.give (r * 256)) := by
  obtain ⟨c1, f1⟩ := h.cell1
  have e1 : IntKind.u32.wrap ((r : Int) * 256) = ((r * 256 : Nat) : Int) := by rw [show (r : Int) * 256 = ((r * 256 : Nat) : Int) by omega]; exact u32_of _ (by omega) (by omega)
  have hrR : r ≠ r * 256 := by omega
  have hR2 : ¬ r * 256 < 16777216 := by omega
  have hR0 : 0 < r * 256 := by omega
  obtain ⟨R, hR⟩ : ∃ R, R = r * 256 := ⟨_, rfl⟩
  rw [← hR] at e1 hrR hR2 hR0
  rw [← hR]
  have K := Lib.hid (give_any (h.span (R := R)) hw hlo hlen)
  have HO := Lib.hid ((Only.refl (pset g G) w).setCell (p := ⟨g, 1, none⟩) (.inl (.inl rfl)) (.int .u32 (R : Int)))
  have HSZ := Lib.hid (show (w.setCell ⟨g, 1, none⟩ (.int .u32 (R : Int))).heap.size = w.heap.size by simp [World.setCell])
  obtain ⟨ri, hri⟩ : ∃ ri : Int, ri = (r : Int) := ⟨_, rfl⟩
  obtain ⟨Ri, hRi⟩ : ∃ Ri : Int, Ri = (R : Int) := ⟨_, rfl⟩
  have HF := Lib.hid (show ri > 0 ∧ ri < 16777216 ∧ Ri > 0 ∧ ¬ Ri < 16777216 ∧ Ri ≠ ri by omega)
  have HRI := Lib.hid hRi
  rw [← hri] at c1 e1
  rw [← hRi] at e1 K HO HSZ
  clear h hR hlen hw hlo hr hr0 hR2 hR0 hrR hri hRi
  go_enter Try.func41, Try.ntmps41
  go_wp2_with fail
  go_loopw [] (fun wr => wr = w ∨ EvenDone w wr g G c R) (fun wr => evenLeft wr g ri)
  case atStart => exact .inl rfl
  case round =>
    have HREL := Lib.hid hrel
    clear hrel
    rcases HREL.out with hw | hd
    · clear HREL
      obtain rfl : w = wr := hw.symm
      obtain ⟨h0, hr', _⟩ := HF.out
      go_wp2_with fail
      refine K.out.mono ?_
      rintro e w3 ⟨rfl, G', hP, hN, hO⟩
      have k1 := hP.cell1.1
      rw [← HRI.out] at k1
      have HD := Lib.hid (show EvenDone w w3 g G c R from ⟨G', hP, fun i hi => (hN i hi).imp id (fun h => by rw [HSZ.out] at h; exact h), HO.out.trans hO⟩)
      clear hP hN hO f1 K
      go_wp2_with fail
      go_roundw
      case rel => exact .inr HD.out
      case measure =>
        unfold evenLeft
        rw [if_neg (by rw [k1]; intro e; injection e with e; injection e with _ e; exact HF.out.2.2.2.2 e), if_pos c1]
        omega
    · clear HREL
      have HD := Lib.hid hd
      obtain ⟨G', hP, hN, hO⟩ := hd
      have k1 := hP.cell1.1
      rw [← HRI.out] at k1
      clear hP hN hO c1 f1
      obtain ⟨_, _, h0, hr2, _⟩ := HF.out
      go_wp2_with fail
      first | go_end0 | refine bodyPost_ret (results_none rfl _ _ _) rfl ?_
      exact ⟨rfl, HD.out⟩

theorem evenOut_any {n l : Nat} (h : Pw w g G c r) (hc : CoN c n l r) (hr0 : 65536 ≤ r) (hlen : l ≤ 1000000000) :
    Calls Try.prog 41 #[.pointer (some ⟨g, 0, none⟩)] w (PnPost w g G (.tuple #[]) (En.even ⟨n, l, r⟩)) := by
  unfold En.even
  have hl := hc.len
  by_cases hr : r < 16777216
  · rw [if_pos hr]
    refine (evenOut_low h hc.wt hc.low hr hr0 (by omega)).mono ?_
    rintro e w' ⟨rfl, G', hP, hN, hO⟩
    exact ⟨rfl, G', ⟨c.give, hP, hc.give hr⟩, hN, hO⟩
  · rw [if_neg hr]
    refine (evenOut_high h hr).mono ?_
    rintro e w' ⟨rfl, rfl⟩
    exact ⟨rfl, G, ⟨c, h, hc⟩, Nwr.refl _ _, Only.refl _ _⟩

set_option maxHeartbeats 1000000 in
theorem cnew_any (w : World) : Calls Try.prog 8 #[] w fun e w' => e = .returned (.pointer (some ⟨w.heap.size, 0, none⟩)) ∧ w' = w.alloc (.cells (pcCells 0 4294967295 (.slice none 0 0) 0 0) 60) := by
  go_enter Try.func8, Try.ntmps8
  go_wp2_with fail
  go_ret
  exact ⟨rfl, rfl⟩
theorem pn_fresh (w : World) : Pn (w.alloc (.cells (pcCells 0 4294967295 (.slice none 0 0) 0 0) 60)) w.heap.size none En.new :=
  ⟨Co.new, ⟨none, 0, Blk.fresh w _ _, ⟨rfl, .inl ⟨rfl, rfl⟩⟩, rfl, by simp⟩, coN_new⟩

set_option maxHeartbeats 1000000 in
theorem count_any (h : Pn w g G e) (hlen : e.l ≤ 1000000000) :
    Calls Try.prog 15 #[.pointer (some ⟨g, 0, none⟩)] w fun e' w' => e' = .returned (.int .i64 (e.l : Int)) ∧ ∃ d, w.drewN d = w' := by
  obtain ⟨c, ⟨A, m, hB, _⟩, hc⟩ := h
  have hl := hc.len
  have c2 : w.cell? ⟨g, 2, none⟩ = some (.slice A c.gs.length m) := hB.cell 2
  have c4 : w.cell? ⟨g, 4, none⟩ = some (.int .i64 (c.fu : Int)) := hB.cell 4
  have e1 : IntKind.i64.wrap ((c.gs.length : Int) + (c.fu : Int)) = ((c.gs.length + c.fu : Nat) : Int) := by rw [← Int.natCast_add]; exact IntWalk.i64_in _ (by omega)
  have e2 : IntKind.i64.wrap (((c.gs.length + c.fu : Nat) : Int) + 5) = (e.l : Int) := by rw [show ((c.gs.length + c.fu : Nat) : Int) + 5 = (e.l : Int) by omega]; exact IntWalk.i64_in _ (by omega)
  clear hB hc hl hlen
  generalize c.gs.length + c.fu = y at *
  generalize c.gs.length = n at *
  generalize e.l = l at *
  generalize c.fu = f at *
  go_enter Try.func15, Try.ntmps15
  go_wp2_with fail
  go_quiet (fail)
  go_wp2_with fail
  go_ret
  exact ⟨rfl, _, rfl⟩
end
end Go.Proofs.Ytokkaidepahepaa
