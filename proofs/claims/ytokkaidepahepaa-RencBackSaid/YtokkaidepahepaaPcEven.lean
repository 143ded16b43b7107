/-
  The program's coder gives a byte.
-/
import Derived.Test.YtokkaidepahepaaPcGive
import Derived.Test.YtokkaidepahepaaRdRev
namespace Go.Proofs.Ytokkaidepahepaa
open Go.RowKit

theorem low_and (lo : Nat) (h : lo < 8589934592) : bits .and .u64 (IntKind.u64.wrap ((lo : Int) * 256)) 4294967295 = ((lo % 16777216 * 256 : Nat) : Int) := by
  have e : IntKind.u64.wrap ((lo : Int) * 256) = ((lo * 256 : Nat) : Int) := by rw [show (lo : Int) * 256 = ((lo * 256 : Nat) : Int) by omega]; exact u64_in _ (by omega)
  rw [e]
  show IntKind.u64.wrap ((BitVec.ofInt 64 ((lo * 256 : Nat) : Int) &&& BitVec.ofInt 64 ((4294967295 : Nat) : Int)).toNat : Int) = _
  rw [BitVec.toNat_and, ofInt_u64' _ (by omega), ofInt_u64' _ (by omega), show (4294967295 : Nat) = 2 ^ 32 - 1 from rfl, Nat.and_two_pow_sub_one_eq_mod, show lo * 256 % 2 ^ 32 = lo % 16777216 * 256 by omega]
  exact u64_in _ (by omega)

section
variable {w : World} {g : Nat} {G : Option Nat} {c : Co} {r : Nat}

theorem giveWaiting_one (h : Pw w g G c r) (hw : c.wt < 256) (hlen : c.gs.length + c.fu ≤ 1000000000) :
    Calls Try.prog 42 #[.pointer (some ⟨g, 0, none⟩), .bool true] w (PwPost w g G (.tuple #[]) ⟨c.gave 1, c.wt, 0, c.lo⟩ r) := giveWaiting_any true h hw hlen
theorem giveWaiting_zero (h : Pw w g G c r) (hw : c.wt < 256) (hlen : c.gs.length + c.fu ≤ 1000000000) :
    Calls Try.prog 42 #[.pointer (some ⟨g, 0, none⟩), .bool false] w (PwPost w g G (.tuple #[]) ⟨c.gave 0, c.wt, 0, c.lo⟩ r) := giveWaiting_any false h hw hlen

/-- behind what waited: a byte waits now, and low -/
theorem gave_end {w w1 : World} {G1 : Option Nat} {t lo lo' wt : Nat} {gs : List UInt8} (h : Pw w1 g G1 ⟨gs, wt, 0, lo⟩ r) (hN : Nwr w G G1) (hO : Only (pset g G) w w1) :
    PwPost w g G (.tuple #[]) ⟨gs, t, 0, lo'⟩ r (.returned (.tuple #[])) ((w1.setCell ⟨g, 3, none⟩ (.int .u8 (t : Int))).setCell ⟨g, 0, none⟩ (.int .u64 (lo' : Int))) := by
  obtain ⟨A, m, hB, hOw, hG, hne⟩ := h
  refine ⟨rfl, G1, ⟨A, m, (hB.put 3 (.int .u8 (t : Int))).put 0 (.int .u64 (lo' : Int)), ?_, hG, hne⟩, hN, (hO.setCell (p := ⟨g, 3, none⟩) (.inl (.inl rfl)) _).setCell (p := ⟨g, 0, none⟩) (.inl (.inl rfl)) _⟩
  exact own_only' (S := fun i => i = g) hOw (((Only.refl (fun i => i = g) w1).setCell (p := ⟨g, 3, none⟩) (.inl rfl) _).setCell (p := ⟨g, 0, none⟩) (.inl rfl) _) (fun i hi e => hne (hG.symm.trans (e ▸ hi)))

set_option maxHeartbeats 4000000 in
theorem give_any (h : Pw w g G c r) (hw : c.wt < 256) (hlo : c.lo < 8589934592) (hlen : c.gs.length + c.fu ≤ 999999999) :
    Calls Try.prog 34 #[.pointer (some ⟨g, 0, none⟩)] w (PwPost w g G (.tuple #[]) c.give r) := by
  have ea := low_and c.lo hlo
  have ea2 : bits .and .u64 ((c.lo : Int) * 256) 4294967295 = ((c.lo % 16777216 * 256 : Nat) : Int) := by
    have := low_and c.lo hlo
    have e : IntKind.u64.wrap ((c.lo : Int) * 256) = (c.lo : Int) * 256 := by rw [show (c.lo : Int) * 256 = ((c.lo * 256 : Nat) : Int) by omega]; exact u64_in _ (by omega)
    rwa [e] at this
  have c0 : w.cell? ⟨g, 0, none⟩ = some (.int .u64 (c.lo : Int)) := by obtain ⟨A1, m1, hB1, _⟩ := h; exact hB1.cell 0
  by_cases hc : 4294967296 ≤ c.lo
  · have hgive : c.give = ⟨c.gave 1, c.lo / 16777216 % 256, 0, c.lo % 16777216 * 256⟩ := by unfold Co.give; rw [if_pos hc]
    rw [hgive]
    have K := Lib.hid (giveWaiting_one h hw (by omega))
    have hgt : (c.lo : Int) > 4294967295 := by omega
    obtain ⟨t, ht⟩ : ∃ t : Nat, t = c.lo / 16777216 % 256 := ⟨_, rfl⟩
    have et1 : (c.lo : Int) / 16777216 % 256 = (t : Int) := by omega
    have et2 : IntKind.u8.wrap ((c.lo : Int) / 16777216) = (t : Int) := by simp [IntKind.wrap, IntKind.bits, IntKind.signed]; exact et1
    rw [← ht]
    clear hgive hc hlo hw hlen h ht
    generalize c.lo % 16777216 * 256 = lo' at *
    generalize c.lo = lo at *
    go_enter Try.func34, Try.ntmps34
    go_wp2_with fail
    refine K.out.mono ?_
    rintro e w1 ⟨rfl, G1, hP, hN, hO⟩
    obtain ⟨j0, j3, z0, z3⟩ : w1.cell? ⟨g, 0, none⟩ = some (.int .u64 (lo : Int)) ∧ w1.cell? ⟨g, 3, none⟩ = some (.int .u8 (c.wt : Int)) ∧ w1.frozen? ⟨g, 0, none⟩ = false ∧ w1.frozen? ⟨g, 3, none⟩ = false := by
      obtain ⟨A1, m1, hB1, _⟩ := hP; exact ⟨hB1.cell 0, hB1.cell 3, hB1.free 0, hB1.free 3⟩
    have HP := Lib.hid hP
    have HN := Lib.hid hN
    have HO := Lib.hid hO
    clear hP hN hO K c0
    go_wp2_with fail
    first | go_end0 | refine bodyPost_ret (results_none rfl _ _ _) rfl ?_
    exact gave_end HP.out HN.out HO.out
  · have hgt : ¬ (c.lo : Int) > 4294967295 := by omega
    by_cases hl : c.lo < 4278190080
    · have hgive : c.give = ⟨c.gave 0, c.lo / 16777216, 0, c.lo % 16777216 * 256⟩ := by unfold Co.give; rw [if_neg hc, if_pos hl]
      rw [hgive]
      have K := Lib.hid (giveWaiting_zero h hw (by omega))
      have hll : (c.lo : Int) < 4278190080 := by omega
      obtain ⟨t, ht⟩ : ∃ t : Nat, t = c.lo / 16777216 := ⟨_, rfl⟩
      have et1 : (c.lo : Int) / 16777216 % 256 = (t : Int) := by omega
      have et2 : IntKind.u8.wrap ((c.lo : Int) / 16777216) = (t : Int) := by simp [IntKind.wrap, IntKind.bits, IntKind.signed]; exact et1
      rw [← ht]
      clear hgive hc hlo hw hlen h ht hl
      generalize c.lo % 16777216 * 256 = lo' at *
      generalize c.lo = lo at *
      go_enter Try.func34, Try.ntmps34
      go_wp2_with fail
      refine K.out.mono ?_
      rintro e w1 ⟨rfl, G1, hP, hN, hO⟩
      obtain ⟨j0, j3, z0, z3⟩ : w1.cell? ⟨g, 0, none⟩ = some (.int .u64 (lo : Int)) ∧ w1.cell? ⟨g, 3, none⟩ = some (.int .u8 (c.wt : Int)) ∧ w1.frozen? ⟨g, 0, none⟩ = false ∧ w1.frozen? ⟨g, 3, none⟩ = false := by
        obtain ⟨A1, m1, hB1, _⟩ := hP; exact ⟨hB1.cell 0, hB1.cell 3, hB1.free 0, hB1.free 3⟩
      have HP := Lib.hid hP
      have HN := Lib.hid hN
      have HO := Lib.hid hO
      clear hP hN hO K c0
      go_wp2_with fail
      first | go_end0 | refine bodyPost_ret (results_none rfl _ _ _) rfl ?_
      exact gave_end HP.out HN.out HO.out
    · have hgive : c.give = ⟨c.gs, c.wt, c.fu + 1, c.lo % 16777216 * 256⟩ := by unfold Co.give; rw [if_neg hc, if_neg hl]
      rw [hgive]
      have hll : ¬ (c.lo : Int) < 4278190080 := by omega
      have ef : IntKind.i64.wrap ((c.fu : Int) + 1) = ((c.fu + 1 : Nat) : Int) := by rw [show (c.fu : Int) + 1 = ((c.fu + 1 : Nat) : Int) by omega]; exact IntWalk.i64_in _ (by omega)
      obtain ⟨A, m, hB, hOw, hG, hne⟩ := h
      have c4 : w.cell? ⟨g, 4, none⟩ = some (.int .i64 (c.fu : Int)) := hB.cell 4
      have z0 : w.frozen? ⟨g, 0, none⟩ = false := hB.free 0
      have z4 : w.frozen? ⟨g, 4, none⟩ = false := hB.free 4
      have HB := Lib.hid hB
      have HOw := Lib.hid hOw
      have HG := Lib.hid hG
      have HNE := Lib.hid hne
      clear hgive hc hlo hw hlen hl hB hOw hG hne
      generalize c.lo % 16777216 * 256 = lo' at *
      generalize c.lo = lo at *
      generalize c.fu + 1 = fu' at *
      go_enter Try.func34, Try.ntmps34
      go_wp2_with fail
      first | go_end0 | refine bodyPost_ret (results_none rfl _ _ _) rfl ?_
      refine ⟨rfl, G, ⟨A, m, (HB.out.put 4 (.int .i64 (fu' : Int))).put 0 (.int .u64 (lo' : Int)), ?_, HG.out, HNE.out⟩, Nwr.refl _ _, ((Only.refl (pset g G) w).setCell (p := ⟨g, 4, none⟩) (.inl (.inl rfl)) _).setCell (p := ⟨g, 0, none⟩) (.inl (.inl rfl)) _⟩
      exact own_only' (S := fun i => i = g) HOw.out (((Only.refl (fun i => i = g) w).setCell (p := ⟨g, 4, none⟩) (.inl rfl) _).setCell (p := ⟨g, 0, none⟩) (.inl rfl) _) (fun i hi e => HNE.out (HG.out.symm.trans (e ▸ hi)))
end
end Go.Proofs.Ytokkaidepahepaa
