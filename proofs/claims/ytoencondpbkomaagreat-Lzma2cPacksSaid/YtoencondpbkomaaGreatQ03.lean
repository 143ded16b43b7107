/-
  PcLevel, PcBit, PcNums, LzPure, LzNum, Prb: put together.
-/
import Derived.Test.YtoencondpbkomaaGreatQ02
import Derived.LoopTactic
import Derived.Test.YtoencondpbkomaaGreatQ01
set_option linter.unusedVariables false
set_option linter.unusedSimpArgs false
/-
  The program's coder: evened out; made; how many bytes; finished.
-/
namespace Go.Proofs.YtoencondpbkomaaGreat
open Go.RowKit

/-- Block g is the program's coder; its state is e. -/
def Pn (w : World) (g : Nat) (G : Option Nat) (e : En) : Prop := ∃ c, Pw w g G c e.r ∧ CoN c e.n e.l e.r
def PnPost (w : World) (g : Nat) (G : Option Nat) (v : Value) (e' : En) (e : Ending) (w' : World) : Prop :=
  e = .returned v ∧ ∃ G', Pn w' g G' e' ∧ Nwr w G G' ∧ Only (pset g G) w w'

section
variable {w w' : World} {g : Nat} {G : Option Nat} {c : Co} {r : Nat} {e : En}
theorem Pn.lt (h : Pn w g G e) : g < w.heap.size := by obtain ⟨c, hP, _⟩ := h; exact hP.lt
theorem Pn.old (h : Pn w g G e) {i : Nat} (hi : G = some i) : i < w.heap.size := by obtain ⟨c, hP, _⟩ := h; exact hP.old hi
theorem Pn.only {S : Nat → Prop} (h : Pn w g G e) (hb : Only S w w') (hg : ¬ S g) (hG : ∀ i, G = some i → ¬ S i) : Pn w' g G e := by
  obtain ⟨c, hP, hc⟩ := h
  exact ⟨c, hP.only hb hg hG, hc⟩
theorem Pn.drewN (h : Pn w g G e) (n : Nat) : Pn (w.drewN n) g G e := h
theorem Pw.span {w : World} {g : Nat} {G : Option Nat} {c : Co} {r R : Nat} (h : Pw w g G c r) : Pw (w.setCell ⟨g, 1, none⟩ (.int .u32 (R : Int))) g G c R := by
  obtain ⟨A, m, hB, hOw, hG, hne⟩ := h
  exact ⟨A, m, hB.put 1 (.int .u32 (R : Int)), own_only' (S := fun i => i = g) hOw ((Only.refl (fun i => i = g) w).setCell (p := ⟨g, 1, none⟩) (.inl rfl) _) (fun i hi e => hne (hG.symm.trans (e ▸ hi))), hG, hne⟩
theorem Pw.cell1 {w : World} {g : Nat} {G : Option Nat} {c : Co} {r : Nat} (h : Pw w g G c r) : w.cell? ⟨g, 1, none⟩ = some (.int .u32 (r : Int)) ∧ w.frozen? ⟨g, 1, none⟩ = false := by
  obtain ⟨A, m, hB, _⟩ := h
  exact ⟨hB.cell 1, hB.free 1⟩

set_option maxHeartbeats 1000000 in
theorem evenOut_high (h : Pw w g G c r) (hr : ¬ r < 16777216) :
    Calls Tryz.prog 108 #[.pointer (some ⟨g, 0, none⟩)] w fun e w' => e = .returned (.tuple #[]) ∧ w = w' := by
  have c1 := h.cell1.1
  have hri : (r : Int) > 0 ∧ ¬ (r : Int) < 16777216 := by omega
  clear h hr
  generalize (r : Int) = ri at *
  have HR := Lib.hid hri
  clear hri
  go_enter Tryz.func108, Tryz.ntmps108
  go_wp2_with fail
  go_loopw [] (fun wr => wr = w) (fun _ => 0)
  case atStart => rfl
  case round =>
    subst hrel
    obtain ⟨h02, hr2⟩ := HR.out
    go_wp2_with fail
    first | go_end0 | refine bodyPost_ret (results_none rfl _ _ _) rfl ?_
    exact ⟨rfl, rfl⟩

/-- the range has been multiplied, and a byte given -/
def EvenDone (w wr : World) (g : Nat) (G : Option Nat) (c : Co) (R : Nat) : Prop := ∃ G', Pw wr g G' c.give R ∧ Nwr w G G' ∧ Only (pset g G) w wr
open Classical in
/-- whether the range is still the one that was -/
noncomputable def evenLeft (wr : World) (g : Nat) (ri : Int) : Nat := if wr.cell? ⟨g, 1, none⟩ = some (.int .u32 ri) then 1 else 0

set_option maxHeartbeats 4000000 in
theorem evenOut_low (h : Pw w g G c r) (hw : c.wt < 256) (hlo : c.lo < 8589934592) (hr : r < 16777216) (hr0 : 65536 ≤ r) (hlen : c.gs.length + c.fu ≤ 999999999) :
    Calls Tryz.prog 108 #[.pointer (some ⟨g, 0, none⟩)] w (PwPost w g G (.tuple #[]) c.give (r * 256)) := by
  obtain ⟨c1, f1⟩ := h.cell1
  have e1 : IntKind.u32.wrap ((r : Int) * 256) = ((r * 256 : Nat) : Int) := by rw [show (r : Int) * 256 = ((r * 256 : Nat) : Int) by omega]; exact u32_of _ (by omega) (by omega)
  have hrR : r ≠ r * 256 := by omega
  have hR2 : ¬ r * 256 < 16777216 := by omega
  have hR0 : 0 < r * 256 := by omega
  obtain ⟨R, hR⟩ : ∃ R, R = r * 256 := ⟨_, rfl⟩
  rw [← hR] at e1 hrR hR2 hR0
  rw [← hR]
  have K := Lib.hid (give_any (h.span (R := R)) hw hlo hlen)
  have HO := Lib.hid ((Only.refl (pset g G) w).setCell (p := ⟨g, 1, none⟩) (.inl (.inl rfl)) (.int .u32 (R : Int)))
  have HSZ := Lib.hid (show (w.setCell ⟨g, 1, none⟩ (.int .u32 (R : Int))).heap.size = w.heap.size by simp [World.setCell])
  obtain ⟨ri, hri⟩ : ∃ ri : Int, ri = (r : Int) := ⟨_, rfl⟩
  obtain ⟨Ri, hRi⟩ : ∃ Ri : Int, Ri = (R : Int) := ⟨_, rfl⟩
  have HF := Lib.hid (show ri > 0 ∧ ri < 16777216 ∧ Ri > 0 ∧ ¬ Ri < 16777216 ∧ Ri ≠ ri by omega)
  have HRI := Lib.hid hRi
  rw [← hri] at c1 e1
  rw [← hRi] at e1 K HO HSZ
  clear h hR hlen hw hlo hr hr0 hR2 hR0 hrR hri hRi
  go_enter Tryz.func108, Tryz.ntmps108
  go_wp2_with fail
  go_loopw [] (fun wr => wr = w ∨ EvenDone w wr g G c R) (fun wr => evenLeft wr g ri)
  case atStart => exact .inl rfl
  case round =>
    have HREL := Lib.hid hrel
    clear hrel
    rcases HREL.out with hw | hd
    · clear HREL
      obtain rfl : w = wr := hw.symm
      obtain ⟨h0, hr', _⟩ := HF.out
      go_wp2_with fail
      refine K.out.mono ?_
      rintro e w3 ⟨rfl, G', hP, hN, hO⟩
      have k1 := hP.cell1.1
      rw [← HRI.out] at k1
      have HD := Lib.hid (show EvenDone w w3 g G c R from ⟨G', hP, fun i hi => (hN i hi).imp id (fun h => by rw [HSZ.out] at h; exact h), HO.out.trans hO⟩)
      clear hP hN hO f1 K
      go_wp2_with fail
      go_roundw
      case rel => exact .inr HD.out
      case measure =>
        unfold evenLeft
        rw [if_neg (by rw [k1]; intro e; injection e with e; injection e with _ e; exact HF.out.2.2.2.2 e), if_pos c1]
        omega
    · clear HREL
      have HD := Lib.hid hd
      obtain ⟨G', hP, hN, hO⟩ := hd
      have k1 := hP.cell1.1
      rw [← HRI.out] at k1
      clear hP hN hO c1 f1
      obtain ⟨_, _, h0, hr2, _⟩ := HF.out
      go_wp2_with fail
      first | go_end0 | refine bodyPost_ret (results_none rfl _ _ _) rfl ?_
      exact ⟨rfl, HD.out⟩

theorem evenOut_any {n l : Nat} (h : Pw w g G c r) (hc : CoN c n l r) (hr0 : 65536 ≤ r) (hlen : l ≤ 1000000000) :
    Calls Tryz.prog 108 #[.pointer (some ⟨g, 0, none⟩)] w (PnPost w g G (.tuple #[]) (En.even ⟨n, l, r⟩)) := by
  unfold En.even
  have hl := hc.len
  by_cases hr : r < 16777216
  · rw [if_pos hr]
    refine (evenOut_low h hc.wt hc.low hr hr0 (by omega)).mono ?_
    rintro e w' ⟨rfl, G', hP, hN, hO⟩
    exact ⟨rfl, G', ⟨c.give, hP, hc.give hr⟩, hN, hO⟩
  · rw [if_neg hr]
    refine (evenOut_high h hr).mono ?_
    rintro e w' ⟨rfl, rfl⟩
    exact ⟨rfl, G, ⟨c, h, hc⟩, Nwr.refl _ _, Only.refl _ _⟩

set_option maxHeartbeats 1000000 in
theorem cnew_any (w : World) : Calls Tryz.prog 25 #[] w fun e w' => e = .returned (.pointer (some ⟨w.heap.size, 0, none⟩)) ∧ w' = w.alloc (.cells (pcCells 0 4294967295 (.slice none 0 0) 0 0) 105) := by
  go_enter Tryz.func25, Tryz.ntmps25
  go_wp2_with fail
  go_ret
  exact ⟨rfl, rfl⟩
theorem pn_fresh (w : World) : Pn (w.alloc (.cells (pcCells 0 4294967295 (.slice none 0 0) 0 0) 105)) w.heap.size none En.new :=
  ⟨Co.new, ⟨none, 0, Blk.fresh w _ _, ⟨rfl, .inl ⟨rfl, rfl⟩⟩, rfl, by simp⟩, coN_new⟩
end
end Go.Proofs.YtoencondpbkomaaGreat

/-
  The program's coder codes a bit with a probability.
-/
namespace Go.Proofs.YtoencondpbkomaaGreat
open Go.RowKit

def qset (g : Nat) (G : Option Nat) (b : Nat) : Nat → Prop := fun i => i = g ∨ G = some i ∨ i = b
/-- What is coded leaves: behind a definition, so that no walk looks into it. -/
def CodPost (w : World) (g : Nat) (G : Option Nat) (b pc : Nat) (ps : List Nat) (e' : En) (x : Ending) (w' : World) : Prop :=
  x = .returned (.tuple #[]) ∧ ∃ G', Pn w' g G' e' ∧ Nwr w G G' ∧ Row w' b ps pc ∧ Only (qset g G b) w w'

section
variable {w : World} {g b i p pc : Nat} {G : Option Nat} {c : Co} {r : Nat} {e : En} {ps : List Nat}

end
end Go.Proofs.YtoencondpbkomaaGreat

/-
  The program's coder codes numbers straight.
-/
namespace Go.Proofs.YtoencondpbkomaaGreat
open Go.RowKit

theorem ofInt_u32' (a : Nat) (h : a < 4294967296) : (BitVec.ofInt 32 (a : Int)).toNat = a := by simp; omega
/-- the bit that the coder reckons -/
theorem bit_and (V k : Nat) (hV : V < 4294967296) : bits .and .u32 ((V : Int) / 2 ^ k) 1 = ((bitOf V k : Nat) : Int) := by
  unfold bitOf
  obtain ⟨y, hy⟩ : ∃ y, y = V / 2 ^ k := ⟨_, rfl⟩
  have h : (V : Int) / ((2 ^ k : Nat) : Int) = (y : Int) := by rw [hy]; exact (Int.natCast_ediv V (2 ^ k)).symm
  have hyl : y ≤ V := by rw [hy]; exact Nat.div_le_self _ _
  rw [cast_pow2, h, ← hy]
  show IntKind.u32.wrap ((BitVec.ofInt 32 (y : Int) &&& BitVec.ofInt 32 ((1 : Nat) : Int)).toNat : Int) = _
  rw [BitVec.toNat_and, ofInt_u32' _ (by omega), ofInt_u32' _ (by omega), Nat.and_one_is_mod]
  exact u32_of _ (by omega) (by omega)

/-- low is more, the range less, of a bit told straight -/
theorem Pw.half {w : World} {g : Nat} {G : Option Nat} {c : Co} {r lo' s n : Nat} (h : Pw w g G c r) :
    Pw ((w.setCell ⟨g, 1, none⟩ (.int .u32 (s : Int))).drewN n |>.setCell ⟨g, 0, none⟩ (.int .u64 (lo' : Int))) g G ⟨c.gs, c.wt, c.fu, lo'⟩ s := by
  obtain ⟨A, m, hB, hOw, hG, hne⟩ := h
  have h1 : Only (fun j => j = g) w ((w.setCell ⟨g, 1, none⟩ (.int .u32 (s : Int))).drewN n |>.setCell ⟨g, 0, none⟩ (.int .u64 (lo' : Int))) :=
    ((((Only.refl (fun j => j = g) w).setCell (p := ⟨g, 1, none⟩) (.inl rfl) _).drewN n).setCell (p := ⟨g, 0, none⟩) (.inl rfl) _)
  exact ⟨A, m, ((hB.put 1 _).drewN n).put 0 _, own_only' hOw h1 (fun i hi e => hne (hG.symm.trans (e ▸ hi))), hG, hne⟩

section
variable {w : World} {g b i p pc : Nat} {G : Option Nat} {c : Co} {r : Nat} {e : En} {ps : List Nat}

set_option maxHeartbeats 4000000 in
theorem pstraight_any {n V : Nat} (h : Pn w g G e) (he : EnOk e) (hn : n ≤ 32) (hV : V < 4294967296) (hlen : e.l ≤ 999999900) :
    Calls Tryz.prog 112 #[.pointer (some ⟨g, 0, none⟩), .int .i64 (n : Int), .int .u32 (V : Int)] w (PnPost w g G (.tuple #[]) (strE e V n n)) := by
  have HP := Lib.hid h
  have HE := Lib.hid he
  have HLEN := Lib.hid hlen
  have HV := Lib.hid hV
  have en1 : IntKind.i64.wrap ((n : Int) - 1) = (n : Int) - 1 := IntWalk.i64_in _ (by omega)
  clear h he hlen hV
  go_enter Tryz.func112, Tryz.ntmps112
  go_wp2_with fail
  go_loopw [6, 8] (fun _ i wr => ∃ (j : Nat) (G' : Option Nat), j ≤ n ∧ i = .int .i64 (j : Int) ∧ Pn wr g G' (strE e V n j) ∧ Nwr w G G' ∧ Only (pset g G) w wr) (fun _ i _ => n - (intOf i).toNat)
  case atStart => exact ⟨0, G, Nat.zero_le _, rfl, HP.out, Nwr.refl _ _, Only.refl _ _⟩
  case round =>
    clear HP
    obtain ⟨j, G', hj, rfl, hP, hN, hO⟩ := hrel
    have HN := Lib.hid hN
    have HO := Lib.hid hO
    clear hN hO
    by_cases hlt : j < n
    · have hok := strE_ok HE.out V n j
      have hll := strE_len e V n j
      obtain ⟨k, hk⟩ : ∃ k, k = n - 1 - j := ⟨_, rfl⟩
      have hnext : strE e V n (j + 1) = (strE e V n j).one (bitOf V k) := by rw [hk]; rfl
      have hL := HLEN.out
      have hEl : (strE e V n j).l ≤ 999999950 := by omega
      generalize strE e V n j = E at *
      obtain ⟨c, hPw, hc⟩ := hP
      obtain ⟨c1, z1⟩ := hPw.cell1
      have hr0 := hok.1
      have hr1 := hok.2.1
      obtain ⟨s, hs⟩ : ∃ s, s = E.r / 2 := ⟨_, rfl⟩
      have e1 : (E.r : Int) / 2 = (s : Int) := by omega
      have e2 : IntKind.u32.wrap ((E.r : Int) / 2) = (s : Int) := by rw [e1]; exact u32_of _ (by omega) (by omega)
      have e3 : IntKind.i64.wrap ((n : Int) - 1 - (j : Int)) = (k : Int) := by rw [show (n : Int) - 1 - (j : Int) = (k : Int) by omega]; exact IntWalk.i64_in _ (by omega)
      have hk0 : (0 : Int) ≤ (k : Int) := by omega
      have ej : IntKind.i64.wrap ((j : Int) + 1) = (j : Int) + 1 := IntWalk.i64_in _ (by omega)
      have hmin : min k 32 = k := by omega
      have hlt' : (j : Int) < (n : Int) := by omega
      have HS := Lib.hid hs.symm
      have HF := Lib.hid (show 65536 ≤ s ∧ s + s ≤ E.r ∧ E.l ≤ 999999950 by omega)
      clear hs hk hr0 hr1 hEl hL hll
      have eb := bit_and V k HV.out
      have e5 : (s : Int) % 4294967296 = (s : Int) := by have := HF.out; have := hok.2.1; omega
      have hbit := bitOf_le V k
      by_cases hb : bitOf V k = 0
      · rw [hb] at eb hnext
        have eb0 : bits .and .u32 ((V : Int) / 2 ^ k) 1 = 0 := eb
        have K := Lib.hid (evenOut_any (hPw.span (R := s)) (hc.mono (r' := s) (by have := HF.out; omega) (by have := HF.out; omega)) HF.out.1 (by have := HF.out; omega))
        have HNX := Lib.hid (show strE e V n (j + 1) = En.even ⟨E.n, E.l, s⟩ by rw [hnext]; unfold En.one; rw [if_pos rfl, HS.out])
        have HO1 := Lib.hid ((Only.refl (pset g G') wr).setCell (p := ⟨g, 1, none⟩) (.inl (.inl rfl)) (.int .u32 (s : Int)))
        have HSZ := Lib.hid (show (wr.setCell ⟨g, 1, none⟩ (.int .u32 (s : Int))).heap.size = wr.heap.size by simp [World.setCell])
        clear hPw hc hok hb eb hbit hnext
        go_wp2_with fail
        refine K.out.mono ?_
        rintro x w3 ⟨rfl, G2, hP2, hN2, hO2⟩
        have HP2 := Lib.hid hP2
        have HN2 := Lib.hid (HN.out.trans (fun i hi => (hN2 i hi).imp id (fun h => by rw [HSZ.out] at h; exact h)) HO.out.size)
        have HO2 := Lib.hid (pset_trans HO.out HN.out (HO1.out.trans hO2))
        clear hP2 hN2 hO2 HN HO K HO1 HSZ
        go_wp2_with fail
        go_roundw
        case rel => exact ⟨j + 1, G2, by omega, by go_num, by rw [HNX.out]; exact HP2.out, HN2.out, HO2.out⟩
        case measure => simp [intOf]; omega
      · have hb1 : bitOf V k = 1 := by omega
        rw [hb1] at eb hnext
        have eb0 : bits .and .u32 ((V : Int) / 2 ^ k) 1 = 1 := eb
        obtain ⟨c0, z0⟩ : wr.cell? ⟨g, 0, none⟩ = some (.int .u64 (c.lo : Int)) ∧ wr.frozen? ⟨g, 0, none⟩ = false := by obtain ⟨A, m, hB, _⟩ := hPw; exact ⟨hB.cell 0, hB.free 0⟩
        have hlo := hc.low
        have hsl : s < 4294967296 := by have := HF.out; have := hok.2.1; omega
        have e7 : IntKind.u64.wrap (s : Int) = (s : Int) := u64_in _ (by omega)
        have e8 : IntKind.u64.wrap ((c.lo : Int) + (s : Int)) = ((c.lo + s : Nat) : Int) := by rw [← Int.natCast_add]; exact u64_in _ (by omega)
        have K := Lib.hid (fun m => evenOut_any (Pw.half (lo' := c.lo + s) (s := s) (n := m) hPw) (hc.plus (z := s) (r' := s) (by have := HF.out; omega) (by have := HF.out; omega)) HF.out.1 (by have := HF.out; omega))
        have HNX := Lib.hid (show strE e V n (j + 1) = En.even ⟨E.n + s, E.l, s⟩ by rw [hnext]; unfold En.one; rw [if_neg (by omega), HS.out])
        have HO1 := Lib.hid (fun m => (((Only.refl (pset g G') wr).setCell (p := ⟨g, 1, none⟩) (.inl (.inl rfl)) (.int .u32 (s : Int))).drewN m).setCell (p := ⟨g, 0, none⟩) (.inl (.inl rfl)) (.int .u64 ((c.lo + s : Nat) : Int)))
        have HSZ := Lib.hid (fun m => show ((wr.setCell ⟨g, 1, none⟩ (.int .u32 (s : Int))).drewN m |>.setCell ⟨g, 0, none⟩ (.int .u64 ((c.lo + s : Nat) : Int))).heap.size = wr.heap.size by simp [World.setCell, World.drewN])
        clear hPw hc hok hb hb1 eb hbit hnext hlo hsl
        generalize c.lo + s = lo1 at *
        go_wp2_with fail
        go_region
        all_goals go_wp2_with fail
        refine (K.out 1).mono ?_
        rintro x w3 ⟨rfl, G2, hP2, hN2, hO2⟩
        have HP2 := Lib.hid hP2
        have HN2 := Lib.hid (HN.out.trans (fun i hi => (hN2 i hi).imp id (fun h => by rw [HSZ.out] at h; exact h)) HO.out.size)
        have HO2 := Lib.hid (pset_trans HO.out HN.out ((HO1.out 1).trans hO2))
        clear hP2 hN2 hO2 HN HO K HO1 HSZ
        go_wp2_with fail
        go_roundw
        case rel => exact ⟨j + 1, G2, by omega, by go_num, by rw [HNX.out]; exact HP2.out, HN2.out, HO2.out⟩
        case measure => simp [intOf]; omega
    · obtain rfl : j = n := by omega
      have HP := Lib.hid hP
      clear hP
      go_wp2_with fail
      first | go_end0 | refine bodyPost_ret (results_none rfl _ _ _) rfl ?_
      exact ⟨rfl, G', HP.out, HN.out, HO.out⟩
end
end Go.Proofs.YtoencondpbkomaaGreat

/-
  The packets of LZMA as numbers: one walk through the probabilities, over a machine that tells bits, or codes them.
-/
namespace Go.Proofs.YtoencondpbkomaaGreat

/-- What tells a bit with a probability, or codes the wanted one: the bit, the probability then, the machine; and so many bits straight. -/
structure Mach (σ : Type) where
  bit : σ → Nat → Int → Nat × Nat × σ
  str : σ → Nat → Nat → Nat × σ
  bad : σ → Bool
  enc : Bool
def decM : Mach Dc := ⟨fun d p _ => bitD d p, fun d n _ => straightD n d, fun d => d.isNone, false⟩
def encM : Mach En := ⟨fun e p b => (b.toNat, upOf p b.toNat, e.bit p b.toNat), fun e n v => (v, strE e v n n), fun _ => false, true⟩

/-- probabilities, and a machine -/
structure Pm (σ : Type) where
  ps : List Nat
  x : σ
/-- what is wanted may be -/
def Mach.may {σ : Type} (M : Mach σ) (w : Int) : Prop := M.enc = true → w = 0 ∨ w = 1
def Mach.mayN {σ : Type} (M : Mach σ) (v : Int) : Prop := M.enc = true → 0 ≤ v
/-- bit number i of what is wanted -/
def want (v : Int) (i : Nat) : Int := (v.tdiv ((2 ^ i : Nat) : Int)).tmod 2
theorem want_nat (v i : Nat) : want (v : Int) i = ((bitOf v i : Nat) : Int) := by
  unfold want bitOf
  rw [Int.tdiv_eq_ediv_of_nonneg (by omega), ← Int.natCast_ediv]
  generalize v / 2 ^ i = y
  rw [Int.tmod_eq_emod_of_nonneg (by omega)]
  omega
theorem want_may {σ : Type} {M : Mach σ} {v : Int} (h : M.mayN v) (i : Nat) : M.may (want v i) := by
  intro he
  obtain ⟨n, rfl⟩ := Int.eq_ofNat_of_zero_le (h he)
  rw [want_nat]
  have := bitOf_le n i
  omega

/-- A machine that keeps its bounds; ok k: k bits more may be asked for. -/
structure MachOk {σ : Type} (M : Mach σ) (ok : Nat → σ → Prop) : Prop where
  mono : ∀ {x k k'}, ok k x → k' ≤ k → ok k' x
  bit : ∀ {x k p w}, ok (k + 1) x → POk p → M.may w → (M.bit x p w).1 ≤ 1 ∧ POk (M.bit x p w).2.1 ∧ ok k (M.bit x p w).2.2
  tell : ∀ {x p w}, M.enc = true → (M.bit x p w).1 = w.toNat
  str : ∀ {x k n v}, ok (k + 1) x → n ≤ 32 → (M.enc = true → v < 2 ^ n) → (M.str x n v).1 < 2 ^ n ∧ ok k (M.str x n v).2
def okD : Nat → Dc → Prop := fun _ d => DcOk d
def okE : Nat → En → Prop := fun k e => EnOk e ∧ e.l + 32 * k ≤ 900000000
theorem encM_ok : MachOk encM okE := by
  refine ⟨fun {x k k'} h hk => ⟨h.1, by have := h.2; omega⟩, fun {x k p w} hx hp hw => ?_, fun _ => rfl, fun {x k n v} hx hn hv => ⟨hv rfl, strE_ok hx.1 v n n, ?_⟩⟩
  · have hb : w.toNat ≤ 1 := by rcases hw rfl with h | h <;> omega
    refine ⟨hb, pOk_upOf hp, bit_ok hx.1 hp, ?_⟩
    have := bit_len x p w.toNat
    have := hx.2
    show (x.bit p w.toNat).l + _ ≤ _
    omega
  · have := strE_len x v n n
    have := hx.2
    show (strE x v n n).l + _ ≤ _
    omega

/-- probabilities in their bounds, so many, and a machine that may be asked for k bits -/
structure PmOk {σ : Type} (ok : Nat → σ → Prop) (L k : Nat) (t : Pm σ) : Prop where
  ps : PsOk t.ps
  len : t.ps.length = L
  x : ok k t.x

section
variable {σ : Type} (M : Mach σ)

def bitP (t : Pm σ) (a : Nat) (w : Int) : Nat × Pm σ := ((M.bit t.x (t.ps.getD a 0) w).1, ⟨t.ps.set a (M.bit t.x (t.ps.getD a 0) w).2.1, (M.bit t.x (t.ps.getD a 0) w).2.2⟩)

theorem bitP_ok {M : Mach σ} {ok : Nat → σ → Prop} (h : MachOk M ok) {L k a : Nat} {w : Int} {t : Pm σ} (ht : PmOk ok L (k + 1) t) (ha : a < L) (hw : M.may w) : (bitP M t a w).1 ≤ 1 ∧ PmOk ok L k (bitP M t a w).2 := by
  obtain ⟨h1, h2, h3⟩ := h.bit ht.x (getD_ok ht.ps (show a < t.ps.length by rw [ht.len]; exact ha)) hw
  exact ⟨h1, psOk_set ht.ps _ h2, by show (t.ps.set _ _).length = L; rw [List.length_set]; exact ht.len, h3⟩
theorem PmOk.mono {M : Mach σ} {ok : Nat → σ → Prop} (h : MachOk M ok) {L k k' : Nat} {t : Pm σ} (ht : PmOk ok L k t) (hk : k' ≤ k) : PmOk ok L k' t := ⟨ht.ps, ht.len, h.mono ht.x hk⟩

/-- a number of bits on its way: m leads through the tree, o is the number with the least bit first -/
structure Tg (σ : Type) where
  m : Nat
  o : Nat
  t : Pm σ
def tgStep (a i : Nat) (w : Int) (s : Tg σ) : Tg σ := ⟨2 * s.m + (bitP M s.t (a + s.m) w).1, s.o + (bitP M s.t (a + s.m) w).1 * 2 ^ i, (bitP M s.t (a + s.m) w).2⟩
/-- behind the first j of n bits, the greatest first -/
def treeG (t : Pm σ) (a n : Nat) (v : Int) : Nat → Tg σ
  | 0 => ⟨1, 0, t⟩
  | j + 1 => tgStep M a j (want v (n - 1 - j)) (treeG t a n v j)
def treeP (t : Pm σ) (a n : Nat) (v : Int) : Nat × Pm σ := ((treeG M t a n v n).m - 2 ^ n, (treeG M t a n v n).t)
theorem tgStep_ok {M : Mach σ} {ok : Nat → σ → Prop} (h : MachOk M ok) {L k a i : Nat} {w : Int} {s : Tg σ} (ht : PmOk ok L (k + 1) s.t) (ha : a + s.m < L) (hw : M.may w) :
    PmOk ok L k (tgStep M a i w s).t ∧ 2 * s.m ≤ (tgStep M a i w s).m ∧ (tgStep M a i w s).m ≤ 2 * s.m + 1 ∧ (tgStep M a i w s).o ≤ s.o + 2 ^ i := by
  obtain ⟨h1, h2⟩ := bitP_ok h ht ha hw
  refine ⟨h2, Nat.le_add_right _ _, by show 2 * s.m + _ ≤ _; omega, ?_⟩
  show s.o + (bitP M s.t (a + s.m) w).1 * 2 ^ i ≤ _
  have := Nat.mul_le_mul_right (2 ^ i) h1
  omega
theorem treeG_ok {M : Mach σ} {ok : Nat → σ → Prop} (h : MachOk M ok) {L k a n : Nat} {v : Int} {t : Pm σ} (ht : PmOk ok L (k + n) t) (ha : a + 2 ^ n ≤ L) (hv : M.mayN v) :
    ∀ j, j ≤ n → PmOk ok L (k + n - j) (treeG M t a n v j).t ∧ 2 ^ j ≤ (treeG M t a n v j).m ∧ (treeG M t a n v j).m < 2 ^ (j + 1)
  | 0, _ => ⟨ht, Nat.le_refl _, by show 1 < 2 ^ 1; decide⟩
  | j + 1, hj => by
    obtain ⟨h1, h2, h3⟩ := treeG_ok h ht ha hv j (by omega)
    have hp : 2 ^ (j + 1) ≤ 2 ^ n := Nat.pow_le_pow_right (by omega) hj
    obtain ⟨k1, k2, k3, _⟩ := tgStep_ok (i := j) h (k := k + n - (j + 1)) (a := a) (w := want v (n - 1 - j)) (by rw [show k + n - (j + 1) + 1 = k + n - j by omega]; exact h1) (by omega) (want_may hv _)
    refine ⟨k1, ?_, ?_⟩
    · show 2 ^ (j + 1) ≤ (tgStep M a j _ _).m
      rw [Nat.pow_succ]; omega
    · show (tgStep M a j _ _).m < 2 ^ (j + 1 + 1)
      rw [Nat.pow_succ 2 (j + 1)]; omega
theorem treeP_ok {M : Mach σ} {ok : Nat → σ → Prop} (h : MachOk M ok) {L k a n : Nat} {v : Int} {t : Pm σ} (ht : PmOk ok L (k + n) t) (ha : a + 2 ^ n ≤ L) (hv : M.mayN v) : (treeP M t a n v).1 < 2 ^ n ∧ PmOk ok L k (treeP M t a n v).2 := by
  obtain ⟨h1, h2, h3⟩ := treeG_ok h ht ha hv n (Nat.le_refl _)
  rw [show k + n - n = k by omega] at h1
  refine ⟨?_, h1⟩
  show (treeG M t a n v n).m - 2 ^ n < 2 ^ n
  rw [Nat.pow_succ] at h3
  omega

/-- the least first -/
def revG (t : Pm σ) (a : Nat) (v : Int) : Nat → Tg σ
  | 0 => ⟨1, 0, t⟩
  | j + 1 => tgStep M a j (want v j) (revG t a v j)
def revP (t : Pm σ) (a n : Nat) (v : Int) : Nat × Pm σ := ((revG M t a v n).o, (revG M t a v n).t)

theorem revG_ok {M : Mach σ} {ok : Nat → σ → Prop} (h : MachOk M ok) {L k a n : Nat} {v : Int} {t : Pm σ} (ht : PmOk ok L (k + n) t) (ha : a + 2 ^ n ≤ L) (hv : M.mayN v) :
    ∀ j, j ≤ n → PmOk ok L (k + n - j) (revG M t a v j).t ∧ 2 ^ j ≤ (revG M t a v j).m ∧ (revG M t a v j).m < 2 ^ (j + 1) ∧ (revG M t a v j).o < 2 ^ j
  | 0, _ => ⟨ht, Nat.le_refl _, by show 1 < 2 ^ 1; decide, by show 0 < 1; decide⟩
  | j + 1, hj => by
    obtain ⟨h1, h2, h3, h4⟩ := revG_ok h ht ha hv j (by omega)
    have hp : 2 ^ (j + 1) ≤ 2 ^ n := Nat.pow_le_pow_right (by omega) hj
    obtain ⟨k1, k2, k3, k4⟩ := tgStep_ok (i := j) h (k := k + n - (j + 1)) (a := a) (w := want v j) (by rw [show k + n - (j + 1) + 1 = k + n - j by omega]; exact h1) (by omega) (want_may hv _)
    refine ⟨k1, ?_, ?_, ?_⟩
    · show 2 ^ (j + 1) ≤ (tgStep M a j _ _).m
      rw [Nat.pow_succ]; omega
    · show (tgStep M a j _ _).m < 2 ^ (j + 1 + 1)
      rw [Nat.pow_succ 2 (j + 1)]; omega
    · show (tgStep M a j _ _).o < 2 ^ (j + 1)
      rw [Nat.pow_succ]; omega
theorem revP_ok {M : Mach σ} {ok : Nat → σ → Prop} (h : MachOk M ok) {L k a n : Nat} {v : Int} {t : Pm σ} (ht : PmOk ok L (k + n) t) (ha : a + 2 ^ n ≤ L) (hv : M.mayN v) : (revP M t a n v).1 < 2 ^ n ∧ PmOk ok L k (revP M t a n v).2 := by
  obtain ⟨h1, _, _, h4⟩ := revG_ok h ht ha hv n (Nat.le_refl _)
  rw [show k + n - n = k by omega] at h1
  exact ⟨h4, h1⟩

/-- what is told, and where, but for probabilities and machine -/
structure Lzs where
  lc : Nat
  lp : Nat
  pb : Nat
  dict : Nat
  out : List UInt8
  st : Nat
  r0 : Nat
  r1 : Nat
  r2 : Nat
  r3 : Nat
  ended : Bool
  bad : Bool

/-- the byte at a distance -/
def Lzs.has (z : Lzs) (d : Nat) : Bool := decide (d < z.out.length ∧ d < z.dict)
def Lzs.back (z : Lzs) (d : Nat) : UInt8 := if z.has d = true then z.out.getD (z.out.length - 1 - d) 0 else 0

/-- the places of the probabilities -/
def litAt (z : Lzs) : Nat := 1847 + 768 * (z.out.length % 2 ^ z.lp * 2 ^ z.lc + (z.back 0).toNat / 2 ^ (8 - z.lc))
def litSt (s : Nat) : Nat := if s < 4 then 0 else if s < 10 then s - 3 else s - 6

/-- a literal on its way: whether its bits still are those of the other byte -/
structure Lg (σ : Type) where
  m : Nat
  same : Bool
  t : Pm σ
def lgStep (a : Nat) (y w : Int) (s : Lg σ) : Lg σ :=
  if s.same = true then
    ⟨2 * s.m + (bitP M s.t (a + 256 * (1 + y.toNat) + s.m) w).1, decide ((bitP M s.t (a + 256 * (1 + y.toNat) + s.m) w).1 = y.toNat), (bitP M s.t (a + 256 * (1 + y.toNat) + s.m) w).2⟩
  else ⟨2 * s.m + (bitP M s.t (a + s.m) w).1, false, (bitP M s.t (a + s.m) w).2⟩
def litG (t : Pm σ) (a : Nat) (other v : UInt8) (same : Bool) : Nat → Lg σ
  | 0 => ⟨1, same, t⟩
  | j + 1 => lgStep M a (want (other.toNat : Int) (7 - j)) (want (v.toNat : Int) (7 - j)) (litG t a other v same j)
def litP (z : Lzs) (t : Pm σ) (v : UInt8) : Nat × Pm σ :=
  ((litG M t (litAt z) (z.back z.r0) v (decide (7 ≤ z.st)) 8).m, (litG M t (litAt z) (z.back z.r0) v (decide (7 ≤ z.st)) 8).t)

/-- a length, by the lengths at a place: behind the second bit, behind the first, all -/
def lenB (b : Nat × Pm σ) (a s : Nat) (v : Int) : Nat × Pm σ :=
  if b.1 = 0 then (8 + (treeP M b.2 (a + 130 + 8 * s) 3 (v - 8)).1, (treeP M b.2 (a + 130 + 8 * s) 3 (v - 8)).2)
  else (16 + (treeP M b.2 (a + 258) 8 (v - 16)).1, (treeP M b.2 (a + 258) 8 (v - 16)).2)
def lenA (b : Nat × Pm σ) (a s : Nat) (v : Int) : Nat × Pm σ :=
  if b.1 = 0 then treeP M b.2 (a + 2 + 8 * s) 3 v else lenB M (bitP M b.2 (a + 1) (min (v.tdiv 16) 1)) a s v
def lenP (t : Pm σ) (a s : Nat) (v : Int) : Nat × Pm σ := lenA M (bitP M t a (min (v.tdiv 8) 1)) a s v

theorem may_min {M : Mach σ} {v c : Int} (hc : 1 ≤ c) (h : M.mayN v) : M.may (min (v.tdiv c) 1) := by
  intro he
  have h0 := h he
  rw [Int.tdiv_eq_ediv_of_nonneg h0]
  have := Int.ediv_nonneg h0 (show 0 ≤ c by omega)
  omega
/-- where the bit that was wanted is told, what is left may be wanted -/
theorem may_less {M : Mach σ} {ok : Nat → σ → Prop} (h : MachOk M ok) {t : Pm σ} {a : Nat} {v c : Int} (hc : 1 ≤ c) (hv : M.mayN v) (hb : ¬ (bitP M t a (min (v.tdiv c) 1)).1 = 0) : M.mayN (v - c) := by
  intro he
  have h0 := hv he
  have ht : (bitP M t a (min (v.tdiv c) 1)).1 = (min (v.tdiv c) 1).toNat := h.tell he
  rw [ht, Int.tdiv_eq_ediv_of_nonneg h0] at hb
  have h1 : 1 ≤ v / c := by omega
  have h2 := (Int.le_ediv_iff_mul_le (show 0 < c by omega)).1 h1
  omega
theorem lenP_ok {M : Mach σ} {ok : Nat → σ → Prop} (h : MachOk M ok) {L k a s : Nat} {v : Int} {t : Pm σ} (ht : PmOk ok L (k + 10) t) (ha : a + 514 ≤ L) (hs : s ≤ 15) (hv : M.mayN v) : (lenP M t a s v).1 < 272 ∧ PmOk ok L k (lenP M t a s v).2 := by
  obtain ⟨b1, p1⟩ := bitP_ok h (k := k + 9) ht (show a < L by omega) (may_min (c := 8) (by decide) hv)
  unfold lenP lenA
  split
  · obtain ⟨h1, h2⟩ := treeP_ok h (k := k) (n := 3) (a := a + 2 + 8 * s) (p1.mono h (show k + 3 ≤ k + 9 by omega)) (by show a + 2 + 8 * s + 8 ≤ L; omega) hv
    have h1 : _ < 8 := h1
    exact ⟨by omega, h2⟩
  · rename_i hb
    have hv8 := may_less h (by decide) hv hb
    obtain ⟨b2, p2⟩ := bitP_ok h (k := k + 8) p1 (show a + 1 < L by omega) (may_min (c := 16) (by decide) hv)
    unfold lenB
    split
    · obtain ⟨h1, h2⟩ := treeP_ok h (k := k) (n := 3) (a := a + 130 + 8 * s) (p2.mono h (show k + 3 ≤ k + 8 by omega)) (by show a + 130 + 8 * s + 8 ≤ L; omega) hv8
      have h1 : _ < 8 := h1
      exact ⟨by show 8 + _ < 272; omega, h2⟩
    · rename_i hb2
      have hv16 := may_less h (by decide) hv hb2
      obtain ⟨h1, h2⟩ := treeP_ok h (k := k) (n := 8) (a := a + 258) p2 (by show a + 258 + 256 ≤ L; omega) hv16
      have h1 : _ < 256 := h1
      exact ⟨by show 16 + _ < 272; omega, h2⟩

/-- the slot of a distance: what is left of it, and how often it was halved -/
def slotGo : Nat → Nat × Nat → Nat × Nat
  | 0, s => s
  | f + 1, s => if 4 ≤ s.1 then slotGo f (s.1 / 2, s.2 + 1) else s
def slotOf (d : Nat) : Nat := 2 * (slotGo 32 (d, 0)).2 + (slotGo 32 (d, 0)).1

/-- a distance: behind the straight bits, behind the slot, all -/
def distC (b : Nat × σ) (ps : List Nat) (base v : Nat) : Nat × Pm σ :=
  (base + 16 * b.1 + (revP M ⟨ps, b.2⟩ 803 4 ((v % 16 : Nat) : Int)).1, (revP M ⟨ps, b.2⟩ 803 4 ((v % 16 : Nat) : Int)).2)
def distB (b : Nat × Pm σ) (v : Nat) : Nat × Pm σ :=
  if b.1 < 4 then b
  else if b.1 < 14 then
    ((2 + b.1 % 2) * 2 ^ (b.1 / 2 - 1) + (revP M b.2 (688 + (2 + b.1 % 2) * 2 ^ (b.1 / 2 - 1) - b.1) (b.1 / 2 - 1) ((v : Int) - ((2 + b.1 % 2) * 2 ^ (b.1 / 2 - 1) : Nat))).1,
      (revP M b.2 (688 + (2 + b.1 % 2) * 2 ^ (b.1 / 2 - 1) - b.1) (b.1 / 2 - 1) ((v : Int) - ((2 + b.1 % 2) * 2 ^ (b.1 / 2 - 1) : Nat))).2)
  else distC M (M.str b.2.x (b.1 / 2 - 1 - 4) ((v + 4294967296 - (2 + b.1 % 2) * 2 ^ (b.1 / 2 - 1)) % 4294967296 / 16)) b.2.ps ((2 + b.1 % 2) * 2 ^ (b.1 / 2 - 1)) v
def distP (t : Pm σ) (l v : Nat) : Nat × Pm σ := distB M (treeP M t (432 + 64 * min l 3) 6 (slotOf v : Int)) v

/-- which packet it is, bit by bit from the last one: the kind, whether it is bad, what is left -/
def chI (c : Prop) [Decidable c] : Int := if c then 0 else 1
def kd5 (b : Nat × Pm σ) : Nat × Bool × Pm σ := (if b.1 = 0 then 4 else 5, false, b.2)
def kd4 (b : Nat × Pm σ) (st : Nat) (k : Int) : Nat × Bool × Pm σ := if b.1 = 0 then (3, false, b.2) else kd5 (bitP M b.2 (228 + st) (chI (k = 4)))
def kdL (b : Nat × Pm σ) : Nat × Bool × Pm σ := (if b.1 = 0 then 6 else 2, false, b.2)
def kd3 (b : Nat × Pm σ) (st s : Nat) (k : Int) : Nat × Bool × Pm σ := if b.1 = 0 then kdL (bitP M b.2 (240 + 16 * st + s) (chI (k = 6))) else kd4 M (bitP M b.2 (216 + st) (chI (k = 3))) st k
def kd2 (b : Nat × Pm σ) (empty : Bool) (st s : Nat) (k : Int) : Nat × Bool × Pm σ := if b.1 = 0 then (1, false, b.2) else if empty = true then (6, true, b.2) else kd3 M (bitP M b.2 (204 + st) (chI (k = 2 ∨ k = 6))) st s k
def kd1 (b : Nat × Pm σ) (empty : Bool) (st s : Nat) (k : Int) : Nat × Bool × Pm σ := if b.1 = 0 then (0, false, b.2) else kd2 M (bitP M b.2 (192 + st) (chI (k = 1 ∨ k = 7))) empty st s k
def kindP (t : Pm σ) (empty : Bool) (st s : Nat) (k : Int) : Nat × Bool × Pm σ := kd1 M (bitP M t (16 * st + s) (min k 1)) empty st s k
end
theorem chI_may {σ : Type} {M : Mach σ} (c : Prop) [Decidable c] : M.may (chI c) := fun _ => by unfold chI; split <;> simp
end Go.Proofs.YtoencondpbkomaaGreat

/-
  The packets of LZMA as numbers: a packet whole, a stream, its bounds.
-/
namespace Go.Proofs.YtoencondpbkomaaGreat

section
variable {σ : Type} {M : Mach σ} {ok : Nat → σ → Prop} {t : Pm σ} {z : Lzs}
theorem want_byte (v : UInt8) (i : Nat) : ∃ b : Nat, want (v.toNat : Int) i = (b : Int) ∧ b ≤ 1 := ⟨bitOf v.toNat i, want_nat _ _, bitOf_le _ _⟩
theorem lgStep_ok (Z : MachOk M ok) {L k a j : Nat} {y b : Nat} {s : Lg σ} (ht : PmOk ok L (k + 1) s.t) (ha : a + 768 ≤ L) (h0 : s.m < 2 ^ (j + 1)) (hj : j < 8) (hy : y ≤ 1) (hb : b ≤ 1) :
    PmOk ok L k (lgStep M a (y : Int) (b : Int) s).t ∧ 2 * s.m ≤ (lgStep M a (y : Int) (b : Int) s).m ∧ (lgStep M a (y : Int) (b : Int) s).m ≤ 2 * s.m + 1 := by
  have hp : 2 ^ (j + 1) ≤ 256 := Nat.le_trans (Nat.pow_le_pow_right (by omega) (show j + 1 ≤ 8 by omega)) (by decide)
  have hm : M.may (b : Int) := fun _ => by omega
  unfold lgStep
  split
  · obtain ⟨h1, h2⟩ := bitP_ok Z ht (a := a + 256 * (1 + (y : Int).toNat) + s.m) (by rw [Int.toNat_natCast]; omega) hm
    exact ⟨h2, Nat.le_add_right _ _, by show 2 * s.m + _ ≤ _; omega⟩
  · obtain ⟨h1, h2⟩ := bitP_ok Z ht (a := a + s.m) (by omega) hm
    exact ⟨h2, Nat.le_add_right _ _, by show 2 * s.m + _ ≤ _; omega⟩
theorem litG_ok (Z : MachOk M ok) {L k a : Nat} {o v : UInt8} {same : Bool} (ht : PmOk ok L (k + 8) t) (ha : a + 768 ≤ L) :
    ∀ j, j ≤ 8 → PmOk ok L (k + 8 - j) (litG M t a o v same j).t ∧ 2 ^ j ≤ (litG M t a o v same j).m ∧ (litG M t a o v same j).m < 2 ^ (j + 1)
  | 0, _ => ⟨ht, Nat.le_refl _, by show 1 < 2 ^ 1; decide⟩
  | j + 1, hj => by
    obtain ⟨h1, h2, h3⟩ := litG_ok Z ht ha j (by omega)
    obtain ⟨y, hy, hy1⟩ := want_byte o (7 - j)
    obtain ⟨b, hb, hb1⟩ := want_byte v (7 - j)
    show PmOk ok L _ (lgStep M a (want (o.toNat : Int) (7 - j)) (want (v.toNat : Int) (7 - j)) _).t ∧ _ ≤ (lgStep M a _ _ _).m ∧ (lgStep M a _ _ _).m < _
    rw [hy, hb]
    obtain ⟨k1, k2, k3⟩ := lgStep_ok Z (k := k + 8 - (j + 1)) (a := a) (j := j) (by rw [show k + 8 - (j + 1) + 1 = k + 8 - j by omega]; exact h1) ha h3 (by omega) hy1 hb1
    refine ⟨k1, ?_, ?_⟩
    · rw [Nat.pow_succ]; omega
    · rw [Nat.pow_succ 2 (j + 1)]; omega
/-- settings that may be, and what else keeps the numbers small -/
structure ZFine (z : Lzs) (L : Nat) : Prop where
  lc : z.lc ≤ 8
  lp : z.lp ≤ 4
  pb : z.pb ≤ 4
  dict : z.dict < 4294967296
  out : z.out.length ≤ 1000000
  st : z.st ≤ 11
  r0 : z.r0 < 4294967296
  r1 : z.r1 < 4294967296
  r2 : z.r2 < 4294967296
  r3 : z.r3 < 4294967296
  len : L = 1847 + 768 * 2 ^ (z.lc + z.lp)
theorem pow_le_of {n m : Nat} (h : n ≤ m) : 2 ^ n ≤ 2 ^ m := Nat.pow_le_pow_right (by omega) h
theorem ZFine.small {L : Nat} (h : ZFine z L) : L ≤ 100000000 ∧ litAt z + 768 ≤ L := by
  have hL := h.len
  have h1 : 2 ^ (z.lc + z.lp) ≤ 2 ^ 12 := pow_le_of (by have := h.lc; have := h.lp; omega)
  refine ⟨by omega, ?_⟩
  unfold litAt
  have h2 : z.out.length % 2 ^ z.lp + 1 ≤ 2 ^ z.lp := Nat.mod_lt _ (Nat.two_pow_pos _)
  have h3 : (z.out.length % 2 ^ z.lp + 1) * 2 ^ z.lc ≤ 2 ^ z.lp * 2 ^ z.lc := Nat.mul_le_mul_right _ h2
  rw [← Nat.pow_add, Nat.add_mul, Nat.one_mul, Nat.add_comm z.lp] at h3
  have h4 : (z.back 0).toNat / 2 ^ (8 - z.lc) + 1 ≤ 2 ^ z.lc := by
    have hb := (z.back 0).toNat_lt
    have : (z.back 0).toNat < 2 ^ (8 - z.lc) * 2 ^ z.lc := by
      rw [← Nat.pow_add, show 8 - z.lc + z.lc = 8 by have := h.lc; omega]; exact hb
    exact (Nat.div_lt_iff_lt_mul (Nat.two_pow_pos _)).2 (by rw [Nat.mul_comm]; exact this)
  omega
theorem slotGo_spec : ∀ (f x c : Nat), x < 2 ^ (f + 2) → ∃ m, slotGo f (x, c) = (x / 2 ^ m, c + m) ∧ x / 2 ^ m < 4 ∧ (m = 0 ∨ 2 ≤ x / 2 ^ m) ∧ m ≤ f
  | 0, x, c, h => ⟨0, by simp [slotGo], by simpa using h, .inl rfl, Nat.le_refl _⟩
  | f + 1, x, c, h => by
    by_cases h4 : 4 ≤ x
    · obtain ⟨m, h1, h2, h3, h5⟩ := slotGo_spec f (x / 2) (c + 1) (by rw [show f + 1 + 2 = (f + 2) + 1 by omega, Nat.pow_succ] at h; omega)
      have hd : x / 2 / 2 ^ m = x / 2 ^ (m + 1) := by rw [Nat.div_div_eq_div_mul, Nat.pow_succ, Nat.mul_comm]
      rw [hd] at h1 h2 h3
      refine ⟨m + 1, ?_, h2, .inr ?_, by omega⟩
      · show (if 4 ≤ x then slotGo f (x / 2, c + 1) else (x, c)) = _
        rw [if_pos h4, h1, show c + 1 + m = c + (m + 1) by omega]
      · rcases h3 with h3 | h3
        · subst h3
          show 2 ≤ x / 2 ^ 1
          omega
        · exact h3
    · refine ⟨0, ?_, by simp; omega, .inl rfl, Nat.zero_le _⟩
      show (if 4 ≤ x then slotGo f (x / 2, c + 1) else (x, c)) = _
      rw [if_neg h4]
      simp
/-- what a slot leaves: the base, and how many bits -/
theorem slot_spec {v : Nat} (hv : v < 4294967296) : slotOf v < 64 ∧ (slotOf v < 4 → v = slotOf v) ∧
    (4 ≤ slotOf v → (2 + slotOf v % 2) * 2 ^ (slotOf v / 2 - 1) ≤ v ∧ v < (2 + slotOf v % 2) * 2 ^ (slotOf v / 2 - 1) + 2 ^ (slotOf v / 2 - 1)) := by
  obtain ⟨m, h1, h2, h3, h4⟩ := slotGo_spec 32 v 0 (by omega)
  have hs : slotOf v = 2 * m + v / 2 ^ m := by unfold slotOf; rw [h1]; simp
  have hm : m ≤ 30 := by
    rcases h3 with h | h
    · omega
    · have h5 := Nat.mul_le_of_le_div _ _ _ h
      rcases Nat.lt_or_ge m 31 with h6 | h6
      · omega
      · have := pow_le_of h6
        omega
  refine ⟨by omega, fun h => ?_, fun h => ?_⟩
  · rcases h3 with h0 | h0
    · subst h0; simp at hs; omega
    · obtain rfl : m = 0 := by omega
      simp at hs; omega
  · have hm1 : 1 ≤ m := by
      rcases Nat.eq_zero_or_pos m with h0 | h0
      · subst h0; simp at hs h2; omega
      · exact h0
    have ht : 2 ≤ v / 2 ^ m := by rcases h3 with h0 | h0; omega; exact h0
    have e1 : slotOf v / 2 - 1 = m := by omega
    have e2 : 2 + slotOf v % 2 = v / 2 ^ m := by omega
    rw [e1, e2]
    have hp := Nat.two_pow_pos m
    have h5 := Nat.div_mul_le_self v (2 ^ m)
    have h6 := Nat.div_add_mod v (2 ^ m)
    have h7 := Nat.mod_lt v hp
    rw [Nat.mul_comm] at h6
    omega
/-- a coder tells what is wanted -/
theorem tree_tell {M : Mach σ} {ok : Nat → σ → Prop} (h : MachOk M ok) (he : M.enc = true) {t : Pm σ} {a n v : Nat} : ∀ j, j ≤ n → (treeG M t a n (v : Int) j).m = 2 ^ j + v % 2 ^ n / 2 ^ (n - j)
  | 0, _ => by
    rw [Nat.sub_zero, Nat.div_eq_of_lt (Nat.mod_lt _ (Nat.two_pow_pos n))]
    rfl
  | j + 1, hj => by
    have ih := tree_tell h he (t := t) (a := a) (n := n) (v := v) j (by omega)
    show 2 * (treeG M t a n (v : Int) j).m + (bitP M _ _ (want (v : Int) (n - 1 - j))).1 = _
    have hb : (bitP M (treeG M t a n (v : Int) j).t (a + (treeG M t a n (v : Int) j).m) (want (v : Int) (n - 1 - j))).1 = bitOf v (n - 1 - j) := by
      rw [want_nat]
      exact (h.tell he).trans (Int.toNat_natCast _)
    rw [hb, ih, Nat.pow_succ, ← top_bits v n j (by omega)]
    omega
theorem treeP_tell {M : Mach σ} {ok : Nat → σ → Prop} (h : MachOk M ok) (he : M.enc = true) {t : Pm σ} {a n v : Nat} (hv : v < 2 ^ n) : (treeP M t a n (v : Int)).1 = v := by
  show (treeG M t a n (v : Int) n).m - 2 ^ n = v
  rw [tree_tell h he n (Nat.le_refl n), Nat.sub_self, Nat.pow_zero, Nat.div_one, Nat.mod_eq_of_lt hv]
  omega
end


theorem special_in : ∀ s : Fin 14, 4 ≤ s.val → (2 + s.val % 2) * 2 ^ (s.val / 2 - 1) + 2 ^ (s.val / 2 - 1) ≤ 115 + s.val ∧ s.val ≤ 688 ∧ s.val / 2 - 1 ≤ 5 := by decide +kernel

/-- a packet that is wanted -/
structure Pk where
  kind : Int
  dist : Nat
  len : Int
  byte : UInt8

def Lzs.push (z : Lzs) (b : UInt8) : Lzs := { z with out := z.out ++ [b] }
/-- bytes at the first distance, one behind the other: how many, and the state then -/
def copyG : Nat → Nat → Lzs → Nat × Lzs
  | 0, n, z => (n, z)
  | f + 1, n, z => if z.has z.r0 = true then copyG f (n + 1) (z.push (z.back z.r0)) else (n, { z with bad := true })
theorem copyG_zero (n : Nat) (z : Lzs) : copyG 0 n z = (n, z) := rfl
theorem copyG_go {f n : Nat} {z : Lzs} (h : z.has z.r0 = true) : copyG (f + 1) n z = copyG f (n + 1) (z.push (z.back z.r0)) := if_pos h
theorem copyG_stop {f n : Nat} {z : Lzs} (h : ¬ z.has z.r0 = true) : copyG (f + 1) n z = (n, { z with bad := true }) := if_neg h

def aft (a b s : Nat) : Nat := if s < 7 then a else b
def Lzs.rep (z : Lzs) (j : Nat) : Nat := if j = 0 then z.r0 else if j = 1 then z.r1 else if j = 2 then z.r2 else z.r3
/-- the distances where the one with the number j is used again -/
def Lzs.again (z : Lzs) (j : Nat) : Lzs := { z with r0 := z.rep j, r1 := if j = 0 then z.r1 else z.r0, r2 := if j ≤ 1 then z.r2 else z.r1, r3 := if j ≤ 2 then z.r3 else z.r2 }

section
variable {σ : Type} (M : Mach σ)

/-- behind the numbers of a packet: the bytes -/
def tailP (many : Nat) (z : Lzs) (t : Pm σ) : Nat × Lzs × Pm σ :=
  if (z.bad || M.bad t.x || z.ended) = true then (0, { z with bad := z.bad || M.bad t.x }, t)
  else ((copyG many 0 z).1, (copyG many 0 z).2, t)
def packL (b : Nat × Pm σ) (z : Lzs) : Nat × Lzs × Pm σ :=
  if M.bad b.2.x = true then (0, { z with st := litSt z.st, bad := true }, b.2) else (1, { z with st := litSt z.st }.push (UInt8.ofNat b.1), b.2)
def packD (l : Nat) (b : Nat × Pm σ) (z : Lzs) : Nat × Lzs × Pm σ := tailP M (l + 2) { z with r0 := b.1, ended := decide (b.1 = 4294967295) && !M.bad b.2.x } b.2
def packM (b : Nat × Pm σ) (z : Lzs) (want : Nat) : Nat × Lzs × Pm σ :=
  packD M b.1 (distP M b.2 b.1 want) { z with r0 := 0, r1 := z.r0, r2 := z.r1, r3 := z.r2, st := aft 7 10 z.st }
def packR (b : Nat × Pm σ) (z : Lzs) (j : Nat) : Nat × Lzs × Pm σ := tailP M (b.1 + 2) { z.again j with st := aft 8 11 z.st } b.2
def packK (kb : Nat × Bool × Pm σ) (z : Lzs) (s : Nat) (p : Pk) : Nat × Lzs × Pm σ :=
  if kb.1 = 0 then packL M (litP M { z with bad := z.bad || kb.2.1 } kb.2.2 p.byte) { z with bad := z.bad || kb.2.1 }
  else if kb.1 = 1 then packM M (lenP M kb.2.2 819 s (if p.kind = 7 then 0 else p.len - 2)) { z with bad := z.bad || kb.2.1 } (if p.kind = 7 then 4294967295 else p.dist)
  else if kb.1 = 6 then tailP M 1 { z with bad := z.bad || kb.2.1, st := aft 9 11 z.st } kb.2.2
  else packR M (lenP M kb.2.2 1333 s (p.len - 2)) { z with bad := z.bad || kb.2.1 } (kb.1 - 2)
def packP (z : Lzs) (t : Pm σ) (p : Pk) : Nat × Lzs × Pm σ :=
  packK M (kindP M t (decide (z.out.length = 0)) z.st (z.out.length % 2 ^ z.pb) p.kind) z (z.out.length % 2 ^ z.pb) p

/-- what kind may be told, and what it leaves -/
theorem kindP_ok {M : Mach σ} {ok : Nat → σ → Prop} (h : MachOk M ok) {L k s st : Nat} {em : Bool} {kd : Int} {t : Pm σ} (ht : PmOk ok L (k + 5) t) (hL : 1847 ≤ L) (hs : s ≤ 15) (hst : st ≤ 11) (hk : M.mayN kd) :
    (kindP M t em st s kd).1 ≤ 6 ∧ PmOk ok L k (kindP M t em st s kd).2.2 := by
  have hmay : M.may (min kd 1) := fun he => by have := hk he; omega
  obtain ⟨b1, p1⟩ := bitP_ok h (k := k + 4) (a := 16 * st + s) (w := min kd 1) ht (by omega) hmay
  unfold kindP kd1
  split
  · exact ⟨by dsimp only; omega, p1.mono h (by omega)⟩
  obtain ⟨b2, p2⟩ := bitP_ok h (k := k + 3) (a := 192 + st) (w := chI (kd = 1 ∨ kd = 7)) p1 (by omega) (chI_may _)
  unfold kd2
  split
  · exact ⟨by dsimp only; omega, p2.mono h (by omega)⟩
  split
  · exact ⟨by dsimp only; omega, p2.mono h (by omega)⟩
  obtain ⟨b3, p3⟩ := bitP_ok h (k := k + 2) (a := 204 + st) (w := chI (kd = 2 ∨ kd = 6)) p2 (by omega) (chI_may _)
  unfold kd3
  split
  · obtain ⟨b4, p4⟩ := bitP_ok h (k := k + 1) (a := 240 + 16 * st + s) (w := chI (kd = 6)) p3 (by omega) (chI_may _)
    unfold kdL
    exact ⟨by dsimp only; split <;> omega, p4.mono h (by omega)⟩
  obtain ⟨b4, p4⟩ := bitP_ok h (k := k + 1) (a := 216 + st) (w := chI (kd = 3)) p3 (by omega) (chI_may _)
  unfold kd4
  split
  · exact ⟨by dsimp only; omega, p4.mono h (by omega)⟩
  obtain ⟨b5, p5⟩ := bitP_ok h (k := k) (a := 228 + st) (w := chI (kd = 4)) p4 (by omega) (chI_may _)
  unfold kd5
  exact ⟨by dsimp only; split <;> omega, p5⟩
theorem litP_ok {M : Mach σ} {ok : Nat → σ → Prop} (h : MachOk M ok) {L k : Nat} {z : Lzs} {v : UInt8} {t : Pm σ} (ht : PmOk ok L (k + 8) t) (ha : litAt z + 768 ≤ L) : PmOk ok L k (litP M z t v).2 := by
  have h1 := (litG_ok h (k := k) (o := z.back z.r0) (v := v) (same := decide (7 ≤ z.st)) ht ha 8 (Nat.le_refl _)).1
  rw [Nat.add_sub_cancel] at h1
  exact h1
end

section
variable {σ : Type} {M : Mach σ} {ok : Nat → σ → Prop}

theorem distP_ok (h : MachOk M ok) {L k l v : Nat} {t : Pm σ} (ht : PmOk ok L (k + 12) t) (hL0 : 1847 ≤ L) (hv : v < 4294967296) : (distP M t l v).1 < 4294967296 ∧ PmOk ok L k (distP M t l v).2 := by
  obtain ⟨s1, s2, s3⟩ := slot_spec hv
  obtain ⟨a, ha⟩ : ∃ a, a = 432 + 64 * min l 3 := ⟨_, rfl⟩
  have hmv : M.mayN ((slotOf v : Nat) : Int) := fun _ => by omega
  have hT := treeP_ok h (k := k + 6) (n := 6) (a := a) (v := ((slotOf v : Nat) : Int)) (t := t) ht (by show a + 64 ≤ L; omega) hmv
  have htell : M.enc = true → (treeP M t a 6 ((slotOf v : Nat) : Int)).1 = slotOf v := fun he => treeP_tell h he s1
  have hdef : distP M t l v = distB M (treeP M t a 6 ((slotOf v : Nat) : Int)) v := by rw [ha]; rfl
  rw [hdef]
  obtain ⟨sl, hsl⟩ : ∃ sl, sl = treeP M t a 6 ((slotOf v : Nat) : Int) := ⟨_, rfl⟩
  rw [← hsl] at hT htell ⊢
  have hs64 : sl.1 < 64 := hT.1
  have hp1 := hT.2
  unfold distB
  by_cases h4 : sl.1 < 4
  · rw [if_pos h4]
    exact ⟨by omega, hp1.mono h (by omega)⟩
  rw [if_neg h4]
  obtain ⟨n, hn⟩ : ∃ n, n = sl.1 / 2 - 1 := ⟨_, rfl⟩
  obtain ⟨r, hr⟩ : ∃ r, r = sl.1 % 2 := ⟨_, rfl⟩
  obtain ⟨P, hP⟩ : ∃ P, P = 2 ^ n := ⟨_, rfl⟩
  obtain ⟨base, hb⟩ : ∃ b, b = (2 + r) * P := ⟨_, rfl⟩
  have hn30 : n ≤ 30 := by omega
  have hP30 : P ≤ 2 ^ 30 := by rw [hP]; exact pow_le_of hn30
  have hb3 : base ≤ 3 * P := by rw [hb]; exact Nat.mul_le_mul_right P (by omega)
  have hspec : M.enc = true → base ≤ v ∧ v < base + P := fun he => by
    have h1 := htell he
    have h2 := s3 (by omega)
    rw [← h1, ← hn, ← hr, ← hP, ← hb] at h2
    exact h2
  by_cases h14 : sl.1 < 14
  · rw [if_pos h14, ← hn, ← hr, ← hP, ← hb]
    obtain ⟨c1, c2, c3⟩ := special_in ⟨sl.1, h14⟩ (by show 4 ≤ sl.1; omega)
    dsimp only at c1 c2 c3
    rw [← hn, ← hr, ← hP, ← hb] at c1
    rw [← hn] at c3
    have hmu : M.mayN ((v : Int) - (base : Int)) := fun he => by have := (hspec he).1; omega
    obtain ⟨h1, h2⟩ := revP_ok h (k := k) (n := n) (a := 688 + base - sl.1) (v := (v : Int) - (base : Int)) (hp1.mono h (show k + n ≤ k + 6 by omega)) (by rw [← hP]; omega) hmu
    rw [← hP] at h1
    exact ⟨by dsimp only; omega, h2⟩
  · rw [if_neg h14, ← hn, ← hr, ← hP, ← hb]
    have hn5 : 6 ≤ n := by omega
    obtain ⟨rest, hrest⟩ : ∃ x, x = (v + 4294967296 - base) % 4294967296 / 16 := ⟨_, rfl⟩
    obtain ⟨P4, hP4⟩ : ∃ P, P = 2 ^ (n - 4) := ⟨_, rfl⟩
    have hPP : P = 16 * P4 := by rw [hP, hP4, show (16 : Nat) = 2 ^ 4 from rfl, ← Nat.pow_add, show 4 + (n - 4) = n by omega]
    have hst : M.enc = true → rest < 2 ^ (n - 4) := fun he => by
      have := hspec he
      rw [← hP4]
      omega
    rw [← hrest]
    have hS := h.str (k := k + 5) (n := n - 4) (v := rest) hp1.x (by omega) hst
    rw [← hP4] at hS
    unfold distC
    have hmr : M.mayN ((v % 16 : Nat) : Int) := fun _ => by omega
    have hp2 : PmOk ok L (k + 5) (⟨sl.2.ps, (M.str sl.2.x (n - 4) rest).2⟩ : Pm σ) := ⟨hp1.ps, hp1.len, hS.2⟩
    obtain ⟨h1, h2⟩ := revP_ok h (k := k) (n := 4) (a := 803) (v := ((v % 16 : Nat) : Int)) (hp2.mono h (show k + 4 ≤ k + 5 by omega)) (by show 803 + 16 ≤ L; omega) hmr
    have h16 : (2 : Nat) ^ 4 = 16 := rfl
    rw [h16] at h1
    have := hS.1
    exact ⟨by dsimp only; omega, h2⟩

/-- a coder's kind is the one that is wanted -/
theorem kindP_tell (h : MachOk M ok) (he : M.enc = true) {s st : Nat} {em : Bool} {kd : Int} {t : Pm σ} (h0 : 0 ≤ kd) (h1 : kd ≤ 7) (hem : em = true → kd = 0 ∨ kd = 1 ∨ kd = 7) :
    (((kindP M t em st s kd).1 : Nat) : Int) = (if kd = 7 then 1 else kd) ∧ (kindP M t em st s kd).2.1 = false := by
  have tell : ∀ (t : Pm σ) (a : Nat) (w : Int), (bitP M t a w).1 = w.toNat := fun t a w => h.tell he
  have m0 : min (0 : Int) 1 = 0 := by decide
  have m1 : min (1 : Int) 1 = 1 := by decide
  have m2 : min (2 : Int) 1 = 1 := by decide
  have m3 : min (3 : Int) 1 = 1 := by decide
  have m4 : min (4 : Int) 1 = 1 := by decide
  have m5 : min (5 : Int) 1 = 1 := by decide
  have m6 : min (6 : Int) 1 = 1 := by decide
  have m7 : min (7 : Int) 1 = 1 := by decide
  have hk : kd = 0 ∨ kd = 1 ∨ kd = 2 ∨ kd = 3 ∨ kd = 4 ∨ kd = 5 ∨ kd = 6 ∨ kd = 7 := by omega
  cases em
  · rcases hk with rfl | rfl | rfl | rfl | rfl | rfl | rfl | rfl <;> simp [kindP, kd1, kd2, kd3, kdL, kd4, kd5, tell, chI, m0, m1, m2, m3, m4, m5, m6, m7]
  · rcases hem rfl with rfl | rfl | rfl <;> simp [kindP, kd1, kd2, tell, chI, m0, m1, m7]

/-- what is wanted of a coder may be -/
def PkMay (M : Mach σ) (z : Lzs) (p : Pk) : Prop :=
  M.enc = true → 0 ≤ p.kind ∧ p.kind ≤ 7 ∧ (z.out.length = 0 → p.kind = 0 ∨ p.kind = 1 ∨ p.kind = 7) ∧ (1 ≤ p.kind ∧ p.kind ≤ 5 → 2 ≤ p.len)
/-- its numbers -/
structure PkFine (p : Pk) : Prop where
  k0 : -1000000 ≤ p.kind
  k1 : p.kind ≤ 1000000
  d : p.dist < 4294967296
/-- a length that is used may be -/
def PkLen (M : Mach σ) (p : Pk) : Prop := (-900000 ≤ p.len ∧ p.len ≤ 900000) ∨ (M.enc = true ∧ (p.kind = 0 ∨ p.kind = 6 ∨ p.kind = 7))

/-- the bounds that copying keeps -/
structure Like (z z' : Lzs) : Prop where
  lc : z'.lc = z.lc
  lp : z'.lp = z.lp
  pb : z'.pb = z.pb
  dict : z'.dict = z.dict
theorem Like.refl (z : Lzs) : Like z z := ⟨rfl, rfl, rfl, rfl⟩
theorem Like.trans {a b c : Lzs} (h : Like a b) (k : Like b c) : Like a c := ⟨k.lc.trans h.lc, k.lp.trans h.lp, k.pb.trans h.pb, k.dict.trans h.dict⟩

/-- like ZFine, with room for so many bytes more -/
structure ZNear (z : Lzs) (L n : Nat) : Prop where
  lc : z.lc ≤ 8
  lp : z.lp ≤ 4
  pb : z.pb ≤ 4
  dict : z.dict < 4294967296
  out : z.out.length ≤ n
  st : z.st ≤ 11
  r0 : z.r0 < 4294967296
  r1 : z.r1 < 4294967296
  r2 : z.r2 < 4294967296
  r3 : z.r3 < 4294967296
  len : L = 1847 + 768 * 2 ^ (z.lc + z.lp)
theorem ZNear.fine {z : Lzs} {L n : Nat} (h : ZNear z L n) (hn : n ≤ 1000000) : ZFine z L := ⟨h.lc, h.lp, h.pb, h.dict, Nat.le_trans h.out hn, h.st, h.r0, h.r1, h.r2, h.r3, h.len⟩
theorem ZNear.more {z : Lzs} {L n m : Nat} (h : ZNear z L n) (hn : n ≤ m) : ZNear z L m := ⟨h.lc, h.lp, h.pb, h.dict, Nat.le_trans h.out hn, h.st, h.r0, h.r1, h.r2, h.r3, h.len⟩

theorem copyG_near {L : Nat} : ∀ (f n N : Nat) {z : Lzs}, ZNear z L N → ZNear (copyG f n z).2 L (N + f) ∧ (copyG f n z).1 ≤ n + f
  | 0, n, N, z, h => ⟨h, Nat.le_refl _⟩
  | f + 1, n, N, z, h => by
    by_cases hz : z.has z.r0 = true
    · rw [copyG_go hz]
      have h2 : ZNear (z.push (z.back z.r0)) L (N + 1) := ⟨h.lc, h.lp, h.pb, h.dict, by show (z.out ++ [_]).length ≤ _; have := h.out; simp; omega, h.st, h.r0, h.r1, h.r2, h.r3, h.len⟩
      obtain ⟨a, b⟩ := copyG_near f (n + 1) (N + 1) h2
      exact ⟨a.more (by omega), by omega⟩
    · rw [copyG_stop hz]
      exact ⟨⟨h.lc, h.lp, h.pb, h.dict, by have := h.out; show z.out.length ≤ _; omega, h.st, h.r0, h.r1, h.r2, h.r3, h.len⟩, by dsimp only; omega⟩
theorem tailP_near {L k N many : Nat} {z : Lzs} {t : Pm σ} (h : ZNear z L N) (ht : PmOk ok L k t) : ZNear (tailP M many z t).2.1 L (N + many) ∧ PmOk ok L k (tailP M many z t).2.2 ∧ (tailP M many z t).1 ≤ many := by
  unfold tailP
  split
  · exact ⟨⟨h.lc, h.lp, h.pb, h.dict, by have := h.out; show z.out.length ≤ _; omega, h.st, h.r0, h.r1, h.r2, h.r3, h.len⟩, ht, by dsimp only; omega⟩
  · obtain ⟨a, b⟩ := copyG_near many 0 N h
    exact ⟨a, ht, by dsimp only; omega⟩

theorem aft_le {a b s : Nat} (ha : a ≤ 11) (hb : b ≤ 11) : aft a b s ≤ 11 := by unfold aft; split <;> omega
theorem litSt_le {s : Nat} (h : s ≤ 11) : litSt s ≤ 11 := by unfold litSt; split <;> (try split) <;> omega
theorem rep_lt {z : Lzs} {L n : Nat} (h : ZNear z L n) (j : Nat) : z.rep j < 4294967296 := by
  have h0 := h.r0
  have h1 := h.r1
  have h2 := h.r2
  have h3 := h.r3
  unfold Lzs.rep
  split
  · exact h0
  split
  · exact h1
  split
  · exact h2
  · exact h3

/-- the place of a literal's probabilities is in -/
theorem lit_in {z : Lzs} {L n : Nat} {b : Bool} (h : ZNear z L n) : litAt { z with bad := b } + 768 ≤ L := by
  have hL := h.len
  unfold litAt
  have h2 : z.out.length % 2 ^ z.lp + 1 ≤ 2 ^ z.lp := Nat.mod_lt _ (Nat.two_pow_pos _)
  have h3 : (z.out.length % 2 ^ z.lp + 1) * 2 ^ z.lc ≤ 2 ^ z.lp * 2 ^ z.lc := Nat.mul_le_mul_right _ h2
  rw [← Nat.pow_add, Nat.add_mul, Nat.one_mul, Nat.add_comm z.lp] at h3
  have h4 : (Lzs.back { z with bad := b } 0).toNat / 2 ^ (8 - z.lc) + 1 ≤ 2 ^ z.lc := by
    have hb := (Lzs.back { z with bad := b } 0).toNat_lt
    have hp : 2 ^ z.lc * 2 ^ (8 - z.lc) = 256 := by rw [← Nat.pow_add, show z.lc + (8 - z.lc) = 8 by have := h.lc; omega]
    have : (Lzs.back { z with bad := b } 0).toNat / 2 ^ (8 - z.lc) < 2 ^ z.lc := Nat.div_lt_of_lt_mul (by rw [Nat.mul_comm, hp]; omega)
    omega
  dsimp only
  omega

/-- the numbers that the lengths are wanted of -/
def lenM (p : Pk) : Int := if p.kind = 7 then 0 else p.len - 2
def distM (p : Pk) : Nat := if p.kind = 7 then 4294967295 else p.dist

/-- what a packet leaves is near what was there -/
theorem packP_near (h : MachOk M ok) {L k N : Nat} {z : Lzs} {t : Pm σ} {p : Pk} (hz : ZNear z L N) (ht : PmOk ok L (k + 27) t) (hp : PkFine p) (hm : PkMay M z p) :
    ZNear (packP M z t p).2.1 L (N + 273) ∧ PmOk ok L k (packP M z t p).2.2 ∧ (packP M z t p).1 ≤ 273 := by
  have hL0 : 1847 ≤ L := by have := hz.len; omega
  obtain ⟨s, hs⟩ : ∃ s, s = z.out.length % 2 ^ z.pb := ⟨_, rfl⟩
  have hs15 : s ≤ 15 := by
    have h1 : z.out.length % 2 ^ z.pb < 2 ^ z.pb := Nat.mod_lt _ (Nat.two_pow_pos _)
    have h2 : 2 ^ z.pb ≤ 2 ^ 4 := pow_le_of hz.pb
    omega
  have hkm : M.mayN p.kind := fun he => (hm he).1
  obtain ⟨k1, k2⟩ := kindP_ok h (k := k + 22) (em := decide (z.out.length = 0)) (kd := p.kind) (t := t) ht hL0 hs15 hz.st hkm
  have ktell : M.enc = true → (((kindP M t (decide (z.out.length = 0)) z.st s p.kind).1 : Nat) : Int) = (if p.kind = 7 then 1 else p.kind) := fun he => by
    obtain ⟨a, b, c, _⟩ := hm he
    exact (kindP_tell h he a b (fun e => c (of_decide_eq_true e))).1
  unfold packP
  rw [← hs]
  generalize kindP M t (decide (z.out.length = 0)) z.st s p.kind = kb at *
  unfold packK
  split
  · rename_i hk0
    unfold packL
    have hl := litP_ok h (k := k) (z := { z with bad := z.bad || kb.2.1 }) (v := p.byte) (k2.mono h (show k + 8 ≤ k + 22 by omega)) (lit_in (b := z.bad || kb.2.1) hz)
    split
    · exact ⟨⟨hz.lc, hz.lp, hz.pb, hz.dict, by have := hz.out; show z.out.length ≤ _; omega, litSt_le hz.st, hz.r0, hz.r1, hz.r2, hz.r3, hz.len⟩, hl, by dsimp only; omega⟩
    · exact ⟨⟨hz.lc, hz.lp, hz.pb, hz.dict, by have := hz.out; show (z.out ++ [_]).length ≤ _; simp; omega, litSt_le hz.st, hz.r0, hz.r1, hz.r2, hz.r3, hz.len⟩, hl, by dsimp only; omega⟩
  split
  · rename_i hk0 hk1
    unfold packM
    have hlm : M.mayN (if p.kind = 7 then 0 else p.len - 2) := fun he => by
      have h1 := ktell he
      rw [hk1] at h1
      obtain ⟨a, b, c, d⟩ := hm he
      split
      · omega
      · rename_i h7
        rw [if_neg h7] at h1
        have := d (by omega)
        omega
    obtain ⟨l1, l2⟩ := lenP_ok h (k := k + 12) (a := 819) (s := s) (v := if p.kind = 7 then 0 else p.len - 2) k2 (by omega) hs15 hlm
    generalize lenP M kb.2.2 819 s (if p.kind = 7 then 0 else p.len - 2) = b at *
    unfold packD
    obtain ⟨d1, d2⟩ := distP_ok h (k := k) (l := b.1) (v := if p.kind = 7 then 4294967295 else p.dist) l2 hL0 (by split; decide; exact hp.d)
    generalize distP M b.2 b.1 (if p.kind = 7 then 4294967295 else p.dist) = dd at *
    have hz2 : ZNear { z with bad := z.bad || kb.2.1, r0 := dd.1, r1 := z.r0, r2 := z.r1, r3 := z.r2, st := aft 7 10 z.st, ended := decide (dd.1 = 4294967295) && !M.bad dd.2.x } L N :=
      ⟨hz.lc, hz.lp, hz.pb, hz.dict, hz.out, aft_le (by decide) (by decide), d1, hz.r0, hz.r1, hz.r2, hz.len⟩
    obtain ⟨t1, t2, t3⟩ := tailP_near (M := M) (many := b.1 + 2) hz2 d2
    exact ⟨t1.more (by omega), t2, Nat.le_trans t3 (by omega)⟩
  split
  · have hz2 : ZNear { z with bad := z.bad || kb.2.1, st := aft 9 11 z.st } L N := ⟨hz.lc, hz.lp, hz.pb, hz.dict, hz.out, aft_le (by decide) (by decide), hz.r0, hz.r1, hz.r2, hz.r3, hz.len⟩
    obtain ⟨t1, t2, t3⟩ := tailP_near (M := M) (many := 1) hz2 (k2.mono h (show k ≤ k + 22 by omega))
    exact ⟨t1.more (by omega), t2, Nat.le_trans t3 (by omega)⟩
  · rename_i hk0 hk1 hk6
    unfold packR
    have hlm : M.mayN (p.len - 2) := fun he => by
      have h1 := ktell he
      obtain ⟨a, b, c, d⟩ := hm he
      have h7 : ¬ p.kind = 7 := fun h7 => by rw [if_pos h7] at h1; omega
      rw [if_neg h7] at h1
      have := d (by omega)
      omega
    obtain ⟨l1, l2⟩ := lenP_ok h (k := k + 12) (a := 1333) (s := s) (v := p.len - 2) k2 (by omega) hs15 hlm
    generalize lenP M kb.2.2 1333 s (p.len - 2) = b at *
    have hr := rep_lt hz
    have hz2 : ZNear { (Lzs.again { z with bad := z.bad || kb.2.1 } (kb.1 - 2)) with st := aft 8 11 z.st } L N := by
      refine ⟨hz.lc, hz.lp, hz.pb, hz.dict, hz.out, aft_le (by decide) (by decide), hr (kb.1 - 2), ?_, ?_, ?_, hz.len⟩
      · show (if kb.1 - 2 = 0 then z.r1 else z.r0) < _
        split
        · exact hz.r1
        · exact hz.r0
      · show (if kb.1 - 2 ≤ 1 then z.r2 else z.r1) < _
        split
        · exact hz.r2
        · exact hz.r1
      · show (if kb.1 - 2 ≤ 2 then z.r3 else z.r2) < _
        split
        · exact hz.r3
        · exact hz.r2
    obtain ⟨t1, t2, t3⟩ := tailP_near (M := M) (many := b.1 + 2) hz2 (l2.mono h (show k ≤ k + 12 by omega))
    exact ⟨t1.more (by omega), t2, Nat.le_trans t3 (by omega)⟩
end

/-- all is read, and the code is 0 -/
def leftD : Dc → Bool
  | none => false
  | some (_, k, rest) => decide (k = 0) && decide (rest = [])

/-- a setting that may be -/
def maySet (a b c d : Int) : Bool := decide (0 ≤ a ∧ a ≤ 8 ∧ 0 ≤ b ∧ b ≤ 4 ∧ 0 ≤ c ∧ c ≤ 4 ∧ 4096 ≤ d ∧ d ≤ 4294967295)
theorem may_iff {a b c d : Int} : maySet a b c d = true ↔ 0 ≤ a ∧ a ≤ 8 ∧ 0 ≤ b ∧ b ≤ 4 ∧ 0 ≤ c ∧ c ≤ 4 ∧ 4096 ≤ d ∧ d ≤ 4294967295 := by
  unfold maySet
  simp
def probsOf (a b c d : Int) : Int := if maySet a b c d = true then 1847 + 768 * ((2 ^ (a + b).toNat : Nat) : Int) else 0
/-- a new one's state -/
def Lzs.start (lc lp pb dict : Nat) : Lzs := ⟨lc, lp, pb, dict, [], 0, 0, 0, 0, 0, false, false⟩
/-- settings that may be -/
def SetOk (lc lp pb dict : Nat) : Prop := lc ≤ 8 ∧ lp ≤ 4 ∧ pb ≤ 4 ∧ 4096 ≤ dict ∧ dict < 4294967296
def probsN (lc lp : Nat) : Nat := 1847 + 768 * 2 ^ (lc + lp)
theorem setOk_may {lc lp pb dict : Nat} (h : SetOk lc lp pb dict) : maySet lc lp pb dict = true := by
  obtain ⟨h1, h2, h3, h4, h5⟩ := h
  exact may_iff.2 ⟨by omega, by omega, by omega, by omega, by omega, by omega, by omega, by omega⟩
theorem probsN_is {lc lp pb dict : Nat} (h : SetOk lc lp pb dict) : probsOf lc lp pb dict = (probsN lc lp : Int) ∧ probsN lc lp ≤ 4000000 ∧ 1847 ≤ probsN lc lp := by
  have hm := setOk_may h
  obtain ⟨h1, h2, h3, h4, h5⟩ := h
  have hp : 2 ^ (lc + lp) ≤ 2 ^ 12 := pow_le_of (by omega)
  refine ⟨?_, by unfold probsN; omega, by unfold probsN; omega⟩
  unfold probsOf
  rw [if_pos hm]
  unfold probsN
  rw [show ((lc : Int) + (lp : Int)).toNat = lc + lp by omega]
  simp

def pk0 : Pk := ⟨0, 0, 0, 0⟩
/-- whether a packet was the last that may be -/
def stopD (size : Int) (r : Nat × Lzs × Pm Dc) : Bool := r.2.1.bad || (r.2.1.ended || (decM.bad r.2.2.x || decide (size < (r.2.1.out.length : Int))))
/-- packets, until there are so many bytes -/
def upG (size : Int) : Nat → Lzs → Pm Dc → Option (Lzs × Pm Dc)
  | 0, z, t => some (z, t)
  | f + 1, z, t => if (z.out.length : Int) < size then (if stopD size (packP decM z t pk0) = true then none else upG size f (packP decM z t pk0).2.1 (packP decM z t pk0).2.2) else some (z, t)
/-- whether the stream doesn't end behind one packet more -/
def endD (n : Nat) (r : Nat × Lzs × Pm Dc) : Bool := !r.2.1.ended || (r.2.1.bad || (decide (r.2.1.out.length ≠ n) || !leftD r.2.2.x))
def finD (z : Lzs) (t : Pm Dc) : Option (List UInt8) :=
  if leftD t.x = true then some z.out
  else if endD z.out.length (packP decM z t pk0) = true then none else some (packP decM z t pk0).2.1.out
def finU : Option (Lzs × Pm Dc) → Option (List UInt8)
  | none => none
  | some zt => finD zt.1 zt.2
/-- what a stream of a size is -/
def unpackN (bs : List UInt8) (lc lp pb dict : Nat) (size : Int) : Option (List UInt8) :=
  finU (upG size size.toNat (Lzs.start lc lp pb dict) ⟨List.replicate (probsN lc lp) 1024, started bs⟩)

end Go.Proofs.YtoencondpbkomaaGreat

/-
  Probabilities in memory, wherever each lies.
-/
namespace Go.Proofs.YtoencondpbkomaaGreat
open Go.RowKit

/-- Probabilities in memory: where each lies (ad), in which blocks (B), so many (L). -/
structure Prb (R : World → List Nat → Prop) (B : Nat → Prop) (ad : Nat → Nat × Nat) (L : Nat) : Prop where
  blk : ∀ {a}, a < L → B (ad a).1
  cell : ∀ {w ps a}, R w ps → a < L → w.cell? ⟨(ad a).1, (ad a).2, none⟩ = some (.int .u16 ((ps.getD a 0 : Nat) : Int))
  free : ∀ {w ps a}, R w ps → a < L → w.frozen? ⟨(ad a).1, (ad a).2, none⟩ = false
  put : ∀ {w ps a}, R w ps → a < L → ∀ q : Nat, R (w.setCell ⟨(ad a).1, (ad a).2, none⟩ (.int .u16 (q : Int))) (ps.set a q)
  only : ∀ {w w' ps} {S : Nat → Prop}, R w ps → Only S w w' → (∀ i, B i → ¬ S i) → R w' ps
  len : ∀ {w ps}, R w ps → ps.length = L
  old : ∀ {w ps i}, R w ps → B i → i < w.heap.size
end Go.Proofs.YtoencondpbkomaaGreat
