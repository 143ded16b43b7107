/-
  The program's coder codes numbers straight.
-/
import Derived.Test.YtokkaidepahepaaPcBit
import Derived.LoopTactic
namespace Go.Proofs.Ytokkaidepahepaa
open Go.RowKit

theorem ofInt_u32' (a : Nat) (h : a < 4294967296) : (BitVec.ofInt 32 (a : Int)).toNat = a := by simp; omega
/-- the bit that the coder reckons -/
theorem bit_and (V k : Nat) (hV : V < 4294967296) : bits .and .u32 ((V : Int) / 2 ^ k) 1 = ((bitOf V k : Nat) : Int) := by
  unfold bitOf
  obtain ⟨y, hy⟩ : ∃ y, y = V / 2 ^ k := ⟨_, rfl⟩
  have h : (V : Int) / ((2 ^ k : Nat) : Int) = (y : Int) := by rw [hy]; exact (Int.natCast_ediv V (2 ^ k)).symm
  have hyl : y ≤ V := by rw [hy]; exact Nat.div_le_self _ _
  rw [cast_pow2, h, ← hy]
  show IntKind.u32.wrap ((BitVec.ofInt 32 (y : Int) &&& BitVec.ofInt 32 ((1 : Nat) : Int)).toNat : Int) = _
  rw [BitVec.toNat_and, ofInt_u32' _ (by omega), ofInt_u32' _ (by omega), Nat.and_one_is_mod]
  exact u32_of _ (by omega) (by omega)

/-- low is more, the range less, of a bit told straight -/
theorem Pw.half {w : World} {g : Nat} {G : Option Nat} {c : Co} {r lo' s n : Nat} (h : Pw w g G c r) :
    Pw ((w.setCell ⟨g, 1, none⟩ (.int .u32 (s : Int))).drewN n |>.setCell ⟨g, 0, none⟩ (.int .u64 (lo' : Int))) g G ⟨c.gs, c.wt, c.fu, lo'⟩ s := by
  obtain ⟨A, m, hB, hOw, hG, hne⟩ := h
  have h1 : Only (fun j => j = g) w ((w.setCell ⟨g, 1, none⟩ (.int .u32 (s : Int))).drewN n |>.setCell ⟨g, 0, none⟩ (.int .u64 (lo' : Int))) :=
    ((((Only.refl (fun j => j = g) w).setCell (p := ⟨g, 1, none⟩) (.inl rfl) _).drewN n).setCell (p := ⟨g, 0, none⟩) (.inl rfl) _)
  exact ⟨A, m, ((hB.put 1 _).drewN n).put 0 _, own_only' hOw h1 (fun i hi e => hne (hG.symm.trans (e ▸ hi))), hG, hne⟩

section
variable {w : World} {g b i p pc : Nat} {G : Option Nat} {c : Co} {r : Nat} {e : En} {ps : List Nat}

set_option maxHeartbeats 4000000 in
theorem pstraight_any {n V : Nat} (h : Pn w g G e) (he : EnOk e) (hn : n ≤ 32) (hV : V < 4294967296) (hlen : e.l ≤ 999999900) :
    Calls Try.prog 30 #[.pointer (some ⟨g, 0, none⟩), .int .i64 (n : Int), .int .u32 (V : Int)] w (PnPost w g G (.tuple #[]) (strE e V n n)) := by
  have HP := Lib.hid h
  have HE := Lib.hid he
  have HLEN := Lib.hid hlen
  have HV := Lib.hid hV
  have en1 : IntKind.i64.wrap ((n : Int) - 1) = (n : Int) - 1 := IntWalk.i64_in _ (by omega)
  clear h he hlen hV
  go_enter Try.func30, Try.ntmps30
  go_wp2_with fail
  go_loopw [6, 8] (fun _ i wr => ∃ (j : Nat) (G' : Option Nat), j ≤ n ∧ i = .int .i64 (j : Int) ∧ Pn wr g G' (strE e V n j) ∧ Nwr w G G' ∧ Only (pset g G) w wr) (fun _ i _ => n - (intOf i).toNat)
  case atStart => exact ⟨0, G, Nat.zero_le _, rfl, HP.out, Nwr.refl _ _, Only.refl _ _⟩
  case round =>
    clear HP
    obtain ⟨j, G', hj, rfl, hP, hN, hO⟩ := hrel
    have HN := Lib.hid hN
    have HO := Lib.hid hO
    clear hN hO
    by_cases hlt : j < n
    · have hok := strE_ok HE.out V n j
      have hll := strE_len e V n j
      obtain ⟨k, hk⟩ : ∃ k, k = n - 1 - j := ⟨_, rfl⟩
      have hnext : strE e V n (j + 1) = (strE e V n j).one (bitOf V k) := by rw [hk]; rfl
      have hL := HLEN.out
      have hEl : (strE e V n j).l ≤ 999999950 := by omega
      generalize strE e V n j = E at *
      obtain ⟨c, hPw, hc⟩ := hP
      obtain ⟨c1, z1⟩ := hPw.cell1
      have hr0 := hok.1
      have hr1 := hok.2.1
      obtain ⟨s, hs⟩ : ∃ s, s = E.r / 2 := ⟨_, rfl⟩
      have e1 : (E.r : Int) / 2 = (s : Int) := by omega
      have e2 : IntKind.u32.wrap ((E.r : Int) / 2) = (s : Int) := by rw [e1]; exact u32_of _ (by omega) (by omega)
      have e3 : IntKind.i64.wrap ((n : Int) - 1 - (j : Int)) = (k : Int) := by rw [show (n : Int) - 1 - (j : Int) = (k : Int) by omega]; exact IntWalk.i64_in _ (by omega)
      have hk0 : (0 : Int) ≤ (k : Int) := by omega
      have ej : IntKind.i64.wrap ((j : Int) + 1) = (j : Int) + 1 := IntWalk.i64_in _ (by omega)
      have hmin : min k 32 = k := by omega
      have hlt' : (j : Int) < (n : Int) := by omega
      have HS := Lib.hid hs.symm
      have HF := Lib.hid (show 65536 ≤ s ∧ s + s ≤ E.r ∧ E.l ≤ 999999950 by omega)
      clear hs hk hr0 hr1 hEl hL hll
      have eb := bit_and V k HV.out
      have e5 : (s : Int) % 4294967296 = (s : Int) := by have := HF.out; have := hok.2.1; omega
      have hbit := bitOf_le V k
      by_cases hb : bitOf V k = 0
      · rw [hb] at eb hnext
        have eb0 : bits .and .u32 ((V : Int) / 2 ^ k) 1 = 0 := eb
        have K := Lib.hid (evenOut_any (hPw.span (R := s)) (hc.mono (r' := s) (by have := HF.out; omega) (by have := HF.out; omega)) HF.out.1 (by have := HF.out; omega))
        have HNX := Lib.hid (show strE e V n (j + 1) = En.even ⟨E.n, E.l, s⟩ by rw [hnext]; unfold En.one; rw [if_pos rfl, HS.out])
        have HO1 := Lib.hid ((Only.refl (pset g G') wr).setCell (p := ⟨g, 1, none⟩) (.inl (.inl rfl)) (.int .u32 (s : Int)))
        have HSZ := Lib.hid (show (wr.setCell ⟨g, 1, none⟩ (.int .u32 (s : Int))).heap.size = wr.heap.size by simp [World.setCell])
        clear hPw hc hok hb eb hbit hnext
        go_wp2_with fail
        refine K.out.mono ?_
        rintro x w3 ⟨rfl, G2, hP2, hN2, hO2⟩
        have HP2 := Lib.hid hP2
        have HN2 := Lib.hid (HN.out.trans (fun i hi => (hN2 i hi).imp id (fun h => by rw [HSZ.out] at h; exact h)) HO.out.size)
        have HO2 := Lib.hid (pset_trans HO.out HN.out (HO1.out.trans hO2))
        clear hP2 hN2 hO2 HN HO K HO1 HSZ
        go_wp2_with fail
        go_roundw
        case rel => exact ⟨j + 1, G2, by omega, by go_num, by rw [HNX.out]; exact HP2.out, HN2.out, HO2.out⟩
        case measure => simp [intOf]; omega
      · have hb1 : bitOf V k = 1 := by omega
        rw [hb1] at eb hnext
        have eb0 : bits .and .u32 ((V : Int) / 2 ^ k) 1 = 1 := eb
        obtain ⟨c0, z0⟩ : wr.cell? ⟨g, 0, none⟩ = some (.int .u64 (c.lo : Int)) ∧ wr.frozen? ⟨g, 0, none⟩ = false := by obtain ⟨A, m, hB, _⟩ := hPw; exact ⟨hB.cell 0, hB.free 0⟩
        have hlo := hc.low
        have hsl : s < 4294967296 := by have := HF.out; have := hok.2.1; omega
        have e7 : IntKind.u64.wrap (s : Int) = (s : Int) := u64_in _ (by omega)
        have e8 : IntKind.u64.wrap ((c.lo : Int) + (s : Int)) = ((c.lo + s : Nat) : Int) := by rw [← Int.natCast_add]; exact u64_in _ (by omega)
        have K := Lib.hid (fun m => evenOut_any (Pw.half (lo' := c.lo + s) (s := s) (n := m) hPw) (hc.plus (z := s) (r' := s) (by have := HF.out; omega) (by have := HF.out; omega)) HF.out.1 (by have := HF.out; omega))
        have HNX := Lib.hid (show strE e V n (j + 1) = En.even ⟨E.n + s, E.l, s⟩ by rw [hnext]; unfold En.one; rw [if_neg (by omega), HS.out])
        have HO1 := Lib.hid (fun m => (((Only.refl (pset g G') wr).setCell (p := ⟨g, 1, none⟩) (.inl (.inl rfl)) (.int .u32 (s : Int))).drewN m).setCell (p := ⟨g, 0, none⟩) (.inl (.inl rfl)) (.int .u64 ((c.lo + s : Nat) : Int)))
        have HSZ := Lib.hid (fun m => show ((wr.setCell ⟨g, 1, none⟩ (.int .u32 (s : Int))).drewN m |>.setCell ⟨g, 0, none⟩ (.int .u64 ((c.lo + s : Nat) : Int))).heap.size = wr.heap.size by simp [World.setCell, World.drewN])
        clear hPw hc hok hb hb1 eb hbit hnext hlo hsl
        generalize c.lo + s = lo1 at *
        go_wp2_with fail
        go_region
        all_goals go_wp2_with fail
        refine (K.out 1).mono ?_
        rintro x w3 ⟨rfl, G2, hP2, hN2, hO2⟩
        have HP2 := Lib.hid hP2
        have HN2 := Lib.hid (HN.out.trans (fun i hi => (hN2 i hi).imp id (fun h => by rw [HSZ.out] at h; exact h)) HO.out.size)
        have HO2 := Lib.hid (pset_trans HO.out HN.out ((HO1.out 1).trans hO2))
        clear hP2 hN2 hO2 HN HO K HO1 HSZ
        go_wp2_with fail
        go_roundw
        case rel => exact ⟨j + 1, G2, by omega, by go_num, by rw [HNX.out]; exact HP2.out, HN2.out, HO2.out⟩
        case measure => simp [intOf]; omega
    · obtain rfl : j = n := by omega
      have HP := Lib.hid hP
      clear hP
      go_wp2_with fail
      first | go_end0 | refine bodyPost_ret (results_none rfl _ _ _) rfl ?_
      exact ⟨rfl, G', HP.out, HN.out, HO.out⟩
end
end Go.Proofs.Ytokkaidepahepaa
