/-
  The reference's rows of bits that are put.
-/
import Derived.Test.YtolkgljbphgacaaRefPut
import Derived.Deep.Cut
namespace Go.Proofs.Ytolkgljbphgacaa
open Go.RowKit

/-- the first k bits of byte j, as a number -/
def preB (row : List Bool) (j : Nat) : Nat → Nat
  | 0 => 0
  | k + 1 => 2 * preB row j k + (row.getD (8 * j + k) false).toNat
theorem preB_lt (row : List Bool) (j : Nat) : ∀ k, preB row j k < 2 ^ k
  | 0 => by simp [preB]
  | k + 1 => by
    have := preB_lt row j k
    have hb := Bool.toNat_le (row.getD (8 * j + k) false)
    unfold preB
    rw [Nat.pow_succ]
    omega
theorem preB_small (row : List Bool) (j k : Nat) (h : k ≤ 8) : preB row j k < 256 :=
  Nat.lt_of_lt_of_le (preB_lt row j k) (Nat.pow_le_pow_right (n := 2) (by omega) h)
theorem preB_eight (row : List Bool) (j : Nat) : preB row j 8 = byteOf row j := by
  simp only [preB, byteOf, Nat.add_zero]
  omega

set_option maxHeartbeats 1000000 in
theorem refPutBits_any {A R : Option Addr} {n c rc : Nat} {bs : List UInt8} {row : List Bool} {w : World} (hS : Sl w A n (bv bs)) (hm : n ≤ 100000000) (hR : Sl w R row.length (fv row)) (hr : row.length ≤ 100000000) :
    Calls Try.prog 32 #[.slice A n c, .slice R row.length rc] w fun e w' =>
      ∃ A' c', e = .returned (.slice A' (n + rowLenN row.length) c') ∧ w'.ownsRow w.heap.size 5 1 (.slice A' (n + rowLenN row.length) c') (n + rowLenN row.length) (bv (bs ++ rowBytes row)) ∧ Below w.heap.size w w' := by
  obtain ⟨i, hi, hz0, hz1, hz2⟩ := info_parts info_u8
  have HS := Lib.hid hS
  have HR := Lib.hid hR
  have hL1 : 8 * rowLenN row.length ≤ row.length + 7 := by unfold rowLenN; omega
  have hL2 : row.length ≤ 8 * rowLenN row.length := by unfold rowLenN; omega
  have hrb : rowBytes row = rowB (rowLenN row.length) row := rfl
  generalize rowLenN row.length = L at hL1 hL2 hrb
  have HRB := Lib.hid hrb
  clear hS hR hrb
  go_enter Try.func32, Try.ntmps32
  go_wp2_with (at_builtin; refine wpList_app _ rfl (.tmp 9) (.tmp 10) 22 rfl w.heap.size 5 i _ 1 Try.underlying22 hi hz0 hz1 hz2 rfl _ 0 [] rfl (own_empty w (Nat.le_refl _) _) A n c (bv bs) rfl (HS.out.alloc _) (bv_one bs) (by omega) (by omega) (by simp) ?_)
  intro A1 c1 w1 ho hg
  have HO := Lib.hid ho
  have HB := Lib.hid (((Below.refl w.heap.size w).alloc (Nat.le_refl _) _).grown hg (by simp) (fun k e => by simp [Value.ownBlock] at e; omega))
  clear ho hg
  go_wp2_with fail
  go_loopw [6, 5] (fun x s wr => ∃ (m j : Nat) (A2 : Option Addr) (c2 : Nat), m ≤ 8 * j ∧ 8 * j ≤ m ∧ j ≤ L ∧ x = .int .i64 m ∧ s = .slice A2 (n + j) c2 ∧ wr.ownsRow w.heap.size 5 1 (.slice A2 (n + j) c2) (n + j) (bv (bs ++ rowB j row)) ∧ Below w.heap.size w wr) (fun x _ _ => 8 * L - (intOf x).toNat)
  case atStart => exact ⟨0, 0, A1, c1, by omega, by omega, Nat.zero_le _, rfl, rfl, by simpa [rowB] using HO.out, HB.out⟩
  case round =>
    obtain ⟨m, j, A2, c2, hm1, hm2, hj, rfl, rfl, ho, hb⟩ := hrel
    have HOr := Lib.hid ho
    have HBr := Lib.hid hb
    have HRr := Lib.hid (HR.out.below hb)
    clear ho hb HO HB HR HS
    by_cases hlt : j < L
    · have hml : (m : Int) < (row.length : Int) := by omega
      go_wp2_with fail
      go_loop [8, 7] (fun k v => ∃ t : Nat, t ≤ 8 ∧ k = .int .i64 t ∧ v = .int .i64 (preB row j t : Nat)) (fun k _ => 8 - (intOf k).toNat)
      case atStart => exact ⟨0, by omega, rfl, rfl⟩
      case round =>
        obtain ⟨t, ht, rfl, rfl⟩ := hrel
        by_cases h8 : t < 8
        · have HN := Lib.hid (show preB row j (t + 1) = 2 * preB row j t + (row.getD (m + t) false).toNat by rw [show m = 8 * j by omega]; rfl)
          have hp := preB_small row j t ht
          generalize preB row j t = p at hp HN
          by_cases hin : m + t < row.length
          · obtain ⟨b, o, rfl, _, hc⟩ := HRr.out.2 (by omega)
            have hcell := hc (m + t) hin
            rw [fv_get _ _ hin] at hcell
            rcases hbit : row.getD (m + t) false with _ | _
            · rw [hbit] at hcell HN
              clear hc hbit
              go_wp2
              go_round
              case rel => exact ⟨t + 1, by omega, by go_num, by rw [HN.out]; go_num⟩
              case measure => simp [intOf]; omega
            · rw [hbit] at hcell HN
              clear hc hbit
              go_wp2
              go_round
              case rel => exact ⟨t + 1, by omega, by go_num, by rw [HN.out]; go_num⟩
              case measure => simp [intOf]; omega
          · rw [getD_past row (m + t) (by omega)] at HN
            go_wp2
            go_round
            case rel => exact ⟨t + 1, by omega, by go_num, by rw [HN.out]; go_num⟩
            case measure => simp [intOf]; omega
        · obtain rfl : t = 8 := by omega
          have hp := preB_small row j 8 ht
          have hfb : (((UInt8.ofNat (byteOf row j)).toNat : Nat) : Int) = ((preB row j 8 : Nat) : Int) := by
            have := byteOf_lt row j
            rw [UInt8.toNat_ofNat', preB_eight]
            omega
          have HN := Lib.hid (rowB_snoc j row)
          have HFB := Lib.hid hfb
          clear hfb
          generalize preB row j 8 = p at hp HFB
          generalize UInt8.ofNat (byteOf row j) = fb at HFB HN
          go_wp2_with (at_builtin; refine wpList_app _ rfl (.tmp 40) (.tmp 43) 22 rfl w.heap.size 5 i _ 1 Try.underlying22 hi hz0 hz1 hz2 rfl _ (n + j) _ rfl (HOr.out.alloc _) _ 1 1 _ rfl (sl_one _ _ _) (one_one _ _) (by omega) (by omega) (by have := HBr.out.size; simp; omega) ?_)
          intro A3 c3 w3 ho hg
          have HB3 := Lib.hid ((HBr.out.alloc HBr.out.size _).grown hg (by have := HBr.out.size; simp; omega) (fun b e => (HOr.out.lt b e).1))
          have HO3 : Hid (w3.ownsRow w.heap.size 5 1 (.slice A3 (n + j + 1) c3) (n + j + 1) (bv (bs ++ rowB (j + 1) row))) := by
            rw [HN.out, ← List.append_assoc, bv_append]
            have e : bv [fb] = [.int .u8 (fb.toNat : Int)] := rfl
            rw [e, HFB.out]
            exact ho
          clear ho hg
          go_wp2
          go_roundw
          case rel => exact ⟨m + 8, j + 1, A3, c3, by omega, by omega, by omega, by go_num, rfl, HO3.out, HB3.out⟩
          case measure => simp [intOf]; omega
    · obtain rfl : j = L := by omega
      have hml : ¬ (m : Int) < (row.length : Int) := by omega
      go_wp2
      go_ret
      rw [HRB.out]
      exact ⟨A2, c2, rfl, HOr.out, HBr.out⟩
end Go.Proofs.Ytolkgljbphgacaa
