/-
  The shortest short number, put.
-/
import Derived.Test.YtolkgljbphgacaaPut
namespace Go.Proofs.Ytolkgljbphgacaa
open Go.RowKit

set_option maxHeartbeats 1000000 in
theorem putNumber_any {A : Option Addr} {n c v : Nat} {bs : List UInt8} {w : World} (hS : Sl w A n (bv bs)) (hm : n ≤ 100000000) (hv : v < 18446744073709551616) :
    Calls Try.prog 29 #[.slice A n c, .int .u64 (v : Int)] w fun e w' =>
      ∃ A' c', e = .returned (.slice A' (n + (shortBytes v).length) c') ∧ w'.ownsRow w.heap.size 5 1 (.slice A' (n + (shortBytes v).length) c') (n + (shortBytes v).length) (bv (bs ++ shortBytes v)) ∧ Below w.heap.size w w' := by
  obtain ⟨i, hi, hz0, hz1, hz2⟩ := info_parts info_u8
  have HS := Lib.hid hS
  have hq := fol_is v
  have hl : (shortBytes v).length = 1 + fol v := shortBytes_length v
  have hsb : shortBytes v = UInt8.ofNat (256 - 2 ^ (8 - fol v) + v / 256 ^ fol v) :: leBytes (fol v) v := rfl
  rw [hl]
  generalize shortBytes v = sb at hsb
  generalize fol v = q at hq hsb
  have hq8 := hq.le
  have HQ := Lib.hid hq
  have HSB := Lib.hid hsb
  clear hS hq hsb hl
  go_enter Try.func29, Try.ntmps29
  go_wp2
  go_loop [5] (fun k => ∃ j : Nat, j ≤ q ∧ k = .int .i64 j) (fun k => q - (intOf k).toNat)
  case atStart => exact ⟨0, by omega, rfl⟩
  case round =>
    obtain ⟨j, hj, rfl⟩ := hrel
    by_cases hlt : j < q
    · have hge := HQ.out.ge j hlt
      have h1 : (2 : Int) ^ (7 * j + 7) ≤ (v : Int) := by rw [cast_pow2]; omega
      have hw : IntKind.u64.wrap (2 ^ (7 * j + 7)) = 2 ^ (7 * j + 7) := by rw [cast_pow2]; exact u64_in _ (by omega)
      clear hge
      go_wp2
      go_round
      case rel => exact ⟨j + 1, by omega, by go_num⟩
      case measure => simp [intOf]; omega
    · obtain rfl : j = q := by omega
      have hx : j = 8 ∨ j < 8 ∧ (v : Int) < 2 ^ (7 * j + 7) := by
        by_cases h : j = 8
        · exact .inl h
        · refine .inr ⟨by omega, ?_⟩
          have := HQ.out.lt (by omega)
          rw [cast_pow2]; omega
      have hw : IntKind.u64.wrap (2 ^ (7 * j + 7)) = 2 ^ (7 * j + 7) := by
        rw [cast_pow2]
        refine u64_in _ ?_
        have : (2 : Nat) ^ (7 * j + 7) ≤ 2 ^ (7 * 8 + 7) := Nat.pow_le_pow_right (by omega) (by omega)
        omega
      have e2 : IntKind.i64.wrap (8 * (j : Int)) = 8 * (j : Int) := IntWalk.i64_in _ (by omega)
      have HX := Lib.hid hx
      clear hx
      have hf := first_byte v j hv HQ.out
      have HF := Lib.hid hf
      clear hf
      rcases HX.out with h8 | ⟨h8, hv8⟩
      · subst h8
        have HF8 : Hid (bits .or .u8 (bits .xor .u8 IntKind.u8.max 0) ((v : Int) / 18446744073709551616) = (((UInt8.ofNat (256 - 2 ^ (8 - 8) + v / 256 ^ 8)).toNat : Nat) : Int)) := by
          have hf := HF.out
          have e : ((v : Int) / 2 ^ (8 * 8) % 256) = (v : Int) / 18446744073709551616 := by
            have : (2 : Int) ^ (8 * 8) = 18446744073709551616 := by decide
            rw [this]; omega
          rw [e] at hf
          exact hf
        go_wp2_with fail
        go_quiet (fail)
        go_wp2_with fail
        refine (withRoom_any (m := 9) (HS.out.drewN _) (by omega) rfl (by omega)).mono ?_
        rintro e w1 ⟨A1, c1, rfl, ho, hb⟩
        have HO := Lib.hid ho
        have HB := Lib.hid hb
        clear ho hb
        go_wp2_with (at_builtin; refine wpList_app _ rfl (.tmp 30) (.tmp 32) 22 rfl w.heap.size 5 i _ 1 Try.underlying22 hi hz0 hz1 hz2 rfl _ n _ rfl (HO.out.alloc _) _ 1 1 _ rfl (sl_one _ _ _) (one_one _ _) (by omega) (by omega) (by have := HB.out.size; simp at this ⊢; omega) ?_)
        intro A2 c2 w2 ho hg
        rw [HF8.out] at ho
        have HO2 := Lib.hid (show w2.ownsRow w.heap.size 5 1 (.slice A2 (n + 1) c2) (n + 1) (bv (bs ++ [UInt8.ofNat (256 - 2 ^ (8 - 8) + v / 256 ^ 8)])) by rw [bv_append]; exact ho)
        have HB2 := Lib.hid (((show Below w.heap.size w w1 from ⟨HB.out.os, HB.out.tape, HB.out.output, HB.out.size, HB.out.block⟩).alloc HB.out.size _).grown hg (by have := HB.out.size; simp at this ⊢; omega) (fun k e => (HO.out.lt k e).1))
        clear ho hg
        go_wp2_with fail
        refine (putLeast_any (size := 8) HO2.out HB2.out.size (by omega) rfl (by omega) hv).mono ?_
        rintro e w3 ⟨A3, c3, rfl, ho, hb⟩
        have HO3 := Lib.hid ho
        have HB3 := Lib.hid hb
        clear ho hb
        go_wp2
        go_ret
        rw [show n + (1 + 8) = n + 1 + 8 by omega]
        refine ⟨A3, c3, rfl, ?_, HB2.out.trans HB3.out⟩
        rw [HSB.out]
        have ho := HO3.out
        rw [List.append_assoc] at ho
        exact ho
      · go_wp2_with fail
        go_quiet (fail)
        go_wp2_with fail
        refine (withRoom_any (m := 9) (HS.out.drewN _) (by omega) rfl (by omega)).mono ?_
        rintro e w1 ⟨A1, c1, rfl, ho, hb⟩
        have HO := Lib.hid ho
        have HB := Lib.hid hb
        clear ho hb
        go_wp2_with (at_builtin; refine wpList_app _ rfl (.tmp 30) (.tmp 32) 22 rfl w.heap.size 5 i _ 1 Try.underlying22 hi hz0 hz1 hz2 rfl _ n _ rfl (HO.out.alloc _) _ 1 1 _ rfl (sl_one _ _ _) (one_one _ _) (by omega) (by omega) (by have := HB.out.size; simp at this ⊢; omega) ?_)
        intro A2 c2 w2 ho hg
        rw [HF.out] at ho
        have HO2 := Lib.hid (show w2.ownsRow w.heap.size 5 1 (.slice A2 (n + 1) c2) (n + 1) (bv (bs ++ [UInt8.ofNat (256 - 2 ^ (8 - j) + v / 256 ^ j)])) by rw [bv_append]; exact ho)
        have HB2 := Lib.hid (((show Below w.heap.size w w1 from ⟨HB.out.os, HB.out.tape, HB.out.output, HB.out.size, HB.out.block⟩).alloc HB.out.size _).grown hg (by have := HB.out.size; simp at this ⊢; omega) (fun k e => (HO.out.lt k e).1))
        clear ho hg
        go_wp2_with fail
        refine (putLeast_any (size := j) HO2.out HB2.out.size (by omega) rfl (by omega) hv).mono ?_
        rintro e w3 ⟨A3, c3, rfl, ho, hb⟩
        have HO3 := Lib.hid ho
        have HB3 := Lib.hid hb
        clear ho hb
        go_wp2
        go_ret
        rw [show n + (1 + j) = n + 1 + j by omega]
        refine ⟨A3, c3, rfl, ?_, HB2.out.trans HB3.out⟩
        rw [HSB.out]
        have ho := HO3.out
        rw [List.append_assoc] at ho
        exact ho
end Go.Proofs.Ytolkgljbphgacaa
