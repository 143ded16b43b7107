/-
  Numbers out of bytes: least, Value, Power, and how many bits lead.
-/
import Derived.Test.YtolkgljbphgacaaNew
import Derived.Test.YtolkgljbphgacaaArith
import Derived.Lib.BitFns
import Derived.Lib.Walk
namespace Go.Proofs.Ytolkgljbphgacaa
open Go.RowKit

set_option maxHeartbeats 400000 in
theorem least_any {A : Option Addr} {n c : Nat} {bs : List UInt8} {w : World} (hS : Sl w A n (bv bs)) (hm : n ≤ 8) :
    Calls Try.prog 49 #[.slice A n c] w fun e w' => e = .returned (.int .u64 (leVal bs : Int)) ∧ w = w' := by
  go_enter Try.func49, Try.ntmps49
  go_wp2
  go_loop [3, 7] (fun v i => ∃ k : Nat, k ≤ n ∧ i = .int .i64 k ∧ v = .int .u64 (leVal (bs.take k) : Int)) (fun _ i => n - (intOf i).toNat)
  case atStart => exact ⟨0, Nat.zero_le _, rfl, rfl⟩
  case round =>
    obtain ⟨k, hk, rfl, rfl⟩ := hrel
    have hl : bs.length = n := by rw [← hS.1, bv_length]
    by_cases hlt : k < n
    · obtain ⟨b, o, rfl, _, hc⟩ := hS.2 (by omega)
      have hcell : w.cell? ⟨b, o + k, none⟩ = some (.int .u8 ((bs.getD k 0).toNat : Int)) := by rw [hc k hlt, bv_get _ _ (by omega)]
      have hv := leVal_take bs k (by omega)
      generalize bs.getD k 0 = x at hcell hv
      have HV := Lib.hid hv
      have HL := Lib.hid hl
      clear hc hS hv hl
      go_wp2
      go_round
      case rel => exact ⟨k + 1, by omega, by go_num, by rw [HV.out, ← or_step _ _ _ (leVal_take_lt bs k) x.toNat_lt (by omega)]⟩
      case measure => simp [intOf]; omega
    · have HL := Lib.hid hl
      clear hl hS
      go_wp2
      go_ret
      exact ⟨ret_int (by rw [List.take_of_length_le (by have := HL.out; omega)]), rfl⟩

/-- 256 to the power k -/
theorem power_any {k : Nat} {w : World} (hk : k < 8) :
    Calls Try.prog 53 #[.int .i64 (k : Int)] w fun e w' => e = .returned (.int .u64 ((256 ^ k : Nat) : Int)) ∧ w = w' := by
  go_enter Try.func53, Try.ntmps53
  go_wp2
  go_loop [3, 4] (fun v i => ∃ j : Nat, j ≤ k ∧ i = .int .i64 j ∧ v = .int .u64 ((256 ^ j : Nat) : Int)) (fun _ i => k - (intOf i).toNat)
  case atStart => exact ⟨0, Nat.zero_le _, rfl, rfl⟩
  case round =>
    obtain ⟨j, hj, rfl, rfl⟩ := hrel
    by_cases hlt : j < k
    · have hp : (256 : Nat) ^ j ≤ 256 ^ 6 := Nat.pow_le_pow_right (by omega) (by omega)
      generalize hq : (256 : Nat) ^ j = p at hp
      have HQ := Lib.hid hq
      clear hq
      go_wp2
      go_round
      case rel => exact ⟨j + 1, by omega, by go_num, by rw [Nat.pow_succ, HQ.out]; go_num⟩
      case measure => simp [intOf]; omega
    · obtain rfl : j = k := by omega
      go_wp2
      go_ret
      exact ⟨rfl, rfl⟩

set_option maxHeartbeats 400000 in
theorem value_any {A : Option Addr} {n c : Nat} {bs : List UInt8} {w : World} (hS : Sl w A n (bv bs)) (hm : n ≤ 8) :
    Calls Try.prog 51 #[.slice A n c] w fun e w' => e = .returned (.int .u64 (leVal bs : Int)) ∧ ∃ d, w.drewN d = w' := by
  go_enter Try.func51, Try.ntmps51
  go_wp2
  go_loopw [3, 4] (fun v i wr => ∃ k d : Nat, k ≤ n ∧ i = .int .i64 k ∧ v = .int .u64 (leVal (bs.take k) : Int) ∧ w.drewN d = wr) (fun _ i _ => n - (intOf i).toNat)
  case atStart => exact ⟨0, 0, Nat.zero_le _, rfl, rfl, rfl⟩
  case round =>
    obtain ⟨k, d, hk, rfl, rfl, hw⟩ := hrel
    have HW := Lib.hid hw
    have hl : bs.length = n := by rw [← hS.1, bv_length]
    replace hS : Sl wr A n (bv bs) := hw ▸ hS.drewN d
    clear hw
    by_cases hlt : k < n
    · obtain ⟨b, o, rfl, _, hc⟩ := hS.2 (by omega)
      have hcell : wr.cell? ⟨b, o + k, none⟩ = some (.int .u8 ((bs.getD k 0).toNat : Int)) := by rw [hc k hlt, bv_get _ _ (by omega)]
      have hv := leVal_take bs k (by omega)
      generalize bs.getD k 0 = x at hcell hv
      have HV := Lib.hid hv
      have HL := Lib.hid hl
      clear hc hS hv hl
      go_wp2
      go_quiet ((go_at_call 53; exact quiet_same_at (power_any (by omega))))
      go_wp2
      go_roundw
      case rel =>
        refine ⟨k + 1, d + nq, by omega, by go_num, ?_, by rw [← HW.out, World.drewN_drewN]⟩
        rw [HV.out, ← sum_step _ _ _ (leVal_take_lt bs k) x.toNat_lt (by omega)]
      case measure => simp [intOf]; omega
    · have HL := Lib.hid hl
      clear hl hS
      go_wp2
      go_ret
      exact ⟨ret_int (by rw [List.take_of_length_le (by have := HL.out; omega)]), _, HW.out⟩

theorem len8_any {x : Nat} {w : World} (hx : x < 256) :
    Calls Try.prog 63 #[.int .u8 (x : Int)] w fun e w' => e = .returned (.int .i64 (Lib.bitLen x : Int)) ∧ w = w' := by
  have h0 : (0 : Int) ≤ (x : Int) := by omega
  have h1 : (x : Int) ≤ 255 := by omega
  have he : wrap64 (Lib.len8 (x : Int)) = (Lib.bitLen x : Int) := by
    have hl := Lib.len8_eq ⟨x, hx⟩
    have hb := Lib.bitLen_le8 ⟨x, hx⟩
    simp only at hl hb
    rw [hl]
    exact IntWalk.wrap64_in _ (by omega)
  rw [← he]
  clear he hx
  generalize (x : Int) = y at h0 h1
  go_enter Try.func63, Try.ntmps63
  go_wp2
  go_ret
  exact ⟨rfl, rfl⟩

theorem lz8_any {x : Nat} {w : World} (hx : x < 256) :
    Calls Try.prog 52 #[.int .u8 (x : Int)] w fun e w' => e = .returned (.int .i64 ((8 - Lib.bitLen x : Nat) : Int)) ∧ w = w' := by
  have l : Lib.bitLen x ≤ 8 := Lib.bitLen_le8 ⟨x, hx⟩
  generalize hb : Lib.bitLen x = y at l
  have HB := Lib.hid hb
  clear hb
  go_enter Try.func52, Try.ntmps52
  go_wp2_with (go_at_call 63; refine (len8_any hx).mono ?_; rintro e w' ⟨rfl, rfl⟩)
  go_ret
  refine ⟨ret_int ?_, rfl⟩
  rw [HB.out]
  have e : wrap64 (8 - (y : Int)) = ((8 - y : Nat) : Int) := by rw [IntWalk.wrap64_in _ (by omega)]; omega
  exact e
end Go.Proofs.Ytolkgljbphgacaa
