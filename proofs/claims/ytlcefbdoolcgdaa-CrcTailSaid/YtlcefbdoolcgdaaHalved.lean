/-
  Eight halvings, in the program and in the reference; the reference's sum.
-/
import Derived.Test.YtlcefbdoolcgdaaCrcPure
import Derived.Test.YtlcefbdoolcgdaaArith
import Derived.Test.YtlcefbdoolcgdaaRows
import Derived.Test.YtlcefbdoolcgdaaMem
import Derived.Deep.QuietTactic
import Derived.BigQuiet
namespace Go.Proofs.Ytlcefbdoolcgdaa
open Go.RowKit

theorem u32_in (x : Nat) (h : x < 4294967296) : IntKind.u32.wrap (x : Int) = (x : Int) := by
  rw [IntKind.wrap_u32]; omega
theorem xor_u32 (a b : Nat) (ha : a < 4294967296) (hb : b < 4294967296) : bits .xor .u32 (a : Int) (b : Int) = ((a ^^^ b : Nat) : Int) := u32_xor_nat a b ha hb
theorem xor_taps (x : Nat) (hx : x < 4294967296) : bits .xor .u32 ((x : Int) / 2) 3988292384 = ((x / 2 ^^^ 3988292384 : Nat) : Int) := by
  have := xor_u32 (x / 2) 3988292384 (by omega) (by decide)
  rw [← this]
  rfl
theorem and_one (x : Nat) (hx : x < 4294967296) : bits .and .u32 (x : Int) 1 = ((x % 2 : Nat) : Int) := by
  have := u32_and_nat x 1 hx (by decide)
  rw [Nat.and_one_is_mod] at this
  exact this

set_option maxHeartbeats 400000 in
theorem halved_any (x : Nat) (hx : x < 4294967296) (w : World) :
    Calls Try.prog 22 #[.int .u32 (x : Int)] w fun e w' => e = .returned (.int .u32 (tick x : Int)) ∧ w = w' := by
  go_enter Try.func22, Try.ntmps22
  go_wp2
  go_loop [0, 4, 3] (fun r i o => ∃ k : Nat, k ≤ 8 ∧ i = .int .i64 k ∧ r = .int .u32 (halves k x : Int)) (fun _ i _ => 8 - (intOf i).toNat)
  case atStart => exact ⟨0, Nat.zero_le _, rfl, rfl⟩
  case round =>
    obtain ⟨k, hk, rfl, rfl⟩ := hrel
    by_cases hlt : k < 8
    · have hy : halves k x < 4294967296 := halves_lt k x hx
      have hs : halves (k + 1) x = halve (halves k x) := rfl
      generalize halves k x = y at hy hs
      have e1 := and_one y hy
      have e2 := xor_taps y hy
      by_cases ho : y % 2 = 1
      · have e3 : bits .and .u32 (y : Int) 1 = 1 := by rw [e1, ho]; rfl
        have HS := Lib.hid hs
        have H2 := Lib.hid e2
        clear hs e1 e2
        go_wp2
        go_round
        case rel => exact ⟨k + 1, by omega, by go_num, by rw [HS.out, halve, if_pos ho, ← H2.out]⟩
        case measure => simp [intOf]; omega
      · have e3 : bits .and .u32 (y : Int) 1 = 0 := by rw [e1]; omega
        have HS := Lib.hid hs
        have H2 := Lib.hid e2
        clear hs e1 e2
        go_wp2
        go_round
        case rel => exact ⟨k + 1, by omega, by go_num, by rw [HS.out, halve, if_neg ho]; go_num⟩
        case measure => simp [intOf]; omega
    · obtain rfl : k = 8 := by omega
      go_wp2
      go_ret
      exact ⟨rfl, rfl⟩

set_option maxHeartbeats 400000 in
theorem refStep_any (x : Nat) (b : Nat) (hx : x < 4294967296) (hb : b < 256) (w : World) :
    Calls Try.prog 16 #[.int .u32 (x : Int), .int .u8 (b : Int)] w fun e w' => e = .returned (.int .u32 (tick (x ^^^ b) : Int)) ∧ w = w' := by
  have e0 : bits .xor .u32 (x : Int) (b : Int) = ((x ^^^ b : Nat) : Int) := xor_u32 x b hx (by omega)
  have hz : x ^^^ b < 4294967296 := Nat.xor_lt_two_pow (n := 32) hx (by omega)
  generalize x ^^^ b = z at e0 hz
  go_enter Try.func16, Try.ntmps16
  go_wp2
  go_loop [0, 5] (fun r i => ∃ k : Nat, k ≤ 8 ∧ i = .int .i64 k ∧ r = .int .u32 (halves k z : Int)) (fun _ i => 8 - (intOf i).toNat)
  case atStart => exact ⟨0, Nat.zero_le _, rfl, rfl⟩
  case round =>
    obtain ⟨k, hk, rfl, rfl⟩ := hrel
    by_cases hlt : k < 8
    · have hy : halves k z < 4294967296 := halves_lt k z hz
      have hs : halves (k + 1) z = halve (halves k z) := rfl
      generalize halves k z = y at hy hs
      have e2 := xor_taps y hy
      have HS := Lib.hid hs
      have H2 := Lib.hid e2
      clear hs e2
      by_cases ho : y % 2 = 1
      · have e3 : (y : Int) % 2 = 1 := by omega
        go_wp2
        go_round
        case rel => exact ⟨k + 1, by omega, by go_num, by rw [HS.out, halve, if_pos ho, ← H2.out]⟩
        case measure => simp [intOf]; omega
      · have e3 : (y : Int) % 2 = 0 := by omega
        go_wp2
        go_round
        case rel => exact ⟨k + 1, by omega, by go_num, by rw [HS.out, halve, if_neg ho]; go_num⟩
        case measure => simp [intOf]; omega
    · obtain rfl : k = 8 := by omega
      go_wp2
      go_ret
      exact ⟨rfl, rfl⟩

set_option maxHeartbeats 400000 in
theorem refOf_any {A : Option Addr} {n c : Nat} {bs : List UInt8} {w : World} (hS : Sl w A n (bv bs)) (hm : n ≤ 1000000000) :
    Calls Try.prog 10 #[.slice A n c] w fun e w' => e = .returned (.int .u32 (sumOf bs : Int)) ∧ w = w' := by
  have hl : bs.length = n := by rw [← hS.1, bv_length]
  have HL := Lib.hid hl
  clear hl
  go_enter Try.func10, Try.ntmps10
  go_wp2
  go_loop [3, 4] (fun r i => ∃ k : Nat, k ≤ n ∧ i = .int .i64 k ∧ r = .int .u32 (reg 4294967295 (bs.take k) : Int)) (fun _ i => n - (intOf i).toNat)
  case atStart => exact ⟨0, Nat.zero_le _, rfl, rfl⟩
  case round =>
    obtain ⟨k, hk, rfl, rfl⟩ := hrel
    have hy : reg 4294967295 (bs.take k) < 4294967296 := reg_lt _ _ (by decide)
    by_cases hlt : k < n
    · obtain ⟨b, o, rfl, _, hc⟩ := hS.2 (by omega)
      have hcell : w.cell? ⟨b, o + k, none⟩ = some (.int .u8 ((bs.getD k 0).toNat : Int)) := by rw [hc k hlt, bv_get _ _ (by have := HL.out; omega)]
      have HT := Lib.hid (reg_take 4294967295 bs k (by have := HL.out; omega))
      generalize bs.getD k 0 = x at hcell HT
      generalize reg 4294967295 (bs.take k) = y at hy HT
      have hx := x.toNat_lt
      clear hc hS
      go_wp2_with (go_at_call 16; refine (refStep_any y x.toNat hy (by omega) _).mono ?_; rintro e w' ⟨rfl, rfl⟩)
      go_round
      case rel => exact ⟨k + 1, by omega, by go_num, by rw [HT.out]⟩
      case measure => simp [intOf]; omega
    · have hr : sumOf bs = 4294967295 - reg 4294967295 (bs.take k) := by rw [List.take_of_length_le (by have := HL.out; omega)]; exact sumOf_eq bs
      generalize reg 4294967295 (bs.take k) = y at hy hr
      have HR := Lib.hid hr
      clear hr hS
      go_wp2
      go_ret
      exact ⟨ret_int (by rw [HR.out]; omega), rfl⟩
end Go.Proofs.Ytlcefbdoolcgdaa
