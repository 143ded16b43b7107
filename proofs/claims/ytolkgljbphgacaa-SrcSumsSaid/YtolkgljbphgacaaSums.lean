/-
  Sums and products that do not wrap.
-/
import Derived.Test.YtolkgljbphgacaaNums
import Derived.Lib.Mul64
import Derived.Laws.Bits64b
import Derived.Laws.Externs
namespace Go.Proofs.Ytolkgljbphgacaa
open Go.RowKit

set_option maxHeartbeats 400000 in
theorem refAdd_any (a b : Nat) (ha : a ≤ 18446744073709551615) (hb : b ≤ 18446744073709551615) (w : World) :
    Calls Try.prog 39 #[.int .u64 (a : Int), .int .u64 (b : Int)] w fun e w' => e = .returned (.tuple #[.int .u64 ((if a + b ≤ 18446744073709551615 then a + b else 0 : Nat) : Int), .bool (decide (a + b ≤ 18446744073709551615))]) ∧ w = w' := by
  by_cases h : a + b ≤ 18446744073709551615
  · rw [if_pos h, decide_eq_true h]
    go_enter Try.func39, Try.ntmps39
    go_wp2
    go_ret2
    exact ⟨rfl, rfl⟩
  · rw [if_neg h, decide_eq_false h]
    go_enter Try.func39, Try.ntmps39
    go_wp2
    go_ret2
    exact ⟨rfl, rfl⟩

theorem add64_run (x y : Nat) (w : World) :
    (callFunc 61 #[.int .u64 (x : Int), .int .u64 (y : Int), .int .u64 0]).run Try.prog w =
      .ok (.value (.tuple #[.int .u64 (((x : Int) + (y : Int)) % 18446744073709551616), .int .u64 (((x : Int) + (y : Int)) / 18446744073709551616)])) w := by
  rw [run_callFunc_extern Try.func61 (by kernel_rfl) (by kernel_rfl) (by kernel_rfl) (e := add64Entry) (by kernel_rfl), run_add64 (x : Int) (y : Int) 0 (by omega) (by omega) (by omega) (by omega)]
  simp only [Result.andThen, Int.add_zero]

set_option maxHeartbeats 400000 in
theorem srcAdd_any (a b : Nat) (ha : a ≤ 18446744073709551615) (hb : b ≤ 18446744073709551615) (w : World) :
    Calls Try.prog 37 #[.int .u64 (a : Int), .int .u64 (b : Int)] w fun e w' => e = .returned (.tuple #[.int .u64 ((if a + b ≤ 18446744073709551615 then a + b else 0 : Nat) : Int), .bool (decide (a + b ≤ 18446744073709551615))]) ∧ w = w' := by
  by_cases h : a + b ≤ 18446744073709551615
  · rw [if_pos h, decide_eq_true h]
    have hc : ∀ w : World, (callFunc 61 #[.int .u64 (a : Int), .int .u64 (b : Int), .int .u64 0]).run Try.prog w = .ok (.value (.tuple #[.int .u64 ((a : Int) + (b : Int)), .int .u64 0])) w := by
      intro w
      rw [add64_run a b w, show ((a : Int) + (b : Int)) % 18446744073709551616 = (a : Int) + (b : Int) by omega, show ((a : Int) + (b : Int)) / 18446744073709551616 = 0 by omega]
    go_enter Try.func37, Try.ntmps37
    go_wp2
    go_ret2
    exact ⟨rfl, rfl⟩
  · rw [if_neg h, decide_eq_false h]
    have hc : ∀ w : World, (callFunc 61 #[.int .u64 (a : Int), .int .u64 (b : Int), .int .u64 0]).run Try.prog w = .ok (.value (.tuple #[.int .u64 ((a : Int) + (b : Int) - 18446744073709551616), .int .u64 1])) w := by
      intro w
      rw [add64_run a b w, show ((a : Int) + (b : Int)) % 18446744073709551616 = (a : Int) + (b : Int) - 18446744073709551616 by omega, show ((a : Int) + (b : Int)) / 18446744073709551616 = 1 by omega]
    go_enter Try.func37, Try.ntmps37
    go_wp2
    go_ret2
    exact ⟨rfl, rfl⟩

namespace Mul64
theorem maskN (a : Nat) (ha : a < 18446744073709551616) : bits .and .u64 (a : Int) 4294967295 = ((a % 4294967296 : Nat) : Int) := by
  have h := u64_and_nat a 4294967295 ha (by omega)
  rw [show a &&& 4294967295 = a % 4294967296 from Nat.and_two_pow_sub_one_eq_mod a 32] at h
  exact h
theorem divN (a : Nat) : (a : Int) / 4294967296 = ((a / 4294967296 : Nat) : Int) := by omega
theorem mulN (a b : Nat) : (a : Int) * (b : Int) = ((a * b : Nat) : Int) := (Int.natCast_mul a b).symm
theorem addN (a b : Nat) : (a : Int) + (b : Int) = ((a + b : Nat) : Int) := (Int.natCast_add a b).symm
theorem wrapM (a : Nat) : IntKind.u64.wrap (a : Int) = ((a % 18446744073709551616 : Nat) : Int) := by rw [IntKind.wrap_u64]; omega
end Mul64

set_option maxHeartbeats 1000000 in
theorem mul64_any (x y : Nat) (hx : x < 18446744073709551616) (hy : y < 18446744073709551616) (w : World) :
    Calls Try.prog 62 #[.int .u64 x, .int .u64 y] w fun e w' => e = .returned (.tuple #[.int .u64 ((x * y / 18446744073709551616 : Nat) : Int), .int .u64 ((x * y % 18446744073709551616 : Nat) : Int)]) ∧ w = w' := by
  obtain ⟨bd, bt, bw, hhi⟩ := Lib.mul64_hi x y hx hy
  have ba := Lib.half_mul_le (a := x / 4294967296) (b := y / 4294967296) (by omega) (by omega)
  have bb := Lib.half_mul_le (a := x / 4294967296) (b := y % 4294967296) (by omega) (by omega)
  have bc := Lib.half_mul_le (a := x % 4294967296) (b := y / 4294967296) (by omega) (by omega)
  have ba' : x / 4294967296 * (y / 4294967296) < 18446744073709551616 := by omega
  have bb' : x / 4294967296 * (y % 4294967296) < 18446744073709551616 := by omega
  have bc' : x % 4294967296 * (y / 4294967296) < 18446744073709551616 := by omega
  have bh1 : x / 4294967296 * (y / 4294967296) + (x / 4294967296 * (y % 4294967296) + x % 4294967296 * (y % 4294967296) / 4294967296) / 4294967296 < 18446744073709551616 := by omega
  have bh : x / 4294967296 * (y / 4294967296) + (x / 4294967296 * (y % 4294967296) + x % 4294967296 * (y % 4294967296) / 4294967296) / 4294967296 + ((x / 4294967296 * (y % 4294967296) + x % 4294967296 * (y % 4294967296) / 4294967296) % 4294967296 + x % 4294967296 * (y / 4294967296)) / 4294967296 < 18446744073709551616 := by omega
  go_enter Try.func62, Try.ntmps62
  go_wp2
  simp only [Mul64.maskN x hx, Mul64.maskN y hy, Mul64.divN, Mul64.mulN, Mul64.addN, u64_in _ bd, u64_in _ bb', u64_in _ bt, Mul64.maskN _ bt, u64_in _ bc', u64_in _ bw, u64_in _ ba', u64_in _ bh1, u64_in _ bh, Mul64.wrapM (x * y)]
  rw [hhi]
  go_ret2
  exact ⟨rfl, rfl⟩

theorem mul_hi_zero (a b : Nat) : a * b / 18446744073709551616 = 0 ↔ a * b ≤ 18446744073709551615 := by
  rw [Nat.div_eq_zero_iff]; omega

set_option maxHeartbeats 400000 in
theorem srcTimes_any (a b : Nat) (ha : a ≤ 18446744073709551615) (hb : b ≤ 18446744073709551615) (w : World) :
    Calls Try.prog 38 #[.int .u64 (a : Int), .int .u64 (b : Int)] w fun e w' => e = .returned (.tuple #[.int .u64 ((if a * b ≤ 18446744073709551615 then a * b else 0 : Nat) : Int), .bool (decide (a * b ≤ 18446744073709551615))]) ∧ w = w' := by
  have hm := mul64_any a b (by omega) (by omega) w
  by_cases h : a * b ≤ 18446744073709551615
  · rw [if_pos h, decide_eq_true h]
    rw [(mul_hi_zero a b).2 h, Nat.mod_eq_of_lt (by omega)] at hm
    generalize a * b = p at hm
    have HM := Lib.hid hm
    clear hm h
    go_enter Try.func38, Try.ntmps38
    go_wp2_with (go_at_call 62; refine HM.out.mono ?_; rintro e w' ⟨rfl, rfl⟩)
    go_ret2
    exact ⟨rfl, rfl⟩
  · rw [if_neg h, decide_eq_false h]
    have hp : 0 < a * b / 18446744073709551616 := Nat.pos_of_ne_zero fun e => h ((mul_hi_zero a b).1 e)
    generalize a * b / 18446744073709551616 = p at hm hp
    generalize a * b % 18446744073709551616 = q at hm
    have HM := Lib.hid hm
    clear hm h
    have hp' : ((p : Int) == 0) = false := by simp; omega
    go_enter Try.func38, Try.ntmps38
    go_wp2_with (go_at_call 62; refine HM.out.mono ?_; rintro e w' ⟨rfl, rfl⟩)
    go_ret2
    exact ⟨rfl, rfl⟩

theorem refTimes_any (a b : Nat) (ha : a ≤ 18446744073709551615) (hb : b ≤ 18446744073709551615) (w : World) :
    Calls Try.prog 40 #[.int .u64 (a : Int), .int .u64 (b : Int)] w fun e w' => e = .returned (.tuple #[.int .u64 ((if a * b ≤ 18446744073709551615 then a * b else 0 : Nat) : Int), .bool (decide (a * b ≤ 18446744073709551615))]) ∧ w = w' := by
  by_cases h0 : b = 0
  · subst h0
    go_enter Try.func40, Try.ntmps40
    go_wp2
    go_ret2
    exact ⟨rfl, rfl⟩
  · have hb0 : ((b : Int) != 0) = true := by simp; omega
    have hb1 : (0 : Int) < (b : Int) := by omega
    have hq : (18446744073709551615 : Int) / (b : Int) = ((18446744073709551615 / b : Nat) : Int) := (Int.natCast_ediv 18446744073709551615 b).symm
    have hle : a ≤ 18446744073709551615 / b ↔ a * b ≤ 18446744073709551615 := Nat.le_div_iff_mul_le (by omega)
    by_cases h : a * b ≤ 18446744073709551615
    · rw [if_pos h, decide_eq_true h]
      have hd : (a : Int) ≤ 18446744073709551615 / (b : Int) := by rw [hq]; have := hle.2 h; omega
      have HW := Lib.hid (show IntKind.u64.wrap ((a : Int) * (b : Int)) = ((a * b : Nat) : Int) by rw [← Int.natCast_mul, u64_in _ (by omega)])
      clear hq hle h h0
      go_enter Try.func40, Try.ntmps40
      go_wp2
      go_ret2
      refine ⟨?_, rfl⟩
      rw [← HW.out]
      rfl
    · rw [if_neg h, decide_eq_false h]
      have hd : 18446744073709551615 / (b : Int) < (a : Int) := by
        rw [hq]
        have : ¬ a ≤ 18446744073709551615 / b := fun e => h (hle.1 e)
        omega
      clear hq hle h h0
      go_enter Try.func40, Try.ntmps40
      go_wp2
      go_ret2
      exact ⟨rfl, rfl⟩
end Go.Proofs.Ytolkgljbphgacaa
