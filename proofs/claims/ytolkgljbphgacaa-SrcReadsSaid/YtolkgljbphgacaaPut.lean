/-
  Numbers that are put: withRoom, putLeast, PutNumber.
-/
import Derived.Test.YtolkgljbphgacaaNew
import Derived.Test.YtolkgljbphgacaaArith
namespace Go.Proofs.Ytolkgljbphgacaa
open Go.RowKit

set_option maxHeartbeats 400000 in
theorem withRoom_any {A : Option Addr} {n c m : Nat} {x : Int} {bs : List UInt8} {w : World} (hS : Sl w A n (bv bs)) (hm : n ≤ 1000000000) (hx : x = (m : Int)) (hr : m ≤ 1000000000) :
    Calls Try.prog 57 #[.slice A n c, .int .i64 x] w fun e w' =>
      ∃ A' c', e = .returned (.slice A' n c') ∧ w'.ownsRow w.heap.size 5 1 (.slice A' n c') n (bv bs) ∧ Below w.heap.size w w' := by
  subst hx
  obtain ⟨i, hi, hz0, hz1, hz2⟩ := info_parts info_u8
  go_enter Try.func57, Try.ntmps57
  go_wp2_with (at_make; refine wpList_make_own _ rfl _ _ 22 rfl w.heap.size 5 i _ 1 Try.underlying22 hi hz0 hz1 _ _ _ (n + m) rfl rfl (Int.natCast_add n m).symm ?b1 ?b2 ?b3 ?_)
  case b1 => rw [hz2]; omega
  case b2 => unfold maxLen; omega
  case b3 => omega
  intro w1 ho hg
  have HO := Lib.hid ho
  have HG := Lib.hid hg
  have HS1 := Lib.hid (hS.below (only_none hg))
  clear ho hg hS
  go_wp2_with (at_builtin; refine wpList_app _ rfl (.tmp 9) (.tmp 10) 22 rfl w.heap.size 5 i _ 1 Try.underlying22 hi hz0 hz1 hz2 rfl _ 0 [] rfl HO.out A n c (bv bs) rfl HS1.out (bv_one bs) (by omega) (by omega) HG.out.size ?_)
  intro A' c' w2 ho hg
  have HO2 := Lib.hid ho
  have HG2 := Lib.hid hg
  clear ho hg
  go_wp2
  go_ret
  have ho := HO2.out
  simp only [Nat.zero_add, List.nil_append] at ho ⊢
  exact ⟨A', c', rfl, ho, (only_none HG.out).trans (below_of_only HG2.out (Nat.le_refl _) HG.out.size)⟩

set_option maxHeartbeats 400000 in
theorem putLeast_any {A : Option Addr} {n c base size v : Nat} {x : Int} {bs : List UInt8} {w : World} (hO : w.ownsRow base 5 1 (.slice A n c) n (bv bs)) (hb : base ≤ w.heap.size) (hm : n ≤ 1000000000) (hx : x = (size : Int)) (hs : size ≤ 8) (hv : v < 18446744073709551616) :
    Calls Try.prog 58 #[.slice A n c, .int .i64 x, .int .u64 (v : Int)] w fun e w' =>
      ∃ A' c', e = .returned (.slice A' (n + size) c') ∧ w'.ownsRow base 5 1 (.slice A' (n + size) c') (n + size) (bv (bs ++ leBytes size v)) ∧ Below base w w' := by
  subst hx
  obtain ⟨i, hi, hz0, hz1, hz2⟩ := info_parts info_u8
  have HO := Lib.hid hO
  clear hO
  go_enter Try.func58, Try.ntmps58
  go_wp2
  go_loopw [0, 9] (fun s i wr => ∃ (k : Nat) (A' : Option Addr) (c' : Nat), k ≤ size ∧ i = .int .i64 k ∧ s = .slice A' (n + k) c' ∧ wr.ownsRow base 5 1 (.slice A' (n + k) c') (n + k) (bv (bs ++ leBytes k v)) ∧ Below base w wr) (fun _ i _ => size - (intOf i).toNat)
  case atStart => exact ⟨0, A, c, Nat.zero_le _, rfl, rfl, by simpa [leBytes] using HO.out, Below.refl _ _⟩
  case round =>
    obtain ⟨k, A', c', hk, rfl, rfl, ho, hbw⟩ := hrel
    have HO1 := Lib.hid ho
    have HB := Lib.hid hbw
    have hsz : base ≤ wr.heap.size := Nat.le_trans hb hbw.size
    clear ho hbw HO
    by_cases hlt : k < size
    · have hi8 : (8 * (k : Int)) ≤ 64 := by omega
      go_wp2_with (at_builtin; refine wpList_app _ rfl (.tmp 12) (.tmp 18) 22 rfl base 5 i _ 1 Try.underlying22 hi hz0 hz1 hz2 rfl _ (n + k) _ rfl (HO1.out.alloc _) _ 1 1 _ rfl (sl_one _ _ _) (one_one _ _) (by omega) (by omega) (by simp; omega) ?_)
      intro A2 c2 w2 ho hg
      have hb2 : Below base w w2 := (HB.out.alloc hsz _).grown hg (by simp; omega) (fun k e => (HO1.out.lt k e).1)
      have HO2 := Lib.hid ho
      have HB2 := Lib.hid hb2
      clear ho hg hb2
      go_wp2
      go_roundw
      case rel =>
        refine ⟨k + 1, A2, c2, by omega, by go_num, rfl, ?_, HB2.out⟩
        have ho := HO2.out
        rw [put_byte] at ho
        rw [leBytes_succ, ← List.append_assoc, bv_append]
        exact ho
      case measure => simp [intOf]; omega
    · obtain rfl : k = size := by omega
      go_wp2
      go_ret
      exact ⟨A', c', rfl, HO1.out, HB.out⟩
end Go.Proofs.Ytolkgljbphgacaa
