/-
  The reference's fresh probabilities.
-/
import Derived.Test.YtokkaidepahepaaRdNew
import Derived.Deep.AppendLies
namespace Go.Proofs.Ytokkaidepahepaa
open Go.RowKit

set_option maxHeartbeats 2000000 in
theorem reffresh_any {n : Nat} (hn : n ≤ 1000000) (w : World) :
    Calls Try.prog 11 #[.int .i64 (n : Int)] w fun e w' =>
      ∃ A' c', e = .returned (.slice A' n c') ∧ w'.ownsRow w.heap.size 52 1 (.slice A' n c') n (pv (List.replicate n 1024)) ∧ Below w.heap.size w w' := by
  obtain ⟨i2, hi2, hy0, hy1, hy2⟩ := info_parts info_u16
  go_enter Try.func11, Try.ntmps11
  go_wp2_with fail
  go_loopw [3, 4] (fun p i wr => ∃ (j : Nat) (A2 : Option Addr) (c2 : Nat), j ≤ n ∧ i = .int .i64 (j : Int) ∧ p = .slice A2 j c2 ∧ wr.ownsRow w.heap.size 52 1 (.slice A2 j c2) j (pv (List.replicate j 1024)) ∧ Below w.heap.size w wr) (fun _ i _ => n - (intOf i).toNat)
  case atStart => exact ⟨0, none, 0, by omega, rfl, rfl, World.ownsRow_nil w _ _ 1, Below.refl _ _⟩
  case round =>
    obtain ⟨j, A2, c2, hj, rfl, rfl, ho, hb⟩ := hrel
    have HO := Lib.hid ho
    have HB := Lib.hid hb
    clear ho hb
    by_cases hlt : j < n
    · have hlt' : (j : Int) < (n : Int) := by omega
      go_wp2_with (at_builtin; refine wpList_app _ rfl (.tmp 10) (.tmp 11) 29 rfl w.heap.size 52 i2 _ 2 Try.underlying29 hi2 hy0 hy1 hy2 rfl _ j _ rfl (HO.out.alloc _) _ 1 1 _ rfl (sl_one _ _ _) (one_one _ _) (by omega) (by omega) (by have := HB.out.size; simp; omega) ?_)
      intro A3 c3 w3 ho hg
      have HB3 := Lib.hid ((HB.out.alloc HB.out.size _).grown hg (by have := HB.out.size; simp; omega) (fun b e => (HO.out.lt b e).1))
      have ho3 : w3.ownsRow w.heap.size 52 1 (.slice A3 (j + 1) c3) (j + 1) (pv (List.replicate (j + 1) 1024)) := by
        rw [List.replicate_succ']
        have e : pv (List.replicate j 1024 ++ [1024]) = pv (List.replicate j 1024) ++ [.int .u16 1024] := by simp [pv]
        rw [e]
        exact ho
      have HO3 := Lib.hid ho3
      clear ho hg ho3
      go_wp2
      go_roundw
      case rel => exact ⟨j + 1, A3, c3, by omega, by go_num, rfl, HO3.out, HB3.out⟩
      case measure => simp [intOf]; omega
    · obtain rfl : j = n := by omega
      go_wp2_with fail
      go_ret
      exact ⟨A2, c2, rfl, HO.out, HB.out⟩
end Go.Proofs.Ytokkaidepahepaa
