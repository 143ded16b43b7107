/-
  The document's own filter: its small parts.
-/
import Derived.Test.YtcolnmjginpalaaDoorBjThru
import Derived.Test.YtcolnmjginpalaaDoorBytN
import Derived.Deep.CutBlock
namespace Go.Proofs.YtcolnmjginpalaaDoor
set_option linter.unusedVariables false
set_option linter.unusedSimpArgs false
open Go.RowKit

set_option maxHeartbeats 1000000 in
theorem redge_any (x : UInt8) {v : Int} (hv : v = (x.toNat : Int)) (w : World) : Calls Tryd.prog 24 #[.int .u8 v] w fun e w' => e = .returned (.bool (egB x)) ∧ w = w' := by
  subst hv
  by_cases h1 : x.toNat = 0
  · obtain rfl : x = 0 := UInt8.toNat_inj.1 h1
    go_enter Tryd.func24, Tryd.ntmps24
    go_wp2_with fail
    go_ret
    exact ⟨rfl, rfl⟩
  · have e1 : ((x.toNat : Int) == 0) = false := by simp; omega
    by_cases h2 : x.toNat = 255
    · have e2 : ((x.toNat : Int) == 255) = true := by simp; omega
      have hm : egB x = true := by unfold egB; rw [show x = 255 from UInt8.toNat_inj.1 h2]; rfl
      rw [hm]
      clear h1 h2 hm
      go_enter Tryd.func24, Tryd.ntmps24
      go_wp2_with fail
      go_ret
      exact ⟨rfl, rfl⟩
    · have e2 : ((x.toNat : Int) == 255) = false := by simp; omega
      have hm : egB x = false := by
        unfold egB
        rw [Bool.or_eq_false_iff, beq_eq_false_iff_ne, beq_eq_false_iff_ne]
        exact ⟨fun h => h1 (by rw [h]; rfl), fun h => h2 (by rw [h]; rfl)⟩
      rw [hm]
      clear h1 h2 hm
      go_enter Tryd.func24, Tryd.ntmps24
      go_wp2_with fail
      go_ret
      exact ⟨rfl, rfl⟩
set_option maxHeartbeats 1000000 in
theorem rbit_any {a : Nat} (ha : alB a = true) (w : World) : Calls Tryd.prog 25 #[.int .i64 (a : Int)] w fun e w' => e = .returned (.int .i64 (btN a : Int)) ∧ w = w' := by
  have hc : a = 0 ∨ a = 1 ∨ a = 2 ∨ a = 4 := by
    by_cases h0 : a = 0
    · exact .inl h0
    · exact .inr (alB_cases ha h0)
  rcases hc with rfl | rfl | rfl | rfl
  · rw [show btN 0 = 0 from rfl]
    go_enter Tryd.func25, Tryd.ntmps25
    go_wp2_with fail
    go_ret
    exact ⟨rfl, rfl⟩
  · rw [show btN 1 = 1 from rfl]
    go_enter Tryd.func25, Tryd.ntmps25
    go_wp2_with fail
    go_ret
    exact ⟨rfl, rfl⟩
  · rw [show btN 2 = 2 from rfl]
    go_enter Tryd.func25, Tryd.ntmps25
    go_wp2_with fail
    go_ret
    exact ⟨rfl, rfl⟩
  · rw [show btN 4 = 3 from rfl]
    go_enter Tryd.func25, Tryd.ntmps25
    go_wp2_with fail
    go_ret
    exact ⟨rfl, rfl⟩
set_option maxHeartbeats 1000000 in
theorem wrapped_any {v : Int} {t : Nat} (h0 : -4611686018427387904 ≤ v) (h1 : v ≤ 4611686018427387904) (ht : (t : Int) = v % 4294967296) (w : World) : Calls Tryd.prog 26 #[.int .i64 v] w fun e w' => e = .returned (.int .i64 (t : Int)) ∧ w = w' := by
  obtain ⟨x, hx⟩ : ∃ x, x = v.tmod 4294967296 := ⟨_, rfl⟩
  have hd : x = v % 4294967296 ∨ (x < 0 ∧ x + 4294967296 = v % 4294967296) := by
    rw [hx]
    rcases Int.lt_or_le v 0 with hn | hn
    · have h2 : v.tmod 4294967296 = -((-v) % 4294967296) := by
        rw [← Int.tmod_eq_emod_of_nonneg (by omega), Int.neg_tmod, Int.neg_neg]
      rw [h2]
      omega
    · rw [Int.tmod_eq_emod_of_nonneg hn]
      exact .inl rfl
  have HT := Lib.hid ht
  by_cases hn : x < 0
  · have hx2 : x + 4294967296 = (t : Int) := by omega
    have e1 : wrap64 (v.tmod 4294967296 + 4294967296) = (t : Int) := by rw [← hx, hx2]; exact IntWalk.wrap64_in _ (by omega)
    have g1 : v.tmod 4294967296 < 0 := by rw [← hx]; exact hn
    have HE := Lib.hid e1
    clear hd ht hx hx2 hn e1
    go_enter Tryd.func26, Tryd.ntmps26
    go_wp2_with fail
    go_ret
    exact ⟨ret_int HE.out, rfl⟩
  · have hx2 : v.tmod 4294967296 = (t : Int) := by rw [← hx]; omega
    have g1 : ¬ (t : Int) < 0 := by omega
    clear hd ht hx hn
    go_enter Tryd.func26, Tryd.ntmps26
    go_wp2_with fail
    go_ret
    exact ⟨rfl, rfl⟩
end Go.Proofs.YtcolnmjginpalaaDoor
