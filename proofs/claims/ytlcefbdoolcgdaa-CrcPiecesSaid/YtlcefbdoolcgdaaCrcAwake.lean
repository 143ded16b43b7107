/-
  The answers that each law of the check sums asks first: awake is true.
-/
import Derived.Test.YtlcefbdoolcgdaaAdd
import Derived.Lib.SlBytesConst
namespace Go.Proofs.Ytlcefbdoolcgdaa
open Go.RowKit

theorem sl_marked (w : World) (e : TypeId) (cs : Array Value) (z : Nat × Nat) : Sl (w.alloc (.cells cs e z)) (some ⟨w.heap.size, 0, none⟩) cs.size cs.toList := by
  refine ⟨by simp, fun _ => ⟨_, _, rfl, by simp, fun j hj => ?_⟩⟩
  rw [cell_of_row _ _ (0 + j) cs e z (heap_alloc_new w _)]
  simp

set_option maxRecDepth 100000 in
set_option maxHeartbeats 1000000 in
theorem crcAwake_any (w : World) :
    Calls Try.prog 8 #[] w fun e w' => e = .returned (.bool true) ∧ Below w.heap.size w w' := by
  have hS := sl_marked w 5 #[.int .u8 49, .int .u8 50, .int .u8 51, .int .u8 52, .int .u8 53, .int .u8 54, .int .u8 55, .int .u8 56, .int .u8 57] (9, 10)
  have K := Lib.hid (of_any (c := 9) (bs := [49, 50, 51, 52, 53, 54, 55, 56, 57]) hS (by decide))
  have K0 := Lib.hid (fun w => of_any (c := 0) (bs := []) (Sl.nil (w := w) (A := none)) (by decide))
  have S1 : sumOf [49, 50, 51, 52, 53, 54, 55, 56, 57] = 3421780262 := by decide +kernel
  rw [S1] at K
  rw [sumOf_nil] at K0
  have kc := fun (w : World) (C : Array Value) (n c : Nat) => Lib.run_convert_bytes_const (P := Try.prog) w 22 5 C n c Try.underlying22 Try.underlying5
  clear hS S1
  go_enter Try.func8, Try.ntmps8
  go_wp2_with fail
  refine K.out.mono ?_
  rintro e w1 ⟨rfl, hb⟩
  have HB := Lib.hid hb
  clear hb
  go_wp2_with fail
  refine (K0.out _).mono ?_
  rintro e w2 ⟨rfl, hb⟩
  have HB2 := Lib.hid hb
  clear hb
  go_wp2_with fail
  go_ret
  have b0 : Below w.heap.size w (w.alloc (.cells #[.int .u8 49, .int .u8 50, .int .u8 51, .int .u8 52, .int .u8 53, .int .u8 54, .int .u8 55, .int .u8 56, .int .u8 57] 5 (9, 10))) := (Below.refl _ _).alloc (Nat.le_refl _) _
  have b1 := b0.trans (HB.out.mono b0.size)
  exact ⟨rfl, b1.trans (HB2.out.mono b1.size)⟩
end Go.Proofs.Ytlcefbdoolcgdaa
