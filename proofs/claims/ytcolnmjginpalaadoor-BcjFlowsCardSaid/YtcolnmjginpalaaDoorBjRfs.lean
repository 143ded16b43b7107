/-
  The document's own Decode and Code.
-/
import Derived.Test.YtcolnmjginpalaaDoorBjRfT
namespace Go.Proofs.YtcolnmjginpalaaDoor
set_option linter.unusedVariables false
set_option linter.unusedSimpArgs false
open Go.RowKit

set_option maxHeartbeats 1000000 in
theorem rDec_any {A : Option Addr} {n cp : Nat} {b : List UInt8} {w : World} (hS : Sl w A n (bv b)) (hn : n ≤ 1000000) :
    Calls Tryd.prog 11 #[.slice A n cp] w (RThruPost w n (gN false 0 0 b)) := by
  have K := rthrough_any (cp := cp) (c := false) hS hn
  rw [show signI false = -1 from rfl] at K
  have K := Lib.hid K
  clear hS hn
  go_enter Tryd.func11, Tryd.ntmps11
  go_wp2_with fail
  refine K.out.mono ?_
  rintro e w1 ⟨A1, c1, rfl, h⟩
  have H := Lib.hid h
  clear h K
  go_wp2_with fail
  go_ret
  exact ⟨A1, c1, rfl, H.out⟩
set_option maxHeartbeats 1000000 in
theorem rCod_any {A : Option Addr} {n cp : Nat} {b : List UInt8} {w : World} (hS : Sl w A n (bv b)) (hn : n ≤ 1000000) :
    Calls Tryd.prog 13 #[.slice A n cp] w (RThruPost w n (gN true 0 0 b)) := by
  have K := rthrough_any (cp := cp) (c := true) hS hn
  rw [show signI true = 1 from rfl] at K
  have K := Lib.hid K
  clear hS hn
  go_enter Tryd.func13, Tryd.ntmps13
  go_wp2_with fail
  refine K.out.mono ?_
  rintro e w1 ⟨A1, c1, rfl, h⟩
  have H := Lib.hid h
  clear h K
  go_wp2_with fail
  go_ret
  exact ⟨A1, c1, rfl, H.out⟩
end Go.Proofs.YtcolnmjginpalaaDoor
