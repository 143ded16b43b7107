/-
  Which distances may be; properties.
-/
import Derived.Test.YtnmihkimkbiakaaDlEach
import Derived.Deep.WholeRow
namespace Go.Proofs.Ytnmihkimkbiakaa
set_option linter.unusedVariables false
set_option linter.unusedSimpArgs false
open Go.RowKit

def mayD (d : Int) : Bool := decide (1 ≤ d ∧ d ≤ 256)
set_option maxHeartbeats 1000000 in
theorem dmay_any (d : Int) (w : World) : Calls Try.prog 16 #[.int .i64 d] w fun e w' => e = .returned (.bool (mayD d)) ∧ w = w' := by
  unfold mayD
  by_cases h1 : 1 ≤ d
  · by_cases h2 : d ≤ 256
    · rw [decide_eq_true ⟨h1, h2⟩]
      go_enter Try.func16, Try.ntmps16
      go_wp2_with fail
      go_ret
      exact ⟨rfl, rfl⟩
    · rw [decide_eq_false (fun h => h2 h.2)]
      go_enter Try.func16, Try.ntmps16
      go_wp2_with fail
      go_ret
      exact ⟨rfl, rfl⟩
  · rw [decide_eq_false (fun h => h1 h.1)]
    go_enter Try.func16, Try.ntmps16
    go_wp2_with fail
    go_ret
    exact ⟨rfl, rfl⟩
def zRing : Array Value := (List.replicate 256 (Value.int .u8 0) ++ [Value.int .i64 0, Value.int .i64 0]).toArray
theorem zRing_size : zRing.size = 258 := by decide +kernel
theorem ring_zero (W : World) : (zeroValue 45).run Try.prog W = .ok (.agg zRing) W := by kernel_rfl
theorem ring_info : (Try.prog.info? 45).map (·.size) = some 258 := by kernel_rfl
theorem zRing_one (d : Int) : (zRing.setIfInBounds 256 (.int .i64 d)).all (·.oneCell') = true := by
  rw [Array.all_eq_true]
  intro i hi
  have h : zRing.all (·.oneCell') = true := by decide +kernel
  rw [Array.all_eq_true] at h
  rw [Array.getElem_setIfInBounds (by rw [Array.size_setIfInBounds] at hi; exact hi)]
  split
  · rfl
  · exact h i (by rw [Array.size_setIfInBounds] at hi; exact hi)
theorem ring_store (w : World) (d : Int) : (storeCells ⟨w.heap.size, 0, none⟩ (zRing.toList.set 256 (.int .i64 d)) 0).run Try.prog (w.alloc (.cells zRing 45)) = .ok () (w.alloc (.cells (zRing.setIfInBounds 256 (.int .i64 d)) 45)) := by
  have := run_storeCells_new (P := Try.prog) w 45 zRing (zRing.setIfInBounds 256 (.int .i64 d)) (by rw [ring_info, Array.size_setIfInBounds, zRing_size]) (by rw [Array.size_setIfInBounds]) (zRing_one d)
  rwa [Array.toList_setIfInBounds] at this
theorem zRing_get {i : Nat} (h : i < 256) : zRing[i]? = some (.int .u8 0) := by
  unfold zRing
  rw [List.getElem?_toArray, List.getElem?_append_left (by rw [List.length_replicate]; exact h), List.getElem?_replicate, if_pos h]
theorem zRing_at : zRing[257]? = some (.int .i64 0) := by
  unfold zRing
  rw [List.getElem?_toArray, List.getElem?_append_right (by rw [List.length_replicate]; decide), List.length_replicate]
  rfl
theorem ring_new {d : Nat} {P : List UInt8} (d0 : 0 < d) (d1 : d ≤ 256) : RingC (zRing.setIfInBounds 256 (.int .i64 (d : Int))) 0 d P 0 := by
  refine RingC.start d0 d1 (by rw [Array.size_setIfInBounds, zRing_size]; decide) ?_ ?_ fun i hi => ?_
  · rw [Array.getElem?_setIfInBounds, if_pos rfl, if_pos (by rw [zRing_size]; decide)]
  · rw [Array.getElem?_setIfInBounds, if_neg (by omega)]
    exact zRing_at
  · rw [Array.getElem?_setIfInBounds, if_neg (by omega), Nat.zero_add]
    exact zRing_get hi
def RingJ (T : TypeId) (r o d : Nat) (P : List UInt8) (k : Nat) (W : World) : Prop := ∃ cs, Blk W r T cs ∧ RingC cs o d P k
theorem becomes_decode {r d : Nat} {b : List UInt8} (hd : 0 < d) : Becomes 22 ⟨r, 0, none⟩ b (decN d b) (RingJ 45 r 0 d (decN d b)) := by
  refine ⟨fun k W hk ⟨cs, hB, hR⟩ => ?_, fun k W W' S ⟨cs, hB, hR⟩ hO hS => ⟨cs, hB.only hO hS, hR⟩, fun k W ⟨cs, hB, _⟩ => hB.lt, decN_len d b, fun args W => by kernel_rfl⟩
  refine (ddecode_any hB hR (by rw [decN_len]; exact hk) (Nat.zero_le _) (decN_get hd hk)).mono ?_
  rintro e W' ⟨rfl, cs', h1, h2, _, h4⟩
  exact ⟨rfl, ⟨cs', h1, h2⟩, h4⟩
theorem becomes_code {r d : Nat} {b : List UInt8} : Becomes 21 ⟨r, 0, none⟩ b (codN d b) (RingJ 45 r 0 d b) := by
  refine ⟨fun k W hk ⟨cs, hB, hR⟩ => ?_, fun k W W' S ⟨cs, hB, hR⟩ hO hS => ⟨cs, hB.only hO hS, hR⟩, fun k W ⟨cs, hB, _⟩ => hB.lt, codN_len d b, fun args W => by kernel_rfl⟩
  refine (dcode_any hB hR hk (Nat.zero_le _) (codN_get hk)).mono ?_
  rintro e W' ⟨rfl, cs', h1, h2, _, h4⟩
  exact ⟨rfl, ⟨cs', h1, h2⟩, h4⟩
def SidePost (w : World) (n : Nat) (out : List UInt8) (e : Ending) (w' : World) : Prop :=
  ∃ q, e = .returned (.tuple #[.slice (some ⟨q, 0, none⟩) n n, .int .i64 0]) ∧ Sl w' (some ⟨q, 0, none⟩) n (bv out) ∧ w.heap.size ≤ q ∧ Below w.heap.size w w'

set_option maxRecDepth 100000 in
set_option maxHeartbeats 4000000 in
theorem dDecode_any {A : Option Addr} {n c d : Nat} {b : List UInt8} {w : World} (hS : Sl w A n (bv b)) (hn : n ≤ 1000000000) (hd : mayD (d : Int) = true) :
    Calls Try.prog 11 #[.slice A n c, .int .i64 (d : Int)] w (SidePost w n (decN d b)) := by
  have KM := Lib.hid (dmay_any (d : Int) w)
  rw [hd] at KM
  have hdd : 1 ≤ (d : Int) ∧ (d : Int) ≤ 256 := of_decide_eq_true hd
  have HS := Lib.hid hS
  have hz := ring_zero
  have hzs := zRing_size
  have hst := ring_store w (d : Int)
  have hb0 : Below w.heap.size w (w.alloc (.cells (zRing.setIfInBounds 256 (.int .i64 (d : Int))) 45)) := (Below.refl _ w).alloc (Nat.le_refl _) _
  have KE := Lib.hid (deach_any (c := c) (becomes_decode (r := w.heap.size) (d := d) (b := b) (by omega)) (hS.below hb0) hn ⟨_, Blk.fresh w _ _, ring_new (by omega) (by omega)⟩ (fun h0 p o e => by
    obtain ⟨b', o', e', h1, _⟩ := hS.2 h0
    rw [e] at e'
    injection e' with e'
    injection e' with e1 e2
    show p ≠ w.heap.size
    omega))
  have HB := Lib.hid hb0
  generalize zRing = Z at *
  clear hS hd hb0 hdd
  go_enter Try.func11, Try.ntmps11
  go_wp2_with fail
  refine KM.out.mono ?_
  rintro e w1 ⟨rfl, rfl⟩
  go_wp2_with fail
  refine KE.out.mono ?_
  rintro e w2 ⟨q, rfl, h1, h2, _, h4⟩
  have H := Lib.hid (And.intro h1 (And.intro (Nat.le_trans HB.out.size h2) (HB.out.trans (h4.below HB.out.size (by rintro i rfl; exact Nat.le_refl _)))))
  clear h1 h2 h4
  go_wp2_with fail
  go_ret2
  exact ⟨q, rfl, H.out⟩
set_option maxRecDepth 100000 in
set_option maxHeartbeats 4000000 in
theorem dCode_any {A : Option Addr} {n c d : Nat} {b : List UInt8} {w : World} (hS : Sl w A n (bv b)) (hn : n ≤ 1000000000) (hd : mayD (d : Int) = true) :
    Calls Try.prog 9 #[.slice A n c, .int .i64 (d : Int)] w (SidePost w n (codN d b)) := by
  have KM := Lib.hid (dmay_any (d : Int) w)
  rw [hd] at KM
  have hdd : 1 ≤ (d : Int) ∧ (d : Int) ≤ 256 := of_decide_eq_true hd
  have HS := Lib.hid hS
  have hz := ring_zero
  have hzs := zRing_size
  have hst := ring_store w (d : Int)
  have hb0 : Below w.heap.size w (w.alloc (.cells (zRing.setIfInBounds 256 (.int .i64 (d : Int))) 45)) := (Below.refl _ w).alloc (Nat.le_refl _) _
  have KE := Lib.hid (deach_any (c := c) (becomes_code (r := w.heap.size) (d := d) (b := b)) (hS.below hb0) hn ⟨_, Blk.fresh w _ _, ring_new (by omega) (by omega)⟩ (fun h0 p o e => by
    obtain ⟨b', o', e', h1, _⟩ := hS.2 h0
    rw [e] at e'
    injection e' with e'
    injection e' with e1 e2
    show p ≠ w.heap.size
    omega))
  have HB := Lib.hid hb0
  generalize zRing = Z at *
  clear hS hd hb0 hdd
  go_enter Try.func9, Try.ntmps9
  go_wp2_with fail
  refine KM.out.mono ?_
  rintro e w1 ⟨rfl, rfl⟩
  go_wp2_with fail
  refine KE.out.mono ?_
  rintro e w2 ⟨q, rfl, h1, h2, _, h4⟩
  have H := Lib.hid (And.intro h1 (And.intro (Nat.le_trans HB.out.size h2) (HB.out.trans (h4.below HB.out.size (by rintro i rfl; exact Nat.le_refl _)))))
  clear h1 h2 h4
  go_wp2_with fail
  go_ret2
  exact ⟨q, rfl, H.out⟩

set_option maxHeartbeats 1000000 in
theorem dDecodeBad_any {A : Option Addr} {n c : Nat} {w : World} {d : Int} (hd : mayD d = false) :
    Calls Try.prog 11 #[.slice A n c, .int .i64 d] w fun e w' => e = .returned (.tuple #[.slice none 0 0, .int .i64 11]) ∧ w = w' := by
  have KM := Lib.hid (dmay_any d w)
  rw [hd] at KM
  go_enter Try.func11, Try.ntmps11
  go_wp2_with fail
  refine KM.out.mono ?_
  rintro e w1 ⟨rfl, rfl⟩
  go_wp2_with fail
  go_ret2
  exact ⟨rfl, rfl⟩
set_option maxHeartbeats 1000000 in
theorem dCodeBad_any {A : Option Addr} {n c : Nat} {w : World} {d : Int} (hd : mayD d = false) :
    Calls Try.prog 9 #[.slice A n c, .int .i64 d] w fun e w' => e = .returned (.tuple #[.slice none 0 0, .int .i64 11]) ∧ w = w' := by
  have KM := Lib.hid (dmay_any d w)
  rw [hd] at KM
  go_enter Try.func9, Try.ntmps9
  go_wp2_with fail
  refine KM.out.mono ?_
  rintro e w1 ⟨rfl, rfl⟩
  go_wp2_with fail
  go_ret2
  exact ⟨rfl, rfl⟩
end Go.Proofs.Ytnmihkimkbiakaa
