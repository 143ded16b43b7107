/-
  A new sum, and a step of one.
-/
import Derived.Test.YtlcefbdoolcgdaaOnce
namespace Go.Proofs.Ytlcefbdoolcgdaa
open Go.RowKit

set_option maxRecDepth 100000 in
set_option maxHeartbeats 1000000 in
theorem step_any {g s n r b : Nat} {cs : Array Value} {w : World} (hB : Blk w g 55 cs) (hC : SumCells cs 1 s n) (hr : r < 4294967296) (hb : b < 256) :
    Calls Try.prog 19 #[.pointer (some ⟨g, 0, none⟩), .int .u32 (r : Int), .int .u8 (b : Int)] w fun e w' => e = .returned (.int .u32 (tick (r ^^^ b) : Int)) ∧ w = w' := by
  have hlook := tick_look r b hb
  have hi : r % 256 ^^^ b < 256 := Nat.xor_lt_two_pow (n := 8) (by omega) hb
  have q1 : bits .xor .u8 ((r : Int) % 256) (b : Int) = ((r % 256 ^^^ b : Nat) : Int) := u8_xor_nat (r % 256) b (by omega) hb
  have hT := hC.2.2.2.2.1 rfl (r % 256 ^^^ b) hi
  rw [← hB.cell] at hT
  have ht : tick (r % 256 ^^^ b) < 4294967296 := tick_lt _ (by omega)
  have q3 : bits .xor .u32 ((r : Int) / 256) (tick (r % 256 ^^^ b) : Int) = ((r / 256 ^^^ tick (r % 256 ^^^ b) : Nat) : Int) := xor_u32 (r / 256) _ (by omega) ht
  rw [hlook] at q3
  clear hlook ht hC hB
  generalize tick (r % 256 ^^^ b) = t at hT q3
  generalize r % 256 ^^^ b = i at hi q1 hT
  generalize tick (r ^^^ b) = z at q3
  go_enter Try.func19, Try.ntmps19
  go_wp2
  go_ret
  exact ⟨rfl, rfl⟩

theorem zero_of {P : Program} {t : TypeId} {v : Value} (h : (P.info? t).map (fun i => i.zero) = some (some v)) : ∀ w, (zeroValue t).run P w = .ok v w := by
  intro w
  obtain ⟨i, hi, hz⟩ := Option.map_eq_some_iff.1 h
  simp [zeroValue, typeInfo, hi, hz]

/-- a sum's cells at first -/
def zeroCells : Array Value := #[.int .u32 0, .int .i32 0, .int .u32 0] ++ Array.replicate 256 (.int .u32 0) ++ #[.int .u32 0, .int .i64 0]
set_option maxRecDepth 100000 in
theorem zero_info : (Try.prog.info? 55).map (fun i => i.zero) = some (some (.agg zeroCells)) := by kernel_rfl
set_option maxRecDepth 100000 in
theorem zero_cells : SumCells zeroCells 0 0 0 :=
  ⟨by decide +kernel, .inl rfl, by kernel_rfl, by kernel_rfl, fun h => absurd h (by decide), by kernel_rfl, by kernel_rfl, by decide⟩

set_option maxRecDepth 100000 in
set_option maxHeartbeats 1000000 in
theorem new_any (w : World) :
    Calls Try.prog 11 #[] w fun e w' => ∃ g cs, e = .returned (.pointer (some ⟨g, 0, none⟩)) ∧ Blk w' g 55 cs ∧ SumCells cs 0 0 0 ∧ w.heap.size ≤ g ∧ Below w.heap.size w w' := by
  have hz := zero_of zero_info
  have HC := Lib.hid zero_cells
  generalize zeroCells = cs at hz HC
  go_enter Try.func11, Try.ntmps11
  go_wp2
  go_ret
  exact ⟨_, cs, rfl, Blk.fresh _ _ _, HC.out, Nat.le_refl _, (Below.refl _ _).alloc (Nat.le_refl _) _⟩

/-- A sum that has taken the bytes l. -/
def SumAt (w : World) (g : Nat) (l : List UInt8) : Prop := ∃ cs d, Blk w g 55 cs ∧ SumCells cs d (sumOf l) l.length

theorem not_u32 (x : Nat) (hx : x < 4294967296) : bits .xor .u32 IntKind.u32.max (x : Int) = ((flip x : Nat) : Int) := xor_u32 4294967295 x (by decide) hx

set_option maxRecDepth 100000 in
set_option maxHeartbeats 1000000 in
theorem sumValue_any {g : Nat} {l : List UInt8} {w : World} (h : SumAt w g l) :
    Calls Try.prog 14 #[.pointer (some ⟨g, 0, none⟩)] w fun e w' => e = .returned (.int .u32 (sumOf l : Int)) ∧ w = w' := by
  obtain ⟨cs, d, hB, hC⟩ := h
  have hs := hC.2.2.2.2.2.1
  rw [← hB.cell] at hs
  generalize sumOf l = s at hs
  clear hB hC
  go_enter Try.func14, Try.ntmps14
  go_wp2
  go_ret
  exact ⟨rfl, rfl⟩

set_option maxRecDepth 100000 in
set_option maxHeartbeats 1000000 in
theorem sumCount_any {g : Nat} {l : List UInt8} {w : World} (h : SumAt w g l) :
    Calls Try.prog 15 #[.pointer (some ⟨g, 0, none⟩)] w fun e w' => e = .returned (.int .i64 (l.length : Int)) ∧ w = w' := by
  obtain ⟨cs, d, hB, hC⟩ := h
  have hs := hC.2.2.2.2.2.2.1
  rw [← hB.cell] at hs
  generalize l.length = n at hs
  clear hB hC
  go_enter Try.func15, Try.ntmps15
  go_wp2
  go_ret
  exact ⟨rfl, rfl⟩
end Go.Proofs.Ytlcefbdoolcgdaa
