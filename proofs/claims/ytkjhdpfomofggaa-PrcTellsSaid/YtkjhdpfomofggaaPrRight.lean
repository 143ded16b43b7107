/-
  Which share may be.
-/
import Derived.Test.YtkjhdpfomofggaaPrRef
import Derived.Test.YtkjhdpfomofggaaShrs
namespace Go.Proofs.Ytkjhdpfomofggaa
open Go.RowKit

theorem u32_is (x : Int) (h0 : 0 ≤ x) (h1 : x < 4294967296) : IntKind.u32.wrap x = x := by
  simp [IntKind.wrap, IntKind.bits, IntKind.signed]
  omega
def shrArr (q : Shr) : Array Value := #[.int .i64 q.k, .int .u32 q.s, .int .u32 q.z, .int .u32 q.t]

section
variable {k s z t : Int} {w : World}
set_option maxHeartbeats 2000000 in
theorem share0_0  (h0 : ¬ (t ≥ 1))  :
    Calls Try.prog 12 #[.agg #[.int .i64 0, .int .u32 s, .int .u32 z, .int .u32 t]] w fun e w' => e = .returned (.bool false) ∧ Below w.heap.size w w' := by
  go_enter Try.func12, Try.ntmps12
  go_wp2_with fail
  go_ret
  exact ⟨rfl, (Below.refl _ _).alloc (Nat.le_refl _) _⟩
set_option maxHeartbeats 2000000 in
theorem share0_1 (h0 : t ≥ 1) (h1 : ¬ (t ≤ 1048576))  :
    Calls Try.prog 12 #[.agg #[.int .i64 0, .int .u32 s, .int .u32 z, .int .u32 t]] w fun e w' => e = .returned (.bool false) ∧ Below w.heap.size w w' := by
  go_enter Try.func12, Try.ntmps12
  go_wp2_with fail
  go_ret
  exact ⟨rfl, (Below.refl _ _).alloc (Nat.le_refl _) _⟩
set_option maxHeartbeats 2000000 in
theorem share0_2 (h0 : t ≥ 1) (h1 : t ≤ 1048576) (h2 : ¬ (z ≥ 1))  :
    Calls Try.prog 12 #[.agg #[.int .i64 0, .int .u32 s, .int .u32 z, .int .u32 t]] w fun e w' => e = .returned (.bool false) ∧ Below w.heap.size w w' := by
  go_enter Try.func12, Try.ntmps12
  go_wp2_with fail
  go_ret
  exact ⟨rfl, (Below.refl _ _).alloc (Nat.le_refl _) _⟩
set_option maxHeartbeats 2000000 in
theorem share0_3 (h0 : t ≥ 1) (h1 : t ≤ 1048576) (h2 : z ≥ 1) (h3 : ¬ (z ≤ t))  :
    Calls Try.prog 12 #[.agg #[.int .i64 0, .int .u32 s, .int .u32 z, .int .u32 t]] w fun e w' => e = .returned (.bool false) ∧ Below w.heap.size w w' := by
  go_enter Try.func12, Try.ntmps12
  go_wp2_with fail
  go_ret
  exact ⟨rfl, (Below.refl _ _).alloc (Nat.le_refl _) _⟩
set_option maxHeartbeats 2000000 in
theorem share0_4 (h0 : t ≥ 1) (h1 : t ≤ 1048576) (h2 : z ≥ 1) (h3 : z ≤ t) (h4 : ¬ (s ≤ t - z)) (e1 : IntKind.u32.wrap (t - z) = t - z) :
    Calls Try.prog 12 #[.agg #[.int .i64 0, .int .u32 s, .int .u32 z, .int .u32 t]] w fun e w' => e = .returned (.bool false) ∧ Below w.heap.size w w' := by
  go_enter Try.func12, Try.ntmps12
  go_wp2_with fail
  go_ret
  exact ⟨rfl, (Below.refl _ _).alloc (Nat.le_refl _) _⟩
set_option maxHeartbeats 2000000 in
theorem share0_5 (h0 : t ≥ 1) (h1 : t ≤ 1048576) (h2 : z ≥ 1) (h3 : z ≤ t) (h4 : s ≤ t - z)  (e1 : IntKind.u32.wrap (t - z) = t - z) :
    Calls Try.prog 12 #[.agg #[.int .i64 0, .int .u32 s, .int .u32 z, .int .u32 t]] w fun e w' => e = .returned (.bool true) ∧ Below w.heap.size w w' := by
  go_enter Try.func12, Try.ntmps12
  go_wp2_with fail
  go_ret
  exact ⟨rfl, (Below.refl _ _).alloc (Nat.le_refl _) _⟩
set_option maxHeartbeats 2000000 in
theorem share1_0  (h0 : ¬ (s ≤ 1))  :
    Calls Try.prog 12 #[.agg #[.int .i64 1, .int .u32 s, .int .u32 z, .int .u32 t]] w fun e w' => e = .returned (.bool false) ∧ Below w.heap.size w w' := by
  go_enter Try.func12, Try.ntmps12
  go_wp2_with fail
  go_ret
  exact ⟨rfl, (Below.refl _ _).alloc (Nat.le_refl _) _⟩
set_option maxHeartbeats 2000000 in
theorem share1_1 (h0 : s ≤ 1) (h1 : ¬ (t ≥ 1))  :
    Calls Try.prog 12 #[.agg #[.int .i64 1, .int .u32 s, .int .u32 z, .int .u32 t]] w fun e w' => e = .returned (.bool false) ∧ Below w.heap.size w w' := by
  go_enter Try.func12, Try.ntmps12
  go_wp2_with fail
  go_ret
  exact ⟨rfl, (Below.refl _ _).alloc (Nat.le_refl _) _⟩
set_option maxHeartbeats 2000000 in
theorem share1_2 (h0 : s ≤ 1) (h1 : t ≥ 1) (h2 : ¬ (t ≤ 16))  :
    Calls Try.prog 12 #[.agg #[.int .i64 1, .int .u32 s, .int .u32 z, .int .u32 t]] w fun e w' => e = .returned (.bool false) ∧ Below w.heap.size w w' := by
  go_enter Try.func12, Try.ntmps12
  go_wp2_with fail
  go_ret
  exact ⟨rfl, (Below.refl _ _).alloc (Nat.le_refl _) _⟩
set_option maxHeartbeats 2000000 in
theorem share1_3 (h0 : s ≤ 1) (h1 : t ≥ 1) (h2 : t ≤ 16) (h3 : ¬ (z ≥ 1))  :
    Calls Try.prog 12 #[.agg #[.int .i64 1, .int .u32 s, .int .u32 z, .int .u32 t]] w fun e w' => e = .returned (.bool false) ∧ Below w.heap.size w w' := by
  go_enter Try.func12, Try.ntmps12
  go_wp2_with fail
  go_ret
  exact ⟨rfl, (Below.refl _ _).alloc (Nat.le_refl _) _⟩
end
section
variable {s z : Int} {t : Nat} {w : World}
set_option maxHeartbeats 2000000 in
theorem share1_4 {P : Int} (h0 : s ≤ 1) (h1 : (t : Int) ≥ 1) (h2 : (t : Int) ≤ 16) (h3 : z ≥ 1) (h4 : ¬ (z < P)) (e2 : IntKind.u32.wrap (2 ^ t) = P) (e3 : min t 32 = t) :
    Calls Try.prog 12 #[.agg #[.int .i64 1, .int .u32 s, .int .u32 z, .int .u32 (t : Int)]] w fun e w' => e = .returned (.bool false) ∧ Below w.heap.size w w' := by
  go_enter Try.func12, Try.ntmps12
  go_wp2_with fail
  go_ret
  exact ⟨rfl, (Below.refl _ _).alloc (Nat.le_refl _) _⟩
set_option maxHeartbeats 2000000 in
theorem share1_5 {P : Int} (h0 : s ≤ 1) (h1 : (t : Int) ≥ 1) (h2 : (t : Int) ≤ 16) (h3 : z ≥ 1) (h4 : z < P)  (e2 : IntKind.u32.wrap (2 ^ t) = P) (e3 : min t 32 = t) :
    Calls Try.prog 12 #[.agg #[.int .i64 1, .int .u32 s, .int .u32 z, .int .u32 (t : Int)]] w fun e w' => e = .returned (.bool true) ∧ Below w.heap.size w w' := by
  go_enter Try.func12, Try.ntmps12
  go_wp2_with fail
  go_ret
  exact ⟨rfl, (Below.refl _ _).alloc (Nat.le_refl _) _⟩
end
section
variable {k s z t : Int} {w : World}
set_option maxHeartbeats 2000000 in
theorem share_else (k0 : k ≠ 0) (k1 : k ≠ 1) :
    Calls Try.prog 12 #[.agg #[.int .i64 k, .int .u32 s, .int .u32 z, .int .u32 t]] w fun e w' => e = .returned (.bool false) ∧ Below w.heap.size w w' := by
  have e0 : (k == 0) = false := by simp [k0]
  have e1 : (k == 1) = false := by simp [k1]
  clear k0 k1
  go_enter Try.func12, Try.ntmps12
  go_wp2_with fail
  go_ret
  exact ⟨rfl, (Below.refl _ _).alloc (Nat.le_refl _) _⟩
end

/-- Whether a share may be. -/
theorem share_any (q : Shr) (hl : ShrLit q) (w : World) :
    Calls Try.prog 12 #[.agg (shrArr q)] w fun e w' => ∃ b, e = .returned (.bool b) ∧ (b = true ↔ RightS q) ∧ Below w.heap.size w w' := by
  have T : ∀ {X : Prop}, X → ∀ (e : Ending) (w' : World), (e = .returned (.bool true) ∧ Below w.heap.size w w') → ∃ b, e = .returned (.bool b) ∧ (b = true ↔ X) ∧ Below w.heap.size w w' := fun h _ _ ⟨h1, h2⟩ => ⟨true, h1, ⟨fun _ => h, fun _ => rfl⟩, h2⟩
  have F : ∀ {X : Prop}, ¬ X → ∀ (e : Ending) (w' : World), (e = .returned (.bool false) ∧ Below w.heap.size w w') → ∃ b, e = .returned (.bool b) ∧ (b = true ↔ X) ∧ Below w.heap.size w w' := fun h _ _ ⟨h1, h2⟩ => ⟨false, h1, ⟨fun h' => (by cases h'), fun h' => absurd h' h⟩, h2⟩
  obtain ⟨k, s, z, t⟩ := q
  obtain ⟨_, ⟨s0, s1⟩, ⟨z0, z1⟩, ⟨t0, t1⟩⟩ := hl
  dsimp only at s0 s1 z0 z1 t0 t1
  unfold shrArr RightS
  dsimp only
  have e1 : z ≤ t → IntKind.u32.wrap (t - z) = t - z := fun h => u32_is _ (by omega) (by omega)
  by_cases k0 : k = 0
  · subst k0
    by_cases h0 : t ≥ 1
    · by_cases h1 : t ≤ 1048576
      · by_cases h2 : z ≥ 1
        · by_cases h3 : z ≤ t
          · by_cases h4 : s ≤ t - z
            · exact (share0_5 h0 h1 h2 h3 h4 (e1 h3)).mono (T (by omega))
            · exact (share0_4 h0 h1 h2 h3 h4 (e1 h3)).mono (F (by omega))
          · exact (share0_3 h0 h1 h2 h3).mono (F (by omega))
        · exact (share0_2 h0 h1 h2).mono (F (by omega))
      · exact (share0_1 h0 h1).mono (F (by omega))
    · exact (share0_0 h0).mono (F (by omega))
  · by_cases k1 : k = 1
    · subst k1
      by_cases h0 : s ≤ 1
      · by_cases h1 : t ≥ 1
        · by_cases h2 : t ≤ 16
          · by_cases h3 : z ≥ 1
            · obtain ⟨t, rfl⟩ := Int.eq_ofNat_of_zero_le t0
              have hp : 2 ^ t ≤ 2 ^ 16 := Nat.pow_le_pow_right (by omega) (by omega)
              have e2 : IntKind.u32.wrap (2 ^ t) = ((2 ^ t : Nat) : Int) := by
                rw [pow2_int]
                generalize 2 ^ t = y at *
                exact u32_is _ (by omega) (by omega)
              have e3 : min t 32 = t := by omega
              have e4 : ((2 : Int) ^ ((t : Int)).toNat) = ((2 ^ t : Nat) : Int) := by rw [show ((t : Int)).toNat = t from rfl, pow2_int]
              rw [e4]
              by_cases h4 : z < ((2 ^ t : Nat) : Int)
              · refine (share1_5 h0 h1 h2 h3 h4 e2 e3).mono (T (.inr ⟨rfl, s0, h0, h1, h2, h3, h4⟩))
              · refine (share1_4 h0 h1 h2 h3 h4 e2 e3).mono (F (fun h => ?_))
                rcases h with h | h
                · omega
                · exact h4 h.2.2.2.2.2.2
            · exact (share1_3 h0 h1 h2 h3).mono (F (by omega))
          · exact (share1_2 h0 h1 h2).mono (F (by omega))
        · exact (share1_1 h0 h1).mono (F (by omega))
      · exact (share1_0 h0).mono (F (by omega))
    · exact (share_else k0 k1).mono (F (by omega))
end Go.Proofs.Ytkjhdpfomofggaa
