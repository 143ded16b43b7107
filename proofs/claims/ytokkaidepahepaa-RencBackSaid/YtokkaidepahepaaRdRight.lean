/-
  Which question may be asked.
-/
import Derived.Test.YtokkaidepahepaaRdNew
import Derived.Test.YtokkaidepahepaaAsks
namespace Go.Proofs.Ytokkaidepahepaa
open Go.RowKit

def RightQ (q : Qn) : Prop := (q.k = 0 ∧ 0 ≤ q.a ∧ q.a < 600) ∨ ((q.k = 1 ∨ q.k = 2) ∧ 0 ≤ q.a ∧ q.a < 340 ∧ 1 ≤ q.n ∧ q.n ≤ 8) ∨ (q.k = 3 ∧ 0 ≤ q.n ∧ q.n ≤ 32)
def qnArr (q : Qn) : Array Value := #[.int .i64 q.k, .int .i64 q.a, .int .i64 q.n, .int .u32 q.v]

theorem rightD_of {q : Qn} (h : RightQ q) : RightD q.k.toNat q.a.toNat q.n.toNat := by
  unfold RightD
  rcases h with h | h | h <;> omega

section
variable {k a n v : Int} {w : World}

set_option maxHeartbeats 1000000 in
theorem right0_yes (h0 : 0 ≤ a) (h1 : a < 600) :
    Calls Try.prog 12 #[.agg #[.int .i64 0, .int .i64 a, .int .i64 n, .int .u32 v]] w fun e w' => e = .returned (.bool true) ∧ Below w.heap.size w w' := by
  have h0' : a ≥ 0 := h0
  go_enter Try.func12, Try.ntmps12
  go_wp2_with fail
  go_ret
  exact ⟨rfl, (Below.refl _ _).alloc (Nat.le_refl _) _⟩
set_option maxHeartbeats 1000000 in
theorem right0_low (h0 : a < 0) :
    Calls Try.prog 12 #[.agg #[.int .i64 0, .int .i64 a, .int .i64 n, .int .u32 v]] w fun e w' => e = .returned (.bool false) ∧ Below w.heap.size w w' := by
  have h0' : ¬ a ≥ 0 := by omega
  go_enter Try.func12, Try.ntmps12
  go_wp2_with fail
  go_ret
  exact ⟨rfl, (Below.refl _ _).alloc (Nat.le_refl _) _⟩
set_option maxHeartbeats 1000000 in
theorem right0_high (h0 : 0 ≤ a) (h1 : ¬ a < 600) :
    Calls Try.prog 12 #[.agg #[.int .i64 0, .int .i64 a, .int .i64 n, .int .u32 v]] w fun e w' => e = .returned (.bool false) ∧ Below w.heap.size w w' := by
  have h0' : a ≥ 0 := h0
  go_enter Try.func12, Try.ntmps12
  go_wp2_with fail
  go_ret
  exact ⟨rfl, (Below.refl _ _).alloc (Nat.le_refl _) _⟩
set_option maxHeartbeats 1000000 in
theorem right3_yes (h0 : 0 ≤ n) (h1 : n ≤ 32) :
    Calls Try.prog 12 #[.agg #[.int .i64 3, .int .i64 a, .int .i64 n, .int .u32 v]] w fun e w' => e = .returned (.bool true) ∧ Below w.heap.size w w' := by
  have h0' : n ≥ 0 := h0
  go_enter Try.func12, Try.ntmps12
  go_wp2_with fail
  go_ret
  exact ⟨rfl, (Below.refl _ _).alloc (Nat.le_refl _) _⟩
set_option maxHeartbeats 1000000 in
theorem right3_low (h0 : n < 0) :
    Calls Try.prog 12 #[.agg #[.int .i64 3, .int .i64 a, .int .i64 n, .int .u32 v]] w fun e w' => e = .returned (.bool false) ∧ Below w.heap.size w w' := by
  have h0' : ¬ n ≥ 0 := by omega
  go_enter Try.func12, Try.ntmps12
  go_wp2_with fail
  go_ret
  exact ⟨rfl, (Below.refl _ _).alloc (Nat.le_refl _) _⟩
set_option maxHeartbeats 1000000 in
theorem right3_high (h0 : 0 ≤ n) (h1 : ¬ n ≤ 32) :
    Calls Try.prog 12 #[.agg #[.int .i64 3, .int .i64 a, .int .i64 n, .int .u32 v]] w fun e w' => e = .returned (.bool false) ∧ Below w.heap.size w w' := by
  have h0' : n ≥ 0 := h0
  go_enter Try.func12, Try.ntmps12
  go_wp2_with fail
  go_ret
  exact ⟨rfl, (Below.refl _ _).alloc (Nat.le_refl _) _⟩
set_option maxHeartbeats 1000000 in
theorem right_else (k0 : k ≠ 0) (k1 : k ≠ 1) (k2 : k ≠ 2) (k3 : k ≠ 3) :
    Calls Try.prog 12 #[.agg #[.int .i64 k, .int .i64 a, .int .i64 n, .int .u32 v]] w fun e w' => e = .returned (.bool false) ∧ Below w.heap.size w w' := by
  have e0 : (k == 0) = false := by simp [k0]
  have e1 : (k == 1) = false := by simp [k1]
  have e2 : (k == 2) = false := by simp [k2]
  have e3 : (k == 3) = false := by simp [k3]
  clear k0 k1 k2 k3
  go_enter Try.func12, Try.ntmps12
  go_wp2_with fail
  go_ret
  exact ⟨rfl, (Below.refl _ _).alloc (Nat.le_refl _) _⟩
set_option maxHeartbeats 2000000 in
theorem rightT_yes (hk : k = 1 ∨ k = 2) (h0 : 0 ≤ a) (h1 : a < 340) (h2 : 1 ≤ n) (h3 : n ≤ 8) :
    Calls Try.prog 12 #[.agg #[.int .i64 k, .int .i64 a, .int .i64 n, .int .u32 v]] w fun e w' => e = .returned (.bool true) ∧ Below w.heap.size w w' := by
  have h0' : a ≥ 0 := h0
  have h2' : n ≥ 1 := h2
  rcases hk with rfl | rfl
  all_goals
    go_enter Try.func12, Try.ntmps12
    go_wp2_with fail
    go_ret
    exact ⟨rfl, (Below.refl _ _).alloc (Nat.le_refl _) _⟩
set_option maxHeartbeats 2000000 in
theorem rightT_1 (hk : k = 1 ∨ k = 2) (h0 : a < 0) :
    Calls Try.prog 12 #[.agg #[.int .i64 k, .int .i64 a, .int .i64 n, .int .u32 v]] w fun e w' => e = .returned (.bool false) ∧ Below w.heap.size w w' := by
  have h0' : ¬ a ≥ 0 := by omega
  rcases hk with rfl | rfl
  all_goals
    go_enter Try.func12, Try.ntmps12
    go_wp2_with fail
    go_ret
    exact ⟨rfl, (Below.refl _ _).alloc (Nat.le_refl _) _⟩
set_option maxHeartbeats 2000000 in
theorem rightT_2 (hk : k = 1 ∨ k = 2) (h0 : 0 ≤ a) (h1 : ¬ a < 340) :
    Calls Try.prog 12 #[.agg #[.int .i64 k, .int .i64 a, .int .i64 n, .int .u32 v]] w fun e w' => e = .returned (.bool false) ∧ Below w.heap.size w w' := by
  have h0' : a ≥ 0 := h0
  rcases hk with rfl | rfl
  all_goals
    go_enter Try.func12, Try.ntmps12
    go_wp2_with fail
    go_ret
    exact ⟨rfl, (Below.refl _ _).alloc (Nat.le_refl _) _⟩
set_option maxHeartbeats 2000000 in
theorem rightT_3 (hk : k = 1 ∨ k = 2) (h0 : 0 ≤ a) (h1 : a < 340) (h2 : n < 1) :
    Calls Try.prog 12 #[.agg #[.int .i64 k, .int .i64 a, .int .i64 n, .int .u32 v]] w fun e w' => e = .returned (.bool false) ∧ Below w.heap.size w w' := by
  have h0' : a ≥ 0 := h0
  have h2' : ¬ n ≥ 1 := by omega
  rcases hk with rfl | rfl
  all_goals
    go_enter Try.func12, Try.ntmps12
    go_wp2_with fail
    go_ret
    exact ⟨rfl, (Below.refl _ _).alloc (Nat.le_refl _) _⟩
set_option maxHeartbeats 2000000 in
theorem rightT_4 (hk : k = 1 ∨ k = 2) (h0 : 0 ≤ a) (h1 : a < 340) (h2 : 1 ≤ n) (h3 : ¬ n ≤ 8) :
    Calls Try.prog 12 #[.agg #[.int .i64 k, .int .i64 a, .int .i64 n, .int .u32 v]] w fun e w' => e = .returned (.bool false) ∧ Below w.heap.size w w' := by
  have h0' : a ≥ 0 := h0
  have h2' : n ≥ 1 := h2
  rcases hk with rfl | rfl
  all_goals
    go_enter Try.func12, Try.ntmps12
    go_wp2_with fail
    go_ret
    exact ⟨rfl, (Below.refl _ _).alloc (Nat.le_refl _) _⟩
end

/-- Whether a question may be asked. -/
theorem right_any (q : Qn) (w : World) :
    Calls Try.prog 12 #[.agg (qnArr q)] w fun e w' => ∃ b, e = .returned (.bool b) ∧ (b = true ↔ RightQ q) ∧ Below w.heap.size w w' := by
  have T : ∀ {X : Prop}, X → ∀ (e : Ending) (w' : World), (e = .returned (.bool true) ∧ Below w.heap.size w w') → ∃ b, e = .returned (.bool b) ∧ (b = true ↔ X) ∧ Below w.heap.size w w' := fun h _ _ ⟨h1, h2⟩ => ⟨true, h1, ⟨fun _ => h, fun _ => rfl⟩, h2⟩
  have F : ∀ {X : Prop}, ¬ X → ∀ (e : Ending) (w' : World), (e = .returned (.bool false) ∧ Below w.heap.size w w') → ∃ b, e = .returned (.bool b) ∧ (b = true ↔ X) ∧ Below w.heap.size w w' := fun h _ _ ⟨h1, h2⟩ => ⟨false, h1, ⟨fun h' => (by cases h'), fun h' => absurd h' h⟩, h2⟩
  obtain ⟨k, a, n, v⟩ := q
  unfold qnArr RightQ
  simp only []
  by_cases k0 : k = 0
  · subst k0
    by_cases h0 : 0 ≤ a
    · by_cases h1 : a < 600
      · exact (right0_yes h0 h1).mono (T (by omega))
      · exact (right0_high h0 h1).mono (F (by omega))
    · exact (right0_low (by omega)).mono (F (by omega))
  by_cases k3 : k = 3
  · subst k3
    by_cases h0 : 0 ≤ n
    · by_cases h1 : n ≤ 32
      · exact (right3_yes h0 h1).mono (T (by omega))
      · exact (right3_high h0 h1).mono (F (by omega))
    · exact (right3_low (by omega)).mono (F (by omega))
  by_cases k12 : k = 1 ∨ k = 2
  · by_cases h0 : 0 ≤ a
    · by_cases h1 : a < 340
      · by_cases h2 : 1 ≤ n
        · by_cases h3 : n ≤ 8
          · exact (rightT_yes k12 h0 h1 h2 h3).mono (T (by omega))
          · exact (rightT_4 k12 h0 h1 h2 h3).mono (F (by omega))
        · exact (rightT_3 k12 h0 h1 (by omega)).mono (F (by omega))
      · exact (rightT_2 k12 h0 h1).mono (F (by omega))
    · exact (rightT_1 k12 (by omega)).mono (F (by omega))
  exact (right_else k0 (by omega) (by omega) k3).mono (F (by omega))
end Go.Proofs.Ytokkaidepahepaa
