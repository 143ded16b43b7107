/-
  What a meter tells; a new meter; what the laws ask of one.
-/
import Derived.Test.YtdeelmfdkhgcbaaMtCalls
import Derived.StillTailTactics
namespace Go.Proofs.Ytdeelmfdkhgcbaa
open Go.RowKit

section
variable {g : Nat} {q : Quo} {s : Tel} {w : World}

theorem still_same {P : Program} {f : FuncId} {args : Array Value} {w : World} {v : Value} (h : Calls P f args w fun e w' => e = .returned v ∧ w = w') :
    Calls P f args w fun e w' => e = .returned v ∧ w' = w := h.mono fun _ _ ⟨he, hm⟩ => ⟨he, hm.symm⟩

theorem mcode_any (h : MeterAt w 53 g q s) :
    Calls Try.prog 14 #[.pointer (some ⟨g, 0, none⟩)] w fun e w' => e = .returned (.int .i64 s.code) ∧ w = w' := code_any h rfl

set_option maxHeartbeats 1000000 in
theorem used_any (h : MeterAt w 53 g q s) :
    Calls Try.prog 13 #[.pointer (some ⟨g, 0, none⟩)] w fun e w' => e = .returned (.agg (uArr s)) ∧ Below w.heap.size w w' := by
  have hl := h.lt
  have L : ∀ (i : Nat) (x : Int), (mCells q s)[i]? = some (.int .i64 x) → ∀ W, Below w.heap.size w W → Calls Try.prog 25 #[.pointer (some ⟨g, i, none⟩)] W fun e w' => e = .returned (.int .i64 x) ∧ W = w' :=
    fun i x hx W hb => load_any _ _ _ (((h.below hb : Blk W g 53 (mCells q s)).cell i).trans hx)
  have K5 := Lib.hid (L 5 s.mem rfl)
  have K6 := Lib.hid (L 6 s.peak rfl)
  have K7 := Lib.hid (L 7 s.out rfl)
  have K8 := Lib.hid (L 8 s.files rfl)
  have K9 := Lib.hid (L 9 s.depth rfl)
  have K10 := Lib.hid (L 10 s.steps rfl)
  clear L h
  go_enter Try.func13, Try.ntmps13
  go_wp2_with fail
  go_still_tail 24, (by kernel_rfl)
  have hb : Below w.heap.size w ((w.alloc (.cells #[.int .i64 0, .int .i64 0, .int .i64 0, .int .i64 0, .int .i64 0, .int .i64 0] 35)).drewN 1) := below_drewN ((Below.refl _ _).alloc (Nat.le_refl _) _) 1
  still_call (still_same (K5.out _ hb))
  repeat still_step
  still_call (still_same (K6.out _ hb))
  repeat still_step
  still_call (still_same (K7.out _ hb))
  repeat still_step
  still_call (still_same (K8.out _ hb))
  repeat still_step
  still_call (still_same (K9.out _ hb))
  repeat still_step
  still_call (still_same (K10.out _ hb))
  repeat still_step
  refine wpStill_nil ?_
  change wpList _ _ _ _ _ (w.alloc (.cells #[.int .i64 0, .int .i64 0, .int .i64 0, .int .i64 0, .int .i64 0, .int .i64 0] 35)).drew
  go_wp2_with fail
  refine bodyPost_ret (v := .agg (uArr s)) (by simp [results, Try.results13, go_sem, uArr]) rfl ⟨rfl, ?_⟩
  exact below_drewN ((Below.refl _ _).alloc (Nat.le_refl _) _) 1
end

theorem meter_fresh {w : World} {t : TypeId} {g : Nat} {q : Quo} {s : Tel} (h : g = w.heap.size) : MeterAt (w.alloc (.cells (mCells q s) t)) t g q s := by
  subst h
  exact Blk.fresh w t (mCells q s)

set_option maxHeartbeats 1000000 in
theorem mnew_any (q : Quo) (w : World) :
    Calls Try.prog 9 #[.agg (qArr q)] w fun e w' => ∃ g, e = .returned (.pointer (some ⟨g, 0, none⟩)) ∧ MeterAt w' 53 g q.up Tel.zero ∧ w.heap.size ≤ g ∧ Below w.heap.size w w' := by
  unfold qArr
  go_enter Try.func9, Try.ntmps9
  go_wp2_with fail
  go_ret
  refine ⟨_, rfl, meter_fresh (q := q.up) (s := Tel.zero) (by simp), by simp, ((Below.refl _ _).alloc (Nat.le_refl _) _).alloc (by simp) _⟩

set_option maxHeartbeats 1000000 in
theorem rnew_any (q : Quo) (w : World) :
    Calls Try.prog 10 #[.agg (qArr q)] w fun e w' => ∃ g, e = .returned (.pointer (some ⟨g, 0, none⟩)) ∧ MeterAt w' 39 g q.up Tel.zero ∧ w.heap.size ≤ g ∧ Below w.heap.size w w' := by
  have c : ∀ x : Int, max 0 x = max x 0 := fun x => by omega
  unfold qArr
  go_enter Try.func10, Try.ntmps10
  go_wp2_with fail
  go_ret
  simp only [c]
  refine ⟨_, rfl, meter_fresh (q := q.up) (s := Tel.zero) (by simp), by simp, ((Below.refl _ _).alloc (Nat.le_refl _) _).alloc (by simp) _⟩
end Go.Proofs.Ytdeelmfdkhgcbaa
