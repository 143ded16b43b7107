/-
  The small functions of the cursor: what is left, fail, pass, sizes: what each call answers and leaves.
-/
import Derived.Test.YtolkgljbphgacaaRows
import Derived.Test.YtolkgljbphgacaaMem
import Derived.Deep.QuietTactic
import Derived.BigQuiet
import Derived.IntWalk
namespace Go.Proofs.Ytolkgljbphgacaa
open Go.RowKit

/-- The cursor's cells. -/
def curCells (A : Option Addr) (n c : Nat) (at_ : Nat) (code : Int) : Array Value := #[.slice A n c, .int .i64 (at_ : Int), .int .i64 code]

/-- At block g of struct type T stands a cursor over the bytes bs, whose row lies in a block of lo. -/
def Cur (T : TypeId) (w : World) (g : Nat) (lo : Nat → Prop) (bs : List UInt8) (at_ : Nat) (code : Int) : Prop :=
  ∃ A c, Blk w g T (curCells A bs.length c at_ code) ∧ Sl w A bs.length (bv bs) ∧ bs.length ≤ c ∧ c ≤ maxLen ∧ at_ ≤ bs.length ∧ (0 < bs.length → ∀ b o, A = some ⟨b, o, none⟩ → lo b ∧ b ≠ g)

section
variable {T : TypeId} {w w' : World} {g : Nat} {lo : Nat → Prop} {bs : List UInt8} {at_ : Nat} {code : Int}
theorem Cur.lt (h : Cur T w g lo bs at_ code) : g < w.heap.size := by
  obtain ⟨_, _, hB, _⟩ := h
  exact hB.lt
theorem Cur.below (h : Cur T w g lo bs at_ code) (hb : Below w.heap.size w w') : Cur T w' g lo bs at_ code := by
  obtain ⟨A, c, hB, hS, r⟩ := h
  exact ⟨A, c, hB.below hb, hS.below hb, r⟩
theorem Cur.drewN (h : Cur T w g lo bs at_ code) (n : Nat) : Cur T (w.drewN n) g lo bs at_ code := h
/-- Another object's call: only the row has turned, and that is neither this cursor's block nor its row's. -/
theorem Cur.grown (h : Cur T w g lo bs at_ code) {row : Option Nat} (hb : w.grownBy w' row) (hrow : ∀ k, row = some k → g ≠ k ∧ ¬ lo k) : Cur T w' g lo bs at_ code := by
  obtain ⟨A, c, hB, hS, h1, h2, h3, h4⟩ := h
  refine ⟨A, c, hB.grown hb (fun e => (hrow g e.symm).1 rfl), hS.keep hb.size ?_, h1, h2, h3, h4⟩
  intro hn b o hA hlt
  refine hb.block b hlt (fun e => (hrow b e.symm).2 (h4 hn _ _ hA).1)
/-- All that stays at the old blocks. -/
theorem Cur.old (h : Cur T w g lo bs at_ code) : Cur T w g (fun b => lo b ∧ b < w.heap.size) bs at_ code := by
  obtain ⟨A, c, hB, hS, h1, h2, h3, h4⟩ := h
  refine ⟨A, c, hB, hS, h1, h2, h3, fun hn b o hA => ⟨⟨(h4 hn b o hA).1, ?_⟩, (h4 hn b o hA).2⟩⟩
  obtain ⟨b', o', e, hb, _⟩ := hS.2 hn
  rw [hA] at e
  injection e with e
  injection e with e
  omega
theorem Cur.weaken {lo' : Nat → Prop} (h : Cur T w g lo bs at_ code) (hl : ∀ b, lo b → lo' b) : Cur T w g lo' bs at_ code := by
  obtain ⟨A, c, hB, hS, h1, h2, h3, h4⟩ := h
  exact ⟨A, c, hB, hS, h1, h2, h3, fun hn b o hA => ⟨hl b (h4 hn b o hA).1, (h4 hn b o hA).2⟩⟩
end

/-- The code of a cursor that fails with x: the first one stays. -/
def over (code x : Int) : Int := if code = 0 then x else code
theorem over_zero (x : Int) : over 0 x = x := by simp [over]
theorem over_ne {code : Int} (x : Int) (h : code ≠ 0) : over code x = code := by simp [over, h]

/-- What is left to read. -/
def leftOf (bs : List UInt8) (at_ : Nat) (code : Int) : List UInt8 := if code = 0 then bs.drop at_ else []

set_option maxHeartbeats 400000 in
theorem isSize_any (n : Int) (w : World) :
    Calls Try.prog 46 #[.int .i64 n] w fun e w' => e = .returned (.bool (decide (n = 1 ∨ n = 2 ∨ n = 4 ∨ n = 8))) ∧ w = w' := by
  go_enter Try.func46, Try.ntmps46
  go_wp2
  all_goals
    go_ret
    exact ⟨ret_bool (by first | (simp [*]; done) | (rw [Bool.eq_iff_iff]; simp [*])), rfl⟩

theorem rest_raw (g : Nat) (A : Option Addr) (n c k : Nat) (code : Int) (w : World) (hB : Blk w g 65 (curCells A n c k code)) (hk : k ≤ n) (hn : n ≤ c) (hc : c ≤ maxLen) :
    Calls Try.prog 45 #[.pointer (some ⟨g, 0, none⟩)] w fun e w' => e = .returned (if code = 0 then .slice (if c = k then A else A.map (·.add k)) (n - k) (c - k) else .slice none 0 0) ∧ ∃ d, w.drewN d = w' := by
  unfold maxLen at hc
  have h0 : w.cell? ⟨g, 0, none⟩ = some (.slice A n c) := hB.cell 0
  have h1 : w.cell? ⟨g, 1, none⟩ = some (.int .i64 k) := hB.cell 1
  have h2 : w.cell? ⟨g, 2, none⟩ = some (.int .i64 code) := hB.cell 2
  clear hB
  by_cases hz : code = 0
  · subst hz
    go_enter Try.func45, Try.ntmps45
    go_wp2
    go_quiet (fail)
    go_wp2
    all_goals
      go_ret
      exact ⟨by simp [*], _, rfl⟩
  · go_enter Try.func45, Try.ntmps45
    go_wp2
    go_ret
    exact ⟨by simp [*], 0, rfl⟩

/-- rest: what is left, as a slice. -/
theorem rest_any {g : Nat} {lo : Nat → Prop} {bs : List UInt8} {k : Nat} {code : Int} {w : World} (h : Cur 65 w g lo bs k code) :
    Calls Try.prog 45 #[.pointer (some ⟨g, 0, none⟩)] w fun e w' =>
      ∃ B c, e = .returned (.slice B (leftOf bs k code).length c) ∧ (leftOf bs k code).length ≤ c ∧ c ≤ maxLen ∧ Sl w B (leftOf bs k code).length (bv (leftOf bs k code)) ∧ (0 < (leftOf bs k code).length → ∀ b o, B = some ⟨b, o, none⟩ → lo b ∧ b ≠ g) ∧ ∃ d, w.drewN d = w' := by
  obtain ⟨A, c, hB, hS, h1, h2, h3, h4⟩ := h
  refine (rest_raw g A bs.length c k code w hB h3 h1 h2).mono ?_
  rintro e w' ⟨rfl, hd⟩
  by_cases hz : code = 0
  · have el : (leftOf bs k code) = bs.drop k := by simp [leftOf, hz]
    have := hS.cut h3 h1
    refine ⟨_, _, by rw [if_pos hz, el, List.length_drop], by rw [el, List.length_drop]; omega, by omega, ?_, ?_, hd⟩
    · rw [el, List.length_drop, bv_drop]
      exact this
    · rw [el, List.length_drop]
      intro hn b o e
      rw [if_neg (by omega)] at e
      obtain ⟨b', o', rfl, _⟩ := hS.2 (by omega)
      have h5 := h4 (by omega) b' o' rfl
      have e' : b' = b := by
        unfold Addr.add at e
        by_cases hk : k = 0 <;> simp [hk] at e <;> omega
      rw [← e']
      exact h5
  · have el : (leftOf bs k code) = [] := by simp [leftOf, hz]
    refine ⟨_, _, by rw [if_neg hz, el]; rfl, by simp [el], by unfold maxLen; omega, ?_, by simp [el], hd⟩
    rw [el]
    exact Sl.nil

set_option maxHeartbeats 400000 in
theorem fail_any {g : Nat} {lo : Nat → Prop} {bs : List UInt8} {k : Nat} {code x : Int} {w : World} (h : Cur 65 w g lo bs k code) :
    Calls Try.prog 47 #[.pointer (some ⟨g, 0, none⟩), .int .i64 x] w fun e w' =>
      e = .returned (.tuple #[]) ∧ Cur 65 w' g lo bs k (over code x) ∧ w.grownBy w' (some g) := by
  obtain ⟨A, c, hB, hS, r⟩ := h
  have h2 : w.cell? ⟨g, 2, none⟩ = some (.int .i64 code) := hB.cell 2
  have hf : w.frozen? ⟨g, 2, none⟩ = false := hB.free 2
  have HB := Lib.hid hB
  have HS := Lib.hid hS
  have HR := Lib.hid r
  clear hB hS r
  by_cases hz : code = 0
  · subst hz
    go_enter Try.func47, Try.ntmps47
    go_wp2
    go_end0
    rw [over_zero]
    refine ⟨rfl, ⟨A, c, HB.out.put 2 _, ?_, HR.out⟩, only_setCell (World.grownBy.refl w _) (.inl rfl) _⟩
    refine HS.out.grown (only_setCell (World.grownBy.refl w _) (.inl rfl) _) (fun hn b o e => (HR.out.2.2.2 hn b o e).2)
  · go_enter Try.func47, Try.ntmps47
    go_wp2
    go_end0
    rw [over_ne _ hz]
    exact ⟨rfl, ⟨A, c, HB.out, HS.out, HR.out⟩, World.grownBy.refl w _⟩

set_option maxHeartbeats 400000 in
theorem pass_any {g : Nat} {lo : Nat → Prop} {bs : List UInt8} {k n : Nat} {x code : Int} {w : World} (h : Cur 65 w g lo bs k code) (hx : x = (n : Int)) (hn : k + n ≤ bs.length) :
    Calls Try.prog 48 #[.pointer (some ⟨g, 0, none⟩), .int .i64 x] w fun e w' =>
      e = .returned (.tuple #[]) ∧ Cur 65 w' g lo bs (k + n) code ∧ w.grownBy w' (some g) := by
  subst hx
  obtain ⟨A, c, hB, hS, r1, r2, r3, r4⟩ := h
  have h2 : w.cell? ⟨g, 1, none⟩ = some (.int .i64 k) := hB.cell 1
  have hf : w.frozen? ⟨g, 1, none⟩ = false := hB.free 1
  have HB := Lib.hid hB
  have HS := Lib.hid hS
  have HR := Lib.hid r4
  have hm := r2
  unfold maxLen at hm
  clear hB hS r4
  go_enter Try.func48, Try.ntmps48
  go_wp2
  go_end0
  refine ⟨rfl, ⟨A, c, ?_, ?_, r1, r2, by omega, HR.out⟩, only_setCell (World.grownBy.refl w _) (.inl rfl) _⟩
  · have := HB.out.put 1 (.int .i64 ((k : Int) + (n : Int)))
    rw [← Int.natCast_add] at this
    simpa [curCells] using this
  · refine HS.out.grown (only_setCell (World.grownBy.refl w _) (.inl rfl) _) (fun hn b o e => (HR.out hn b o e).2)

set_option maxHeartbeats 400000 in
theorem left_any {g : Nat} {lo : Nat → Prop} {bs : List UInt8} {k : Nat} {code : Int} {w : World} (h : Cur 65 w g lo bs k code) :
    Calls Try.prog 25 #[.pointer (some ⟨g, 0, none⟩)] w fun e w' => e = .returned (.int .i64 ((leftOf bs k code).length : Int)) ∧ ∃ d, w.drewN d = w' := by
  go_enter Try.func25, Try.ntmps25
  go_wp2_with (go_at_call 45; refine (rest_any h).mono ?_; rintro e w' ⟨B, c, rfl, _, _, _, _, d, rfl⟩)
  go_ret
  exact ⟨rfl, _, rfl⟩

set_option maxHeartbeats 400000 in
theorem at_any {g : Nat} {lo : Nat → Prop} {bs : List UInt8} {k : Nat} {code : Int} {w : World} (h : Cur 65 w g lo bs k code) :
    Calls Try.prog 27 #[.pointer (some ⟨g, 0, none⟩)] w fun e w' => e = .returned (.int .i64 (k : Int)) ∧ w = w' := by
  obtain ⟨A, c, hB, _⟩ := h
  have h1 : w.cell? ⟨g, 1, none⟩ = some (.int .i64 k) := hB.cell 1
  clear hB
  go_enter Try.func27, Try.ntmps27
  go_wp2
  go_ret
  exact ⟨rfl, rfl⟩

set_option maxHeartbeats 400000 in
theorem code_any {g : Nat} {lo : Nat → Prop} {bs : List UInt8} {k : Nat} {code : Int} {w : World} (h : Cur 65 w g lo bs k code) :
    Calls Try.prog 28 #[.pointer (some ⟨g, 0, none⟩)] w fun e w' => e = .returned (.int .i64 code) ∧ w = w' := by
  obtain ⟨A, c, hB, _⟩ := h
  have h1 : w.cell? ⟨g, 2, none⟩ = some (.int .i64 code) := hB.cell 2
  clear hB
  go_enter Try.func28, Try.ntmps28
  go_wp2
  go_ret
  exact ⟨rfl, rfl⟩
end Go.Proofs.Ytolkgljbphgacaa
