/-
  Something more of a thing: used, or the meter is spent by it, or it was.
-/
import Derived.Test.YtnokbibkjhhcoaaMtUse
namespace Go.Proofs.Ytnokbibkjhhcoaa
open Go.RowKit

section
variable {g i : Nat} {cs : Array Value} {was most n x code : Int} {w : World}

set_option maxHeartbeats 1000000 in
theorem use_ok (hB : Blk w g 60 cs) (hc : cs[11]? = some (.int .i64 0)) (hw : cs[i]? = some (.int .i64 was)) (h0 : 0 ≤ was) (h1 : was ≤ most) (h2 : most ≤ 9223372036854775807) (hn : max n 0 ≤ most - was) :
    Calls Try.prog 29 #[.pointer (some ⟨g, 0, none⟩), .pointer (some ⟨g, i, none⟩), .int .i64 n, .int .i64 most, .int .i64 x] w fun e w' =>
      e = .returned (.tuple #[.int .i64 (was + max n 0), .bool true]) ∧ w' = w.setCell ⟨g, i, none⟩ (.int .i64 (was + max n 0)) := by
  have K0 := Lib.hid (code_any hB hc)
  have hcell : w.cell? ⟨g, i, none⟩ = some (.int .i64 was) := (hB.cell i).trans hw
  have K := Lib.hid (load_any _ _ _ hcell)
  have C := Lib.hid (fun y => cas_hit _ _ y _ hcell (hB.free i))
  have e1 : IntKind.i64.wrap (most - was) = most - was := IntWalk.i64_in _ (by omega)
  have e2 : IntKind.i64.wrap (was + max n 0) = was + max n 0 := IntWalk.i64_in _ (by omega)
  have hn' : ¬ (max n 0 > most - was) := by omega
  clear hcell hB hc hw
  go_enter Try.func29, Try.ntmps29
  go_wp2
  go_loopw [13] (fun _ wr => wr = w) (fun _ _ => 0)
  case atStart => rfl
  case round =>
    obtain rfl := hrel
    go_wp2_with fail
    refine K0.out.mono ?_
    rintro e w' ⟨rfl, rfl⟩
    go_wp2_with fail
    refine K.out.mono ?_
    rintro e w' ⟨rfl, rfl⟩
    go_wp2_with fail
    refine (C.out _).mono ?_
    rintro e w' ⟨rfl, rfl⟩
    go_wp2_with fail
    go_ret2
    exact ⟨rfl, rfl⟩

set_option maxHeartbeats 1000000 in
theorem use_over (hB : Blk w g 60 cs) (hc : cs[11]? = some (.int .i64 0)) (hw : cs[i]? = some (.int .i64 was)) (h0 : 0 ≤ was) (h1 : was ≤ most) (h2 : most ≤ 9223372036854775807) (hn : most - was < max n 0) :
    Calls Try.prog 29 #[.pointer (some ⟨g, 0, none⟩), .pointer (some ⟨g, i, none⟩), .int .i64 n, .int .i64 most, .int .i64 x] w fun e w' =>
      e = .returned (.tuple #[.int .i64 0, .bool false]) ∧ w' = w.setCell ⟨g, 11, none⟩ (.int .i64 x) := by
  have K0 := Lib.hid (code_any hB hc)
  have hcell : w.cell? ⟨g, i, none⟩ = some (.int .i64 was) := (hB.cell i).trans hw
  have K := Lib.hid (load_any _ _ _ hcell)
  have C := Lib.hid (spend_zero (x := x) hB hc)
  have e1 : IntKind.i64.wrap (most - was) = most - was := IntWalk.i64_in _ (by omega)
  have hn' : max n 0 > most - was := by omega
  clear hcell hB hc hw
  go_enter Try.func29, Try.ntmps29
  go_wp2
  go_loopw [13] (fun _ wr => wr = w) (fun _ _ => 0)
  case atStart => rfl
  case round =>
    obtain rfl := hrel
    go_wp2_with fail
    refine K0.out.mono ?_
    rintro e w' ⟨rfl, rfl⟩
    go_wp2_with fail
    refine K.out.mono ?_
    rintro e w' ⟨rfl, rfl⟩
    go_wp2_with fail
    refine C.out.mono ?_
    rintro e w' ⟨rfl, rfl⟩
    go_wp2_with fail
    go_ret2
    exact ⟨rfl, rfl⟩

set_option maxHeartbeats 1000000 in
theorem use_spent (hB : Blk w g 60 cs) (hc : cs[11]? = some (.int .i64 code)) (hz : code ≠ 0) :
    Calls Try.prog 29 #[.pointer (some ⟨g, 0, none⟩), .pointer (some ⟨g, i, none⟩), .int .i64 n, .int .i64 most, .int .i64 x] w fun e w' =>
      e = .returned (.tuple #[.int .i64 0, .bool false]) ∧ w' = w := by
  have K0 := Lib.hid (code_any hB hc)
  clear hB hc
  go_enter Try.func29, Try.ntmps29
  go_wp2
  go_loopw [13] (fun _ wr => wr = w) (fun _ _ => 0)
  case atStart => rfl
  case round =>
    obtain rfl := hrel
    go_wp2_with fail
    refine K0.out.mono ?_
    rintro e w' ⟨rfl, rfl⟩
    go_wp2_with fail
    go_ret2
    exact ⟨rfl, rfl⟩
end

/-- Block g is a meter of quota q, of which s is used. -/
def MeterAt (w : World) (t : TypeId) (g : Nat) (q : Quo) (s : Tel) : Prop := Blk w g t (mCells q s)

/-- Cell i and the code are as if n more were asked for; the answer. -/
theorem use_any {g i : Nat} {cs : Array Value} {was most n x code : Int} {w : World} (hB : Blk w g 60 cs) (hc : cs[11]? = some (.int .i64 code)) (hw : cs[i]? = some (.int .i64 was)) (hi : i ≠ 11) (h0 : 0 ≤ was) (h1 : was ≤ most) (h2 : most ≤ 9223372036854775807) :
    Calls Try.prog 29 #[.pointer (some ⟨g, 0, none⟩), .pointer (some ⟨g, i, none⟩), .int .i64 n, .int .i64 most, .int .i64 x] w fun e w' =>
      ∃ z, e = .returned (.tuple #[.int .i64 z, .bool (decide (fits code was most n))]) ∧ (fits code was most n → z = was + max n 0) ∧
        Blk w' g 60 ((cs.setIfInBounds i (.int .i64 (wasOf code was most n))).setIfInBounds 11 (.int .i64 (codeOf code was most n x))) ∧ w.grownBy w' (some g) := by
  have keep : ∀ (c : Array Value) (j : Nat) (u : Value), c[j]? = some u → c.setIfInBounds j u = c := by
    intro c j u h
    refine Array.ext_getElem? fun k => ?_
    rw [Array.getElem?_setIfInBounds]
    split
    · rename_i hjk
      subst hjk
      split
      · exact h.symm
      · rename_i hlt
        rw [Array.getElem?_eq_none (by omega)] at h
        cases h
    · rfl
  by_cases hz : code = 0
  · subst hz
    by_cases hn : max n 0 ≤ most - was
    · have hf : fits 0 was most n := ⟨rfl, hn⟩
      refine (use_ok hB hc hw h0 h1 h2 hn).mono ?_
      rintro e w' ⟨rfl, rfl⟩
      refine ⟨was + max n 0, by simp [hf], fun _ => rfl, ?_, only_setCell (World.grownBy.refl w _) (.inl rfl) _⟩
      have e1 : wasOf 0 was most n = was + max n 0 := by unfold wasOf; rw [if_pos ⟨rfl, hn⟩]
      have e2 : codeOf 0 was most n x = 0 := by unfold codeOf; rw [if_neg (by omega)]
      rw [e1, e2, keep _ 11 _ (by rw [Array.getElem?_setIfInBounds, if_neg hi]; exact hc)]
      exact hB.put i _
    · have hf : ¬ fits 0 was most n := fun h => hn h.2
      refine (use_over hB hc hw h0 h1 h2 (x := x) (by omega)).mono ?_
      rintro e w' ⟨rfl, rfl⟩
      refine ⟨0, by simp [hf], fun h => absurd h hf, ?_, only_setCell (World.grownBy.refl w _) (.inl rfl) _⟩
      have e1 : wasOf 0 was most n = was := by unfold wasOf; rw [if_neg (fun h => hn h.2)]
      have e2 : codeOf 0 was most n x = x := by unfold codeOf; rw [if_pos ⟨rfl, by omega⟩]
      rw [e1, e2, keep cs i _ hw]
      exact hB.put 11 _
  · have hf : ¬ fits code was most n := fun h => hz h.1
    refine (use_spent hB hc hz).mono ?_
    rintro e w' ⟨rfl, rfl⟩
    refine ⟨0, by simp [hf], fun h => absurd h hf, ?_, World.grownBy.refl w' _⟩
    have e1 : wasOf code was most n = was := by unfold wasOf; rw [if_neg (fun h => hz h.1)]
    have e2 : codeOf code was most n x = code := by unfold codeOf; rw [if_neg (fun h => hz h.1)]
    rw [e1, e2, keep cs i _ hw, keep cs 11 _ hc]
    exact hB
end Go.Proofs.Ytnokbibkjhhcoaa
