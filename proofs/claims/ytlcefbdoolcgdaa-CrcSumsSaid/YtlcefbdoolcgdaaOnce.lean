/-
  What a sum's once does: at first the steps are reckoned; later nothing.
-/
import Derived.Test.YtlcefbdoolcgdaaSum
namespace Go.Proofs.Ytlcefbdoolcgdaa
open Go.RowKit

/-- the step that a sum hands to its once -/
def stepFn (g : Nat) : Value := .func (.func 18) #[.pointer (some ⟨g, 0, none⟩)] #[]

/-- After the once, whatever it was: the cells are those of a sum whose steps are reckoned. -/
def Ready (w : World) (g s n : Nat) (w' : World) : Prop := ∃ cs, Blk w' g 55 cs ∧ SumCells cs 1 s n ∧ w.grownBy w' (some g)

set_option maxRecDepth 100000 in
set_option maxHeartbeats 1600000 in
theorem slow_any {g s n : Nat} {cs : Array Value} {w : World} (hB : Blk w g 55 cs) (hC : SumCells cs 0 s n) :
    Calls Try.prog 21 #[.pointer (some ⟨g, 0, none⟩), .func (.func 18) #[.pointer (some ⟨g, 0, none⟩)] #[]] w fun e w' => e = .returned (.tuple #[]) ∧ Ready w g s n w' := by
  obtain ⟨hz, hd, h0, h1, ht, hs, hn, hl⟩ := hC
  have c0 : w.cell? ⟨g, 0, none⟩ = some (.int .u32 ((0 : Nat) : Int)) := (hB.cell 0).trans h0
  have c1 : w.cell? ⟨g, 1, none⟩ = some (.int .i32 0) := (hB.cell 1).trans h1
  have f1 : w.frozen? ⟨g, 1, none⟩ = false := hB.free 1
  have hB1 := hB.put 1 (.int .i32 1)
  have d0 : (w.setCell ⟨g, 1, none⟩ (.int .i32 1)).cell? ⟨g, 0, none⟩ = some (.int .u32 ((0 : Nat) : Int)) := (World.cell?_setCell_other _ ⟨g, 1, none⟩ ⟨g, 0, none⟩ _ (by simp)).trans c0
  have R := Lib.hid (reckon_any hB1 (by rw [Array.size_setIfInBounds]; exact hz))
  have HL := Lib.hid (load_any ⟨g, 0, none⟩ 0 _ (.inl rfl) d0)
  have K := Lib.hid (lock_free ⟨g, 1, none⟩ w c1 f1)
  have H0 := Lib.hid h0
  have HS := Lib.hid hs
  have HN := Lib.hid hn
  have HLT := Lib.hid hl
  have HZ := Lib.hid hz
  have hnot : ∀ (x : Bool) (w : World), (Op.unary .not (.bool x)).run Try.prog w = .ok (.bool (!x)) w := fun _ _ => rfl
  clear hB hB1 c0 d0 h0 h1 ht hs hn hl hd hz c1 f1
  go_enter_defers Try.func21, Try.ntmps21
  go_wp2_with (go_at_call 24; refine K.out.mono ?_; rintro e w' ⟨rfl, rfl⟩)
  refine HL.out.mono ?_
  rintro e w' ⟨rfl, rfl⟩
  go_wp2_with fail
  refine R.out.mono ?_
  rintro e w2 ⟨rfl, cs', hB2, hz2, hT2, hO2, hg2⟩
  have HB2 := Lib.hid hB2
  have HZ2 := Lib.hid hz2
  have HT2 := Lib.hid hT2
  have HO2 := Lib.hid hO2
  have HG2 := Lib.hid hg2
  clear hB2 hz2 hT2 hO2 hg2
  go_wp2_with fail
  -- the door: two deferred calls, the last laid first
  refine leaves_cons (f := 26) (args := #[.pointer (some ⟨g, 0, none⟩), .bool true]) (by simp) (by simp [go_sem]) ?_
  refine (store_deferred ⟨g, 0, none⟩ (.int .u32 ((0 : Nat) : Int)) .returning _ ?_ (HB2.out.free 0)).mono ?_
  · rw [HB2.out.cell 0, HO2.out 0 (by omega), set_get (by omega)]
    exact H0.out
  rintro e u' w'' ⟨rfl, rfl, rfl⟩
  have hB3 : Blk (w2.drew.setCell ⟨g, 0, none⟩ (.int .u32 1)) g 55 (cs'.setIfInBounds 0 (.int .u32 1)) := Blk.put (w := w2.drew) HB2.out 0 _
  refine leaves_cons (f := 25) (args := #[.pointer (some ⟨g, 1, none⟩)]) (by simp [settle]) (by simp [go_sem]) ?_
  refine (unlock_deferred ⟨g, 1, none⟩ _ _ ?_ (hB3.free 1)).mono ?_
  · rw [hB3.cell 1, set_get (by omega), HO2.out 1 (by omega)]
    exact set_same (by rw [HZ.out]; omega)
  rintro e u' w'' ⟨rfl, rfl, rfl⟩
  have hB4 := hB3.put 1 (.int .i32 0)
  have hfin : Ready w g s n ((w2.drew.setCell ⟨g, 0, none⟩ (.int .u32 1)).setCell ⟨g, 1, none⟩ (.int .i32 0)) := by
    refine ⟨_, hB4, ⟨by rw [Array.size_setIfInBounds, Array.size_setIfInBounds]; exact HZ2.out, .inr rfl, ?_, ?_, ?_, ?_, ?_, HLT.out⟩, ?_⟩
    · rw [set_get (by omega)]; exact set_same (by rw [HZ2.out]; omega)
    · exact set_same (by rw [Array.size_setIfInBounds, HZ2.out]; omega)
    · intro _ i hi
      rw [set_get (by omega), set_get (by omega)]
      exact HT2.out i hi
    · rw [set_get (by omega), set_get (by omega), HO2.out 259 (by omega), set_get (by omega)]; exact HS.out
    · rw [set_get (by omega), set_get (by omega), HO2.out 260 (by omega), set_get (by omega)]; exact HN.out
    · have h1 := only_setCell (World.grownBy.refl w (some g)) (p := ⟨g, 1, none⟩) (.inl rfl) (.int .i32 1)
      have h2 := only_trans h1 HG2.out
      exact only_setCell (only_setCell (only_drewN h2 1) (.inl rfl) _) (.inl rfl) _
  have HF := Lib.hid hfin
  clear hfin hB3 hB4
  have hres : ∀ (P : Prop), P → P := fun _ h => h
  simp only [Leaves, settle]
  exact ⟨_, results_none rfl _ _ _, rfl, HF.out⟩

set_option maxRecDepth 100000 in
set_option maxHeartbeats 1600000 in
theorem do_any {g d s n : Nat} {cs : Array Value} {w : World} (hB : Blk w g 55 cs) (hC : SumCells cs d s n) :
    Calls Try.prog 17 #[.pointer (some ⟨g, 0, none⟩), .func (.func 18) #[.pointer (some ⟨g, 0, none⟩)] #[]] w fun e w' => e = .returned (.tuple #[]) ∧ Ready w g s n w' := by
  have hd := hC.2.1
  have h0 := hC.2.2.1
  have c0 : w.cell? ⟨g, 0, none⟩ = some (.int .u32 (d : Int)) := (hB.cell 0).trans h0
  have HL := Lib.hid (load_any ⟨g, 0, none⟩ d _ hd c0)
  have hnot : ∀ (x : Bool) (w : World), (Op.unary .not (.bool x)).run Try.prog w = .ok (.bool (!x)) w := fun _ _ => rfl
  have HB := Lib.hid hB
  clear c0 h0 hB
  rcases hd with rfl | rfl
  · have K := Lib.hid (slow_any HB.out hC)
    clear hC
    go_enter Try.func17, Try.ntmps17
    go_wp2_with (go_at_call 20; refine HL.out.mono ?_; rintro e w' ⟨rfl, rfl⟩)
    refine K.out.mono ?_
    rintro e w' ⟨rfl, hr⟩
    have HR := Lib.hid hr
    clear hr
    go_wp2_with fail
    go_end0
    exact ⟨rfl, HR.out⟩
  · have HC := Lib.hid hC
    clear hC
    go_enter Try.func17, Try.ntmps17
    go_wp2_with (go_at_call 20; refine HL.out.mono ?_; rintro e w' ⟨rfl, rfl⟩)
    go_end0
    exact ⟨rfl, cs, HB.out, HC.out, World.grownBy.refl w _⟩
end Go.Proofs.Ytlcefbdoolcgdaa
