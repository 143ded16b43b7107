/-
  RdEven, Prow, RdTell, RdNums, RdRev, Be, RdBegun, RdNew, PkRen: put together.
-/
import Derived.Test.YtpdpbbmkicemdaaGreatMc01
import Derived.Test.YtpdpbbmkicemdaaGreatRows
import Derived.LoopTactic
import Derived.Laws.MakeOwn
import Derived.Deep.RegionHeld3
set_option linter.unusedVariables false
set_option linter.unusedSimpArgs false
/-
  The decoder is evened out, and tells a bit straight.
-/
namespace Go.Proofs.YtpdpbbmkicemdaaGreat
open Go.RowKit

theorem Pd.only {S : Nat → Prop} {w w' : World} {g f lo : Nat} {bs : List UInt8} {d : Dc} (h : Pd w g f lo bs d) (hb : Only S w w') (hS : ∀ i, S i → i < lo ∨ g < i) : Pd w' g f lo bs d := by
  obtain ⟨at_, r, c, bad, hB, hF, hfg, ht⟩ := h
  have := hF.lo
  exact ⟨at_, r, c, bad, hB.only hb (fun h => by have := hS _ h; omega), hF.only hb (fun i hi => by have := hS i hi; omega), hfg, ht⟩
theorem Pd.drewN {w : World} {g f lo : Nat} {bs : List UInt8} {d : Dc} (h : Pd w g f lo bs d) (n : Nat) : Pd (w.drewN n) g f lo bs d := h
theorem Pd.lt {w : World} {g f lo : Nat} {bs : List UInt8} {d : Dc} (h : Pd w g f lo bs d) : g < w.heap.size := by
  obtain ⟨_, _, _, _, hB, _⟩ := h
  exact hB.lt
theorem Pd.lo {w : World} {g f lo : Nat} {bs : List UInt8} {d : Dc} (h : Pd w g f lo bs d) : lo ≤ f ∧ f < g := by
  obtain ⟨_, _, _, _, _, hF, h, _⟩ := h
  exact ⟨hF.lo, h⟩

section
variable {g f lo r c at_ : Nat} {w : World} {bs : List UInt8}

set_option maxRecDepth 100000 in
set_option maxHeartbeats 1000000 in
theorem even_high (hB : Blk w g 133 (pdCells f r c false)) (hr : ¬ r < 16777216) :
    Calls Tryz.prog 92 #[.pointer (some ⟨g, 0, none⟩)] w fun e w' => e = .returned (.tuple #[]) ∧ w = w' := by
  have h1 : w.cell? ⟨g, 1, none⟩ = some (.int .u32 (r : Int)) := hB.cell 1
  have hr' : ¬ (r : Int) < 16777216 := by omega
  clear hB
  go_enter Tryz.func92, Tryz.ntmps92
  go_wp2_with fail
  first | go_end0 | refine bodyPost_ret (results_none rfl _ _ _) rfl ?_
  exact ⟨rfl, rfl⟩

set_option maxRecDepth 100000 in
set_option maxHeartbeats 1000000 in
theorem even_any (hB : Blk w g 133 (pdCells f r c false)) (hF : Feed w f lo bs at_) (hfg : f < g) (hr : r < 4294967296) (hc : c ≤ r) :
    Calls Tryz.prog 92 #[.pointer (some ⟨g, 0, none⟩)] w fun e w' => e = .returned (.tuple #[]) ∧ Pd w' g f lo bs (lvl r c (bs.drop at_)) ∧ Only (two f g) w w' := by
  by_cases hlow : r < 16777216
  · have h1 : w.cell? ⟨g, 1, none⟩ = some (.int .u32 (r : Int)) := hB.cell 1
    have z1 : w.frozen? ⟨g, 1, none⟩ = false := hB.free 1
    have hr' : (r : Int) < 16777216 := by omega
    have e1 : IntKind.u32.wrap ((r : Int) * 256) = (r : Int) * 256 := u32_of _ (by omega) (by omega)
    have hO : Only (fun i => i = g) w (w.setCell ⟨g, 1, none⟩ (.int .u32 ((r : Int) * 256))) := (Only.refl (fun i => i = g) w).setCell (.inl rfl) _
    have hB1 : Blk (w.setCell ⟨g, 1, none⟩ (.int .u32 ((r : Int) * 256))) g 133 (pdCells f (r * 256) c false) := by
      have := hB.put 1 (.int .u32 ((r : Int) * 256))
      rw [← show ((r * 256 : Nat) : Int) = (r : Int) * 256 by omega] at this ⊢
      exact this
    have hlo := hF.lo
    have K := Lib.hid (shift_any hB1 (hF.only hO (fun i hi => by omega)) hfg (by omega))
    have HO := Lib.hid hO
    have hle := hF.le
    clear hB hF hO hB1
    go_enter Tryz.func92, Tryz.ntmps92
    go_wp2_with fail
    refine K.out.mono ?_
    rintro e w1 ⟨rfl, at', c', bad', hB2, hF2, hO2, hx⟩
    have HB2 := Lib.hid hB2
    have HF2 := Lib.hid hF2
    have HO2 := Lib.hid hO2
    have HX := Lib.hid hx
    clear hB2 hF2 hO2 hx
    go_wp2_with fail
    first | go_end0 | refine bodyPost_ret (results_none rfl _ _ _) rfl ?_
    refine ⟨rfl, ⟨at', r * 256, c', bad', HB2.out, HF2.out, hfg, HF2.out.le, by omega, ?_⟩, (HO.out.mono (fun i hi => .inr hi)).trans HO2.out⟩
    rcases HX.out with ⟨rfl, rfl, h⟩ | ⟨x, rfl, rfl, h⟩
    · refine ⟨by omega, .inl ⟨rfl, ?_⟩⟩
      unfold lvl
      rw [if_pos hlow, h]
    · have := x.toNat_lt
      refine ⟨by omega, .inr ⟨rfl, ?_⟩⟩
      unfold lvl
      rw [if_pos hlow, h]
  · refine (even_high hB hlow).mono ?_
    rintro e w' ⟨rfl, rfl⟩
    refine ⟨rfl, ⟨at_, r, c, false, hB, hF, hfg, hF.le, hr, by omega, .inr ⟨rfl, ?_⟩⟩, Only.refl _ _⟩
    unfold lvl
    rw [if_neg hlow]

/-- Straight, and the decoder refused, if it must be. -/
def OnePost (w : World) (g f lo : Nat) (bs : List UInt8) (d : Dc) (e : Ending) (w' : World) : Prop :=
  ∃ v : Nat, e = .returned (.int .u32 (v : Int)) ∧ v ≤ 1 ∧ ((oneD d).2 ≠ none → v = (oneD d).1) ∧ Pd w' g f lo bs (oneD d).2 ∧ Only (two f g) w w'

set_option maxRecDepth 100000 in
set_option maxHeartbeats 1000000 in
theorem one_bad (hB : Blk w g 133 (pdCells f r c true)) :
    Calls Tryz.prog 117 #[.pointer (some ⟨g, 0, none⟩)] w fun e w' => e = .returned (.int .u32 0) ∧ w = w' := by
  have h3 : w.cell? ⟨g, 3, none⟩ = some (.bool true) := hB.cell 3
  clear hB
  go_enter Tryz.func117, Tryz.ntmps117
  go_wp2_with fail
  go_ret
  exact ⟨rfl, rfl⟩

theorem lvl_ge {h k r' k' : Nat} {s s' : List UInt8} (hl : lvl h k s = some (r', k', s')) (hk : h ≤ k) : r' ≤ k' := by
  unfold lvl at hl
  split at hl
  · split at hl
    · cases hl
    · simp only [Option.some.injEq, Prod.mk.injEq] at hl
      omega
  · simp only [Option.some.injEq, Prod.mk.injEq] at hl
    omega
theorem one_told {bs s : List UInt8} {at' r' c' h c1 : Nat} {bad' : Bool} (ht : Told bs (lvl h c1 s) at' r' c' bad') (h0 : 65536 ≤ h) (h1 : h < 4294967296) :
    Told bs (if c1 < h then lvl h c1 s else none) at' r' c' (bad' || decide (r' ≤ c')) := by
  obtain ⟨t0, t1, t2, t3⟩ := ht
  refine ⟨t0, t1, t2, ?_⟩
  rcases t3 with ⟨rfl, t3⟩ | ⟨rfl, t3⟩
  · left
    rw [t3]
    exact ⟨rfl, by split <;> rfl⟩
  · by_cases hc : c1 < h
    · right
      have := dcOk_lvl h0 h1 hc _ _ _ t3
      rw [if_pos hc]
      exact ⟨by simp; omega, t3⟩
    · left
      have := lvl_ge t3 (by omega)
      rw [if_neg hc]
      exact ⟨by simp; omega, rfl⟩

set_option maxRecDepth 100000 in
set_option maxHeartbeats 2000000 in
theorem one_low (hB : Blk w g 133 (pdCells f r c false)) (hF : Feed w f lo bs at_) (hfg : f < g) (hr0 : 16777216 ≤ r) (hr : r < 4294967296) (hc : c < r / 2) :
    Calls Tryz.prog 117 #[.pointer (some ⟨g, 0, none⟩)] w fun e w' => e = .returned (.int .u32 0) ∧ Pd w' g f lo bs (lvl (r / 2) c (bs.drop at_)) ∧ Only (two f g) w w' := by
  have h1 : w.cell? ⟨g, 1, none⟩ = some (.int .u32 (r : Int)) := hB.cell 1
  have h2 : w.cell? ⟨g, 2, none⟩ = some (.int .u32 (c : Int)) := hB.cell 2
  have h3 : w.cell? ⟨g, 3, none⟩ = some (.bool false) := hB.cell 3
  have z1 : w.frozen? ⟨g, 1, none⟩ = false := hB.free 1
  have hr2 : (r : Int) / 2 = ((r / 2 : Nat) : Int) := by omega
  have hle : r / 2 ≤ r := Nat.div_le_self _ _
  have hge : 8388608 ≤ r / 2 := by omega
  generalize r / 2 = h at *
  have e1 : IntKind.u32.wrap ((r : Int) / 2) = (h : Int) := by rw [hr2]; exact u32_of _ (by omega) (by omega)
  have hO : Only (fun i => i = g) w (w.setCell ⟨g, 1, none⟩ (.int .u32 (h : Int))) := (Only.refl (fun i => i = g) w).setCell (.inl rfl) _
  have hB1 : Blk (w.setCell ⟨g, 1, none⟩ (.int .u32 (h : Int))) g 133 (pdCells f h c false) := hB.put 1 _
  have hlo := hF.lo
  have K := Lib.hid (fun n => even_any (hB1.drewN n) ((hF.only hO (fun i hi => by omega)).drewN n) hfg (by omega) (Nat.le_of_lt hc))
  have HO := Lib.hid (fun n => hO.drewN n)
  have hlt : ¬ (c : Int) ≥ (h : Int) := by omega
  clear hB hF hO hB1 
  go_enter Tryz.func117, Tryz.ntmps117
  go_wp2_with fail
  go_quiet (fail)
  go_wp2_with fail
  refine (K.out nq).mono ?_
  rintro e w1 ⟨rfl, ⟨at', r', c', bad', hB2, hF2, _, ht⟩, hO2⟩
  have j1 : w1.drew.cell? ⟨g, 1, none⟩ = some (.int .u32 (r' : Int)) := hB2.cell 1
  have j2 : w1.drew.cell? ⟨g, 2, none⟩ = some (.int .u32 (c' : Int)) := hB2.cell 2
  have HB2 := Lib.hid (fun so => refuse_any (so := so) (show Blk w1.drew g 133 (pdCells f r' c' bad') from hB2))
  have HF2 := Lib.hid (show Feed w1.drew f lo bs at' from hF2)
  have HT := Lib.hid ht
  have HO2 := Lib.hid (((HO.out nq).mono (fun i hi => .inr hi)).trans hO2.drew : Only (two f g) w w1.drew)
  clear hB2 hF2 ht hO2 HO K h1 h2 h3 z1
  go_wp2_with fail
  go_still_tail 10, (by kernel_rfl)
  change wpList _ _ _ _ _ w1.drew
  generalize w1.drew = w2 at *
  go_wp2_with fail
  refine (HB2.out _).mono ?_
  rintro e w3 ⟨rfl, hB3, hg3⟩
  have HB3 := Lib.hid hB3
  have HG3 := Lib.hid (Only.of_grown (S := fun i => i = g) hg3 rfl)
  clear hB3 hg3
  go_wp2_with fail
  go_ret
  refine ⟨rfl, ⟨at', r', c', _, HB3.out, HF2.out.only HG3.out (fun i hi => by omega), hfg, ?_⟩, HO2.out.trans (HG3.out.mono (fun i hi => .inr hi))⟩
  have := one_told HT.out (by omega) (by omega)
  rw [if_pos hc] at this
  exact this

/-- Behind a definition, so that no walk looks into it. -/
def HighPost (w : World) (g f lo : Nat) (bs s : List UInt8) (h k : Nat) (e : Ending) (w' : World) : Prop :=
  e = .returned (.int .u32 1) ∧ Pd w' g f lo bs (if k < h then lvl h k s else none) ∧ Only (two f g) w w'

set_option maxRecDepth 100000 in
set_option maxHeartbeats 2000000 in
theorem one_high (hB : Blk w g 133 (pdCells f r c false)) (hF : Feed w f lo bs at_) (hfg : f < g) (hr0 : 16777216 ≤ r) (hr : r < 4294967296) (hcr : c < r) (hc : ¬ c < r / 2) :
    Calls Tryz.prog 117 #[.pointer (some ⟨g, 0, none⟩)] w (HighPost w g f lo bs (bs.drop at_) (r / 2) (c - r / 2)) := by
  have h1 : w.cell? ⟨g, 1, none⟩ = some (.int .u32 (r : Int)) := hB.cell 1
  have h2 : w.cell? ⟨g, 2, none⟩ = some (.int .u32 (c : Int)) := hB.cell 2
  have h3 : w.cell? ⟨g, 3, none⟩ = some (.bool false) := hB.cell 3
  have z1 : w.frozen? ⟨g, 1, none⟩ = false := hB.free 1
  have z2 : w.frozen? ⟨g, 2, none⟩ = false := hB.free 2
  have hr2 : (r : Int) / 2 = ((r / 2 : Nat) : Int) := by omega
  have hle : r / 2 ≤ r := Nat.div_le_self _ _
  have hge : 8388608 ≤ r / 2 := by omega
  have hch : c - r / 2 ≤ r / 2 := by omega
  generalize r / 2 = h at *
  have e1 : IntKind.u32.wrap ((r : Int) / 2) = (h : Int) := by rw [hr2]; exact u32_of _ (by omega) (by omega)
  have e2 : IntKind.u32.wrap ((c : Int) - (h : Int)) = ((c - h : Nat) : Int) := by rw [show (c : Int) - (h : Int) = ((c - h : Nat) : Int) by omega]; exact u32_of _ (by omega) (by omega)
  have hO : ∀ n, Only (fun i => i = g) w (((w.setCell ⟨g, 1, none⟩ (.int .u32 (h : Int))).drewN n).setCell ⟨g, 2, none⟩ (.int .u32 ((c - h : Nat) : Int))) := fun n => (((Only.refl (fun i => i = g) w).setCell (p := ⟨g, 1, none⟩) (.inl rfl) _).drewN n).setCell (p := ⟨g, 2, none⟩) (.inl rfl) _
  have hB1 : ∀ n, Blk (((w.setCell ⟨g, 1, none⟩ (.int .u32 (h : Int))).drewN n).setCell ⟨g, 2, none⟩ (.int .u32 ((c - h : Nat) : Int))) g 133 (pdCells f h (c - h) false) := fun n => ((hB.put 1 _).drewN n).put 2 _
  have hlo := hF.lo
  have K := Lib.hid (fun n => even_any (hB1 n) (hF.only (hO n) (fun i hi => by omega)) hfg (by omega) hch)
  have HO := Lib.hid hO
  have hlt : (c : Int) ≥ (h : Int) := by omega
  clear hB hF hO hB1
  go_enter Tryz.func117, Tryz.ntmps117
  go_wp2_with fail
  go_quiet (fail)
  go_wp2_with fail
  go_region
  all_goals go_wp2_with fail
  refine (K.out (nq + 1)).mono ?_
  rintro e w1 ⟨rfl, ⟨at', r', c', bad', hB2, hF2, _, ht⟩, hO2⟩
  have j1 : w1.drew.cell? ⟨g, 1, none⟩ = some (.int .u32 (r' : Int)) := hB2.cell 1
  have j2 : w1.drew.cell? ⟨g, 2, none⟩ = some (.int .u32 (c' : Int)) := hB2.cell 2
  have HB2 := Lib.hid (fun so => refuse_any (so := so) (show Blk w1.drew g 133 (pdCells f r' c' bad') from hB2))
  have HF2 := Lib.hid (show Feed w1.drew f lo bs at' from hF2)
  have HT := Lib.hid ht
  have HO2 := Lib.hid (((HO.out (nq + 1)).mono (fun i hi => .inr hi)).trans hO2.drew : Only (two f g) w w1.drew)
  clear hB2 hF2 ht hO2 HO K h1 h2 h3 z1 z2
  go_wp2_with fail
  go_still_tail 10, (by kernel_rfl)
  change wpList _ _ _ _ _ w1.drew
  generalize w1.drew = w2 at *
  go_wp2_with fail
  refine (HB2.out _).mono ?_
  rintro e w3 ⟨rfl, hB3, hg3⟩
  have HB3 := Lib.hid hB3
  have HG3 := Lib.hid (Only.of_grown (S := fun i => i = g) hg3 rfl)
  clear hB3 hg3
  go_wp2_with fail
  go_ret
  refine ⟨rfl, ⟨at', r', c', _, HB3.out, HF2.out.only HG3.out (fun i hi => by omega), hfg, ?_⟩, HO2.out.trans (HG3.out.mono (fun i hi => .inr hi))⟩
  exact one_told HT.out (by omega) (by omega)

/-- A bit told straight. -/
theorem one_any {d : Dc} (h : Pd w g f lo bs d) (hd : DcOk d) :
    Calls Tryz.prog 117 #[.pointer (some ⟨g, 0, none⟩)] w (OnePost w g f lo bs d) := by
  obtain ⟨at_, r, c, bad, hB, hF, hfg, h0, h1, h2, h3⟩ := h
  rcases h3 with ⟨rfl, rfl⟩ | ⟨rfl, rfl⟩
  · refine (one_bad hB).mono ?_
    rintro e w' ⟨rfl, rfl⟩
    exact ⟨0, rfl, by omega, fun _ => rfl, ⟨at_, r, c, true, hB, hF, hfg, h0, h1, h2, .inl ⟨rfl, rfl⟩⟩, Only.refl _ _⟩
  · obtain ⟨d0, d1, d2⟩ := hd _ _ _ rfl
    by_cases hc : c < r / 2
    · refine (one_low hB hF hfg d0 d1 hc).mono ?_
      rintro e w' ⟨rfl, k1, k2⟩
      have e1 : oneD (some (r, c, bs.drop at_)) = (0, lvl (r / 2) c (bs.drop at_)) := by unfold oneD; simp only []; rw [if_pos hc]
      refine ⟨0, rfl, by omega, fun _ => by rw [e1], ?_, k2⟩
      rw [e1]
      exact k1
    · refine (one_high hB hF hfg d0 d1 d2 hc).mono ?_
      rintro e w' ⟨rfl, k1, k2⟩
      by_cases hc2 : c - r / 2 < r / 2
      · have e1 : oneD (some (r, c, bs.drop at_)) = (1, lvl (r / 2) (c - r / 2) (bs.drop at_)) := by unfold oneD; simp only []; rw [if_neg hc, if_pos hc2]
        refine ⟨1, rfl, by omega, fun _ => by rw [e1], ?_, k2⟩
        rw [e1]
        rw [if_pos hc2] at k1
        exact k1
      · have e1 : oneD (some (r, c, bs.drop at_)) = (0, none) := by unfold oneD; simp only []; rw [if_neg hc, if_neg hc2]
        refine ⟨1, rfl, by omega, fun h => by rw [e1] at h; exact absurd rfl h, ?_, k2⟩
        rw [e1]
        rw [if_neg hc2] at k1
        exact k1
end
end Go.Proofs.YtpdpbbmkicemdaaGreat

/-
  Probabilities in a block of their own.
-/
namespace Go.Proofs.YtpdpbbmkicemdaaGreat
open Go.RowKit

/-- probabilities as cells -/
def pv (ps : List Nat) : List Value := ps.map fun (p : Nat) => Value.int .u16 (p : Int)
theorem pv_length (ps : List Nat) : (pv ps).length = ps.length := by simp [pv]
theorem pv_get (ps : List Nat) (i : Nat) (h : i < ps.length) : (pv ps)[i]? = some (.int .u16 ((ps.getD i 0 : Nat) : Int)) := by
  simp [pv, List.getD, h]
theorem pv_set (ps : List Nat) (i q : Nat) : (pv ps).set i (.int .u16 (q : Int)) = pv (ps.set i q) := by
  simp [pv, List.map_set]

/-- Block b holds the probabilities ps. -/
def Row (w : World) (b : Nat) (ps : List Nat) (c : Nat) : Prop := w.ownsRow 0 91 1 (.slice (some ⟨b, 0, none⟩) ps.length c) ps.length (pv ps)

section
variable {w w' : World} {b c : Nat} {ps : List Nat}
theorem Row.cell (h : Row w b ps c) {i : Nat} (hi : i < ps.length) : w.cell? ⟨b, i, none⟩ = some (.int .u16 ((ps.getD i 0 : Nat) : Int)) := by
  rw [World.ownsRow.cellAt h i (by omega), pv_get ps i hi]
theorem Row.free (h : Row w b ps c) (i : Nat) : w.frozen? ⟨b, i, none⟩ = false := World.ownsRow.frozenAt h i
theorem Row.put (h : Row w b ps c) (i q : Nat) : Row (w.setCell ⟨b, i, none⟩ (.int .u16 (q : Int))) b (ps.set i q) c := by
  have := (World.ownsRow.stored h i (.int .u16 (q : Int))).1
  rw [pv_set] at this
  unfold Row
  rw [List.length_set]
  exact this
theorem Row.drewN (h : Row w b ps c) (n : Nat) : Row (w.drewN n) b ps c := h
theorem Row.only {S : Nat → Prop} (h : Row w b ps c) (hb : Only S w w') (hS : ¬ S b) : Row w' b ps c := own_only h hb hS
theorem Row.lt (h : Row w b ps c) : b < w.heap.size := (World.ownsRow.lt h b rfl).2
theorem Row.cap (h : Row w b ps c) : ps.length ≤ c ∧ c ≤ maxLen := by
  obtain ⟨_, h2, h3, _⟩ := own_facts h
  exact ⟨h2, h3⟩
end

end Go.Proofs.YtpdpbbmkicemdaaGreat

/-
  The decoder tells a bit with a probability.
-/
namespace Go.Proofs.YtpdpbbmkicemdaaGreat
open Go.RowKit

def three (f g b : Nat) : Nat → Prop := fun i => i = f ∨ i = g ∨ i = b
theorem u16_in (x : Int) (h : 0 ≤ x ∧ x < 65536) : IntKind.u16.wrap x = x := by
  simp [IntKind.wrap, IntKind.bits, IntKind.signed]
  omega

/-- What a bit leaves: behind a definition, so that no walk looks into it. -/
def TellPost (w : World) (g f lo b : Nat) (bs : List UInt8) (ps : List Nat) (pc v : Nat) (d : Dc) (e : Ending) (w' : World) : Prop :=
  e = .returned (.int .i64 (v : Int)) ∧ Pd w' g f lo bs d ∧ Row w' b ps pc ∧ Only (three f g b) w w'

section
variable {g f lo r c at_ b i p pc : Nat} {w : World} {bs : List UInt8} {ps : List Nat}

set_option maxRecDepth 100000 in
set_option maxHeartbeats 1000000 in
theorem bit_bad {a : Addr} (hB : Blk w g 133 (pdCells f r c true)) :
    Calls Tryz.prog 66 #[.pointer (some ⟨g, 0, none⟩), .pointer (some a)] w fun e w' => e = .returned (.int .i64 0) ∧ w = w' := by
  have h3 : w.cell? ⟨g, 3, none⟩ = some (.bool true) := hB.cell 3
  clear hB
  go_enter Tryz.func66, Tryz.ntmps66
  go_wp2_with fail
  go_ret
  exact ⟨rfl, rfl⟩

end
end Go.Proofs.YtpdpbbmkicemdaaGreat

/-
  The decoder tells numbers: straight, by a tree.
-/
namespace Go.Proofs.YtpdpbbmkicemdaaGreat
open Go.RowKit

/-- What a number told straight leaves. -/
def NumPost (w : World) (g f lo : Nat) (bs : List UInt8) (v : Nat) (d : Dc) (e : Ending) (w' : World) : Prop :=
  e = .returned (.int .u32 (v : Int)) ∧ Pd w' g f lo bs d ∧ Only (two f g) w w'

section
variable {g f lo b pc : Nat} {w : World} {bs : List UInt8} {ps : List Nat}

set_option maxRecDepth 100000 in
set_option maxHeartbeats 2000000 in
theorem straight_any {d : Dc} {n : Nat} (h : Pd w g f lo bs d) (hd : DcOk d) (hn : n ≤ 32) :
    Calls Tryz.prog 113 #[.pointer (some ⟨g, 0, none⟩), .int .i64 (n : Int)] w (NumPost w g f lo bs (straightD n d).1 (straightD n d).2) := by
  have HP := Lib.hid h
  have HD := Lib.hid hd
  clear h hd
  go_enter Tryz.func113, Tryz.ntmps113
  go_wp2_with fail
  go_loopw [5, 7] (fun v i wr => ∃ (j x : Nat), j ≤ n ∧ i = .int .i64 (j : Int) ∧ v = .int .u32 (x : Int) ∧ x < 2 ^ j ∧ ((straightGo d j).2 ≠ none → x = (straightGo d j).1) ∧ Pd wr g f lo bs (straightGo d j).2 ∧ Only (two f g) w wr) (fun _ i _ => n - (intOf i).toNat)
  case atStart => exact ⟨0, 0, Nat.zero_le _, rfl, rfl, by decide, fun _ => rfl, HP.out, Only.refl _ _⟩
  case round =>
    clear HP
    obtain ⟨j, x, hj, rfl, rfl, hx, hv, hp, ho⟩ := hrel
    have HV := Lib.hid hv
    have HO := Lib.hid ho
    clear hv ho
    by_cases hlt : j < n
    · have K := Lib.hid (one_any hp (straightGo_ok HD.out j).1)
      have hx31 : x < 2147483648 := Nat.lt_of_lt_of_le hx (Nat.pow_le_pow_right (n := 2) (by omega) (show j ≤ 31 by omega))
      have hx2 : 2 * x + 1 < 2 ^ (j + 1) := by rw [Nat.pow_succ]; omega
      have HX2 := Lib.hid hx2
      have e1 : IntKind.u32.wrap (2 * (x : Int)) = 2 * (x : Int) := u32_of _ (by omega) (by omega)
      have hlt' : (j : Int) < (n : Int) := by omega
      clear hx hx2 hp
      go_wp2_with fail
      refine K.out.mono ?_
      rintro e w1 ⟨v, rfl, hv1, hv2, hp1, ho1⟩
      have e2 : IntKind.u32.wrap (2 * (x : Int) + (v : Int)) = ((2 * x + v : Nat) : Int) := by rw [show 2 * (x : Int) + (v : Int) = ((2 * x + v : Nat) : Int) by omega]; exact u32_of _ (by omega) (by omega)
      have HV2 := Lib.hid hv2
      have HP1 := Lib.hid hp1
      have HO1 := Lib.hid (HO.out.trans ho1)
      clear hv2 hp1 ho1 HO K
      go_wp2_with fail
      go_roundw
      case rel =>
        refine ⟨j + 1, 2 * x + v, by omega, by go_num, rfl, by have := HX2.out; omega, fun h => ?_, HP1.out, HO1.out⟩
        show _ = 2 * (straightGo d j).1 + (oneD (straightGo d j).2).1
        rw [HV2.out h, HV.out (fun h0 => h (by show (oneD (straightGo d j).2).2 = none; rw [h0]; rfl))]
      case measure => simp [intOf]; omega
    · obtain rfl : j = n := by omega
      obtain ⟨at_, r, c, bad, hB, hF, hfg, ht⟩ := hp
      have j3 : wr.cell? ⟨g, 3, none⟩ = some (.bool bad) := hB.cell 3
      have HB := Lib.hid hB
      have HF := Lib.hid hF
      have HT := Lib.hid ht
      clear hB hF ht hx
      cases bad
      · go_wp2_with fail
        go_ret
        refine ⟨?_, ⟨at_, r, c, _, HB.out, HF.out, hfg, HT.out⟩, HO.out⟩
        have hne : (straightGo d j).2 ≠ none := by
          rcases HT.out.2.2.2 with ⟨h, _⟩ | ⟨_, h⟩
          · cases h
          · rw [h]; simp
        unfold straightD
        rw [if_neg hne, ← HV.out hne]
        rfl
      · go_wp2_with fail
        go_ret
        refine ⟨?_, ⟨at_, r, c, _, HB.out, HF.out, hfg, HT.out⟩, HO.out⟩
        have hne : (straightGo d j).2 = none := by
          rcases HT.out.2.2.2 with ⟨_, h⟩ | ⟨h, _⟩
          · exact h
          · cases h
        unfold straightD
        rw [if_pos hne]
        rfl

end
end Go.Proofs.YtpdpbbmkicemdaaGreat

/-
  The decoder tells a number by a reverse tree.
-/
namespace Go.Proofs.YtpdpbbmkicemdaaGreat
open Go.RowKit

section
variable {g f lo b pc : Nat} {w : World} {bs : List UInt8} {ps : List Nat}

theorem ofInt_u64' (a : Nat) (h : a < 18446744073709551616) : (BitVec.ofInt 64 (a : Int)).toNat = a := by simp; omega
theorem i64_or_nat (a b : Nat) (ha : a < 9223372036854775808) (hb : b < 9223372036854775808) : bits .or .i64 (a : Int) (b : Int) = ((a ||| b : Nat) : Int) := by
  have hx : a ||| b < 2 ^ 63 := Nat.or_lt_two_pow (by omega) (by omega)
  show IntKind.i64.wrap ((BitVec.ofInt 64 (a : Int) ||| BitVec.ofInt 64 (b : Int)).toNat : Int) = _
  rw [BitVec.toNat_or, ofInt_u64' a (by omega), ofInt_u64' b (by omega)]
  exact IntWalk.i64_in _ (by omega)
theorem i64_or_shift (o u j : Nat) (ho : o < 2 ^ j) (hu : u ≤ 1) (hj : j < 8) : bits .or .i64 (o : Int) (wrap64 ((u : Int) * 2 ^ j)) = ((o + u * 2 ^ j : Nat) : Int) := by
  have hp : 2 ^ j ≤ 2 ^ 7 := Nat.pow_le_pow_right (n := 2) (by omega) (show j ≤ 7 by omega)
  have hm : u * 2 ^ j ≤ 1 * 2 ^ j := Nat.mul_le_mul_right _ hu
  have hw : wrap64 (((u * 2 ^ j : Nat) : Int)) = ((u * 2 ^ j : Nat) : Int) := by
    unfold wrap64
    generalize u * 2 ^ j = y at *
    omega
  rw [cast_pow2, ← Int.natCast_mul, hw, i64_or_nat _ _ (by omega) (by omega)]
  congr 1
  rw [Nat.or_comm, nat_join j (u * 2 ^ j) o (Nat.mul_mod_left _ _) ho]
  omega

end
end Go.Proofs.YtpdpbbmkicemdaaGreat

/-
  Bytes as a number, the greatest first.
-/
namespace Go.Proofs.YtpdpbbmkicemdaaGreat

/-- bytes as a number, the greatest first -/
def be (l : List UInt8) : Nat := l.foldl (fun a b => a * 256 + b.toNat) 0
theorem be_snoc (l : List UInt8) (x : UInt8) : be (l ++ [x]) = be l * 256 + x.toNat := by simp [be]
theorem be_append (l k : List UInt8) : be (l ++ k) = be l * 256 ^ k.length + be k := by
  generalize hn : k.length = n
  induction n generalizing k with
  | zero => rw [List.eq_nil_of_length_eq_zero hn]; simp [be]
  | succ n ih =>
    have hne : k ≠ [] := by intro e; rw [e] at hn; cases hn
    rw [← List.dropLast_concat_getLast hne, ← List.append_assoc, be_snoc, be_snoc, ih k.dropLast (by simp [hn]), Nat.pow_succ, ← Nat.mul_assoc, Nat.add_mul]
    omega
theorem be_lt (l : List UInt8) : ∀ n, l.length = n → be l < 256 ^ n := by
  intro n
  induction n generalizing l with
  | zero => intro h; rw [List.eq_nil_of_length_eq_zero h]; decide
  | succ n ih =>
    intro h
    have hne : l ≠ [] := by intro e; rw [e] at h; cases h
    rw [← List.dropLast_concat_getLast hne, be_snoc, Nat.pow_succ]
    have := ih l.dropLast (by simp [h])
    have := (l.getLast hne).toNat_lt
    omega
/-- the first l of the bytes, and what is behind -/
theorem be_take (bs : List UInt8) (l : Nat) : be (bs.take l) * 256 ^ (bs.length - l) ≤ be bs ∧ be bs < (be (bs.take l) + 1) * 256 ^ (bs.length - l) := by
  have e := be_append (bs.take l) (bs.drop l)
  rw [List.take_append_drop, List.length_drop] at e
  have h := be_lt (bs.drop l) (bs.length - l) (by simp)
  rw [Nat.add_mul]
  omega
theorem be_take_succ {bs : List UInt8} {l : Nat} (h : l < bs.length) : be (bs.take (l + 1)) = be (bs.take l) * 256 + (bs[l]).toNat := by
  rw [List.take_succ_eq_append_getElem h, be_snoc]
end Go.Proofs.YtpdpbbmkicemdaaGreat

/-
  How a decoder of ranges begins, as numbers (cut out of RdNew).
-/
namespace Go.Proofs.YtpdpbbmkicemdaaGreat

/-- behind the first byte and j more -/
def Begun (bs : List UInt8) (j c : Nat) : Prop := j + 1 ≤ bs.length ∧ (bs.getD 0 0).toNat = 0 ∧ c = be ((bs.drop 1).take j)

theorem started_short {bs : List UInt8} (h : bs.length < 5) : started bs = none := by
  unfold started
  split
  · simp only [List.length_cons] at h; omega
  · rfl
theorem started_head {bs : List UInt8} (h : (bs.getD 0 0).toNat ≠ 0) : started bs = none := by
  unfold started
  split
  · rename_i z a b c d t
    rw [if_neg]
    rintro ⟨h1, _⟩
    exact h h1
  · rfl
theorem started_begun {bs : List UInt8} {c : Nat} (h : Begun bs 4 c) : started bs = if c < 4294967295 then some (4294967295, c, bs.drop 5) else none := by
  obtain ⟨h1, h2, h3⟩ := h
  match bs, h1 with
  | z :: a :: b :: x :: d :: t, _ =>
    have e : c = ((a.toNat * 256 + b.toNat) * 256 + x.toNat) * 256 + d.toNat := by rw [h3]; simp [be]
    have hz : z.toNat = 0 := h2
    show (if z.toNat = 0 ∧ ((a.toNat * 256 + b.toNat) * 256 + x.toNat) * 256 + d.toNat < 4294967295 then some (4294967295, ((a.toNat * 256 + b.toNat) * 256 + x.toNat) * 256 + d.toNat, t) else none) = if c < 4294967295 then some (4294967295, c, t) else none
    rw [← e]
    by_cases hc : c < 4294967295
    · rw [if_pos ⟨hz, hc⟩, if_pos hc]
    · rw [if_neg (fun h => hc h.2), if_neg hc]
theorem begun_next {bs : List UInt8} {j c : Nat} {x : UInt8} {t : List UInt8} (h : Begun bs j c) (hd : bs.drop (j + 1) = x :: t) : Begun bs (j + 1) (c * 256 + x.toNat) := by
  obtain ⟨h1, h2, h3⟩ := h
  have hlt : j + 1 < bs.length := by
    rcases Nat.lt_or_ge (j + 1) bs.length with h | h
    · exact h
    · rw [List.drop_eq_nil_of_le h] at hd; cases hd
  have hx : bs[j + 1] = x := by
    have := List.drop_eq_getElem_cons hlt
    rw [hd] at this
    injection this with this
    exact this.symm
  refine ⟨hlt, h2, ?_⟩
  have hl : j < (bs.drop 1).length := by rw [List.length_drop]; omega
  rw [List.take_succ_eq_append_getElem hl, be_snoc, ← h3, List.getElem_drop]
  congr 2
  rw [← hx]
  congr 1
  simp only [Nat.add_comm]
theorem begun_lt {bs : List UInt8} {j c : Nat} (h : Begun bs j c) : c < 256 ^ j := by
  rw [h.2.2]
  refine be_lt _ _ ?_
  rw [List.length_take, List.length_drop]
  have := h.1
  omega

theorem info_u16 : (Tryz.prog.info? 91).map (fun i => (i.zero, i.size, i.bytes)) = some (some (.int .u16 0), 1, 2) := by kernel_rfl
end Go.Proofs.YtpdpbbmkicemdaaGreat

/-
  A decoder begins; fresh probabilities.
-/
namespace Go.Proofs.YtpdpbbmkicemdaaGreat
open Go.RowKit

/-- What stands behind the first byte and j shifts. -/
def OnWay (w : World) (g f lo : Nat) (bs : List UInt8) (j : Nat) : Prop :=
  ∃ at_ c bad, Blk w g 133 (pdCells f 4294967295 c bad) ∧ Feed w f lo bs at_ ∧ c < 4294967296 ∧ ((bad = true ∧ started bs = none) ∨ (bad = false ∧ at_ = j + 1 ∧ Begun bs j c))

/-- A shift on the way. -/
theorem onway_any {w : World} {g f lo j : Nat} {bs : List UInt8} (h : OnWay w g f lo bs j) (hfg : f < g) (hj : j < 4) :
    Calls Tryz.prog 63 #[.pointer (some ⟨g, 0, none⟩)] w fun e w' => e = .returned (.tuple #[]) ∧ OnWay w' g f lo bs (j + 1) ∧ Only (two f g) w w' := by
  obtain ⟨at_, c, bad, hB, hF, hc, h0⟩ := h
  rcases h0 with ⟨rfl, h0⟩ | ⟨rfl, rfl, h0⟩
  · refine (shift_bad hB).mono ?_
    rintro e w' ⟨rfl, rfl⟩
    exact ⟨rfl, ⟨at_, c, true, hB, hF, hc, .inl ⟨rfl, h0⟩⟩, Only.refl _ _⟩
  · have hc4 : c < 16777216 := Nat.lt_of_lt_of_le (begun_lt h0) (Nat.pow_le_pow_right (n := 256) (by omega) (show j ≤ 3 by omega))
    refine (shift_any hB hF hfg hc4).mono ?_
    rintro e w' ⟨rfl, at', c', bad', h1, h2, h3, h4⟩
    refine ⟨rfl, ⟨at', c', bad', h1, h2, ?_, ?_⟩, h3⟩
    · rcases h4 with ⟨_, rfl, _⟩ | ⟨x, _, rfl, _⟩
      · exact hc
      · have := x.toNat_lt; omega
    · rcases h4 with ⟨rfl, rfl, h5⟩ | ⟨x, rfl, rfl, h5⟩
      · refine .inl ⟨rfl, started_short ?_⟩
        have := List.drop_eq_nil_iff.1 h5
        omega
      · refine .inr ⟨rfl, ?_, begun_next h0 h5⟩
        have hl := congrArg List.length h5
        simp only [List.length_cons, List.length_drop] at hl
        have := hF.le
        have := h2.le
        have := (begun_next h0 h5).1
        omega

set_option maxRecDepth 100000 in
set_option maxHeartbeats 4000000 in
theorem pnew_any {w : World} {f lo : Nat} {bs : List UInt8} (hF : Feed w f lo bs 0) :
    Calls Tryz.prog 38 #[.iface 52 (.pointer (some ⟨f, 0, none⟩))] w fun e w' =>
      e = .returned (.pointer (some ⟨w.heap.size, 0, none⟩)) ∧ Pd w' w.heap.size f lo bs (started bs) ∧ Only (fun i => i = f) w w' := by
  have hfg := hF.lt
  have HF := Lib.hid hF
  have hlo := hF.lo
  clear hF
  go_enter Tryz.func38, Tryz.ntmps38
  go_wp2_with fail
  have hB0 : Blk (w.alloc (.cells #[.iface 52 (.pointer (some ⟨f, 0, none⟩)), .int .u32 4294967295, .int .u32 0, .bool false] 133)) w.heap.size 133 (pdCells f 4294967295 0 false) := Blk.fresh _ _ _
  have hO0 : Only (fun i => i = f) w (w.alloc (.cells #[.iface 52 (.pointer (some ⟨f, 0, none⟩)), .int .u32 4294967295, .int .u32 0, .bool false] 133)) := (Only.refl _ w).alloc _
  have hF0 := HF.out.only ((Only.refl (fun _ => False) w).alloc (.cells #[.iface 52 (.pointer (some ⟨f, 0, none⟩)), .int .u32 4294967295, .int .u32 0, .bool false] 133)) (fun i hi => hi.elim)
  generalize hg : w.heap.size = g at *
  have HG := Lib.hid hg
  clear hg
  refine (shift_any hB0 hF0 hfg (by omega)).mono ?_
  rintro e w1 ⟨rfl, at1, c1, bad1, hB1, hF1, hO1, h1⟩
  have HO1 := Lib.hid (hO0.trans' hO1 (fun i hi => by have := HG.out; rcases hi with hi | hi; exact .inl hi; exact .inr (by omega)))
  have j2 : w1.cell? ⟨g, 2, none⟩ = some (.int .u32 (c1 : Int)) := hB1.cell 2
  have HB1 := Lib.hid (fun so => refuse_any (so := so) hB1)
  have HF1 := Lib.hid hF1
  have H1 := Lib.hid h1
  have hc1 : c1 < 4294967296 := by
    rcases h1 with ⟨_, rfl, _⟩ | ⟨x, _, rfl, _⟩
    · omega
    · have := x.toNat_lt; omega
  have HC1 := Lib.hid hc1
  clear hB0 hF0 hO0 hB1 hF1 hO1 h1 HF hc1
  go_wp2_with fail
  refine (HB1.out _).mono ?_
  rintro e w2 ⟨rfl, hB2, hg2⟩
  have hS2 := Only.of_grown (S := fun i => i = g) hg2 rfl
  have hw2 : OnWay w2 g f lo bs 0 := by
    have hF2 := HF1.out.only hS2 (fun i hi => by omega)
    refine ⟨at1, c1, _, hB2, hF2, HC1.out, ?_⟩
    rcases H1.out with ⟨rfl, rfl, h⟩ | ⟨x, rfl, rfl, h⟩
    · refine .inl ⟨rfl, started_short ?_⟩
      have := congrArg List.length h
      simp only [List.length_drop, List.length_nil] at this
      omega
    · have hx : bs.getD 0 0 = x := by
        cases bs with
        | nil => cases h
        | cons y t => injection h with h _
      have hl := congrArg List.length h
      simp only [List.length_cons, List.length_drop] at hl
      have hle := hF2.le
      by_cases h0 : x.toNat = 0
      · refine .inr ⟨by simp [h0], by omega, by omega, by rw [hx]; exact h0, by simp [be, h0]⟩
      · exact .inl ⟨by simp; omega, started_head (by rw [hx]; exact h0)⟩
  have HW2 := Lib.hid hw2
  have HO2 := Lib.hid (HO1.out.trans' hS2 (fun i hi => .inr (by have := HG.out; omega)))
  clear hB2 hg2 hS2 HB1 HF1 H1 HO1 HC1 j2 hw2
  go_wp2_with fail
  go_loopw [18] (fun i wr => ∃ j : Nat, j ≤ 4 ∧ i = .int .i64 (j : Int) ∧ OnWay wr g f lo bs j ∧ Only (fun i => i = f) w wr) (fun i _ => 4 - (intOf i).toNat)
  case atStart => exact ⟨0, by omega, rfl, HW2.out, HO2.out⟩
  case round =>
    clear HW2 HO2
    obtain ⟨j, hj, rfl, hw, ho⟩ := hrel
    by_cases hlt : j < 4
    · have K := Lib.hid (onway_any hw hfg hlt)
      have HO := Lib.hid ho
      have hlt' : (j : Int) < 4 := by omega
      clear hw ho
      go_wp2_with fail
      refine K.out.mono ?_
      rintro e w3 ⟨rfl, hw3, ho3⟩
      have HW3 := Lib.hid hw3
      have HO3 := Lib.hid (HO.out.trans' ho3 (fun i hi => by have := HG.out; rcases hi with hi | hi; exact .inl hi; exact .inr (by omega)))
      clear hw3 ho3
      go_wp2_with fail
      go_roundw
      case rel => exact ⟨j + 1, by omega, by go_num, HW3.out, HO3.out⟩
      case measure => simp [intOf]; omega
    · obtain rfl : j = 4 := by omega
      obtain ⟨at_, c, bad, hB, hF, hc, h0⟩ := hw
      have j1 : wr.drew.cell? ⟨g, 1, none⟩ = some (.int .u32 4294967295) := hB.cell 1
      have j2 : wr.drew.cell? ⟨g, 2, none⟩ = some (.int .u32 (c : Int)) := hB.cell 2
      have HB := Lib.hid (fun so => refuse_any (so := so) (show Blk wr.drew g 133 (pdCells f 4294967295 c bad) from hB))
      have HF := Lib.hid (show Feed wr.drew f lo bs at_ from hF)
      have HO := Lib.hid (ho.drew)
      have H0 := Lib.hid h0
      have HC := Lib.hid hc
      clear hB hF ho h0 hc
      go_wp2_with fail
      go_still_tail 10, (by kernel_rfl)
      change wpList _ _ _ _ _ wr.drew
      generalize wr.drew = w2 at *
      go_wp2_with fail
      refine (HB.out _).mono ?_
      rintro e w3 ⟨rfl, hB3, hg3⟩
      have HB3 := Lib.hid hB3
      have HG3 := Lib.hid (Only.of_grown (S := fun i => i = g) hg3 rfl)
      clear hB3 hg3
      go_wp2_with fail
      go_ret
      rw [HG.out]
      refine ⟨rfl, ⟨at_, 4294967295, c, _, HB3.out, HF.out.only HG3.out (fun i hi => by omega), hfg, HF.out.le, by omega, HC.out, ?_⟩, HO.out.trans' HG3.out (fun i hi => .inr (by have := HG.out; omega))⟩
      rcases H0.out with ⟨rfl, h⟩ | ⟨rfl, rfl, h⟩
      · exact .inl ⟨rfl, h⟩
      · rw [started_begun h]
        by_cases hcc : c < 4294967295
        · rw [if_pos hcc]
          exact .inr ⟨by simp; omega, rfl⟩
        · rw [if_neg hcc]
          exact .inl ⟨by simp; omega, rfl⟩


theorem madeNums (n : Nat) : (madeCells #[Value.int .u16 0] n).toList = pv (List.replicate n 0) := by
  rw [toList_madeCells_one]
  simp [pv]

set_option maxRecDepth 100000 in
set_option maxHeartbeats 2000000 in
theorem fresh_any {n : Nat} (hn : n ≤ 1000000) (w : World) :
    Calls Tryz.prog 91 #[.int .i64 (n : Int)] w fun e w' =>
      e = .returned (.slice (some ⟨w.heap.size, 0, none⟩) n n) ∧ Row w' w.heap.size (List.replicate n 1024) n ∧ Below w.heap.size w w' := by
  obtain ⟨i, hi, hz0, hz1, hz2⟩ := info_parts info_u16
  have h0 : ¬ (n : Int) < 0 := by omega
  have h1 : ¬ (n : Int) > 2147483647 := by omega
  go_enter Tryz.func91, Tryz.ntmps91
  go_wp2_with (first
      | (at_make; refine wpList_make_full _ rfl _ _ 61 rfl w.heap.size 91 i _ 1 Tryz.underlying61 hi hz0 hz1 _ _ _ _ n rfl rfl rfl rfl ?b1 ?b2 (by simp) ?_))
  case b1 => omega
  case b2 => unfold maxLen; omega
  intro w2 ho hg
  rw [madeNums] at ho
  have HO := Lib.hid ho
  have HG := Lib.hid (only_none hg)
  clear ho hg
  go_wp2_with fail
  go_loopw [4, 14] (fun _ k wr => ∃ j : Nat, j ≤ n ∧ k = .int .i64 (j : Int) ∧ wr.ownsRow w.heap.size 91 1 (.slice (some ⟨w.heap.size, 0, none⟩) n n) n (pv (List.replicate j 1024 ++ List.replicate (n - j) 0)) ∧ Below w.heap.size w wr) (fun _ k _ => n - (intOf k).toNat)
  case atStart => exact ⟨0, by omega, rfl, by simpa using HO.out, HG.out⟩
  case round =>
    clear HO HG
    obtain ⟨j, hj, rfl, ho, hb⟩ := hrel
    have HO := Lib.hid ho
    have HG := Lib.hid hb
    clear ho hb
    by_cases hlt : j < n
    · have hfree := HO.out.frozenAt j
      have hl2 : (pv (List.replicate j 1024 ++ List.replicate (n - j) 0)).length = n := by rw [pv_length]; simp; omega
      obtain ⟨old, hold⟩ : ∃ u, wr.cell? ⟨w.heap.size, j, none⟩ = some u := by
        rw [HO.out.cellAt j (by omega), List.getElem?_eq_getElem (by omega)]
        exact ⟨_, rfl⟩
      have i1 : (j : Int) < (n : Int) := by omega
      have i0 : (0 : Int) ≤ (j : Int) := by omega
      have HN := Lib.hid (show (pv (List.replicate j 1024 ++ List.replicate (n - j) 0)).set j (.int .u16 1024) = pv (List.replicate (j + 1) 1024 ++ List.replicate (n - (j + 1)) 0) by
        obtain ⟨m, hm⟩ : ∃ m, n - j = m + 1 := ⟨n - j - 1, by omega⟩
        rw [show n - (j + 1) = m by omega, hm, List.replicate_succ, show (Value.int .u16 1024) = .int .u16 ((1024 : Nat) : Int) from rfl, pv_set, List.set_append_right _ _ (by simp), List.length_replicate, Nat.sub_self, List.set_cons_zero, List.replicate_succ']
        simp)
      clear hl2
      go_wp2_with fail
      go_roundw
      case rel =>
        refine ⟨j + 1, by omega, by go_num, ?_, HG.out.setCell (by simp) _⟩
        have ho := (HO.out.stored j (.int .u16 1024)).1
        rw [HN.out] at ho
        exact ho
      case measure => simp [intOf]; omega
    · obtain rfl : j = n := by omega
      go_wp2_with fail
      go_ret
      refine ⟨rfl, ?_, HG.out⟩
      have ho := HO.out
      rw [Nat.sub_self, List.replicate_zero, List.append_nil] at ho
      unfold Row
      rw [List.length_replicate]
      exact own_mono ho (Nat.zero_le _)
end Go.Proofs.YtpdpbbmkicemdaaGreat

/-
  The program's probabilities of packets begin anew, wherever they lie.
-/
namespace Go.Proofs.YtpdpbbmkicemdaaGreat
open Go.RowKit

/-- since the world w0 the probabilities of D have begun -/
def RnAt (R : World → List Nat → Prop) (B : Nat → Prop) (w0 : World) (D : Nat → Prop) (w : World) : Prop :=
  ∃ ps, R w ps ∧ (∀ i, D i → ps.getD i 0 = 1024) ∧ Only B w0 w

section
variable {R : World → List Nat → Prop} {B : Nat → Prop} {ad : Nat → Nat × Nat} {L a b o n cap : Nat} {w w0 : World} {D : Nat → Prop}
theorem RnAt.mono {D' : Nat → Prop} (h : RnAt R B w0 D w) (hD : ∀ i, D' i → D i) : RnAt R B w0 D' w := by
  obtain ⟨ps, h1, h2, h3⟩ := h
  exact ⟨ps, h1, fun i hi => h2 i (hD i hi), h3⟩
theorem RnAt.quiet {w' : World} (h : RnAt R B w0 D w) (Z : Prb R B ad L) (hb : Below w.heap.size w w') : RnAt R B w0 D w' := by
  obtain ⟨ps, h1, h2, h3⟩ := h
  have ho : Only (fun _ => False) w w' := Only.of_below hb
  exact ⟨ps, Z.only h1 ho (fun _ _ h => h), h2, h3.trans (ho.mono fun _ h => h.elim)⟩
theorem RnAt.put (h : RnAt R B w0 D w) (Z : Prb R B ad L) (ha : a < L) (hab : ad a = (b, o)) : RnAt R B w0 (fun i => D i ∨ i = a) (w.setCell ⟨b, o, none⟩ (.int .u16 1024)) := by
  obtain ⟨ps, h1, h2, h3⟩ := h
  have hl := Z.len h1
  have hb := Z.blk ha
  have hp := Z.put h1 ha 1024
  rw [hab] at hp hb
  refine ⟨_, hp, fun i hi => ?_, h3.setCell (p := ⟨b, o, none⟩) (.inl hb) _⟩
  simp only [List.getD]
  by_cases hia : i = a
  · subst hia
    rw [List.getElem?_set]
    simp [hl, ha]
  · rw [List.getElem?_set_ne (fun e => hia e.symm)]
    rcases hi with hi | hi
    · exact h2 i hi
    · exact absurd hi hia
theorem RnAt.cell (h : RnAt R B w0 D w) (Z : Prb R B ad L) (ha : a < L) (hab : ad a = (b, o)) : ∃ u, w.cell? ⟨b, o, none⟩ = some u ∧ w.frozen? ⟨b, o, none⟩ = false ∧ b < w.heap.size := by
  obtain ⟨ps, h1, h2, h3⟩ := h
  have c := Z.cell h1 ha
  have f := Z.free h1 ha
  have l := Z.old h1 (Z.blk ha)
  rw [hab] at c f l
  exact ⟨_, c, f, l⟩

set_option maxRecDepth 100000 in
set_option maxHeartbeats 4000000 in
theorem renew_any (Z : Prb R B ad L) (had : ∀ j, j < n → ad (a + j) = (b, o + j)) (haL : a + n ≤ L) (hn : n ≤ 1000000) (h : RnAt R B w0 D w) :
    Calls Tryz.prog 61 #[.slice (some ⟨b, o, none⟩) n cap] w fun e w' => e = .returned (.tuple #[]) ∧ RnAt R B w0 (fun i => D i ∨ (a ≤ i ∧ i < a + n)) w' := by
  have KF := Lib.hid (fresh_any (n := 1) (by decide) w)
  have HR := Lib.hid h
  have HZ := Lib.hid Z
  have HAD := Lib.hid had
  clear h Z had
  go_enter Tryz.func61, Tryz.ntmps61
  go_wp2_with fail
  refine KF.out.mono ?_
  rintro e w1 ⟨rfl, hrow, hb⟩
  have x0 : w1.cell? ⟨w.heap.size, 0, none⟩ = some (.int .u16 1024) := hrow.cell (i := 0) (by decide)
  have HR1 := Lib.hid (HR.out.quiet HZ.out hb)
  clear hrow hb KF HR
  generalize w.heap.size = q at *
  go_wp2_with fail
  go_loopw [3, 9] (fun _ i wr => ∃ j : Nat, j ≤ n ∧ i = .int .i64 (j : Int) ∧ RnAt R B w0 (fun i => D i ∨ (a ≤ i ∧ i < a + j)) wr) (fun _ i _ => n - (intOf i).toNat)
  case atStart => exact ⟨0, by omega, rfl, HR1.out.mono (fun i hi => by rcases hi with h | h; exact h; omega)⟩
  case round =>
    clear HR1 x0
    obtain ⟨j, hj, rfl, hr⟩ := hrel
    by_cases hlt : j < n
    · obtain ⟨u, c0, f0, _⟩ := hr.cell HZ.out (by omega) (HAD.out j hlt)
      have i1 : (j : Int) < (n : Int) := by omega
      have i0 : (0 : Int) ≤ (j : Int) := by omega
      have HN := Lib.hid ((hr.put HZ.out (by omega) (HAD.out j hlt)).mono (D' := fun i => D i ∨ (a ≤ i ∧ i < a + (j + 1))) (fun i hi => by
        rcases hi with h | h
        · exact .inl (.inl h)
        · by_cases hi : i = a + j
          · exact .inr hi
          · exact .inl (.inr (by omega))))
      clear hr
      go_wp2_with fail
      go_roundw
      case rel => exact ⟨j + 1, by omega, by go_num, HN.out⟩
      case measure => simp [intOf]; omega
    · obtain rfl : j = n := by omega
      have HN := Lib.hid hr
      clear hr
      go_wp2_with fail
      first | go_end0 | refine bodyPost_ret (results_none rfl _ _ _) rfl ?_
      exact ⟨rfl, HN.out⟩
end

section
variable {R : World → List Nat → Prop} {B : Nat → Prop} {ad : Nat → Nat × Nat} {L g o0 : Nat} {w w0 : World} {D : Nat → Prop}

set_option maxRecDepth 100000 in
set_option maxHeartbeats 8000000 in
theorem lens_renew {A o : Nat} (Z : Prb R B ad L) (hy : Lay ad g o0) (hL : 1847 ≤ L) (hA : 688 ≤ A) (hA2 : A + 514 ≤ 1847) (hoA : o = o0 + (A - 256)) (h : RnAt R B w0 D w) :
    Calls Tryz.prog 90 #[.pointer (some ⟨g, o, none⟩)] w fun e w' => e = .returned (.tuple #[]) ∧ RnAt R B w0 (fun i => D i ∨ (A ≤ i ∧ i < A + 514)) w' := by
  have KF := Lib.hid (fresh_any (n := 2) (by decide) w)
  have HR := Lib.hid h
  have HZ := Lib.hid Z
  have HA := Lib.hid (And.intro hA (And.intro hA2 (And.intro hoA hL)))
  have HY := Lib.hid hy
  clear h Z hA hA2 hoA hL hy
  go_enter Tryz.func90, Tryz.ntmps90
  go_wp2_with fail
  refine KF.out.mono ?_
  rintro e w1 ⟨rfl, hrow, hb⟩
  obtain ⟨u0, d0, f0, l0⟩ := HR.out.cell (a := A) (b := g) (o := o) HZ.out (by have := HA.out; omega) (HY.out.rest HA.out.1 (by have := HA.out; omega) HA.out.2.2.1)
  have x0 : w1.cell? ⟨w.heap.size, 0, none⟩ = some (.int .u16 1024) := hrow.cell (i := 0) (by decide)
  have x1 : w1.cell? ⟨w.heap.size, 1, none⟩ = some (.int .u16 1024) := hrow.cell (i := 1) (by decide)
  have hr1 := HR.out.quiet HZ.out hb
  obtain ⟨u1, d1, f1, _⟩ := hr1.cell (a := A) (b := g) (o := o) HZ.out (by have := HA.out; omega) (HY.out.rest HA.out.1 (by have := HA.out; omega) HA.out.2.2.1)
  obtain ⟨u2, d2, f2, _⟩ := hr1.cell (a := A + 1) (b := g) (o := o + 1) HZ.out (by have := HA.out; omega) (HY.out.rest (by have := HA.out; omega) (by have := HA.out; omega) (by have := HA.out; omega))
  have HR2 := Lib.hid (((hr1.quiet HZ.out ((Below.refl w1.heap.size w1).drew)).put (a := A) (b := g) (o := o) HZ.out (by have := HA.out; omega) (HY.out.rest HA.out.1 (by have := HA.out; omega) HA.out.2.2.1)).put (a := A + 1) (b := g) (o := o + 1) HZ.out (by have := HA.out; omega) (HY.out.rest (by have := HA.out; omega) (by have := HA.out; omega) (by have := HA.out; omega)))
  clear hr1 hrow hb KF HR d0 f0
  have hne : w.heap.size ≠ g := by omega
  generalize w.heap.size = q at *
  go_wp2_with fail
  go_region
  all_goals go_wp2_with fail
  go_loopw [3, 17] (fun _ i wr => ∃ j : Nat, j ≤ 16 ∧ i = .int .i64 (j : Int) ∧ RnAt R B w0 (fun i => D i ∨ (A ≤ i ∧ i < A + 2 + 8 * j) ∨ (A + 130 ≤ i ∧ i < A + 130 + 8 * j)) wr) (fun _ i _ => 16 - (intOf i).toNat)
  case atStart => exact ⟨0, by omega, rfl, HR2.out.mono (fun i hi => by rcases hi with h | h | h; exact .inl (.inl h); by_cases e : i = A; exact .inl (.inr e); exact .inr (by omega); omega)⟩
  case round =>
    clear HR2 x0 x1 d1 d2 f1 f2
    obtain ⟨j, hj, rfl, hr⟩ := hrel
    by_cases hlt : j < 16
    · have KN := Lib.hid (renew_any (a := A + 2 + 8 * j) (b := g) (o := o + 2 + j * 8) (n := 8) (cap := 8) HZ.out (fun m hm => HY.out.rest (by have := HA.out; omega) (by have := HA.out; omega) (by have := HA.out; omega)) (by have := HA.out; omega) (by decide) hr)
      have KN2 := Lib.hid (fun (w2 : World) (D2 : Nat → Prop) (h2 : RnAt R B w0 D2 w2) => renew_any (a := A + 130 + 8 * j) (b := g) (o := o + 130 + j * 8) (n := 8) (cap := 8) HZ.out (fun m hm => HY.out.rest (by have := HA.out; omega) (by have := HA.out; omega) (by have := HA.out; omega)) (by have := HA.out; omega) (by decide) h2)
      have i1 : (j : Int) < 16 := by omega
      have i0 : (0 : Int) ≤ (j : Int) := by omega
      clear hr
      go_wp2_with fail
      refine KN.out.mono ?_
      rintro e w3 ⟨rfl, hr3⟩
      have KN3 := Lib.hid (KN2.out _ _ hr3)
      clear hr3 KN KN2
      go_wp2_with fail
      refine KN3.out.mono ?_
      rintro e w4 ⟨rfl, hr4⟩
      have HR4 := Lib.hid (hr4.mono (D' := fun i => D i ∨ (A ≤ i ∧ i < A + 2 + 8 * (j + 1)) ∨ (A + 130 ≤ i ∧ i < A + 130 + 8 * (j + 1))) (fun i hi => by
        rcases hi with h | h | h
        · exact .inl (.inl (.inl h))
        · by_cases h2 : i < A + 2 + 8 * j
          · exact .inl (.inl (.inr (.inl (by omega))))
          · exact .inl (.inr (by omega))
        · by_cases h2 : i < A + 130 + 8 * j
          · exact .inl (.inl (.inr (.inr (by omega))))
          · exact .inr (by omega)))
      clear hr4 KN3
      go_wp2_with fail
      go_roundw
      case rel => exact ⟨j + 1, by omega, by go_num, HR4.out⟩
      case measure => simp [intOf]; omega
    · obtain rfl : j = 16 := by omega
      have KN := Lib.hid (renew_any (a := A + 258) (b := g) (o := o + 258) (n := 256) (cap := 256) HZ.out (fun m hm => HY.out.rest (by have := HA.out; omega) (by have := HA.out; omega) (by have := HA.out; omega)) (by have := HA.out; omega) (by decide) hr)
      have i1 : ¬ ((16 : Nat) : Int) < 16 := by omega
      clear hr
      go_wp2_with fail
      refine KN.out.mono ?_
      rintro e w3 ⟨rfl, hr3⟩
      have HR3 := Lib.hid (hr3.mono (D' := fun i => D i ∨ (A ≤ i ∧ i < A + 514)) (fun i hi => by
        rcases hi with h | h
        · exact .inl (.inl h)
        · by_cases h2 : i < A + 130
          · exact .inl (.inr (.inl (by omega)))
          · by_cases h3 : i < A + 258
            · exact .inl (.inr (.inr (by omega)))
            · exact .inr (by omega)))
      clear hr3 KN
      go_wp2_with fail
      first | go_end0 | refine bodyPost_ret (results_none rfl _ _ _) rfl ?_
      exact ⟨rfl, HR3.out⟩

set_option maxRecDepth 100000 in
set_option maxHeartbeats 16000000 in
theorem chances_renew (Z : Prb R B ad L) (hy : Lay ad g o0) (hL : 1847 ≤ L) (h : RnAt R B w0 D w) :
    Calls Tryz.prog 60 #[.pointer (some ⟨g, o0, none⟩)] w fun e w' => e = .returned (.tuple #[]) ∧ RnAt R B w0 (fun i => D i ∨ i < 1847) w' := by
  have HR := Lib.hid h
  have HZ := Lib.hid Z
  have KR := Lib.hid (fun (a o n cap : Nat) (w2 : World) (D2 : Nat → Prop) (had : ∀ j, j < n → ad (a + j) = (g, o + j)) (haL : a + n ≤ 1847) (h2 : RnAt R B w0 D2 w2) => renew_any (a := a) (b := g) (o := o) (n := n) (cap := cap) Z had (by omega) (by omega) h2)
  have KL := Lib.hid (fun (A o : Nat) (w2 : World) (D2 : Nat → Prop) (h1 : 688 ≤ A) (h2 : A + 514 ≤ 1847) (h3 : o = o0 + (A - 256)) (h4 : RnAt R B w0 D2 w2) => lens_renew Z hy hL h1 h2 h3 h4)
  have HY := Lib.hid hy
  clear h Z hy hL
  go_enter Tryz.func60, Tryz.ntmps60
  go_wp2_with fail
  go_loopw [2, 4] (fun _ i wr => ∃ j : Nat, j ≤ 12 ∧ i = .int .i64 (j : Int) ∧ RnAt R B w0 (fun i => D i ∨ (i < 16 * j) ∨ (240 ≤ i ∧ i < 240 + 16 * j)) wr) (fun _ i _ => 12 - (intOf i).toNat)
  case atStart => exact ⟨0, by omega, rfl, HR.out.mono (fun i hi => by rcases hi with h | h | h; exact h; omega; omega)⟩
  case round =>
    clear HR
    obtain ⟨j, hj, rfl, hr⟩ := hrel
    by_cases hlt : j < 12
    · have KN := Lib.hid (KR.out (16 * j) (o0 + j * 16) 16 16 _ _ (fun m hm => HY.out.low (by omega) (by omega)) (by omega) hr)
      have KN2 := Lib.hid (fun (w2 : World) (D2 : Nat → Prop) (h2 : RnAt R B w0 D2 w2) => KR.out (240 + 16 * j) (o0 + 192 + j * 16) 16 16 _ _ (fun m hm => HY.out.long (by omega) (by omega) (by omega)) (by omega) h2)
      have i1 : (j : Int) < 12 := by omega
      have i0 : (0 : Int) ≤ (j : Int) := by omega
      clear hr
      go_wp2_with fail
      refine KN.out.mono ?_
      rintro e w3 ⟨rfl, hr3⟩
      have KN3 := Lib.hid (KN2.out _ _ hr3)
      clear hr3 KN KN2
      go_wp2_with fail
      refine KN3.out.mono ?_
      rintro e w4 ⟨rfl, hr4⟩
      have HR4 := Lib.hid (hr4.mono (D' := fun i => D i ∨ (i < 16 * (j + 1)) ∨ (240 ≤ i ∧ i < 240 + 16 * (j + 1))) (fun i hi => by
        rcases hi with h | h | h
        · exact .inl (.inl (.inl h))
        · by_cases h2 : i < 16 * j
          · exact .inl (.inl (.inr (.inl h2)))
          · exact .inl (.inr (by omega))
        · by_cases h2 : i < 240 + 16 * j
          · exact .inl (.inl (.inr (.inr (by omega))))
          · exact .inr (by omega)))
      clear hr4 KN3
      go_wp2_with fail
      go_roundw
      case rel => exact ⟨j + 1, by omega, by go_num, HR4.out⟩
      case measure => simp [intOf]; omega
    · obtain rfl : j = 12 := by omega
      have i1 : ¬ ((12 : Nat) : Int) < 12 := by omega
      have hq : RnAt R B w0 (fun i => D i ∨ i < 192 ∨ (240 ≤ i ∧ i < 432)) wr := hr.mono (fun i hi => by rcases hi with h | h | h; exact .inl h; exact .inr (.inl (by omega)); exact .inr (.inr (by omega)))
      have KN := Lib.hid (KR.out 192 (o0 + 384) 12 12 _ _ (fun m hm => HY.out.rep (by omega) (by omega) (by omega)) (by omega) hq)
      clear hr hq
      go_wp2_with fail
      refine KN.out.mono ?_
      rintro e w3 ⟨rfl, hr3⟩
      have KN := Lib.hid (KR.out 204 (o0 + 396) 12 12 _ _ (fun m hm => HY.out.rep (by omega) (by omega) (by omega)) (by omega) hr3)
      clear hr3
      go_wp2_with fail
      refine KN.out.mono ?_
      rintro e w4 ⟨rfl, hr3⟩
      have KN := Lib.hid (KR.out 216 (o0 + 408) 12 12 _ _ (fun m hm => HY.out.rep (by omega) (by omega) (by omega)) (by omega) hr3)
      clear hr3
      go_wp2_with fail
      refine KN.out.mono ?_
      rintro e w5 ⟨rfl, hr3⟩
      have KN := Lib.hid (KR.out 228 (o0 + 420) 12 12 _ _ (fun m hm => HY.out.rep (by omega) (by omega) (by omega)) (by omega) hr3)
      clear hr3
      go_wp2_with fail
      refine KN.out.mono ?_
      rintro e w6 ⟨rfl, hr3⟩
      have HR6 := Lib.hid (hr3.mono (D' := fun i => D i ∨ i < 432) (fun i hi => by
        rcases hi with h | h
        · exact .inl (.inl (.inl (.inl (.inl h))))
        · by_cases h1 : i < 192
          · exact .inl (.inl (.inl (.inl (.inr (.inl h1)))))
          · by_cases h2 : i < 204
            · exact .inl (.inl (.inl (.inr (by omega))))
            · by_cases h3 : i < 216
              · exact .inl (.inl (.inr (by omega)))
              · by_cases h4 : i < 228
                · exact .inl (.inr (by omega))
                · by_cases h5 : i < 240
                  · exact .inr (by omega)
                  · exact .inl (.inl (.inl (.inl (.inr (.inr (by omega))))))))
      clear hr3 KN
      go_wp2_with fail
      go_loopw [3, 42] (fun _ i wr => ∃ j : Nat, j ≤ 4 ∧ i = .int .i64 (j : Int) ∧ RnAt R B w0 (fun i => D i ∨ (i < 432 + 64 * j)) wr) (fun _ i _ => 4 - (intOf i).toNat)
      case atStart => exact ⟨0, by omega, rfl, HR6.out.mono (fun i hi => by rcases hi with h | h; exact .inl h; exact .inr (by omega))⟩
      case round =>
        clear HR6
        obtain ⟨j, hj, rfl, hr⟩ := hrel
        by_cases hlt2 : j < 4
        · have KN := Lib.hid (KR.out (432 + 64 * j) (o0 + 1591 + j * 64) 64 64 _ _ (fun m hm => HY.out.slot (by omega) (by omega) (by omega)) (by omega) hr)
          have i1 : (j : Int) < 4 := by omega
          have i0 : (0 : Int) ≤ (j : Int) := by omega
          clear hr
          go_wp2_with fail
          refine KN.out.mono ?_
          rintro e w7 ⟨rfl, hr4⟩
          have HR7 := Lib.hid (hr4.mono (D' := fun i => D i ∨ (i < 432 + 64 * (j + 1))) (fun i hi => by
            rcases hi with h | h
            · exact .inl (.inl h)
            · by_cases h2 : i < 432 + 64 * j
              · exact .inl (.inr h2)
              · exact .inr (by omega)))
          clear hr4 KN
          go_wp2_with fail
          go_roundw
          case rel => exact ⟨j + 1, by omega, by go_num, HR7.out⟩
          case measure => simp [intOf]; omega
        · obtain rfl : j = 4 := by omega
          have i2 : ¬ ((4 : Nat) : Int) < 4 := by omega
          have KN := Lib.hid (KR.out 688 (o0 + 432) 115 115 _ _ (fun m hm => HY.out.rest (by omega) (by omega) (by omega)) (by omega) hr)
          clear hr
          go_wp2_with fail
          refine KN.out.mono ?_
          rintro e w7 ⟨rfl, hr3⟩
          have KN := Lib.hid (KR.out 803 (o0 + 547) 16 16 _ _ (fun m hm => HY.out.rest (by omega) (by omega) (by omega)) (by omega) hr3)
          clear hr3
          go_wp2_with fail
          refine KN.out.mono ?_
          rintro e w8 ⟨rfl, hr3⟩
          have KN := Lib.hid (KL.out 819 (o0 + 563) _ _ (by omega) (by omega) (by omega) hr3)
          clear hr3
          go_wp2_with fail
          refine KN.out.mono ?_
          rintro e w9 ⟨rfl, hr3⟩
          have KN := Lib.hid (KL.out 1333 (o0 + 1077) _ _ (by omega) (by omega) (by omega) hr3)
          clear hr3
          go_wp2_with fail
          refine KN.out.mono ?_
          rintro e w10 ⟨rfl, hr3⟩
          have HR10 := Lib.hid (hr3.mono (D' := fun i => D i ∨ i < 1847) (fun i hi => by
            rcases hi with h | h
            · exact .inl (.inl (.inl (.inl (.inl h))))
            · by_cases h1 : i < 688
              · exact .inl (.inl (.inl (.inl (.inr (by omega)))))
              · by_cases h2 : i < 803
                · exact .inl (.inl (.inl (.inr (by omega))))
                · by_cases h3 : i < 819
                  · exact .inl (.inl (.inr (by omega)))
                  · by_cases h4 : i < 1333
                    · exact .inl (.inr (by omega))
                    · exact .inr (by omega)))
          clear hr3 KN
          go_wp2_with fail
          first | go_end0 | refine bodyPost_ret (results_none rfl _ _ _) rfl ?_
          exact ⟨rfl, HR10.out⟩
end
end Go.Proofs.YtpdpbbmkicemdaaGreat
