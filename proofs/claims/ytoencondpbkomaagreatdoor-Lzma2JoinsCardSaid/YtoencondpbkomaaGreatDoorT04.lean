/-
  RdEven, Prow, RdTell, RdNums, RdRev, Be, RdBegun: put together.
-/
import Derived.Test.YtoencondpbkomaaGreatDoorT03
import Derived.Test.YtoencondpbkomaaGreatDoorRows
import Derived.Test.YtoencondpbkomaaGreatDoorT01
import Derived.LoopTactic
set_option linter.unusedVariables false
set_option linter.unusedSimpArgs false
/-
  The decoder is evened out, and tells a bit straight.
-/
namespace Go.Proofs.YtoencondpbkomaaGreatDoor
open Go.RowKit

theorem Pd.only {S : Sc} {T : Nat → Prop} {w w' : World} {g : Nat} {bs : List UInt8} {d : Dc} (hS : ScOk S) (h : Pd w g S bs d) (hb : Only T w w') (hT : ∀ i, T i → ¬ S.hold i ∧ i ≠ g) : Pd w' g S bs d := by
  obtain ⟨at_, r, c, bad, hB, hF, hg, ht⟩ := h
  exact ⟨at_, r, c, bad, hB.only hb (fun h => (hT _ h).2 rfl), hS.only hF hb (fun i hi => (hT i hi).1), hg, ht⟩
theorem Pd.drewN {S : Sc} {w : World} {g : Nat} {bs : List UInt8} {d : Dc} (hS : ScOk S) (h : Pd w g S bs d) (n : Nat) : Pd (w.drewN n) g S bs d :=
  h.only hS ((Only.refl (fun _ => False) w).drewN n) (fun _ hh => hh.elim)
theorem Pd.lt {S : Sc} {w : World} {g : Nat} {bs : List UInt8} {d : Dc} (h : Pd w g S bs d) : g < w.heap.size := by
  obtain ⟨_, _, _, _, hB, _⟩ := h
  exact hB.lt
theorem Pd.old {S : Sc} {w : World} {g i : Nat} {bs : List UInt8} {d : Dc} (hS : ScOk S) (h : Pd w g S bs d) (hi : S.hold i) : i < w.heap.size := by
  obtain ⟨_, _, _, _, _, hF, _, _⟩ := h
  exact hS.old hF hi

section
variable {g r c at_ : Nat} {w : World} {bs : List UInt8} {S : Sc}

set_option maxRecDepth 100000 in
set_option maxHeartbeats 1000000 in
theorem even_high {f : Nat} (hB : Blk w g 228 (pdCells f r c false)) (hr : ¬ r < 16777216) :
    Calls Tryz.prog 178 #[.pointer (some ⟨g, 0, none⟩)] w fun e w' => e = .returned (.tuple #[]) ∧ w = w' := by
  have h1 : w.cell? ⟨g, 1, none⟩ = some (.int .u32 (r : Int)) := hB.cell 1
  have hr' : ¬ (r : Int) < 16777216 := by omega
  clear hB
  go_enter Tryz.func178, Tryz.ntmps178
  go_wp2_with fail
  first | go_end0 | refine bodyPost_ret (results_none rfl _ _ _) rfl ?_
  exact ⟨rfl, rfl⟩

set_option maxRecDepth 100000 in
set_option maxHeartbeats 1000000 in
theorem even_any (hB : Blk w g 228 (pdCells S.f r c false)) (hS : ScOk S) (hF : S.At w bs at_) (hg : ¬ S.hold g) (hr : r < 4294967296) (hc : c ≤ r) :
    Calls Tryz.prog 178 #[.pointer (some ⟨g, 0, none⟩)] w fun e w' => e = .returned (.tuple #[]) ∧ Pd w' g S bs (lvl r c (bs.drop at_)) ∧ Only (two S g) w w' := by
  by_cases hlow : r < 16777216
  · have h1 : w.cell? ⟨g, 1, none⟩ = some (.int .u32 (r : Int)) := hB.cell 1
    have z1 : w.frozen? ⟨g, 1, none⟩ = false := hB.free 1
    have hr' : (r : Int) < 16777216 := by omega
    have e1 : IntKind.u32.wrap ((r : Int) * 256) = (r : Int) * 256 := u32_of _ (by omega) (by omega)
    have hO : Only (fun i => i = g) w (w.setCell ⟨g, 1, none⟩ (.int .u32 ((r : Int) * 256))) := (Only.refl (fun i => i = g) w).setCell (.inl rfl) _
    have hB1 : Blk (w.setCell ⟨g, 1, none⟩ (.int .u32 ((r : Int) * 256))) g 228 (pdCells S.f (r * 256) c false) := by
      have := hB.put 1 (.int .u32 ((r : Int) * 256))
      rw [← show ((r * 256 : Nat) : Int) = (r : Int) * 256 by omega] at this ⊢
      exact this
    have K := Lib.hid (shift_any hS hB1 (hS.only hF hO (fun i hi => hi ▸ hg)) hg (by omega))
    have HO := Lib.hid hO
    have hle := hS.le hF
    have HSG := Lib.hid (And.intro hS hg)
    clear hB hF hO hB1
    go_enter Tryz.func178, Tryz.ntmps178
    go_wp2_with fail
    refine K.out.mono ?_
    rintro e w1 ⟨rfl, at', c', bad', hB2, hF2, hO2, hx⟩
    have HB2 := Lib.hid hB2
    have HF2 := Lib.hid hF2
    have HO2 := Lib.hid hO2
    have HX := Lib.hid hx
    clear hB2 hF2 hO2 hx
    go_wp2_with fail
    first | go_end0 | refine bodyPost_ret (results_none rfl _ _ _) rfl ?_
    refine ⟨rfl, ⟨at', r * 256, c', bad', HB2.out, HF2.out, hg, hS.le HF2.out, by omega, ?_⟩, (HO.out.mono (fun i hi => .inr hi)).trans HO2.out⟩
    rcases HX.out with ⟨rfl, rfl, h⟩ | ⟨x, rfl, rfl, h⟩
    · refine ⟨by omega, .inl ⟨rfl, ?_⟩⟩
      unfold lvl
      rw [if_pos hlow, h]
    · have := x.toNat_lt
      refine ⟨by omega, .inr ⟨rfl, ?_⟩⟩
      unfold lvl
      rw [if_pos hlow, h]
  · refine (even_high hB hlow).mono ?_
    rintro e w' ⟨rfl, rfl⟩
    refine ⟨rfl, ⟨at_, r, c, false, hB, hF, hg, hS.le hF, hr, by omega, .inr ⟨rfl, ?_⟩⟩, Only.refl _ _⟩
    unfold lvl
    rw [if_neg hlow]

/-- Straight, and the decoder refused, if it must be. -/
def OnePost (w : World) (g : Nat) (S : Sc) (bs : List UInt8) (d : Dc) (e : Ending) (w' : World) : Prop :=
  ∃ v : Nat, e = .returned (.int .u32 (v : Int)) ∧ v ≤ 1 ∧ ((oneD d).2 ≠ none → v = (oneD d).1) ∧ Pd w' g S bs (oneD d).2 ∧ Only (two S g) w w'

set_option maxRecDepth 100000 in
set_option maxHeartbeats 1000000 in
theorem one_bad {f : Nat} (hB : Blk w g 228 (pdCells f r c true)) :
    Calls Tryz.prog 203 #[.pointer (some ⟨g, 0, none⟩)] w fun e w' => e = .returned (.int .u32 0) ∧ w = w' := by
  have h3 : w.cell? ⟨g, 3, none⟩ = some (.bool true) := hB.cell 3
  clear hB
  go_enter Tryz.func203, Tryz.ntmps203
  go_wp2_with fail
  go_ret
  exact ⟨rfl, rfl⟩

theorem lvl_ge {h k r' k' : Nat} {s s' : List UInt8} (hl : lvl h k s = some (r', k', s')) (hk : h ≤ k) : r' ≤ k' := by
  unfold lvl at hl
  split at hl
  · split at hl
    · cases hl
    · simp only [Option.some.injEq, Prod.mk.injEq] at hl
      omega
  · simp only [Option.some.injEq, Prod.mk.injEq] at hl
    omega
theorem one_told {bs s : List UInt8} {at' r' c' h c1 : Nat} {bad' : Bool} (ht : Told bs (lvl h c1 s) at' r' c' bad') (h0 : 65536 ≤ h) (h1 : h < 4294967296) :
    Told bs (if c1 < h then lvl h c1 s else none) at' r' c' (bad' || decide (r' ≤ c')) := by
  obtain ⟨t0, t1, t2, t3⟩ := ht
  refine ⟨t0, t1, t2, ?_⟩
  rcases t3 with ⟨rfl, t3⟩ | ⟨rfl, t3⟩
  · left
    rw [t3]
    exact ⟨rfl, by split <;> rfl⟩
  · by_cases hc : c1 < h
    · right
      have := dcOk_lvl h0 h1 hc _ _ _ t3
      rw [if_pos hc]
      exact ⟨by simp; omega, t3⟩
    · left
      have := lvl_ge t3 (by omega)
      rw [if_neg hc]
      exact ⟨by simp; omega, rfl⟩

set_option maxRecDepth 100000 in
set_option maxHeartbeats 2000000 in
theorem one_low (hB : Blk w g 228 (pdCells S.f r c false)) (hS : ScOk S) (hF : S.At w bs at_) (hg : ¬ S.hold g) (hr0 : 16777216 ≤ r) (hr : r < 4294967296) (hc : c < r / 2) :
    Calls Tryz.prog 203 #[.pointer (some ⟨g, 0, none⟩)] w fun e w' => e = .returned (.int .u32 0) ∧ Pd w' g S bs (lvl (r / 2) c (bs.drop at_)) ∧ Only (two S g) w w' := by
  have h1 : w.cell? ⟨g, 1, none⟩ = some (.int .u32 (r : Int)) := hB.cell 1
  have h2 : w.cell? ⟨g, 2, none⟩ = some (.int .u32 (c : Int)) := hB.cell 2
  have h3 : w.cell? ⟨g, 3, none⟩ = some (.bool false) := hB.cell 3
  have z1 : w.frozen? ⟨g, 1, none⟩ = false := hB.free 1
  have hr2 : (r : Int) / 2 = ((r / 2 : Nat) : Int) := by omega
  have hle : r / 2 ≤ r := Nat.div_le_self _ _
  have hge : 8388608 ≤ r / 2 := by omega
  generalize r / 2 = h at *
  have e1 : IntKind.u32.wrap ((r : Int) / 2) = (h : Int) := by rw [hr2]; exact u32_of _ (by omega) (by omega)
  have hO : Only (fun i => i = g) w (w.setCell ⟨g, 1, none⟩ (.int .u32 (h : Int))) := (Only.refl (fun i => i = g) w).setCell (.inl rfl) _
  have hB1 : Blk (w.setCell ⟨g, 1, none⟩ (.int .u32 (h : Int))) g 228 (pdCells S.f h c false) := hB.put 1 _
  have K := Lib.hid (fun n => even_any (hB1.drewN n) hS (hS.only hF (hO.drewN n) (fun i hi => hi ▸ hg)) hg (by omega) (Nat.le_of_lt hc))
  have HO := Lib.hid (fun n => hO.drewN n)
  have hlt : ¬ (c : Int) ≥ (h : Int) := by omega
  clear hB hF hO hB1 
  go_enter Tryz.func203, Tryz.ntmps203
  go_wp2_with fail
  go_quiet (fail)
  go_wp2_with fail
  refine (K.out nq).mono ?_
  rintro e w1 ⟨rfl, ⟨at', r', c', bad', hB2, hF2, _, ht⟩, hO2⟩
  have j1 : w1.drew.cell? ⟨g, 1, none⟩ = some (.int .u32 (r' : Int)) := hB2.cell 1
  have j2 : w1.drew.cell? ⟨g, 2, none⟩ = some (.int .u32 (c' : Int)) := hB2.cell 2
  have HB2 := Lib.hid (fun so => refuse_any (so := so) (show Blk w1.drew g 228 (pdCells S.f r' c' bad') from hB2))
  have HF2 := Lib.hid (show S.At w1.drew bs at' from hS.only hF2 ((Only.refl (fun _ => False) w1).drew) (fun _ hh => hh.elim))
  have HT := Lib.hid ht
  have HO2 := Lib.hid (((HO.out nq).mono (fun i hi => .inr hi)).trans hO2.drew : Only (two S g) w w1.drew)
  clear hB2 hF2 ht hO2 HO K h1 h2 h3 z1
  go_wp2_with fail
  go_still_tail 10, (by kernel_rfl)
  change wpList _ _ _ _ _ w1.drew
  generalize w1.drew = w2 at *
  go_wp2_with fail
  refine (HB2.out _).mono ?_
  rintro e w3 ⟨rfl, hB3, hg3⟩
  have HB3 := Lib.hid hB3
  have HG3 := Lib.hid (Only.of_grown (S := fun i => i = g) hg3 rfl)
  clear hB3 hg3
  go_wp2_with fail
  go_ret
  refine ⟨rfl, ⟨at', r', c', _, HB3.out, hS.only HF2.out HG3.out (fun i hi => hi ▸ hg), hg, ?_⟩, HO2.out.trans (HG3.out.mono (fun i hi => .inr hi))⟩
  have := one_told HT.out (by omega) (by omega)
  rw [if_pos hc] at this
  exact this

/-- Behind a definition, so that no walk looks into it. -/
def HighPost (w : World) (g : Nat) (S : Sc) (bs s : List UInt8) (h k : Nat) (e : Ending) (w' : World) : Prop :=
  e = .returned (.int .u32 1) ∧ Pd w' g S bs (if k < h then lvl h k s else none) ∧ Only (two S g) w w'

set_option maxRecDepth 100000 in
set_option maxHeartbeats 2000000 in
theorem one_high (hB : Blk w g 228 (pdCells S.f r c false)) (hS : ScOk S) (hF : S.At w bs at_) (hg : ¬ S.hold g) (hr0 : 16777216 ≤ r) (hr : r < 4294967296) (hcr : c < r) (hc : ¬ c < r / 2) :
    Calls Tryz.prog 203 #[.pointer (some ⟨g, 0, none⟩)] w (HighPost w g S bs (bs.drop at_) (r / 2) (c - r / 2)) := by
  have h1 : w.cell? ⟨g, 1, none⟩ = some (.int .u32 (r : Int)) := hB.cell 1
  have h2 : w.cell? ⟨g, 2, none⟩ = some (.int .u32 (c : Int)) := hB.cell 2
  have h3 : w.cell? ⟨g, 3, none⟩ = some (.bool false) := hB.cell 3
  have z1 : w.frozen? ⟨g, 1, none⟩ = false := hB.free 1
  have z2 : w.frozen? ⟨g, 2, none⟩ = false := hB.free 2
  have hr2 : (r : Int) / 2 = ((r / 2 : Nat) : Int) := by omega
  have hle : r / 2 ≤ r := Nat.div_le_self _ _
  have hge : 8388608 ≤ r / 2 := by omega
  have hch : c - r / 2 ≤ r / 2 := by omega
  generalize r / 2 = h at *
  have e1 : IntKind.u32.wrap ((r : Int) / 2) = (h : Int) := by rw [hr2]; exact u32_of _ (by omega) (by omega)
  have e2 : IntKind.u32.wrap ((c : Int) - (h : Int)) = ((c - h : Nat) : Int) := by rw [show (c : Int) - (h : Int) = ((c - h : Nat) : Int) by omega]; exact u32_of _ (by omega) (by omega)
  have hO : ∀ n, Only (fun i => i = g) w (((w.setCell ⟨g, 1, none⟩ (.int .u32 (h : Int))).drewN n).setCell ⟨g, 2, none⟩ (.int .u32 ((c - h : Nat) : Int))) := fun n => (((Only.refl (fun i => i = g) w).setCell (p := ⟨g, 1, none⟩) (.inl rfl) _).drewN n).setCell (p := ⟨g, 2, none⟩) (.inl rfl) _
  have hB1 : ∀ n, Blk (((w.setCell ⟨g, 1, none⟩ (.int .u32 (h : Int))).drewN n).setCell ⟨g, 2, none⟩ (.int .u32 ((c - h : Nat) : Int))) g 228 (pdCells S.f h (c - h) false) := fun n => ((hB.put 1 _).drewN n).put 2 _
  have K := Lib.hid (fun n => even_any (hB1 n) hS (hS.only hF (hO n) (fun i hi => hi ▸ hg)) hg (by omega) hch)
  have HO := Lib.hid hO
  have hlt : (c : Int) ≥ (h : Int) := by omega
  clear hB hF hO hB1
  go_enter Tryz.func203, Tryz.ntmps203
  go_wp2_with fail
  go_quiet (fail)
  go_wp2_with fail
  go_region
  all_goals go_wp2_with fail
  refine (K.out (nq + 1)).mono ?_
  rintro e w1 ⟨rfl, ⟨at', r', c', bad', hB2, hF2, _, ht⟩, hO2⟩
  have j1 : w1.drew.cell? ⟨g, 1, none⟩ = some (.int .u32 (r' : Int)) := hB2.cell 1
  have j2 : w1.drew.cell? ⟨g, 2, none⟩ = some (.int .u32 (c' : Int)) := hB2.cell 2
  have HB2 := Lib.hid (fun so => refuse_any (so := so) (show Blk w1.drew g 228 (pdCells S.f r' c' bad') from hB2))
  have HF2 := Lib.hid (show S.At w1.drew bs at' from hS.only hF2 ((Only.refl (fun _ => False) w1).drew) (fun _ hh => hh.elim))
  have HT := Lib.hid ht
  have HO2 := Lib.hid (((HO.out (nq + 1)).mono (fun i hi => .inr hi)).trans hO2.drew : Only (two S g) w w1.drew)
  clear hB2 hF2 ht hO2 HO K h1 h2 h3 z1 z2
  go_wp2_with fail
  go_still_tail 10, (by kernel_rfl)
  change wpList _ _ _ _ _ w1.drew
  generalize w1.drew = w2 at *
  go_wp2_with fail
  refine (HB2.out _).mono ?_
  rintro e w3 ⟨rfl, hB3, hg3⟩
  have HB3 := Lib.hid hB3
  have HG3 := Lib.hid (Only.of_grown (S := fun i => i = g) hg3 rfl)
  clear hB3 hg3
  go_wp2_with fail
  go_ret
  refine ⟨rfl, ⟨at', r', c', _, HB3.out, hS.only HF2.out HG3.out (fun i hi => hi ▸ hg), hg, ?_⟩, HO2.out.trans (HG3.out.mono (fun i hi => .inr hi))⟩
  exact one_told HT.out (by omega) (by omega)

/-- A bit told straight. -/
theorem one_any {d : Dc} (hS : ScOk S) (h : Pd w g S bs d) (hd : DcOk d) :
    Calls Tryz.prog 203 #[.pointer (some ⟨g, 0, none⟩)] w (OnePost w g S bs d) := by
  obtain ⟨at_, r, c, bad, hB, hF, hg, h0, h1, h2, h3⟩ := h
  rcases h3 with ⟨rfl, rfl⟩ | ⟨rfl, rfl⟩
  · refine (one_bad hB).mono ?_
    rintro e w' ⟨rfl, rfl⟩
    exact ⟨0, rfl, by omega, fun _ => rfl, ⟨at_, r, c, true, hB, hF, hg, h0, h1, h2, .inl ⟨rfl, rfl⟩⟩, Only.refl _ _⟩
  · obtain ⟨d0, d1, d2⟩ := hd _ _ _ rfl
    by_cases hc : c < r / 2
    · refine (one_low hB hS hF hg d0 d1 hc).mono ?_
      rintro e w' ⟨rfl, k1, k2⟩
      have e1 : oneD (some (r, c, bs.drop at_)) = (0, lvl (r / 2) c (bs.drop at_)) := by unfold oneD; simp only []; rw [if_pos hc]
      refine ⟨0, rfl, by omega, fun _ => by rw [e1], ?_, k2⟩
      rw [e1]
      exact k1
    · refine (one_high hB hS hF hg d0 d1 d2 hc).mono ?_
      rintro e w' ⟨rfl, k1, k2⟩
      by_cases hc2 : c - r / 2 < r / 2
      · have e1 : oneD (some (r, c, bs.drop at_)) = (1, lvl (r / 2) (c - r / 2) (bs.drop at_)) := by unfold oneD; simp only []; rw [if_neg hc, if_pos hc2]
        refine ⟨1, rfl, by omega, fun _ => by rw [e1], ?_, k2⟩
        rw [e1]
        rw [if_pos hc2] at k1
        exact k1
      · have e1 : oneD (some (r, c, bs.drop at_)) = (0, none) := by unfold oneD; simp only []; rw [if_neg hc, if_neg hc2]
        refine ⟨1, rfl, by omega, fun h => by rw [e1] at h; exact absurd rfl h, ?_, k2⟩
        rw [e1]
        rw [if_neg hc2] at k1
        exact k1
end
end Go.Proofs.YtoencondpbkomaaGreatDoor

/-
  Probabilities in a block of their own.
-/
namespace Go.Proofs.YtoencondpbkomaaGreatDoor
open Go.RowKit

/-- probabilities as cells -/
def pv (ps : List Nat) : List Value := ps.map fun (p : Nat) => Value.int .u16 (p : Int)
theorem pv_length (ps : List Nat) : (pv ps).length = ps.length := by simp [pv]
theorem pv_get (ps : List Nat) (i : Nat) (h : i < ps.length) : (pv ps)[i]? = some (.int .u16 ((ps.getD i 0 : Nat) : Int)) := by
  simp [pv, List.getD, h]
theorem pv_set (ps : List Nat) (i q : Nat) : (pv ps).set i (.int .u16 (q : Int)) = pv (ps.set i q) := by
  simp [pv, List.map_set]

/-- Block b holds the probabilities ps. -/
def Row (w : World) (b : Nat) (ps : List Nat) (c : Nat) : Prop := w.ownsRow 0 35 1 (.slice (some ⟨b, 0, none⟩) ps.length c) ps.length (pv ps)

section
variable {w w' : World} {b c : Nat} {ps : List Nat}
theorem Row.cell (h : Row w b ps c) {i : Nat} (hi : i < ps.length) : w.cell? ⟨b, i, none⟩ = some (.int .u16 ((ps.getD i 0 : Nat) : Int)) := by
  rw [World.ownsRow.cellAt h i (by omega), pv_get ps i hi]
theorem Row.free (h : Row w b ps c) (i : Nat) : w.frozen? ⟨b, i, none⟩ = false := World.ownsRow.frozenAt h i
theorem Row.put (h : Row w b ps c) (i q : Nat) : Row (w.setCell ⟨b, i, none⟩ (.int .u16 (q : Int))) b (ps.set i q) c := by
  have := (World.ownsRow.stored h i (.int .u16 (q : Int))).1
  rw [pv_set] at this
  unfold Row
  rw [List.length_set]
  exact this
theorem Row.drewN (h : Row w b ps c) (n : Nat) : Row (w.drewN n) b ps c := h
theorem Row.only {S : Nat → Prop} (h : Row w b ps c) (hb : Only S w w') (hS : ¬ S b) : Row w' b ps c := own_only h hb hS
theorem Row.lt (h : Row w b ps c) : b < w.heap.size := (World.ownsRow.lt h b rfl).2
theorem Row.cap (h : Row w b ps c) : ps.length ≤ c ∧ c ≤ maxLen := by
  obtain ⟨_, h2, h3, _⟩ := own_facts h
  exact ⟨h2, h3⟩
end

end Go.Proofs.YtoencondpbkomaaGreatDoor

/-
  The decoder tells a bit with a probability.
-/
namespace Go.Proofs.YtoencondpbkomaaGreatDoor
open Go.RowKit

def three (S : Sc) (g b : Nat) : Nat → Prop := fun i => S.turn i ∨ i = g ∨ i = b
theorem u16_in (x : Int) (h : 0 ≤ x ∧ x < 65536) : IntKind.u16.wrap x = x := by
  simp [IntKind.wrap, IntKind.bits, IntKind.signed]
  omega

/-- What a bit leaves: behind a definition, so that no walk looks into it. -/
def TellPost (w : World) (g : Nat) (S : Sc) (b : Nat) (bs : List UInt8) (ps : List Nat) (pc v : Nat) (d : Dc) (e : Ending) (w' : World) : Prop :=
  e = .returned (.int .i64 (v : Int)) ∧ Pd w' g S bs d ∧ Row w' b ps pc ∧ Only (three S g b) w w'

section
variable {g r c at_ b i p pc : Nat} {w : World} {bs : List UInt8} {ps : List Nat} {S : Sc}

set_option maxRecDepth 100000 in
set_option maxHeartbeats 1000000 in
theorem bit_bad {f : Nat} {a : Addr} (hB : Blk w g 228 (pdCells f r c true)) :
    Calls Tryz.prog 134 #[.pointer (some ⟨g, 0, none⟩), .pointer (some a)] w fun e w' => e = .returned (.int .i64 0) ∧ w = w' := by
  have h3 : w.cell? ⟨g, 3, none⟩ = some (.bool true) := hB.cell 3
  clear hB
  go_enter Tryz.func134, Tryz.ntmps134
  go_wp2_with fail
  go_ret
  exact ⟨rfl, rfl⟩

end
end Go.Proofs.YtoencondpbkomaaGreatDoor

/-
  The decoder tells numbers: straight, by a tree.
-/
namespace Go.Proofs.YtoencondpbkomaaGreatDoor
open Go.RowKit

/-- What a number told straight leaves. -/
def NumPost (w : World) (g : Nat) (S : Sc) (bs : List UInt8) (v : Nat) (d : Dc) (e : Ending) (w' : World) : Prop :=
  e = .returned (.int .u32 (v : Int)) ∧ Pd w' g S bs d ∧ Only (two S g) w w'

section
variable {g b pc : Nat} {w : World} {bs : List UInt8} {ps : List Nat} {S : Sc}

set_option maxRecDepth 100000 in
set_option maxHeartbeats 2000000 in
theorem straight_any {d : Dc} {n : Nat} (hS : ScOk S) (h : Pd w g S bs d) (hd : DcOk d) (hn : n ≤ 32) :
    Calls Tryz.prog 199 #[.pointer (some ⟨g, 0, none⟩), .int .i64 (n : Int)] w (NumPost w g S bs (straightD n d).1 (straightD n d).2) := by
  have HP := Lib.hid h
  have HD := Lib.hid hd
  clear h hd
  go_enter Tryz.func199, Tryz.ntmps199
  go_wp2_with fail
  go_loopw [5, 7] (fun v i wr => ∃ (j x : Nat), j ≤ n ∧ i = .int .i64 (j : Int) ∧ v = .int .u32 (x : Int) ∧ x < 2 ^ j ∧ ((straightGo d j).2 ≠ none → x = (straightGo d j).1) ∧ Pd wr g S bs (straightGo d j).2 ∧ Only (two S g) w wr) (fun _ i _ => n - (intOf i).toNat)
  case atStart => exact ⟨0, 0, Nat.zero_le _, rfl, rfl, by decide, fun _ => rfl, HP.out, Only.refl _ _⟩
  case round =>
    clear HP
    obtain ⟨j, x, hj, rfl, rfl, hx, hv, hp, ho⟩ := hrel
    have HV := Lib.hid hv
    have HO := Lib.hid ho
    clear hv ho
    by_cases hlt : j < n
    · have K := Lib.hid (one_any hS hp (straightGo_ok HD.out j).1)
      have hx31 : x < 2147483648 := Nat.lt_of_lt_of_le hx (Nat.pow_le_pow_right (n := 2) (by omega) (show j ≤ 31 by omega))
      have hx2 : 2 * x + 1 < 2 ^ (j + 1) := by rw [Nat.pow_succ]; omega
      have HX2 := Lib.hid hx2
      have e1 : IntKind.u32.wrap (2 * (x : Int)) = 2 * (x : Int) := u32_of _ (by omega) (by omega)
      have hlt' : (j : Int) < (n : Int) := by omega
      clear hx hx2 hp
      go_wp2_with fail
      refine K.out.mono ?_
      rintro e w1 ⟨v, rfl, hv1, hv2, hp1, ho1⟩
      have e2 : IntKind.u32.wrap (2 * (x : Int) + (v : Int)) = ((2 * x + v : Nat) : Int) := by rw [show 2 * (x : Int) + (v : Int) = ((2 * x + v : Nat) : Int) by omega]; exact u32_of _ (by omega) (by omega)
      have HV2 := Lib.hid hv2
      have HP1 := Lib.hid hp1
      have HO1 := Lib.hid (HO.out.trans ho1)
      clear hv2 hp1 ho1 HO K
      go_wp2_with fail
      go_roundw
      case rel =>
        refine ⟨j + 1, 2 * x + v, by omega, by go_num, rfl, by have := HX2.out; omega, fun h => ?_, HP1.out, HO1.out⟩
        show _ = 2 * (straightGo d j).1 + (oneD (straightGo d j).2).1
        rw [HV2.out h, HV.out (fun h0 => h (by show (oneD (straightGo d j).2).2 = none; rw [h0]; rfl))]
      case measure => simp [intOf]; omega
    · obtain rfl : j = n := by omega
      obtain ⟨at_, r, c, bad, hB, hF, hg, ht⟩ := hp
      have j3 : wr.cell? ⟨g, 3, none⟩ = some (.bool bad) := hB.cell 3
      have HB := Lib.hid hB
      have HF := Lib.hid hF
      have HT := Lib.hid ht
      clear hB hF ht hx
      cases bad
      · go_wp2_with fail
        go_ret
        refine ⟨?_, ⟨at_, r, c, _, HB.out, HF.out, hg, HT.out⟩, HO.out⟩
        have hne : (straightGo d j).2 ≠ none := by
          rcases HT.out.2.2.2 with ⟨h, _⟩ | ⟨_, h⟩
          · cases h
          · rw [h]; simp
        unfold straightD
        rw [if_neg hne, ← HV.out hne]
        rfl
      · go_wp2_with fail
        go_ret
        refine ⟨?_, ⟨at_, r, c, _, HB.out, HF.out, hg, HT.out⟩, HO.out⟩
        have hne : (straightGo d j).2 = none := by
          rcases HT.out.2.2.2 with ⟨_, h⟩ | ⟨h, _⟩
          · exact h
          · cases h
        unfold straightD
        rw [if_pos hne]
        rfl

end
end Go.Proofs.YtoencondpbkomaaGreatDoor

/-
  The decoder tells a number by a reverse tree.
-/
namespace Go.Proofs.YtoencondpbkomaaGreatDoor
open Go.RowKit

section
variable {g b pc : Nat} {w : World} {bs : List UInt8} {ps : List Nat} {S : Sc}

theorem ofInt_u64' (a : Nat) (h : a < 18446744073709551616) : (BitVec.ofInt 64 (a : Int)).toNat = a := by simp; omega
theorem i64_or_nat (a b : Nat) (ha : a < 9223372036854775808) (hb : b < 9223372036854775808) : bits .or .i64 (a : Int) (b : Int) = ((a ||| b : Nat) : Int) := by
  have hx : a ||| b < 2 ^ 63 := Nat.or_lt_two_pow (by omega) (by omega)
  show IntKind.i64.wrap ((BitVec.ofInt 64 (a : Int) ||| BitVec.ofInt 64 (b : Int)).toNat : Int) = _
  rw [BitVec.toNat_or, ofInt_u64' a (by omega), ofInt_u64' b (by omega)]
  exact IntWalk.i64_in _ (by omega)
theorem i64_or_shift (o u j : Nat) (ho : o < 2 ^ j) (hu : u ≤ 1) (hj : j < 8) : bits .or .i64 (o : Int) (wrap64 ((u : Int) * 2 ^ j)) = ((o + u * 2 ^ j : Nat) : Int) := by
  have hp : 2 ^ j ≤ 2 ^ 7 := Nat.pow_le_pow_right (n := 2) (by omega) (show j ≤ 7 by omega)
  have hm : u * 2 ^ j ≤ 1 * 2 ^ j := Nat.mul_le_mul_right _ hu
  have hw : wrap64 (((u * 2 ^ j : Nat) : Int)) = ((u * 2 ^ j : Nat) : Int) := by
    unfold wrap64
    generalize u * 2 ^ j = y at *
    omega
  rw [cast_pow2, ← Int.natCast_mul, hw, i64_or_nat _ _ (by omega) (by omega)]
  congr 1
  rw [Nat.or_comm, nat_join j (u * 2 ^ j) o (Nat.mul_mod_left _ _) ho]
  omega

end
end Go.Proofs.YtoencondpbkomaaGreatDoor

/-
  Bytes as a number, the greatest first.
-/
namespace Go.Proofs.YtoencondpbkomaaGreatDoor

/-- bytes as a number, the greatest first -/
def be (l : List UInt8) : Nat := l.foldl (fun a b => a * 256 + b.toNat) 0
theorem be_snoc (l : List UInt8) (x : UInt8) : be (l ++ [x]) = be l * 256 + x.toNat := by simp [be]
theorem be_append (l k : List UInt8) : be (l ++ k) = be l * 256 ^ k.length + be k := by
  generalize hn : k.length = n
  induction n generalizing k with
  | zero => rw [List.eq_nil_of_length_eq_zero hn]; simp [be]
  | succ n ih =>
    have hne : k ≠ [] := by intro e; rw [e] at hn; cases hn
    rw [← List.dropLast_concat_getLast hne, ← List.append_assoc, be_snoc, be_snoc, ih k.dropLast (by simp [hn]), Nat.pow_succ, ← Nat.mul_assoc, Nat.add_mul]
    omega
theorem be_lt (l : List UInt8) : ∀ n, l.length = n → be l < 256 ^ n := by
  intro n
  induction n generalizing l with
  | zero => intro h; rw [List.eq_nil_of_length_eq_zero h]; decide
  | succ n ih =>
    intro h
    have hne : l ≠ [] := by intro e; rw [e] at h; cases h
    rw [← List.dropLast_concat_getLast hne, be_snoc, Nat.pow_succ]
    have := ih l.dropLast (by simp [h])
    have := (l.getLast hne).toNat_lt
    omega
/-- the first l of the bytes, and what is behind -/
theorem be_take (bs : List UInt8) (l : Nat) : be (bs.take l) * 256 ^ (bs.length - l) ≤ be bs ∧ be bs < (be (bs.take l) + 1) * 256 ^ (bs.length - l) := by
  have e := be_append (bs.take l) (bs.drop l)
  rw [List.take_append_drop, List.length_drop] at e
  have h := be_lt (bs.drop l) (bs.length - l) (by simp)
  rw [Nat.add_mul]
  omega
theorem be_take_succ {bs : List UInt8} {l : Nat} (h : l < bs.length) : be (bs.take (l + 1)) = be (bs.take l) * 256 + (bs[l]).toNat := by
  rw [List.take_succ_eq_append_getElem h, be_snoc]
end Go.Proofs.YtoencondpbkomaaGreatDoor

/-
  How a decoder of ranges begins, as numbers (cut out of RdNew).
-/
namespace Go.Proofs.YtoencondpbkomaaGreatDoor

/-- behind the first byte and j more -/
def Begun (bs : List UInt8) (j c : Nat) : Prop := j + 1 ≤ bs.length ∧ (bs.getD 0 0).toNat = 0 ∧ c = be ((bs.drop 1).take j)

theorem started_short {bs : List UInt8} (h : bs.length < 5) : started bs = none := by
  unfold started
  split
  · simp only [List.length_cons] at h; omega
  · rfl
theorem started_head {bs : List UInt8} (h : (bs.getD 0 0).toNat ≠ 0) : started bs = none := by
  unfold started
  split
  · rename_i z a b c d t
    rw [if_neg]
    rintro ⟨h1, _⟩
    exact h h1
  · rfl
theorem started_begun {bs : List UInt8} {c : Nat} (h : Begun bs 4 c) : started bs = if c < 4294967295 then some (4294967295, c, bs.drop 5) else none := by
  obtain ⟨h1, h2, h3⟩ := h
  match bs, h1 with
  | z :: a :: b :: x :: d :: t, _ =>
    have e : c = ((a.toNat * 256 + b.toNat) * 256 + x.toNat) * 256 + d.toNat := by rw [h3]; simp [be]
    have hz : z.toNat = 0 := h2
    show (if z.toNat = 0 ∧ ((a.toNat * 256 + b.toNat) * 256 + x.toNat) * 256 + d.toNat < 4294967295 then some (4294967295, ((a.toNat * 256 + b.toNat) * 256 + x.toNat) * 256 + d.toNat, t) else none) = if c < 4294967295 then some (4294967295, c, t) else none
    rw [← e]
    by_cases hc : c < 4294967295
    · rw [if_pos ⟨hz, hc⟩, if_pos hc]
    · rw [if_neg (fun h => hc h.2), if_neg hc]
theorem begun_next {bs : List UInt8} {j c : Nat} {x : UInt8} {t : List UInt8} (h : Begun bs j c) (hd : bs.drop (j + 1) = x :: t) : Begun bs (j + 1) (c * 256 + x.toNat) := by
  obtain ⟨h1, h2, h3⟩ := h
  have hlt : j + 1 < bs.length := by
    rcases Nat.lt_or_ge (j + 1) bs.length with h | h
    · exact h
    · rw [List.drop_eq_nil_of_le h] at hd; cases hd
  have hx : bs[j + 1] = x := by
    have := List.drop_eq_getElem_cons hlt
    rw [hd] at this
    injection this with this
    exact this.symm
  refine ⟨hlt, h2, ?_⟩
  have hl : j < (bs.drop 1).length := by rw [List.length_drop]; omega
  rw [List.take_succ_eq_append_getElem hl, be_snoc, ← h3, List.getElem_drop]
  congr 2
  rw [← hx]
  congr 1
  simp only [Nat.add_comm]
theorem begun_lt {bs : List UInt8} {j c : Nat} (h : Begun bs j c) : c < 256 ^ j := by
  rw [h.2.2]
  refine be_lt _ _ ?_
  rw [List.length_take, List.length_drop]
  have := h.1
  omega

theorem info_u16 : (Tryz.prog.info? 35).map (fun i => (i.zero, i.size, i.bytes)) = some (some (.int .u16 0), 1, 2) := by kernel_rfl
end Go.Proofs.YtoencondpbkomaaGreatDoor
