/-
  RdEven, Prow, RdTell: put together.
-/
import Derived.Test.YtdnkoeafnnohnaaV07
import Derived.Test.YtdnkoeafnnohnaaRows
import Derived.Test.YtdnkoeafnnohnaaV06
set_option linter.unusedVariables false
set_option linter.unusedSimpArgs false
/-
  The decoder is evened out, and tells a bit straight.
-/
namespace Go.Proofs.Ytdnkoeafnnohnaa
open Go.RowKit

theorem Pd.only {S : Sc} {T : Nat → Prop} {w w' : World} {g : Nat} {bs : List UInt8} {d : Dc} (hS : ScOk S) (h : Pd w g S bs d) (hb : Only T w w') (hT : ∀ i, T i → ¬ S.hold i ∧ i ≠ g) : Pd w' g S bs d := by
  obtain ⟨at_, r, c, bad, hB, hF, hg, ht⟩ := h
  exact ⟨at_, r, c, bad, hB.only hb (fun h => (hT _ h).2 rfl), hS.only hF hb (fun i hi => (hT i hi).1), hg, ht⟩
theorem Pd.drewN {S : Sc} {w : World} {g : Nat} {bs : List UInt8} {d : Dc} (hS : ScOk S) (h : Pd w g S bs d) (n : Nat) : Pd (w.drewN n) g S bs d :=
  h.only hS ((Only.refl (fun _ => False) w).drewN n) (fun _ hh => hh.elim)
theorem Pd.lt {S : Sc} {w : World} {g : Nat} {bs : List UInt8} {d : Dc} (h : Pd w g S bs d) : g < w.heap.size := by
  obtain ⟨_, _, _, _, hB, _⟩ := h
  exact hB.lt
theorem Pd.off {S : Sc} {w : World} {g : Nat} {bs : List UInt8} {d : Dc} (h : Pd w g S bs d) : ¬ S.hold g := by
  obtain ⟨_, _, _, _, _, _, h, _⟩ := h
  exact h
theorem Pd.old {S : Sc} {w : World} {g i : Nat} {bs : List UInt8} {d : Dc} (hS : ScOk S) (h : Pd w g S bs d) (hi : S.hold i) : i < w.heap.size := by
  obtain ⟨_, _, _, _, _, hF, _, _⟩ := h
  exact hS.old hF hi

section
variable {g r c at_ : Nat} {w : World} {bs : List UInt8} {S : Sc}

set_option maxRecDepth 100000 in
set_option maxHeartbeats 1000000 in
theorem even_high {f : Nat} (hB : Blk w g 91 (pdCells f r c false)) (hr : ¬ r < 16777216) :
    Calls Try.prog 55 #[.pointer (some ⟨g, 0, none⟩)] w fun e w' => e = .returned (.tuple #[]) ∧ w = w' := by
  have h1 : w.cell? ⟨g, 1, none⟩ = some (.int .u32 (r : Int)) := hB.cell 1
  have hr' : ¬ (r : Int) < 16777216 := by omega
  clear hB
  go_enter Try.func55, Try.ntmps55
  go_wp2_with fail
  first | go_end0 | refine bodyPost_ret (results_none rfl _ _ _) rfl ?_
  exact ⟨rfl, rfl⟩

set_option maxRecDepth 100000 in
set_option maxHeartbeats 1000000 in
theorem even_any (hB : Blk w g 91 (pdCells S.f r c false)) (hS : ScOk S) (hF : S.At w bs at_) (hg : ¬ S.hold g) (hr : r < 4294967296) (hc : c ≤ r) :
    Calls Try.prog 55 #[.pointer (some ⟨g, 0, none⟩)] w fun e w' => e = .returned (.tuple #[]) ∧ Pd w' g S bs (lvl r c (bs.drop at_)) ∧ Only (two S g) w w' := by
  by_cases hlow : r < 16777216
  · have h1 : w.cell? ⟨g, 1, none⟩ = some (.int .u32 (r : Int)) := hB.cell 1
    have z1 : w.frozen? ⟨g, 1, none⟩ = false := hB.free 1
    have hr' : (r : Int) < 16777216 := by omega
    have e1 : IntKind.u32.wrap ((r : Int) * 256) = (r : Int) * 256 := u32_of _ (by omega) (by omega)
    have hO : Only (fun i => i = g) w (w.setCell ⟨g, 1, none⟩ (.int .u32 ((r : Int) * 256))) := (Only.refl (fun i => i = g) w).setCell (.inl rfl) _
    have hB1 : Blk (w.setCell ⟨g, 1, none⟩ (.int .u32 ((r : Int) * 256))) g 91 (pdCells S.f (r * 256) c false) := by
      have := hB.put 1 (.int .u32 ((r : Int) * 256))
      rw [← show ((r * 256 : Nat) : Int) = (r : Int) * 256 by omega] at this ⊢
      exact this
    have K := Lib.hid (shift_any hS hB1 (hS.only hF hO (fun i hi => hi ▸ hg)) hg (by omega))
    have HO := Lib.hid hO
    have hle := hS.le hF
    have HSG := Lib.hid (And.intro hS hg)
    clear hB hF hO hB1
    go_enter Try.func55, Try.ntmps55
    go_wp2_with fail
    refine K.out.mono ?_
    rintro e w1 ⟨rfl, at', c', bad', hB2, hF2, hO2, hx⟩
    have HB2 := Lib.hid hB2
    have HF2 := Lib.hid hF2
    have HO2 := Lib.hid hO2
    have HX := Lib.hid hx
    clear hB2 hF2 hO2 hx
    go_wp2_with fail
    first | go_end0 | refine bodyPost_ret (results_none rfl _ _ _) rfl ?_
    refine ⟨rfl, ⟨at', r * 256, c', bad', HB2.out, HF2.out, hg, hS.le HF2.out, by omega, ?_⟩, (HO.out.mono (fun i hi => .inr hi)).trans HO2.out⟩
    rcases HX.out with ⟨rfl, rfl, h⟩ | ⟨x, rfl, rfl, h⟩
    · refine ⟨by omega, .inl ⟨rfl, ?_⟩⟩
      unfold lvl
      rw [if_pos hlow, h]
    · have := x.toNat_lt
      refine ⟨by omega, .inr ⟨rfl, ?_⟩⟩
      unfold lvl
      rw [if_pos hlow, h]
  · refine (even_high hB hlow).mono ?_
    rintro e w' ⟨rfl, rfl⟩
    refine ⟨rfl, ⟨at_, r, c, false, hB, hF, hg, hS.le hF, hr, by omega, .inr ⟨rfl, ?_⟩⟩, Only.refl _ _⟩
    unfold lvl
    rw [if_neg hlow]
end
end Go.Proofs.Ytdnkoeafnnohnaa

/-
  Probabilities in a block of their own.
-/
namespace Go.Proofs.Ytdnkoeafnnohnaa
open Go.RowKit

/-- probabilities as cells -/
def pv (ps : List Nat) : List Value := ps.map fun (p : Nat) => Value.int .u16 (p : Int)
theorem pv_length (ps : List Nat) : (pv ps).length = ps.length := by simp [pv]
theorem pv_get (ps : List Nat) (i : Nat) (h : i < ps.length) : (pv ps)[i]? = some (.int .u16 ((ps.getD i 0 : Nat) : Int)) := by
  simp [pv, List.getD, h]
theorem pv_set (ps : List Nat) (i q : Nat) : (pv ps).set i (.int .u16 (q : Int)) = pv (ps.set i q) := by
  simp [pv, List.map_set]

/-- Block b holds the probabilities ps. -/
def Row (w : World) (b : Nat) (ps : List Nat) (c : Nat) : Prop := w.ownsRow 0 46 1 (.slice (some ⟨b, 0, none⟩) ps.length c) ps.length (pv ps)

section
variable {w w' : World} {b c : Nat} {ps : List Nat}
theorem Row.cell (h : Row w b ps c) {i : Nat} (hi : i < ps.length) : w.cell? ⟨b, i, none⟩ = some (.int .u16 ((ps.getD i 0 : Nat) : Int)) := by
  rw [World.ownsRow.cellAt h i (by omega), pv_get ps i hi]
theorem Row.free (h : Row w b ps c) (i : Nat) : w.frozen? ⟨b, i, none⟩ = false := World.ownsRow.frozenAt h i
theorem Row.put (h : Row w b ps c) (i q : Nat) : Row (w.setCell ⟨b, i, none⟩ (.int .u16 (q : Int))) b (ps.set i q) c := by
  have := (World.ownsRow.stored h i (.int .u16 (q : Int))).1
  rw [pv_set] at this
  unfold Row
  rw [List.length_set]
  exact this
theorem Row.drewN (h : Row w b ps c) (n : Nat) : Row (w.drewN n) b ps c := h
theorem Row.only {S : Nat → Prop} (h : Row w b ps c) (hb : Only S w w') (hS : ¬ S b) : Row w' b ps c := own_only h hb hS
theorem Row.lt (h : Row w b ps c) : b < w.heap.size := (World.ownsRow.lt h b rfl).2
theorem Row.cap (h : Row w b ps c) : ps.length ≤ c ∧ c ≤ maxLen := by
  obtain ⟨_, h2, h3, _⟩ := own_facts h
  exact ⟨h2, h3⟩
end

end Go.Proofs.Ytdnkoeafnnohnaa

/-
  The decoder tells a bit with a probability.
-/
namespace Go.Proofs.Ytdnkoeafnnohnaa
open Go.RowKit

def three (S : Sc) (g b : Nat) : Nat → Prop := fun i => S.turn i ∨ i = g ∨ i = b
theorem u16_in (x : Int) (h : 0 ≤ x ∧ x < 65536) : IntKind.u16.wrap x = x := by
  simp [IntKind.wrap, IntKind.bits, IntKind.signed]
  omega

/-- What a bit leaves: behind a definition, so that no walk looks into it. -/
def TellPost (w : World) (g : Nat) (S : Sc) (b : Nat) (bs : List UInt8) (ps : List Nat) (pc v : Nat) (d : Dc) (e : Ending) (w' : World) : Prop :=
  e = .returned (.int .i64 (v : Int)) ∧ Pd w' g S bs d ∧ Row w' b ps pc ∧ Only (three S g b) w w'

section
variable {g r c at_ b i p pc : Nat} {w : World} {bs : List UInt8} {ps : List Nat} {S : Sc}

set_option maxRecDepth 100000 in
set_option maxHeartbeats 1000000 in
theorem bit_bad {f : Nat} {a : Addr} (hB : Blk w g 91 (pdCells f r c true)) :
    Calls Try.prog 48 #[.pointer (some ⟨g, 0, none⟩), .pointer (some a)] w fun e w' => e = .returned (.int .i64 0) ∧ w = w' := by
  have h3 : w.cell? ⟨g, 3, none⟩ = some (.bool true) := hB.cell 3
  clear hB
  go_enter Try.func48, Try.ntmps48
  go_wp2_with fail
  go_ret
  exact ⟨rfl, rfl⟩

end
end Go.Proofs.Ytdnkoeafnnohnaa
