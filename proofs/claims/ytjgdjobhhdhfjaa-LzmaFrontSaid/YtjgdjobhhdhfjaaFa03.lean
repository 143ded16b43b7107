/-
  RdDec, RdEven, Prow, RdTell: put together.
-/
import Derived.Test.YtjgdjobhhdhfjaaFa02
import Derived.Deep.RegionLaw
import Derived.Deep.RegionHeld3
import Derived.StillTailTactics
import Derived.Test.YtjgdjobhhdhfjaaRows
import Derived.Test.YtjgdjobhhdhfjaaFa01
set_option linter.unusedVariables false
set_option linter.unusedSimpArgs false
/-
  The decoder's small calls: a byte comes in, the decoder is refused, what it told.
-/
namespace Go.Proofs.Ytjgdjobhhdhfjaa
open Go.RowKit

def pdCells (f r c : Nat) (bad : Bool) : Array Value := #[.iface 35 (.pointer (some ⟨f, 0, none⟩)), .int .u32 (r : Int), .int .u32 (c : Int), .bool bad]

/-- what state cells tell -/
def Told (bs : List UInt8) (d : Dc) (at_ r k : Nat) (bad : Bool) : Prop :=
  at_ ≤ bs.length ∧ r < 4294967296 ∧ k < 4294967296 ∧ ((bad = true ∧ d = none) ∨ (bad = false ∧ d = some (r, k, bs.drop at_)))

/-- Block g is the decoder over the feed at block f; its state is d. -/
def Pd (w : World) (g f lo : Nat) (bs : List UInt8) (d : Dc) : Prop :=
  ∃ at_ r c bad, Blk w g 128 (pdCells f r c bad) ∧ Feed w f lo bs at_ ∧ f < g ∧ Told bs d at_ r c bad

/-- the decoder's own blocks -/
def two (f g : Nat) : Nat → Prop := fun i => i = f ∨ i = g

theorem two_l (f g : Nat) : two f g f := .inl rfl
theorem two_r (f g : Nat) : two f g g := .inr rfl

theorem u32_of (x : Int) (h0 : 0 ≤ x) (h : x < 4294967296) : IntKind.u32.wrap x = x := by
  simp [IntKind.wrap, IntKind.bits, IntKind.signed]; omega
theorem u32_or_byte (c x : Nat) (hc : c < 16777216) (hx : x < 256) : bits .or .u32 ((c : Int) * 256) (x : Int) = ((c * 256 + x : Nat) : Int) := by
  rw [show (c : Int) * 256 = ((c * 256 : Nat) : Int) by omega, u32_or_nat _ _ (by omega) (by omega)]
  congr 1
  rw [Nat.or_comm]
  exact nat_join 8 (c * 256) x (by omega) (by omega) |> fun h => by rw [Nat.or_comm]; exact h

theorem method_next (a : Addr) (w : World) : (method 287 35 (.pointer (some a)) "Next").run Try.prog w = .ok (154, .pointer (some a)) w := by kernel_rfl

section
variable {g f lo r c at_ : Nat} {w : World} {bs : List UInt8}

set_option maxHeartbeats 1000000 in
theorem shift_bad (hB : Blk w g 128 (pdCells f r c true)) :
    Calls Try.prog 71 #[.pointer (some ⟨g, 0, none⟩)] w fun e w' => e = .returned (.tuple #[]) ∧ w = w' := by
  have h3 : w.cell? ⟨g, 3, none⟩ = some (.bool true) := hB.cell 3
  clear hB
  go_enter Try.func71, Try.ntmps71
  go_wp2_with fail
  first | go_end0 | refine bodyPost_ret (results_none rfl _ _ _) rfl ?_
  exact ⟨rfl, rfl⟩

set_option maxHeartbeats 1000000 in
theorem shift_end (hB : Blk w g 128 (pdCells f r c false)) (hF : Feed w f lo bs bs.length) :
    Calls Try.prog 71 #[.pointer (some ⟨g, 0, none⟩)] w fun e w' => e = .returned (.tuple #[]) ∧ Blk w' g 128 (pdCells f r c true) ∧ Only (fun i => i = g) w w' := by
  have h3 : w.cell? ⟨g, 3, none⟩ = some (.bool false) := hB.cell 3
  have h0 : w.cell? ⟨g, 0, none⟩ = some (.iface 35 (.pointer (some ⟨f, 0, none⟩))) := hB.cell 0
  have f3 : w.frozen? ⟨g, 3, none⟩ = false := hB.free 3
  have K := Lib.hid (feed_end hF)
  have hm := method_next
  have HB := Lib.hid hB
  clear hB hF
  go_enter Try.func71, Try.ntmps71
  go_wp2_with fail
  refine K.out.mono ?_
  rintro e w1 ⟨rfl, n, rfl⟩
  go_wp2_with fail
  first | go_end0 | refine bodyPost_ret (results_none rfl _ _ _) rfl ?_
  exact ⟨rfl, (HB.out.drewN n).put 3 _, (Only.drewN (Only.refl (fun i => i = g) w) n).setCell (.inl rfl) _⟩

set_option maxHeartbeats 1000000 in
theorem shift_more (hB : Blk w g 128 (pdCells f r c false)) (hF : Feed w f lo bs at_) (hfg : f < g) (ha : at_ < bs.length) (hc : c < 16777216) :
    Calls Try.prog 71 #[.pointer (some ⟨g, 0, none⟩)] w fun e w' => e = .returned (.tuple #[]) ∧ Blk w' g 128 (pdCells f r (c * 256 + (bs.getD at_ 0).toNat) false) ∧ Feed w' f lo bs (at_ + 1) ∧ Only (two f g) w w' := by
  have h3 : w.cell? ⟨g, 3, none⟩ = some (.bool false) := hB.cell 3
  have h0 : w.cell? ⟨g, 0, none⟩ = some (.iface 35 (.pointer (some ⟨f, 0, none⟩))) := hB.cell 0
  have K := Lib.hid (feed_more hF ha)
  have hm := method_next
  have HB := Lib.hid hB
  have hlo := hF.lo
  clear hB hF
  have hx := (bs.getD at_ 0).toNat_lt
  generalize bs.getD at_ 0 = x at *
  have e1 : IntKind.u32.wrap ((c : Int) * 256) = (c : Int) * 256 := u32_of _ (by omega) (by omega)
  have e2 := u32_or_byte c x.toNat hc (by omega)
  have e3 : IntKind.u32.wrap (x.toNat : Int) = (x.toNat : Int) := u32_of _ (by omega) (by omega)
  go_enter Try.func71, Try.ntmps71
  go_wp2_with fail
  refine K.out.mono ?_
  rintro e w1 ⟨rfl, hF1, hg1⟩
  have HF1 := Lib.hid hF1
  have HO := Lib.hid (Only.of_grown hg1 (two_l f g))
  have HB1 := Lib.hid (HB.out.grown hg1 (by intro h; injection h with h; omega))
  have j2 : w1.cell? ⟨g, 2, none⟩ = some (.int .u32 (c : Int)) := HB1.out.cell 2
  have z2 : w1.frozen? ⟨g, 2, none⟩ = false := HB1.out.free 2
  clear hF1 hg1 HB h0 h3
  go_wp2_with fail
  first | go_end0 | refine bodyPost_ret (results_none rfl _ _ _) rfl ?_
  exact ⟨rfl, HB1.out.put 2 _, HF1.out.only ((Only.refl (fun i => i = g) w1).setCell (.inl rfl) _) (fun i hi => by omega), HO.out.setCell (.inl (two_r f g)) _⟩

set_option maxHeartbeats 1000000 in
theorem refuse_any {bad so : Bool} (hB : Blk w g 128 (pdCells f r c bad)) :
    Calls Try.prog 72 #[.pointer (some ⟨g, 0, none⟩), .bool so] w fun e w' => e = .returned (.tuple #[]) ∧ Blk w' g 128 (pdCells f r c (bad || so)) ∧ w.grownBy w' (some g) := by
  have h3 : w.cell? ⟨g, 3, none⟩ = some (.bool bad) := hB.cell 3
  have z3 : w.frozen? ⟨g, 3, none⟩ = false := hB.free 3
  have HB := Lib.hid hB
  clear hB
  cases bad
  · go_enter Try.func72, Try.ntmps72
    go_wp2_with fail
    first | go_end0 | refine bodyPost_ret (results_none rfl _ _ _) rfl ?_
    exact ⟨rfl, HB.out.put 3 _, only_setCell (World.grownBy.refl w _) (.inl rfl) _⟩
  · go_enter Try.func72, Try.ntmps72
    go_wp2_with fail
    first | go_end0 | refine bodyPost_ret (results_none rfl _ _ _) rfl ?_
    exact ⟨rfl, HB.out.put 3 _, only_setCell (World.grownBy.refl w _) (.inl rfl) _⟩

set_option maxHeartbeats 1000000 in
theorem told_any {bad : Bool} {x : Int} (hB : Blk w g 128 (pdCells f r c bad)) :
    Calls Try.prog 117 #[.pointer (some ⟨g, 0, none⟩), .int .i64 x] w fun e w' => e = .returned (.int .i64 (if bad = true then 0 else x)) ∧ w = w' := by
  have h3 : w.cell? ⟨g, 3, none⟩ = some (.bool bad) := hB.cell 3
  clear hB
  cases bad
  all_goals
    go_enter Try.func117, Try.ntmps117
    go_wp2_with fail
    go_ret
    exact ⟨rfl, rfl⟩

set_option maxHeartbeats 1000000 in
theorem bad_any {bad : Bool} (hB : Blk w g 128 (pdCells f r c bad)) :
    Calls Try.prog 73 #[.pointer (some ⟨g, 0, none⟩)] w fun e w' => e = .returned (.bool bad) ∧ w = w' := by
  have h3 : w.cell? ⟨g, 3, none⟩ = some (.bool bad) := hB.cell 3
  clear hB
  go_enter Try.func73, Try.ntmps73
  go_wp2_with fail
  go_ret
  exact ⟨rfl, rfl⟩

set_option maxHeartbeats 1000000 in
theorem done_any {bad : Bool} (hB : Blk w g 128 (pdCells f r c bad)) :
    Calls Try.prog 54 #[.pointer (some ⟨g, 0, none⟩)] w fun e w' => e = .returned (.bool (!bad && decide (c = 0))) ∧ w = w' := by
  have h3 : w.cell? ⟨g, 3, none⟩ = some (.bool bad) := hB.cell 3
  have h2 : w.cell? ⟨g, 2, none⟩ = some (.int .u32 (c : Int)) := hB.cell 2
  clear hB
  cases bad
  · go_enter Try.func54, Try.ntmps54
    go_wp2_with fail
    go_ret
    exact ⟨ret_bool (by rw [Bool.eq_iff_iff]; simp), rfl⟩
  · go_enter Try.func54, Try.ntmps54
    go_wp2_with fail
    go_ret
    exact ⟨rfl, rfl⟩
end

/-- A byte comes in, ahead of which the state is not bad. -/
theorem shift_any {g f lo r c at_ : Nat} {w : World} {bs : List UInt8} (hB : Blk w g 128 (pdCells f r c false)) (hF : Feed w f lo bs at_) (hfg : f < g) (hc : c < 16777216) :
    Calls Try.prog 71 #[.pointer (some ⟨g, 0, none⟩)] w fun e w' => e = .returned (.tuple #[]) ∧
      ∃ at' c' bad', Blk w' g 128 (pdCells f r c' bad') ∧ Feed w' f lo bs at' ∧ Only (two f g) w w' ∧
        ((bad' = true ∧ c' = c ∧ bs.drop at_ = []) ∨ ∃ x, bad' = false ∧ c' = c * 256 + x.toNat ∧ bs.drop at_ = x :: bs.drop at') := by
  by_cases hlt : at_ < bs.length
  · have hd : bs.drop at_ = bs[at_] :: bs.drop (at_ + 1) := List.drop_eq_getElem_cons hlt
    have hx : bs.getD at_ 0 = bs[at_] := by simp [List.getD, hlt]
    refine (shift_more hB hF hfg hlt hc).mono ?_
    rintro e w' ⟨rfl, h1, h2, h3⟩
    rw [hx] at h1
    exact ⟨rfl, _, _, _, h1, h2, h3, .inr ⟨_, rfl, rfl, hd⟩⟩
  · have := hF.le
    obtain rfl : at_ = bs.length := by omega
    refine (shift_end hB hF).mono ?_
    rintro e w' ⟨rfl, h1, h3⟩
    exact ⟨rfl, _, _, _, h1, hF.only h3 (fun i hi => by omega), h3.mono (fun i h => .inr h), .inl ⟨rfl, rfl, by simp⟩⟩
end Go.Proofs.Ytjgdjobhhdhfjaa

/-
  The decoder is evened out, and tells a bit straight.
-/
namespace Go.Proofs.Ytjgdjobhhdhfjaa
open Go.RowKit

theorem Pd.only {S : Nat → Prop} {w w' : World} {g f lo : Nat} {bs : List UInt8} {d : Dc} (h : Pd w g f lo bs d) (hb : Only S w w') (hS : ∀ i, S i → i < lo ∨ g < i) : Pd w' g f lo bs d := by
  obtain ⟨at_, r, c, bad, hB, hF, hfg, ht⟩ := h
  have := hF.lo
  exact ⟨at_, r, c, bad, hB.only hb (fun h => by have := hS _ h; omega), hF.only hb (fun i hi => by have := hS i hi; omega), hfg, ht⟩
theorem Pd.drewN {w : World} {g f lo : Nat} {bs : List UInt8} {d : Dc} (h : Pd w g f lo bs d) (n : Nat) : Pd (w.drewN n) g f lo bs d := h
theorem Pd.lt {w : World} {g f lo : Nat} {bs : List UInt8} {d : Dc} (h : Pd w g f lo bs d) : g < w.heap.size := by
  obtain ⟨_, _, _, _, hB, _⟩ := h
  exact hB.lt
theorem Pd.lo {w : World} {g f lo : Nat} {bs : List UInt8} {d : Dc} (h : Pd w g f lo bs d) : lo ≤ f ∧ f < g := by
  obtain ⟨_, _, _, _, _, hF, h, _⟩ := h
  exact ⟨hF.lo, h⟩

section
variable {g f lo r c at_ : Nat} {w : World} {bs : List UInt8}

set_option maxRecDepth 100000 in
set_option maxHeartbeats 1000000 in
theorem even_high (hB : Blk w g 128 (pdCells f r c false)) (hr : ¬ r < 16777216) :
    Calls Try.prog 116 #[.pointer (some ⟨g, 0, none⟩)] w fun e w' => e = .returned (.tuple #[]) ∧ w = w' := by
  have h1 : w.cell? ⟨g, 1, none⟩ = some (.int .u32 (r : Int)) := hB.cell 1
  have hr' : ¬ (r : Int) < 16777216 := by omega
  clear hB
  go_enter Try.func116, Try.ntmps116
  go_wp2_with fail
  first | go_end0 | refine bodyPost_ret (results_none rfl _ _ _) rfl ?_
  exact ⟨rfl, rfl⟩

set_option maxRecDepth 100000 in
set_option maxHeartbeats 1000000 in
theorem even_any (hB : Blk w g 128 (pdCells f r c false)) (hF : Feed w f lo bs at_) (hfg : f < g) (hr : r < 4294967296) (hc : c ≤ r) :
    Calls Try.prog 116 #[.pointer (some ⟨g, 0, none⟩)] w fun e w' => e = .returned (.tuple #[]) ∧ Pd w' g f lo bs (lvl r c (bs.drop at_)) ∧ Only (two f g) w w' := by
  by_cases hlow : r < 16777216
  · have h1 : w.cell? ⟨g, 1, none⟩ = some (.int .u32 (r : Int)) := hB.cell 1
    have z1 : w.frozen? ⟨g, 1, none⟩ = false := hB.free 1
    have hr' : (r : Int) < 16777216 := by omega
    have e1 : IntKind.u32.wrap ((r : Int) * 256) = (r : Int) * 256 := u32_of _ (by omega) (by omega)
    have hO : Only (fun i => i = g) w (w.setCell ⟨g, 1, none⟩ (.int .u32 ((r : Int) * 256))) := (Only.refl (fun i => i = g) w).setCell (.inl rfl) _
    have hB1 : Blk (w.setCell ⟨g, 1, none⟩ (.int .u32 ((r : Int) * 256))) g 128 (pdCells f (r * 256) c false) := by
      have := hB.put 1 (.int .u32 ((r : Int) * 256))
      rw [← show ((r * 256 : Nat) : Int) = (r : Int) * 256 by omega] at this ⊢
      exact this
    have hlo := hF.lo
    have K := Lib.hid (shift_any hB1 (hF.only hO (fun i hi => by omega)) hfg (by omega))
    have HO := Lib.hid hO
    have hle := hF.le
    clear hB hF hO hB1
    go_enter Try.func116, Try.ntmps116
    go_wp2_with fail
    refine K.out.mono ?_
    rintro e w1 ⟨rfl, at', c', bad', hB2, hF2, hO2, hx⟩
    have HB2 := Lib.hid hB2
    have HF2 := Lib.hid hF2
    have HO2 := Lib.hid hO2
    have HX := Lib.hid hx
    clear hB2 hF2 hO2 hx
    go_wp2_with fail
    first | go_end0 | refine bodyPost_ret (results_none rfl _ _ _) rfl ?_
    refine ⟨rfl, ⟨at', r * 256, c', bad', HB2.out, HF2.out, hfg, HF2.out.le, by omega, ?_⟩, (HO.out.mono (fun i hi => .inr hi)).trans HO2.out⟩
    rcases HX.out with ⟨rfl, rfl, h⟩ | ⟨x, rfl, rfl, h⟩
    · refine ⟨by omega, .inl ⟨rfl, ?_⟩⟩
      unfold lvl
      rw [if_pos hlow, h]
    · have := x.toNat_lt
      refine ⟨by omega, .inr ⟨rfl, ?_⟩⟩
      unfold lvl
      rw [if_pos hlow, h]
  · refine (even_high hB hlow).mono ?_
    rintro e w' ⟨rfl, rfl⟩
    refine ⟨rfl, ⟨at_, r, c, false, hB, hF, hfg, hF.le, hr, by omega, .inr ⟨rfl, ?_⟩⟩, Only.refl _ _⟩
    unfold lvl
    rw [if_neg hlow]

/-- Straight, and the decoder refused, if it must be. -/
def OnePost (w : World) (g f lo : Nat) (bs : List UInt8) (d : Dc) (e : Ending) (w' : World) : Prop :=
  ∃ v : Nat, e = .returned (.int .u32 (v : Int)) ∧ v ≤ 1 ∧ ((oneD d).2 ≠ none → v = (oneD d).1) ∧ Pd w' g f lo bs (oneD d).2 ∧ Only (two f g) w w'

set_option maxRecDepth 100000 in
set_option maxHeartbeats 1000000 in
theorem one_bad (hB : Blk w g 128 (pdCells f r c true)) :
    Calls Try.prog 135 #[.pointer (some ⟨g, 0, none⟩)] w fun e w' => e = .returned (.int .u32 0) ∧ w = w' := by
  have h3 : w.cell? ⟨g, 3, none⟩ = some (.bool true) := hB.cell 3
  clear hB
  go_enter Try.func135, Try.ntmps135
  go_wp2_with fail
  go_ret
  exact ⟨rfl, rfl⟩

theorem lvl_ge {h k r' k' : Nat} {s s' : List UInt8} (hl : lvl h k s = some (r', k', s')) (hk : h ≤ k) : r' ≤ k' := by
  unfold lvl at hl
  split at hl
  · split at hl
    · cases hl
    · simp only [Option.some.injEq, Prod.mk.injEq] at hl
      omega
  · simp only [Option.some.injEq, Prod.mk.injEq] at hl
    omega
theorem one_told {bs s : List UInt8} {at' r' c' h c1 : Nat} {bad' : Bool} (ht : Told bs (lvl h c1 s) at' r' c' bad') (h0 : 65536 ≤ h) (h1 : h < 4294967296) :
    Told bs (if c1 < h then lvl h c1 s else none) at' r' c' (bad' || decide (r' ≤ c')) := by
  obtain ⟨t0, t1, t2, t3⟩ := ht
  refine ⟨t0, t1, t2, ?_⟩
  rcases t3 with ⟨rfl, t3⟩ | ⟨rfl, t3⟩
  · left
    rw [t3]
    exact ⟨rfl, by split <;> rfl⟩
  · by_cases hc : c1 < h
    · right
      have := dcOk_lvl h0 h1 hc _ _ _ t3
      rw [if_pos hc]
      exact ⟨by simp; omega, t3⟩
    · left
      have := lvl_ge t3 (by omega)
      rw [if_neg hc]
      exact ⟨by simp; omega, rfl⟩

set_option maxRecDepth 100000 in
set_option maxHeartbeats 2000000 in
theorem one_low (hB : Blk w g 128 (pdCells f r c false)) (hF : Feed w f lo bs at_) (hfg : f < g) (hr0 : 16777216 ≤ r) (hr : r < 4294967296) (hc : c < r / 2) :
    Calls Try.prog 135 #[.pointer (some ⟨g, 0, none⟩)] w fun e w' => e = .returned (.int .u32 0) ∧ Pd w' g f lo bs (lvl (r / 2) c (bs.drop at_)) ∧ Only (two f g) w w' := by
  have h1 : w.cell? ⟨g, 1, none⟩ = some (.int .u32 (r : Int)) := hB.cell 1
  have h2 : w.cell? ⟨g, 2, none⟩ = some (.int .u32 (c : Int)) := hB.cell 2
  have h3 : w.cell? ⟨g, 3, none⟩ = some (.bool false) := hB.cell 3
  have z1 : w.frozen? ⟨g, 1, none⟩ = false := hB.free 1
  have hr2 : (r : Int) / 2 = ((r / 2 : Nat) : Int) := by omega
  have hle : r / 2 ≤ r := Nat.div_le_self _ _
  have hge : 8388608 ≤ r / 2 := by omega
  generalize r / 2 = h at *
  have e1 : IntKind.u32.wrap ((r : Int) / 2) = (h : Int) := by rw [hr2]; exact u32_of _ (by omega) (by omega)
  have hO : Only (fun i => i = g) w (w.setCell ⟨g, 1, none⟩ (.int .u32 (h : Int))) := (Only.refl (fun i => i = g) w).setCell (.inl rfl) _
  have hB1 : Blk (w.setCell ⟨g, 1, none⟩ (.int .u32 (h : Int))) g 128 (pdCells f h c false) := hB.put 1 _
  have hlo := hF.lo
  have K := Lib.hid (fun n => even_any (hB1.drewN n) ((hF.only hO (fun i hi => by omega)).drewN n) hfg (by omega) (Nat.le_of_lt hc))
  have HO := Lib.hid (fun n => hO.drewN n)
  have hlt : ¬ (c : Int) ≥ (h : Int) := by omega
  clear hB hF hO hB1 
  go_enter Try.func135, Try.ntmps135
  go_wp2_with fail
  go_quiet (fail)
  go_wp2_with fail
  refine (K.out nq).mono ?_
  rintro e w1 ⟨rfl, ⟨at', r', c', bad', hB2, hF2, _, ht⟩, hO2⟩
  have j1 : w1.drew.cell? ⟨g, 1, none⟩ = some (.int .u32 (r' : Int)) := hB2.cell 1
  have j2 : w1.drew.cell? ⟨g, 2, none⟩ = some (.int .u32 (c' : Int)) := hB2.cell 2
  have HB2 := Lib.hid (fun so => refuse_any (so := so) (show Blk w1.drew g 128 (pdCells f r' c' bad') from hB2))
  have HF2 := Lib.hid (show Feed w1.drew f lo bs at' from hF2)
  have HT := Lib.hid ht
  have HO2 := Lib.hid (((HO.out nq).mono (fun i hi => .inr hi)).trans hO2.drew : Only (two f g) w w1.drew)
  clear hB2 hF2 ht hO2 HO K h1 h2 h3 z1
  go_wp2_with fail
  go_still_tail 10, (by kernel_rfl)
  change wpList _ _ _ _ _ w1.drew
  generalize w1.drew = w2 at *
  go_wp2_with fail
  refine (HB2.out _).mono ?_
  rintro e w3 ⟨rfl, hB3, hg3⟩
  have HB3 := Lib.hid hB3
  have HG3 := Lib.hid (Only.of_grown (S := fun i => i = g) hg3 rfl)
  clear hB3 hg3
  go_wp2_with fail
  go_ret
  refine ⟨rfl, ⟨at', r', c', _, HB3.out, HF2.out.only HG3.out (fun i hi => by omega), hfg, ?_⟩, HO2.out.trans (HG3.out.mono (fun i hi => .inr hi))⟩
  have := one_told HT.out (by omega) (by omega)
  rw [if_pos hc] at this
  exact this

/-- Behind a definition, so that no walk looks into it. -/
def HighPost (w : World) (g f lo : Nat) (bs s : List UInt8) (h k : Nat) (e : Ending) (w' : World) : Prop :=
  e = .returned (.int .u32 1) ∧ Pd w' g f lo bs (if k < h then lvl h k s else none) ∧ Only (two f g) w w'

set_option maxRecDepth 100000 in
set_option maxHeartbeats 2000000 in
theorem one_high (hB : Blk w g 128 (pdCells f r c false)) (hF : Feed w f lo bs at_) (hfg : f < g) (hr0 : 16777216 ≤ r) (hr : r < 4294967296) (hcr : c < r) (hc : ¬ c < r / 2) :
    Calls Try.prog 135 #[.pointer (some ⟨g, 0, none⟩)] w (HighPost w g f lo bs (bs.drop at_) (r / 2) (c - r / 2)) := by
  have h1 : w.cell? ⟨g, 1, none⟩ = some (.int .u32 (r : Int)) := hB.cell 1
  have h2 : w.cell? ⟨g, 2, none⟩ = some (.int .u32 (c : Int)) := hB.cell 2
  have h3 : w.cell? ⟨g, 3, none⟩ = some (.bool false) := hB.cell 3
  have z1 : w.frozen? ⟨g, 1, none⟩ = false := hB.free 1
  have z2 : w.frozen? ⟨g, 2, none⟩ = false := hB.free 2
  have hr2 : (r : Int) / 2 = ((r / 2 : Nat) : Int) := by omega
  have hle : r / 2 ≤ r := Nat.div_le_self _ _
  have hge : 8388608 ≤ r / 2 := by omega
  have hch : c - r / 2 ≤ r / 2 := by omega
  generalize r / 2 = h at *
  have e1 : IntKind.u32.wrap ((r : Int) / 2) = (h : Int) := by rw [hr2]; exact u32_of _ (by omega) (by omega)
  have e2 : IntKind.u32.wrap ((c : Int) - (h : Int)) = ((c - h : Nat) : Int) := by rw [show (c : Int) - (h : Int) = ((c - h : Nat) : Int) by omega]; exact u32_of _ (by omega) (by omega)
  have hO : ∀ n, Only (fun i => i = g) w (((w.setCell ⟨g, 1, none⟩ (.int .u32 (h : Int))).drewN n).setCell ⟨g, 2, none⟩ (.int .u32 ((c - h : Nat) : Int))) := fun n => (((Only.refl (fun i => i = g) w).setCell (p := ⟨g, 1, none⟩) (.inl rfl) _).drewN n).setCell (p := ⟨g, 2, none⟩) (.inl rfl) _
  have hB1 : ∀ n, Blk (((w.setCell ⟨g, 1, none⟩ (.int .u32 (h : Int))).drewN n).setCell ⟨g, 2, none⟩ (.int .u32 ((c - h : Nat) : Int))) g 128 (pdCells f h (c - h) false) := fun n => ((hB.put 1 _).drewN n).put 2 _
  have hlo := hF.lo
  have K := Lib.hid (fun n => even_any (hB1 n) (hF.only (hO n) (fun i hi => by omega)) hfg (by omega) hch)
  have HO := Lib.hid hO
  have hlt : (c : Int) ≥ (h : Int) := by omega
  clear hB hF hO hB1
  go_enter Try.func135, Try.ntmps135
  go_wp2_with fail
  go_quiet (fail)
  go_wp2_with fail
  go_region
  all_goals go_wp2_with fail
  refine (K.out (nq + 1)).mono ?_
  rintro e w1 ⟨rfl, ⟨at', r', c', bad', hB2, hF2, _, ht⟩, hO2⟩
  have j1 : w1.drew.cell? ⟨g, 1, none⟩ = some (.int .u32 (r' : Int)) := hB2.cell 1
  have j2 : w1.drew.cell? ⟨g, 2, none⟩ = some (.int .u32 (c' : Int)) := hB2.cell 2
  have HB2 := Lib.hid (fun so => refuse_any (so := so) (show Blk w1.drew g 128 (pdCells f r' c' bad') from hB2))
  have HF2 := Lib.hid (show Feed w1.drew f lo bs at' from hF2)
  have HT := Lib.hid ht
  have HO2 := Lib.hid (((HO.out (nq + 1)).mono (fun i hi => .inr hi)).trans hO2.drew : Only (two f g) w w1.drew)
  clear hB2 hF2 ht hO2 HO K h1 h2 h3 z1 z2
  go_wp2_with fail
  go_still_tail 10, (by kernel_rfl)
  change wpList _ _ _ _ _ w1.drew
  generalize w1.drew = w2 at *
  go_wp2_with fail
  refine (HB2.out _).mono ?_
  rintro e w3 ⟨rfl, hB3, hg3⟩
  have HB3 := Lib.hid hB3
  have HG3 := Lib.hid (Only.of_grown (S := fun i => i = g) hg3 rfl)
  clear hB3 hg3
  go_wp2_with fail
  go_ret
  refine ⟨rfl, ⟨at', r', c', _, HB3.out, HF2.out.only HG3.out (fun i hi => by omega), hfg, ?_⟩, HO2.out.trans (HG3.out.mono (fun i hi => .inr hi))⟩
  exact one_told HT.out (by omega) (by omega)

/-- A bit told straight. -/
theorem one_any {d : Dc} (h : Pd w g f lo bs d) (hd : DcOk d) :
    Calls Try.prog 135 #[.pointer (some ⟨g, 0, none⟩)] w (OnePost w g f lo bs d) := by
  obtain ⟨at_, r, c, bad, hB, hF, hfg, h0, h1, h2, h3⟩ := h
  rcases h3 with ⟨rfl, rfl⟩ | ⟨rfl, rfl⟩
  · refine (one_bad hB).mono ?_
    rintro e w' ⟨rfl, rfl⟩
    exact ⟨0, rfl, by omega, fun _ => rfl, ⟨at_, r, c, true, hB, hF, hfg, h0, h1, h2, .inl ⟨rfl, rfl⟩⟩, Only.refl _ _⟩
  · obtain ⟨d0, d1, d2⟩ := hd _ _ _ rfl
    by_cases hc : c < r / 2
    · refine (one_low hB hF hfg d0 d1 hc).mono ?_
      rintro e w' ⟨rfl, k1, k2⟩
      have e1 : oneD (some (r, c, bs.drop at_)) = (0, lvl (r / 2) c (bs.drop at_)) := by unfold oneD; simp only []; rw [if_pos hc]
      refine ⟨0, rfl, by omega, fun _ => by rw [e1], ?_, k2⟩
      rw [e1]
      exact k1
    · refine (one_high hB hF hfg d0 d1 d2 hc).mono ?_
      rintro e w' ⟨rfl, k1, k2⟩
      by_cases hc2 : c - r / 2 < r / 2
      · have e1 : oneD (some (r, c, bs.drop at_)) = (1, lvl (r / 2) (c - r / 2) (bs.drop at_)) := by unfold oneD; simp only []; rw [if_neg hc, if_pos hc2]
        refine ⟨1, rfl, by omega, fun _ => by rw [e1], ?_, k2⟩
        rw [e1]
        rw [if_pos hc2] at k1
        exact k1
      · have e1 : oneD (some (r, c, bs.drop at_)) = (0, none) := by unfold oneD; simp only []; rw [if_neg hc, if_neg hc2]
        refine ⟨1, rfl, by omega, fun h => by rw [e1] at h; exact absurd rfl h, ?_, k2⟩
        rw [e1]
        rw [if_neg hc2] at k1
        exact k1
end
end Go.Proofs.Ytjgdjobhhdhfjaa

/-
  Probabilities in a block of their own.
-/
namespace Go.Proofs.Ytjgdjobhhdhfjaa
open Go.RowKit

/-- probabilities as cells -/
def pv (ps : List Nat) : List Value := ps.map fun (p : Nat) => Value.int .u16 (p : Int)
theorem pv_length (ps : List Nat) : (pv ps).length = ps.length := by simp [pv]
theorem pv_get (ps : List Nat) (i : Nat) (h : i < ps.length) : (pv ps)[i]? = some (.int .u16 ((ps.getD i 0 : Nat) : Int)) := by
  simp [pv, List.getD, h]
theorem pv_set (ps : List Nat) (i q : Nat) : (pv ps).set i (.int .u16 (q : Int)) = pv (ps.set i q) := by
  simp [pv, List.map_set]

/-- Block b holds the probabilities ps. -/
def Row (w : World) (b : Nat) (ps : List Nat) (c : Nat) : Prop := w.ownsRow 0 25 1 (.slice (some ⟨b, 0, none⟩) ps.length c) ps.length (pv ps)

section
variable {w w' : World} {b c : Nat} {ps : List Nat}
theorem Row.cell (h : Row w b ps c) {i : Nat} (hi : i < ps.length) : w.cell? ⟨b, i, none⟩ = some (.int .u16 ((ps.getD i 0 : Nat) : Int)) := by
  rw [World.ownsRow.cellAt h i (by omega), pv_get ps i hi]
theorem Row.free (h : Row w b ps c) (i : Nat) : w.frozen? ⟨b, i, none⟩ = false := World.ownsRow.frozenAt h i
theorem Row.put (h : Row w b ps c) (i q : Nat) : Row (w.setCell ⟨b, i, none⟩ (.int .u16 (q : Int))) b (ps.set i q) c := by
  have := (World.ownsRow.stored h i (.int .u16 (q : Int))).1
  rw [pv_set] at this
  unfold Row
  rw [List.length_set]
  exact this
theorem Row.drewN (h : Row w b ps c) (n : Nat) : Row (w.drewN n) b ps c := h
theorem Row.only {S : Nat → Prop} (h : Row w b ps c) (hb : Only S w w') (hS : ¬ S b) : Row w' b ps c := own_only h hb hS
theorem Row.lt (h : Row w b ps c) : b < w.heap.size := (World.ownsRow.lt h b rfl).2
theorem Row.cap (h : Row w b ps c) : ps.length ≤ c ∧ c ≤ maxLen := by
  obtain ⟨_, h2, h3, _⟩ := own_facts h
  exact ⟨h2, h3⟩
end

end Go.Proofs.Ytjgdjobhhdhfjaa

/-
  The decoder tells a bit with a probability.
-/
namespace Go.Proofs.Ytjgdjobhhdhfjaa
open Go.RowKit

def three (f g b : Nat) : Nat → Prop := fun i => i = f ∨ i = g ∨ i = b
theorem u16_in (x : Int) (h : 0 ≤ x ∧ x < 65536) : IntKind.u16.wrap x = x := by
  simp [IntKind.wrap, IntKind.bits, IntKind.signed]
  omega

/-- What a bit leaves: behind a definition, so that no walk looks into it. -/
def TellPost (w : World) (g f lo b : Nat) (bs : List UInt8) (ps : List Nat) (pc v : Nat) (d : Dc) (e : Ending) (w' : World) : Prop :=
  e = .returned (.int .i64 (v : Int)) ∧ Pd w' g f lo bs d ∧ Row w' b ps pc ∧ Only (three f g b) w w'

section
variable {g f lo r c at_ b i p pc : Nat} {w : World} {bs : List UInt8} {ps : List Nat}

set_option maxRecDepth 100000 in
set_option maxHeartbeats 1000000 in
theorem bit_bad {a : Addr} (hB : Blk w g 128 (pdCells f r c true)) :
    Calls Try.prog 74 #[.pointer (some ⟨g, 0, none⟩), .pointer (some a)] w fun e w' => e = .returned (.int .i64 0) ∧ w = w' := by
  have h3 : w.cell? ⟨g, 3, none⟩ = some (.bool true) := hB.cell 3
  clear hB
  go_enter Try.func74, Try.ntmps74
  go_wp2_with fail
  go_ret
  exact ⟨rfl, rfl⟩

end
end Go.Proofs.Ytjgdjobhhdhfjaa
