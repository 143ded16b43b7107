/-
  The program's decoder of shares: its small calls: a byte comes in, the decoder is refused, what it told.
-/
import Derived.Test.YtkjhdpfomofggaaSrcFeed
import Derived.Test.YtkjhdpfomofggaaPrCon
import Derived.Deep.RegionLaw
import Derived.Deep.RegionHeld3
import Derived.StillTailTactics
namespace Go.Proofs.Ytkjhdpfomofggaa
open Go.RowKit

def pdCells (f r c : Nat) (bad : Bool) : Array Value := #[.iface 25 (.pointer (some ⟨f, 0, none⟩)), .int .u32 (r : Int), .int .u32 (c : Int), .bool bad]

/-- what state cells tell -/
def Told (bs : List UInt8) (d : Dc) (at_ r k : Nat) (bad : Bool) : Prop :=
  at_ ≤ bs.length ∧ r < 4294967296 ∧ k < 4294967296 ∧ ((bad = true ∧ d = none) ∨ (bad = false ∧ d = some (r, k, bs.drop at_)))

/-- Block g is the decoder over the feed at block f; its state is d. -/
def Pd (w : World) (g f lo : Nat) (bs : List UInt8) (d : Dc) : Prop :=
  ∃ at_ r c bad, Blk w g 62 (pdCells f r c bad) ∧ Feed w f lo bs at_ ∧ f < g ∧ Told bs d at_ r c bad

/-- the decoder's own blocks -/
def two (f g : Nat) : Nat → Prop := fun i => i = f ∨ i = g

theorem two_l (f g : Nat) : two f g f := .inl rfl
theorem two_r (f g : Nat) : two f g g := .inr rfl

theorem u32_of (x : Int) (h0 : 0 ≤ x) (h : x < 4294967296) : IntKind.u32.wrap x = x := by
  simp [IntKind.wrap, IntKind.bits, IntKind.signed]; omega
theorem u32_or_byte (c x : Nat) (hc : c < 16777216) (hx : x < 256) : bits .or .u32 ((c : Int) * 256) (x : Int) = ((c * 256 + x : Nat) : Int) := by
  rw [show (c : Int) * 256 = ((c * 256 : Nat) : Int) by omega, u32_or_nat _ _ (by omega) (by omega)]
  congr 1
  rw [Nat.or_comm]
  exact nat_join 8 (c * 256) x (by omega) (by omega) |> fun h => by rw [Nat.or_comm]; exact h

theorem nil_next (a : Addr) (w : World) : (nilAhead 191 25 (.pointer (some a)) "Next").run Try.prog w = .ok (some false) w := by kernel_rfl
theorem method_next (a : Addr) (w : World) : (method 191 25 (.pointer (some a)) "Next").run Try.prog w = .ok (58, .pointer (some a)) w := by kernel_rfl

section
variable {g f lo r c at_ : Nat} {w : World} {bs : List UInt8}

set_option maxHeartbeats 1000000 in
theorem shift_bad (hB : Blk w g 62 (pdCells f r c true)) :
    Calls Try.prog 30 #[.pointer (some ⟨g, 0, none⟩)] w fun e w' => e = .returned (.tuple #[]) ∧ w = w' := by
  have h3 : w.cell? ⟨g, 3, none⟩ = some (.bool true) := hB.cell 3
  clear hB
  go_enter Try.func30, Try.ntmps30
  go_wp2_with fail
  first | go_end0 | refine bodyPost_ret (results_none rfl _ _ _) rfl ?_
  exact ⟨rfl, rfl⟩

set_option maxHeartbeats 1000000 in
theorem shift_end (hB : Blk w g 62 (pdCells f r c false)) (hF : Feed w f lo bs bs.length) :
    Calls Try.prog 30 #[.pointer (some ⟨g, 0, none⟩)] w fun e w' => e = .returned (.tuple #[]) ∧ Blk w' g 62 (pdCells f r c true) ∧ Only (fun i => i = g) w w' := by
  have h3 : w.cell? ⟨g, 3, none⟩ = some (.bool false) := hB.cell 3
  have h0 : w.cell? ⟨g, 0, none⟩ = some (.iface 25 (.pointer (some ⟨f, 0, none⟩))) := hB.cell 0
  have f3 : w.frozen? ⟨g, 3, none⟩ = false := hB.free 3
  have K := Lib.hid (feed_end hF)
  have hm := method_next
  have HB := Lib.hid hB
  clear hB hF
  go_enter Try.func30, Try.ntmps30
  go_wp2_with fail
  refine K.out.mono ?_
  rintro e w1 ⟨rfl, n, rfl⟩
  go_wp2_with fail
  first | go_end0 | refine bodyPost_ret (results_none rfl _ _ _) rfl ?_
  exact ⟨rfl, (HB.out.drewN n).put 3 _, (Only.drewN (Only.refl (fun i => i = g) w) n).setCell (.inl rfl) _⟩

theorem feed_row {w w' : World} (hF : Feed w f lo bs at_) (hg : w.grownBy w' (some f)) : Only (two f g) w w' := Only.of_grown hg (two_l f g)

set_option maxHeartbeats 1000000 in
theorem shift_more (hB : Blk w g 62 (pdCells f r c false)) (hF : Feed w f lo bs at_) (hfg : f < g) (ha : at_ < bs.length) (hc : c < 16777216) :
    Calls Try.prog 30 #[.pointer (some ⟨g, 0, none⟩)] w fun e w' => e = .returned (.tuple #[]) ∧ Blk w' g 62 (pdCells f r (c * 256 + (bs.getD at_ 0).toNat) false) ∧ Feed w' f lo bs (at_ + 1) ∧ Only (two f g) w w' := by
  have h3 : w.cell? ⟨g, 3, none⟩ = some (.bool false) := hB.cell 3
  have h0 : w.cell? ⟨g, 0, none⟩ = some (.iface 25 (.pointer (some ⟨f, 0, none⟩))) := hB.cell 0
  have K := Lib.hid (feed_more hF ha)
  have hm := method_next
  have HB := Lib.hid hB
  have hlo := hF.lo
  clear hB hF
  have hx := (bs.getD at_ 0).toNat_lt
  generalize bs.getD at_ 0 = x at *
  have e1 : IntKind.u32.wrap ((c : Int) * 256) = (c : Int) * 256 := u32_of _ (by omega) (by omega)
  have e2 := u32_or_byte c x.toNat hc (by omega)
  have e3 : IntKind.u32.wrap (x.toNat : Int) = (x.toNat : Int) := u32_of _ (by omega) (by omega)
  go_enter Try.func30, Try.ntmps30
  go_wp2_with fail
  refine K.out.mono ?_
  rintro e w1 ⟨rfl, hF1, hg1⟩
  have HF1 := Lib.hid hF1
  have HO := Lib.hid (Only.of_grown hg1 (two_l f g))
  have HB1 := Lib.hid (HB.out.grown hg1 (by intro h; injection h with h; omega))
  have j2 : w1.cell? ⟨g, 2, none⟩ = some (.int .u32 (c : Int)) := HB1.out.cell 2
  have z2 : w1.frozen? ⟨g, 2, none⟩ = false := HB1.out.free 2
  clear hF1 hg1 HB h0 h3
  go_wp2_with fail
  first | go_end0 | refine bodyPost_ret (results_none rfl _ _ _) rfl ?_
  exact ⟨rfl, HB1.out.put 2 _, HF1.out.only ((Only.refl (fun i => i = g) w1).setCell (.inl rfl) _) (fun i hi => by omega), HO.out.setCell (.inl (two_r f g)) _⟩

set_option maxHeartbeats 1000000 in
theorem refuse_any {bad so : Bool} (hB : Blk w g 62 (pdCells f r c bad)) :
    Calls Try.prog 31 #[.pointer (some ⟨g, 0, none⟩), .bool so] w fun e w' => e = .returned (.tuple #[]) ∧ Blk w' g 62 (pdCells f r c (bad || so)) ∧ w.grownBy w' (some g) := by
  have h3 : w.cell? ⟨g, 3, none⟩ = some (.bool bad) := hB.cell 3
  have z3 : w.frozen? ⟨g, 3, none⟩ = false := hB.free 3
  have HB := Lib.hid hB
  clear hB
  cases bad
  · go_enter Try.func31, Try.ntmps31
    go_wp2_with fail
    first | go_end0 | refine bodyPost_ret (results_none rfl _ _ _) rfl ?_
    exact ⟨rfl, HB.out.put 3 _, only_setCell (World.grownBy.refl w _) (.inl rfl) _⟩
  · go_enter Try.func31, Try.ntmps31
    go_wp2_with fail
    first | go_end0 | refine bodyPost_ret (results_none rfl _ _ _) rfl ?_
    exact ⟨rfl, HB.out.put 3 _, only_setCell (World.grownBy.refl w _) (.inl rfl) _⟩

set_option maxHeartbeats 1000000 in
theorem bad_any {bad : Bool} (hB : Blk w g 62 (pdCells f r c bad)) :
    Calls Try.prog 19 #[.pointer (some ⟨g, 0, none⟩)] w fun e w' => e = .returned (.bool bad) ∧ w = w' := by
  have h3 : w.cell? ⟨g, 3, none⟩ = some (.bool bad) := hB.cell 3
  clear hB
  go_enter Try.func19, Try.ntmps19
  go_wp2_with fail
  go_ret
  exact ⟨rfl, rfl⟩

set_option maxHeartbeats 1000000 in
theorem done_any {bad : Bool} (hB : Blk w g 62 (pdCells f r c bad)) :
    Calls Try.prog 21 #[.pointer (some ⟨g, 0, none⟩)] w fun e w' => e = .returned (.bool (!bad && decide (c = 0))) ∧ w = w' := by
  have h3 : w.cell? ⟨g, 3, none⟩ = some (.bool bad) := hB.cell 3
  have h2 : w.cell? ⟨g, 2, none⟩ = some (.int .u32 (c : Int)) := hB.cell 2
  clear hB
  cases bad
  · go_enter Try.func21, Try.ntmps21
    go_wp2_with fail
    go_ret
    exact ⟨ret_bool (by rw [Bool.eq_iff_iff]; simp), rfl⟩
  · go_enter Try.func21, Try.ntmps21
    go_wp2_with fail
    go_ret
    exact ⟨rfl, rfl⟩
end

/-- A byte comes in, ahead of which the state is not bad. -/
theorem shift_any {g f lo r c at_ : Nat} {w : World} {bs : List UInt8} (hB : Blk w g 62 (pdCells f r c false)) (hF : Feed w f lo bs at_) (hfg : f < g) (hc : c < 16777216) :
    Calls Try.prog 30 #[.pointer (some ⟨g, 0, none⟩)] w fun e w' => e = .returned (.tuple #[]) ∧
      ∃ at' c' bad', Blk w' g 62 (pdCells f r c' bad') ∧ Feed w' f lo bs at' ∧ Only (two f g) w w' ∧
        ((bad' = true ∧ c' = c ∧ bs.drop at_ = []) ∨ ∃ x, bad' = false ∧ c' = c * 256 + x.toNat ∧ bs.drop at_ = x :: bs.drop at') := by
  by_cases hlt : at_ < bs.length
  · have hd : bs.drop at_ = bs[at_] :: bs.drop (at_ + 1) := List.drop_eq_getElem_cons hlt
    have hx : bs.getD at_ 0 = bs[at_] := by simp [List.getD, hlt]
    refine (shift_more hB hF hfg hlt hc).mono ?_
    rintro e w' ⟨rfl, h1, h2, h3⟩
    rw [hx] at h1
    exact ⟨rfl, _, _, _, h1, h2, h3, .inr ⟨_, rfl, rfl, hd⟩⟩
  · have := hF.le
    obtain rfl : at_ = bs.length := by omega
    refine (shift_end hB hF).mono ?_
    rintro e w' ⟨rfl, h1, h3⟩
    exact ⟨rfl, _, _, _, h1, hF.only h3 (fun i hi => by omega), h3.mono (fun i h => .inr h), .inl ⟨rfl, rfl, by simp⟩⟩
theorem Pd.only {S : Nat → Prop} {w w' : World} {g f lo : Nat} {bs : List UInt8} {d : Dc} (h : Pd w g f lo bs d) (hb : Only S w w') (hS : ∀ i, S i → i < lo ∨ g < i) : Pd w' g f lo bs d := by
  obtain ⟨at_, r, c, bad, hB, hF, hfg, ht⟩ := h
  have := hF.lo
  exact ⟨at_, r, c, bad, hB.only hb (fun h => by have := hS _ h; omega), hF.only hb (fun i hi => by have := hS i hi; omega), hfg, ht⟩
theorem Pd.drewN {w : World} {g f lo : Nat} {bs : List UInt8} {d : Dc} (h : Pd w g f lo bs d) (n : Nat) : Pd (w.drewN n) g f lo bs d := h
theorem Pd.lt {w : World} {g f lo : Nat} {bs : List UInt8} {d : Dc} (h : Pd w g f lo bs d) : g < w.heap.size := by
  obtain ⟨_, _, _, _, hB, _⟩ := h
  exact hB.lt
theorem Pd.lo {w : World} {g f lo : Nat} {bs : List UInt8} {d : Dc} (h : Pd w g f lo bs d) : lo ≤ f ∧ f < g := by
  obtain ⟨_, _, _, _, _, hF, h, _⟩ := h
  exact ⟨hF.lo, h⟩

end Go.Proofs.Ytkjhdpfomofggaa
