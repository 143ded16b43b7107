/-
  RdDec, RdEven, Prow, RdTell, RdNums, RdRev, Be, RdBegun, RdNew: put together.
-/
import Derived.Test.YtdhhibfppcpieaaGreatDoorR03
import Derived.Deep.RegionLaw
import Derived.Deep.RegionHeld3
import Derived.StillTailTactics
import Derived.Test.YtdhhibfppcpieaaGreatDoorRows
import Derived.Test.YtdhhibfppcpieaaGreatDoorR02
import Derived.LoopTactic
import Derived.Laws.MakeOwn
set_option linter.unusedVariables false
set_option linter.unusedSimpArgs false
/-
  The decoder's small calls: a byte comes in, the decoder is refused, what it told.
-/
namespace Go.Proofs.YtdhhibfppcpieaaGreatDoor
open Go.RowKit

def pdCells (f r c : Nat) (bad : Bool) : Array Value := #[.iface 55 (.pointer (some ⟨f, 0, none⟩)), .int .u32 (r : Int), .int .u32 (c : Int), .bool bad]

/-- what state cells tell -/
def Told (bs : List UInt8) (d : Dc) (at_ r k : Nat) (bad : Bool) : Prop :=
  at_ ≤ bs.length ∧ r < 4294967296 ∧ k < 4294967296 ∧ ((bad = true ∧ d = none) ∨ (bad = false ∧ d = some (r, k, bs.drop at_)))

/-- Block g is the decoder over the feed at block f; its state is d. -/
def Pd (w : World) (g f lo : Nat) (bs : List UInt8) (d : Dc) : Prop :=
  ∃ at_ r c bad, Blk w g 218 (pdCells f r c bad) ∧ Feed w f lo bs at_ ∧ f < g ∧ Told bs d at_ r c bad

/-- the decoder's own blocks -/
def two (f g : Nat) : Nat → Prop := fun i => i = f ∨ i = g

theorem two_l (f g : Nat) : two f g f := .inl rfl
theorem two_r (f g : Nat) : two f g g := .inr rfl

theorem u32_of (x : Int) (h0 : 0 ≤ x) (h : x < 4294967296) : IntKind.u32.wrap x = x := by
  simp [IntKind.wrap, IntKind.bits, IntKind.signed]; omega
theorem u32_or_byte (c x : Nat) (hc : c < 16777216) (hx : x < 256) : bits .or .u32 ((c : Int) * 256) (x : Int) = ((c * 256 + x : Nat) : Int) := by
  rw [show (c : Int) * 256 = ((c * 256 : Nat) : Int) by omega, u32_or_nat _ _ (by omega) (by omega)]
  congr 1
  rw [Nat.or_comm]
  exact nat_join 8 (c * 256) x (by omega) (by omega) |> fun h => by rw [Nat.or_comm]; exact h

theorem method_next (a : Addr) (w : World) : (method 360 55 (.pointer (some a)) "Next").run Tryz.prog w = .ok (226, .pointer (some a)) w := by kernel_rfl

section
variable {g f lo r c at_ : Nat} {w : World} {bs : List UInt8}

set_option maxHeartbeats 1000000 in
theorem shift_end (hB : Blk w g 218 (pdCells f r c false)) (hF : Feed w f lo bs bs.length) :
    Calls Tryz.prog 158 #[.pointer (some ⟨g, 0, none⟩)] w fun e w' => e = .returned (.tuple #[]) ∧ Blk w' g 218 (pdCells f r c true) ∧ Only (fun i => i = g) w w' := by
  have h3 : w.cell? ⟨g, 3, none⟩ = some (.bool false) := hB.cell 3
  have h0 : w.cell? ⟨g, 0, none⟩ = some (.iface 55 (.pointer (some ⟨f, 0, none⟩))) := hB.cell 0
  have f3 : w.frozen? ⟨g, 3, none⟩ = false := hB.free 3
  have K := Lib.hid (feed_end hF)
  have hm := method_next
  have HB := Lib.hid hB
  clear hB hF
  go_enter Tryz.func158, Tryz.ntmps158
  go_wp2_with fail
  refine K.out.mono ?_
  rintro e w1 ⟨rfl, n, rfl⟩
  go_wp2_with fail
  first | go_end0 | refine bodyPost_ret (results_none rfl _ _ _) rfl ?_
  exact ⟨rfl, (HB.out.drewN n).put 3 _, (Only.drewN (Only.refl (fun i => i = g) w) n).setCell (.inl rfl) _⟩

set_option maxHeartbeats 1000000 in
theorem shift_more (hB : Blk w g 218 (pdCells f r c false)) (hF : Feed w f lo bs at_) (hfg : f < g) (ha : at_ < bs.length) (hc : c < 16777216) :
    Calls Tryz.prog 158 #[.pointer (some ⟨g, 0, none⟩)] w fun e w' => e = .returned (.tuple #[]) ∧ Blk w' g 218 (pdCells f r (c * 256 + (bs.getD at_ 0).toNat) false) ∧ Feed w' f lo bs (at_ + 1) ∧ Only (two f g) w w' := by
  have h3 : w.cell? ⟨g, 3, none⟩ = some (.bool false) := hB.cell 3
  have h0 : w.cell? ⟨g, 0, none⟩ = some (.iface 55 (.pointer (some ⟨f, 0, none⟩))) := hB.cell 0
  have K := Lib.hid (feed_more hF ha)
  have hm := method_next
  have HB := Lib.hid hB
  have hlo := hF.lo
  clear hB hF
  have hx := (bs.getD at_ 0).toNat_lt
  generalize bs.getD at_ 0 = x at *
  have e1 : IntKind.u32.wrap ((c : Int) * 256) = (c : Int) * 256 := u32_of _ (by omega) (by omega)
  have e2 := u32_or_byte c x.toNat hc (by omega)
  have e3 : IntKind.u32.wrap (x.toNat : Int) = (x.toNat : Int) := u32_of _ (by omega) (by omega)
  go_enter Tryz.func158, Tryz.ntmps158
  go_wp2_with fail
  refine K.out.mono ?_
  rintro e w1 ⟨rfl, hF1, hg1⟩
  have HF1 := Lib.hid hF1
  have HO := Lib.hid (Only.of_grown hg1 (two_l f g))
  have HB1 := Lib.hid (HB.out.grown hg1 (by intro h; injection h with h; omega))
  have j2 : w1.cell? ⟨g, 2, none⟩ = some (.int .u32 (c : Int)) := HB1.out.cell 2
  have z2 : w1.frozen? ⟨g, 2, none⟩ = false := HB1.out.free 2
  clear hF1 hg1 HB h0 h3
  go_wp2_with fail
  first | go_end0 | refine bodyPost_ret (results_none rfl _ _ _) rfl ?_
  exact ⟨rfl, HB1.out.put 2 _, HF1.out.only ((Only.refl (fun i => i = g) w1).setCell (.inl rfl) _) (fun i hi => by omega), HO.out.setCell (.inl (two_r f g)) _⟩

set_option maxHeartbeats 1000000 in
theorem told_any {bad : Bool} {x : Int} (hB : Blk w g 218 (pdCells f r c bad)) :
    Calls Tryz.prog 161 #[.pointer (some ⟨g, 0, none⟩), .int .i64 x] w fun e w' => e = .returned (.int .i64 (if bad = true then 0 else x)) ∧ w = w' := by
  have h3 : w.cell? ⟨g, 3, none⟩ = some (.bool bad) := hB.cell 3
  clear hB
  cases bad
  all_goals
    go_enter Tryz.func161, Tryz.ntmps161
    go_wp2_with fail
    go_ret
    exact ⟨rfl, rfl⟩

end

/-- A byte comes in, ahead of which the state is not bad. -/
theorem shift_any {g f lo r c at_ : Nat} {w : World} {bs : List UInt8} (hB : Blk w g 218 (pdCells f r c false)) (hF : Feed w f lo bs at_) (hfg : f < g) (hc : c < 16777216) :
    Calls Tryz.prog 158 #[.pointer (some ⟨g, 0, none⟩)] w fun e w' => e = .returned (.tuple #[]) ∧
      ∃ at' c' bad', Blk w' g 218 (pdCells f r c' bad') ∧ Feed w' f lo bs at' ∧ Only (two f g) w w' ∧
        ((bad' = true ∧ c' = c ∧ bs.drop at_ = []) ∨ ∃ x, bad' = false ∧ c' = c * 256 + x.toNat ∧ bs.drop at_ = x :: bs.drop at') := by
  by_cases hlt : at_ < bs.length
  · have hd : bs.drop at_ = bs[at_] :: bs.drop (at_ + 1) := List.drop_eq_getElem_cons hlt
    have hx : bs.getD at_ 0 = bs[at_] := by simp [List.getD, hlt]
    refine (shift_more hB hF hfg hlt hc).mono ?_
    rintro e w' ⟨rfl, h1, h2, h3⟩
    rw [hx] at h1
    exact ⟨rfl, _, _, _, h1, h2, h3, .inr ⟨_, rfl, rfl, hd⟩⟩
  · have := hF.le
    obtain rfl : at_ = bs.length := by omega
    refine (shift_end hB hF).mono ?_
    rintro e w' ⟨rfl, h1, h3⟩
    exact ⟨rfl, _, _, _, h1, hF.only h3 (fun i hi => by omega), h3.mono (fun i h => .inr h), .inl ⟨rfl, rfl, by simp⟩⟩
end Go.Proofs.YtdhhibfppcpieaaGreatDoor

/-
  The decoder is evened out, and tells a bit straight.
-/
namespace Go.Proofs.YtdhhibfppcpieaaGreatDoor
open Go.RowKit

theorem Pd.only {S : Nat → Prop} {w w' : World} {g f lo : Nat} {bs : List UInt8} {d : Dc} (h : Pd w g f lo bs d) (hb : Only S w w') (hS : ∀ i, S i → i < lo ∨ g < i) : Pd w' g f lo bs d := by
  obtain ⟨at_, r, c, bad, hB, hF, hfg, ht⟩ := h
  have := hF.lo
  exact ⟨at_, r, c, bad, hB.only hb (fun h => by have := hS _ h; omega), hF.only hb (fun i hi => by have := hS i hi; omega), hfg, ht⟩
theorem Pd.drewN {w : World} {g f lo : Nat} {bs : List UInt8} {d : Dc} (h : Pd w g f lo bs d) (n : Nat) : Pd (w.drewN n) g f lo bs d := h
theorem Pd.lt {w : World} {g f lo : Nat} {bs : List UInt8} {d : Dc} (h : Pd w g f lo bs d) : g < w.heap.size := by
  obtain ⟨_, _, _, _, hB, _⟩ := h
  exact hB.lt
theorem Pd.lo {w : World} {g f lo : Nat} {bs : List UInt8} {d : Dc} (h : Pd w g f lo bs d) : lo ≤ f ∧ f < g := by
  obtain ⟨_, _, _, _, _, hF, h, _⟩ := h
  exact ⟨hF.lo, h⟩

section
variable {g f lo r c at_ : Nat} {w : World} {bs : List UInt8}

set_option maxRecDepth 100000 in
set_option maxHeartbeats 1000000 in
theorem even_high (hB : Blk w g 218 (pdCells f r c false)) (hr : ¬ r < 16777216) :
    Calls Tryz.prog 160 #[.pointer (some ⟨g, 0, none⟩)] w fun e w' => e = .returned (.tuple #[]) ∧ w = w' := by
  have h1 : w.cell? ⟨g, 1, none⟩ = some (.int .u32 (r : Int)) := hB.cell 1
  have hr' : ¬ (r : Int) < 16777216 := by omega
  clear hB
  go_enter Tryz.func160, Tryz.ntmps160
  go_wp2_with fail
  first | go_end0 | refine bodyPost_ret (results_none rfl _ _ _) rfl ?_
  exact ⟨rfl, rfl⟩

set_option maxRecDepth 100000 in
set_option maxHeartbeats 1000000 in
theorem even_any (hB : Blk w g 218 (pdCells f r c false)) (hF : Feed w f lo bs at_) (hfg : f < g) (hr : r < 4294967296) (hc : c ≤ r) :
    Calls Tryz.prog 160 #[.pointer (some ⟨g, 0, none⟩)] w fun e w' => e = .returned (.tuple #[]) ∧ Pd w' g f lo bs (lvl r c (bs.drop at_)) ∧ Only (two f g) w w' := by
  by_cases hlow : r < 16777216
  · have h1 : w.cell? ⟨g, 1, none⟩ = some (.int .u32 (r : Int)) := hB.cell 1
    have z1 : w.frozen? ⟨g, 1, none⟩ = false := hB.free 1
    have hr' : (r : Int) < 16777216 := by omega
    have e1 : IntKind.u32.wrap ((r : Int) * 256) = (r : Int) * 256 := u32_of _ (by omega) (by omega)
    have hO : Only (fun i => i = g) w (w.setCell ⟨g, 1, none⟩ (.int .u32 ((r : Int) * 256))) := (Only.refl (fun i => i = g) w).setCell (.inl rfl) _
    have hB1 : Blk (w.setCell ⟨g, 1, none⟩ (.int .u32 ((r : Int) * 256))) g 218 (pdCells f (r * 256) c false) := by
      have := hB.put 1 (.int .u32 ((r : Int) * 256))
      rw [← show ((r * 256 : Nat) : Int) = (r : Int) * 256 by omega] at this ⊢
      exact this
    have hlo := hF.lo
    have K := Lib.hid (shift_any hB1 (hF.only hO (fun i hi => by omega)) hfg (by omega))
    have HO := Lib.hid hO
    have hle := hF.le
    clear hB hF hO hB1
    go_enter Tryz.func160, Tryz.ntmps160
    go_wp2_with fail
    refine K.out.mono ?_
    rintro e w1 ⟨rfl, at', c', bad', hB2, hF2, hO2, hx⟩
    have HB2 := Lib.hid hB2
    have HF2 := Lib.hid hF2
    have HO2 := Lib.hid hO2
    have HX := Lib.hid hx
    clear hB2 hF2 hO2 hx
    go_wp2_with fail
    first | go_end0 | refine bodyPost_ret (results_none rfl _ _ _) rfl ?_
    refine ⟨rfl, ⟨at', r * 256, c', bad', HB2.out, HF2.out, hfg, HF2.out.le, by omega, ?_⟩, (HO.out.mono (fun i hi => .inr hi)).trans HO2.out⟩
    rcases HX.out with ⟨rfl, rfl, h⟩ | ⟨x, rfl, rfl, h⟩
    · refine ⟨by omega, .inl ⟨rfl, ?_⟩⟩
      unfold lvl
      rw [if_pos hlow, h]
    · have := x.toNat_lt
      refine ⟨by omega, .inr ⟨rfl, ?_⟩⟩
      unfold lvl
      rw [if_pos hlow, h]
  · refine (even_high hB hlow).mono ?_
    rintro e w' ⟨rfl, rfl⟩
    refine ⟨rfl, ⟨at_, r, c, false, hB, hF, hfg, hF.le, hr, by omega, .inr ⟨rfl, ?_⟩⟩, Only.refl _ _⟩
    unfold lvl
    rw [if_neg hlow]

/-- Straight, and the decoder refused, if it must be. -/
def OnePost (w : World) (g f lo : Nat) (bs : List UInt8) (d : Dc) (e : Ending) (w' : World) : Prop :=
  ∃ v : Nat, e = .returned (.int .u32 (v : Int)) ∧ v ≤ 1 ∧ ((oneD d).2 ≠ none → v = (oneD d).1) ∧ Pd w' g f lo bs (oneD d).2 ∧ Only (two f g) w w'

/-- Behind a definition, so that no walk looks into it. -/
def HighPost (w : World) (g f lo : Nat) (bs s : List UInt8) (h k : Nat) (e : Ending) (w' : World) : Prop :=
  e = .returned (.int .u32 1) ∧ Pd w' g f lo bs (if k < h then lvl h k s else none) ∧ Only (two f g) w w'

end
end Go.Proofs.YtdhhibfppcpieaaGreatDoor

/-
  Probabilities in a block of their own.
-/
namespace Go.Proofs.YtdhhibfppcpieaaGreatDoor
open Go.RowKit

/-- probabilities as cells -/
def pv (ps : List Nat) : List Value := ps.map fun (p : Nat) => Value.int .u16 (p : Int)
theorem pv_length (ps : List Nat) : (pv ps).length = ps.length := by simp [pv]
theorem pv_get (ps : List Nat) (i : Nat) (h : i < ps.length) : (pv ps)[i]? = some (.int .u16 ((ps.getD i 0 : Nat) : Int)) := by
  simp [pv, List.getD, h]
theorem pv_set (ps : List Nat) (i q : Nat) : (pv ps).set i (.int .u16 (q : Int)) = pv (ps.set i q) := by
  simp [pv, List.map_set]

/-- Block b holds the probabilities ps. -/
def Row (w : World) (b : Nat) (ps : List Nat) (c : Nat) : Prop := w.ownsRow 0 35 1 (.slice (some ⟨b, 0, none⟩) ps.length c) ps.length (pv ps)

section
variable {w w' : World} {b c : Nat} {ps : List Nat}
theorem Row.cell (h : Row w b ps c) {i : Nat} (hi : i < ps.length) : w.cell? ⟨b, i, none⟩ = some (.int .u16 ((ps.getD i 0 : Nat) : Int)) := by
  rw [World.ownsRow.cellAt h i (by omega), pv_get ps i hi]
theorem Row.free (h : Row w b ps c) (i : Nat) : w.frozen? ⟨b, i, none⟩ = false := World.ownsRow.frozenAt h i
theorem Row.put (h : Row w b ps c) (i q : Nat) : Row (w.setCell ⟨b, i, none⟩ (.int .u16 (q : Int))) b (ps.set i q) c := by
  have := (World.ownsRow.stored h i (.int .u16 (q : Int))).1
  rw [pv_set] at this
  unfold Row
  rw [List.length_set]
  exact this
theorem Row.drewN (h : Row w b ps c) (n : Nat) : Row (w.drewN n) b ps c := h
theorem Row.only {S : Nat → Prop} (h : Row w b ps c) (hb : Only S w w') (hS : ¬ S b) : Row w' b ps c := own_only h hb hS
theorem Row.lt (h : Row w b ps c) : b < w.heap.size := (World.ownsRow.lt h b rfl).2
theorem Row.cap (h : Row w b ps c) : ps.length ≤ c ∧ c ≤ maxLen := by
  obtain ⟨_, h2, h3, _⟩ := own_facts h
  exact ⟨h2, h3⟩
end

end Go.Proofs.YtdhhibfppcpieaaGreatDoor

/-
  The decoder tells a bit with a probability.
-/
namespace Go.Proofs.YtdhhibfppcpieaaGreatDoor
open Go.RowKit

def three (f g b : Nat) : Nat → Prop := fun i => i = f ∨ i = g ∨ i = b
theorem u16_in (x : Int) (h : 0 ≤ x ∧ x < 65536) : IntKind.u16.wrap x = x := by
  simp [IntKind.wrap, IntKind.bits, IntKind.signed]
  omega

/-- What a bit leaves: behind a definition, so that no walk looks into it. -/
def TellPost (w : World) (g f lo b : Nat) (bs : List UInt8) (ps : List Nat) (pc v : Nat) (d : Dc) (e : Ending) (w' : World) : Prop :=
  e = .returned (.int .i64 (v : Int)) ∧ Pd w' g f lo bs d ∧ Row w' b ps pc ∧ Only (three f g b) w w'

section
variable {g f lo r c at_ b i p pc : Nat} {w : World} {bs : List UInt8} {ps : List Nat}

set_option maxRecDepth 100000 in
set_option maxHeartbeats 1000000 in
theorem bit_bad {a : Addr} (hB : Blk w g 218 (pdCells f r c true)) :
    Calls Tryz.prog 128 #[.pointer (some ⟨g, 0, none⟩), .pointer (some a)] w fun e w' => e = .returned (.int .i64 0) ∧ w = w' := by
  have h3 : w.cell? ⟨g, 3, none⟩ = some (.bool true) := hB.cell 3
  clear hB
  go_enter Tryz.func128, Tryz.ntmps128
  go_wp2_with fail
  go_ret
  exact ⟨rfl, rfl⟩

end
end Go.Proofs.YtdhhibfppcpieaaGreatDoor

/-
  The decoder tells numbers: straight, by a tree.
-/
namespace Go.Proofs.YtdhhibfppcpieaaGreatDoor
open Go.RowKit

/-- What a number told straight leaves. -/
def NumPost (w : World) (g f lo : Nat) (bs : List UInt8) (v : Nat) (d : Dc) (e : Ending) (w' : World) : Prop :=
  e = .returned (.int .u32 (v : Int)) ∧ Pd w' g f lo bs d ∧ Only (two f g) w w'

section
variable {g f lo b pc : Nat} {w : World} {bs : List UInt8} {ps : List Nat}

end
end Go.Proofs.YtdhhibfppcpieaaGreatDoor

/-
  The decoder tells a number by a reverse tree.
-/
namespace Go.Proofs.YtdhhibfppcpieaaGreatDoor
open Go.RowKit

section
variable {g f lo b pc : Nat} {w : World} {bs : List UInt8} {ps : List Nat}

end
end Go.Proofs.YtdhhibfppcpieaaGreatDoor

/-
  Bytes as a number, the greatest first.
-/
namespace Go.Proofs.YtdhhibfppcpieaaGreatDoor

/-- bytes as a number, the greatest first -/
def be (l : List UInt8) : Nat := l.foldl (fun a b => a * 256 + b.toNat) 0
theorem be_snoc (l : List UInt8) (x : UInt8) : be (l ++ [x]) = be l * 256 + x.toNat := by simp [be]
theorem be_append (l k : List UInt8) : be (l ++ k) = be l * 256 ^ k.length + be k := by
  generalize hn : k.length = n
  induction n generalizing k with
  | zero => rw [List.eq_nil_of_length_eq_zero hn]; simp [be]
  | succ n ih =>
    have hne : k ≠ [] := by intro e; rw [e] at hn; cases hn
    rw [← List.dropLast_concat_getLast hne, ← List.append_assoc, be_snoc, be_snoc, ih k.dropLast (by simp [hn]), Nat.pow_succ, ← Nat.mul_assoc, Nat.add_mul]
    omega
theorem be_lt (l : List UInt8) : ∀ n, l.length = n → be l < 256 ^ n := by
  intro n
  induction n generalizing l with
  | zero => intro h; rw [List.eq_nil_of_length_eq_zero h]; decide
  | succ n ih =>
    intro h
    have hne : l ≠ [] := by intro e; rw [e] at h; cases h
    rw [← List.dropLast_concat_getLast hne, be_snoc, Nat.pow_succ]
    have := ih l.dropLast (by simp [h])
    have := (l.getLast hne).toNat_lt
    omega
/-- the first l of the bytes, and what is behind -/
theorem be_take (bs : List UInt8) (l : Nat) : be (bs.take l) * 256 ^ (bs.length - l) ≤ be bs ∧ be bs < (be (bs.take l) + 1) * 256 ^ (bs.length - l) := by
  have e := be_append (bs.take l) (bs.drop l)
  rw [List.take_append_drop, List.length_drop] at e
  have h := be_lt (bs.drop l) (bs.length - l) (by simp)
  rw [Nat.add_mul]
  omega
theorem be_take_succ {bs : List UInt8} {l : Nat} (h : l < bs.length) : be (bs.take (l + 1)) = be (bs.take l) * 256 + (bs[l]).toNat := by
  rw [List.take_succ_eq_append_getElem h, be_snoc]
end Go.Proofs.YtdhhibfppcpieaaGreatDoor

/-
  How a decoder of ranges begins, as numbers (cut out of RdNew).
-/
namespace Go.Proofs.YtdhhibfppcpieaaGreatDoor

/-- behind the first byte and j more -/
def Begun (bs : List UInt8) (j c : Nat) : Prop := j + 1 ≤ bs.length ∧ (bs.getD 0 0).toNat = 0 ∧ c = be ((bs.drop 1).take j)

theorem info_u16 : (Tryz.prog.info? 35).map (fun i => (i.zero, i.size, i.bytes)) = some (some (.int .u16 0), 1, 2) := by kernel_rfl
end Go.Proofs.YtdhhibfppcpieaaGreatDoor

/-
  A decoder begins; fresh probabilities.
-/
namespace Go.Proofs.YtdhhibfppcpieaaGreatDoor
open Go.RowKit

/-- What stands behind the first byte and j shifts. -/
def OnWay (w : World) (g f lo : Nat) (bs : List UInt8) (j : Nat) : Prop :=
  ∃ at_ c bad, Blk w g 218 (pdCells f 4294967295 c bad) ∧ Feed w f lo bs at_ ∧ c < 4294967296 ∧ ((bad = true ∧ started bs = none) ∨ (bad = false ∧ at_ = j + 1 ∧ Begun bs j c))

theorem madeNums (n : Nat) : (madeCells #[Value.int .u16 0] n).toList = pv (List.replicate n 0) := by
  rw [toList_madeCells_one]
  simp [pv]

set_option maxRecDepth 100000 in
set_option maxHeartbeats 2000000 in
theorem fresh_any {n : Nat} (hn : n ≤ 1000000) (w : World) :
    Calls Tryz.prog 108 #[.int .i64 (n : Int)] w fun e w' =>
      e = .returned (.slice (some ⟨w.heap.size, 0, none⟩) n n) ∧ Row w' w.heap.size (List.replicate n 1024) n ∧ Below w.heap.size w w' := by
  obtain ⟨i, hi, hz0, hz1, hz2⟩ := info_parts info_u16
  have h0 : ¬ (n : Int) < 0 := by omega
  have h1 : ¬ (n : Int) > 2147483647 := by omega
  go_enter Tryz.func108, Tryz.ntmps108
  go_wp2_with (first
      | (at_make; refine wpList_make_full _ rfl _ _ 67 rfl w.heap.size 35 i _ 1 Tryz.underlying67 hi hz0 hz1 _ _ _ _ n rfl rfl rfl rfl ?b1 ?b2 (by simp) ?_))
  case b1 => omega
  case b2 => unfold maxLen; omega
  intro w2 ho hg
  rw [madeNums] at ho
  have HO := Lib.hid ho
  have HG := Lib.hid (only_none hg)
  clear ho hg
  go_wp2_with fail
  go_loopw [4, 14] (fun _ k wr => ∃ j : Nat, j ≤ n ∧ k = .int .i64 (j : Int) ∧ wr.ownsRow w.heap.size 35 1 (.slice (some ⟨w.heap.size, 0, none⟩) n n) n (pv (List.replicate j 1024 ++ List.replicate (n - j) 0)) ∧ Below w.heap.size w wr) (fun _ k _ => n - (intOf k).toNat)
  case atStart => exact ⟨0, by omega, rfl, by simpa using HO.out, HG.out⟩
  case round =>
    clear HO HG
    obtain ⟨j, hj, rfl, ho, hb⟩ := hrel
    have HO := Lib.hid ho
    have HG := Lib.hid hb
    clear ho hb
    by_cases hlt : j < n
    · have hfree := HO.out.frozenAt j
      have hl2 : (pv (List.replicate j 1024 ++ List.replicate (n - j) 0)).length = n := by rw [pv_length]; simp; omega
      obtain ⟨old, hold⟩ : ∃ u, wr.cell? ⟨w.heap.size, j, none⟩ = some u := by
        rw [HO.out.cellAt j (by omega), List.getElem?_eq_getElem (by omega)]
        exact ⟨_, rfl⟩
      have i1 : (j : Int) < (n : Int) := by omega
      have i0 : (0 : Int) ≤ (j : Int) := by omega
      have HN := Lib.hid (show (pv (List.replicate j 1024 ++ List.replicate (n - j) 0)).set j (.int .u16 1024) = pv (List.replicate (j + 1) 1024 ++ List.replicate (n - (j + 1)) 0) by
        obtain ⟨m, hm⟩ : ∃ m, n - j = m + 1 := ⟨n - j - 1, by omega⟩
        rw [show n - (j + 1) = m by omega, hm, List.replicate_succ, show (Value.int .u16 1024) = .int .u16 ((1024 : Nat) : Int) from rfl, pv_set, List.set_append_right _ _ (by simp), List.length_replicate, Nat.sub_self, List.set_cons_zero, List.replicate_succ']
        simp)
      clear hl2
      go_wp2_with fail
      go_roundw
      case rel =>
        refine ⟨j + 1, by omega, by go_num, ?_, HG.out.setCell (by simp) _⟩
        have ho := (HO.out.stored j (.int .u16 1024)).1
        rw [HN.out] at ho
        exact ho
      case measure => simp [intOf]; omega
    · obtain rfl : j = n := by omega
      go_wp2_with fail
      go_ret
      refine ⟨rfl, ?_, HG.out⟩
      have ho := HO.out
      rw [Nat.sub_self, List.replicate_zero, List.append_nil] at ho
      unfold Row
      rw [List.length_replicate]
      exact own_mono ho (Nat.zero_le _)
end Go.Proofs.YtdhhibfppcpieaaGreatDoor
