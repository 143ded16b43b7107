/-
  SrcCur, LwPrp, LwPrs: put together.
-/
import Derived.Test.YtoencondpbkomaaGreatDoorT02
import Derived.Test.YtoencondpbkomaaGreatDoorT24
import Derived.Deep.QuietTactic
import Derived.BigQuiet
import Derived.IntWalk
import Derived.Lib.Walk
import Derived.Test.YtoencondpbkomaaGreatDoorT14
import Derived.Deep.RegionHeld3
set_option linter.unusedVariables false
set_option linter.unusedSimpArgs false
/-
  The program's cursor and numbers that are put, as far as properties want them (cut out of Prim, New, Nums, Take, Put, Puts).
-/
namespace Go.Proofs.YtoencondpbkomaaGreatDoor
open Go.RowKit

/-- The cursor's cells. -/
def curCells (A : Option Addr) (n c : Nat) (at_ : Nat) (code : Int) : Array Value := #[.slice A n c, .int .i64 (at_ : Int), .int .i64 code]

/-- At block g of struct type T stands a cursor over the bytes bs, whose row lies in a block of lo. -/
def Cur (T : TypeId) (w : World) (g : Nat) (lo : Nat → Prop) (bs : List UInt8) (at_ : Nat) (code : Int) : Prop :=
  ∃ A c, Blk w g T (curCells A bs.length c at_ code) ∧ Sl w A bs.length (bv bs) ∧ bs.length ≤ c ∧ c ≤ maxLen ∧ at_ ≤ bs.length ∧ (0 < bs.length → ∀ b o, A = some ⟨b, o, none⟩ → lo b ∧ b ≠ g)

section
variable {T : TypeId} {w w' : World} {g : Nat} {lo : Nat → Prop} {bs : List UInt8} {at_ : Nat} {code : Int}
theorem Cur.lt (h : Cur T w g lo bs at_ code) : g < w.heap.size := by
  obtain ⟨_, _, hB, _⟩ := h
  exact hB.lt
theorem Cur.below (h : Cur T w g lo bs at_ code) (hb : Below w.heap.size w w') : Cur T w' g lo bs at_ code := by
  obtain ⟨A, c, hB, hS, r⟩ := h
  exact ⟨A, c, hB.below hb, hS.below hb, r⟩
theorem Cur.drewN (h : Cur T w g lo bs at_ code) (n : Nat) : Cur T (w.drewN n) g lo bs at_ code := h
/-- Another object's call: only the row has turned, and that is neither this cursor's block nor its row's. -/
theorem Cur.grown (h : Cur T w g lo bs at_ code) {row : Option Nat} (hb : w.grownBy w' row) (hrow : ∀ k, row = some k → g ≠ k ∧ ¬ lo k) : Cur T w' g lo bs at_ code := by
  obtain ⟨A, c, hB, hS, h1, h2, h3, h4⟩ := h
  refine ⟨A, c, hB.grown hb (fun e => (hrow g e.symm).1 rfl), hS.keep hb.size ?_, h1, h2, h3, h4⟩
  intro hn b o hA hlt
  refine hb.block b hlt (fun e => (hrow b e.symm).2 (h4 hn _ _ hA).1)
/-- All that stays at the old blocks. -/
theorem Cur.old (h : Cur T w g lo bs at_ code) : Cur T w g (fun b => lo b ∧ b < w.heap.size) bs at_ code := by
  obtain ⟨A, c, hB, hS, h1, h2, h3, h4⟩ := h
  refine ⟨A, c, hB, hS, h1, h2, h3, fun hn b o hA => ⟨⟨(h4 hn b o hA).1, ?_⟩, (h4 hn b o hA).2⟩⟩
  obtain ⟨b', o', e, hb, _⟩ := hS.2 hn
  rw [hA] at e
  injection e with e
  injection e with e
  omega
end

/-- The code of a cursor that fails with x: the first one stays. -/
def over (code x : Int) : Int := if code = 0 then x else code
/-- What is left to read. -/
def leftOf (bs : List UInt8) (at_ : Nat) (code : Int) : List UInt8 := if code = 0 then bs.drop at_ else []

theorem rest_raw (g : Nat) (A : Option Addr) (n c k : Nat) (code : Int) (w : World) (hB : Blk w g 235 (curCells A n c k code)) (hk : k ≤ n) (hn : n ≤ c) (hc : c ≤ maxLen) :
    Calls Tryz.prog 194 #[.pointer (some ⟨g, 0, none⟩)] w fun e w' => e = .returned (if code = 0 then .slice (if c = k then A else A.map (·.add k)) (n - k) (c - k) else .slice none 0 0) ∧ ∃ d, w.drewN d = w' := by
  unfold maxLen at hc
  have h0 : w.cell? ⟨g, 0, none⟩ = some (.slice A n c) := hB.cell 0
  have h1 : w.cell? ⟨g, 1, none⟩ = some (.int .i64 k) := hB.cell 1
  have h2 : w.cell? ⟨g, 2, none⟩ = some (.int .i64 code) := hB.cell 2
  clear hB
  by_cases hz : code = 0
  · subst hz
    go_enter Tryz.func194, Tryz.ntmps194
    go_wp2
    go_quiet (fail)
    go_wp2
    all_goals
      go_ret
      exact ⟨by simp [*], _, rfl⟩
  · go_enter Tryz.func194, Tryz.ntmps194
    go_wp2
    go_ret
    exact ⟨by simp [*], 0, rfl⟩

/-- rest: what is left, as a slice. -/
theorem rest_any {g : Nat} {lo : Nat → Prop} {bs : List UInt8} {k : Nat} {code : Int} {w : World} (h : Cur 235 w g lo bs k code) :
    Calls Tryz.prog 194 #[.pointer (some ⟨g, 0, none⟩)] w fun e w' =>
      ∃ B c, e = .returned (.slice B (leftOf bs k code).length c) ∧ (leftOf bs k code).length ≤ c ∧ c ≤ maxLen ∧ Sl w B (leftOf bs k code).length (bv (leftOf bs k code)) ∧ (0 < (leftOf bs k code).length → ∀ b o, B = some ⟨b, o, none⟩ → lo b ∧ b ≠ g) ∧ ∃ d, w.drewN d = w' := by
  obtain ⟨A, c, hB, hS, h1, h2, h3, h4⟩ := h
  refine (rest_raw g A bs.length c k code w hB h3 h1 h2).mono ?_
  rintro e w' ⟨rfl, hd⟩
  by_cases hz : code = 0
  · have el : (leftOf bs k code) = bs.drop k := by simp [leftOf, hz]
    have := hS.cut h3 h1
    refine ⟨_, _, by rw [if_pos hz, el, List.length_drop], by rw [el, List.length_drop]; omega, by omega, ?_, ?_, hd⟩
    · rw [el, List.length_drop, bv_drop]
      exact this
    · rw [el, List.length_drop]
      intro hn b o e
      rw [if_neg (by omega)] at e
      obtain ⟨b', o', rfl, _⟩ := hS.2 (by omega)
      have h5 := h4 (by omega) b' o' rfl
      have e' : b' = b := by
        unfold Addr.add at e
        by_cases hk : k = 0 <;> simp [hk] at e <;> omega
      rw [← e']
      exact h5
  · have el : (leftOf bs k code) = [] := by simp [leftOf, hz]
    refine ⟨_, _, by rw [if_neg hz, el]; rfl, by simp [el], by unfold maxLen; omega, ?_, by simp [el], hd⟩
    rw [el]
    exact Sl.nil

set_option maxHeartbeats 400000 in
theorem pass_any {g : Nat} {lo : Nat → Prop} {bs : List UInt8} {k n : Nat} {x code : Int} {w : World} (h : Cur 235 w g lo bs k code) (hx : x = (n : Int)) (hn : k + n ≤ bs.length) :
    Calls Tryz.prog 196 #[.pointer (some ⟨g, 0, none⟩), .int .i64 x] w fun e w' =>
      e = .returned (.tuple #[]) ∧ Cur 235 w' g lo bs (k + n) code ∧ w.grownBy w' (some g) := by
  subst hx
  obtain ⟨A, c, hB, hS, r1, r2, r3, r4⟩ := h
  have h2 : w.cell? ⟨g, 1, none⟩ = some (.int .i64 k) := hB.cell 1
  have hf : w.frozen? ⟨g, 1, none⟩ = false := hB.free 1
  have HB := Lib.hid hB
  have HS := Lib.hid hS
  have HR := Lib.hid r4
  have hm := r2
  unfold maxLen at hm
  clear hB hS r4
  go_enter Tryz.func196, Tryz.ntmps196
  go_wp2
  go_end0
  refine ⟨rfl, ⟨A, c, ?_, ?_, r1, r2, by omega, HR.out⟩, only_setCell (World.grownBy.refl w _) (.inl rfl) _⟩
  · have := HB.out.put 1 (.int .i64 ((k : Int) + (n : Int)))
    rw [← Int.natCast_add] at this
    simpa [curCells] using this
  · refine HS.out.grown (only_setCell (World.grownBy.refl w _) (.inl rfl) _) (fun hn b o e => (HR.out hn b o e).2)
set_option maxHeartbeats 400000 in
theorem new_any {A : Option Addr} {n c : Nat} {bs : List UInt8} {w : World} (hS : Sl w A n (bv bs)) (hm : n ≤ 1000000000) :
    Calls Tryz.prog 174 #[.slice A n c] w fun e w' =>
      ∃ g, e = .returned (.pointer (some ⟨g, 0, none⟩)) ∧ w.heap.size ≤ g ∧ Cur 235 w' g (w.heap.size ≤ ·) bs 0 0 ∧ Below w.heap.size w w' := by
  go_enter Tryz.func174, Tryz.ntmps174
  go_wp2_with (go_at_call 41; refine (clone_any hS hm).mono ?_; rintro e w' ⟨A', c', rfl, ho, hb⟩; have HO := Lib.hid ho; have HB := Lib.hid hb; clear ho hb)
  go_ret
  have hl : n = bs.length := by rw [← hS.1, bv_length]
  subst hl
  obtain ⟨h1, h2, h3, h4⟩ := own_facts HO.out
  refine ⟨_, rfl, HB.out.size, ⟨A', c', Blk.fresh _ _ _, h1.alloc _, h2, h3, by omega, fun _ b o e => ⟨(h4 b o e).1, Nat.ne_of_lt (h4 b o e).2⟩⟩, HB.out.alloc HB.out.size _⟩
set_option maxHeartbeats 400000 in
theorem least_any {A : Option Addr} {n c : Nat} {bs : List UInt8} {w : World} (hS : Sl w A n (bv bs)) (hm : n ≤ 8) :
    Calls Tryz.prog 197 #[.slice A n c] w fun e w' => e = .returned (.int .u64 (leVal bs : Int)) ∧ w = w' := by
  go_enter Tryz.func197, Tryz.ntmps197
  go_wp2
  go_loop [3, 7] (fun v i => ∃ k : Nat, k ≤ n ∧ i = .int .i64 k ∧ v = .int .u64 (leVal (bs.take k) : Int)) (fun _ i => n - (intOf i).toNat)
  case atStart => exact ⟨0, Nat.zero_le _, rfl, rfl⟩
  case round =>
    obtain ⟨k, hk, rfl, rfl⟩ := hrel
    have hl : bs.length = n := by rw [← hS.1, bv_length]
    by_cases hlt : k < n
    · obtain ⟨b, o, rfl, _, hc⟩ := hS.2 (by omega)
      have hcell : w.cell? ⟨b, o + k, none⟩ = some (.int .u8 ((bs.getD k 0).toNat : Int)) := by rw [hc k hlt, bv_get _ _ (by omega)]
      have hv := leVal_take bs k (by omega)
      generalize bs.getD k 0 = x at hcell hv
      have HV := Lib.hid hv
      have HL := Lib.hid hl
      clear hc hS hv hl
      go_wp2
      go_round
      case rel => exact ⟨k + 1, by omega, by go_num, by rw [HV.out, ← or_step _ _ _ (leVal_take_lt bs k) x.toNat_lt (by omega)]⟩
      case measure => simp [intOf]; omega
    · have HL := Lib.hid hl
      clear hl hS
      go_wp2
      go_ret
      exact ⟨ret_int (by rw [List.take_of_length_le (by have := HL.out; omega)]), rfl⟩
theorem left_le {T : TypeId} {w : World} {g : Nat} {lo : Nat → Prop} {bs : List UInt8} {k : Nat} {code : Int} (h : Cur T w g lo bs k code) : k + (leftOf bs k code).length ≤ bs.length := by
  obtain ⟨_, _, _, _, _, _, h3, _⟩ := h
  unfold leftOf
  split
  · rw [List.length_drop]; omega
  · simp; omega

set_option maxHeartbeats 1000000 in
theorem num_ok {g : Nat} {lo : Nat → Prop} {bs : List UInt8} {k n : Nat} {code : Int} {w : World} (h : Cur 235 w g lo bs k code) (hm : bs.length ≤ 1000000000) (hs : n = 1 ∨ n = 2 ∨ n = 4 ∨ n = 8) (hn : n ≤ (leftOf bs k code).length) :
    Calls Tryz.prog 175 #[.pointer (some ⟨g, 0, none⟩), .int .i64 (n : Int)] w fun e w' =>
      e = .returned (.int .u64 (leVal ((leftOf bs k code).take n) : Int)) ∧ Cur 235 w' g lo bs (k + n) code ∧ w.grownBy w' (some g) := by
  have hl := left_le h
  have HR := Lib.hid (rest_any h)
  have HC := Lib.hid h
  clear h
  generalize leftOf bs k code = r at *
  have hz := fun w => isSize_any (n : Int) w
  rw [decide_eq_true (by omega)] at hz
  have HZ := Lib.hid hz
  have h8 : n ≤ 8 := by omega
  clear hz hs
  go_enter Tryz.func175, Tryz.ntmps175
  go_wp2_with (first
    | (go_at_call 194; refine HR.out.mono ?_; rintro e w1 ⟨B, c, rfl, hcl, hcm, hS, hbg, d, rfl⟩; have HS := Lib.hid hS; have HBG := Lib.hid hbg; clear hS hbg)
    | (go_at_call 171; refine (HZ.out _).mono ?_; rintro e w2 ⟨rfl, rfl⟩)
    | (go_at_call 196; refine (pass_any (n := n) (HC.out.drewN _) rfl (by omega)).mono ?_; rintro e w2 ⟨rfl, hc, hg⟩; have HC2 := Lib.hid hc; have HG := Lib.hid (only_of_drewN hg); clear hc hg))
  have hS2 : Sl w2 B n (bv (r.take n)) := by
    rw [bv_take]
    exact (HS.out.first hn).grown HG.out (fun h0 b o e => (HBG.out (by omega) b o e).2)
  refine (least_any hS2 h8).mono ?_
  rintro e w3 ⟨rfl, rfl⟩
  clear hS2
  go_wp2
  go_ret
  exact ⟨rfl, HC2.out, HG.out⟩

end Go.Proofs.YtoencondpbkomaaGreatDoor

/-
  The program's settings: properties put.
-/
namespace Go.Proofs.YtoencondpbkomaaGreatDoor
open Go.RowKit

theorem below_gg {w0 w1 w2 : World} {B : Nat} (h : Below B w0 w1) (hb : Below w1.heap.size w1 w2) (hB : B ≤ w0.heap.size) : Below B w0 w2 :=
  h.trans ⟨hb.os, hb.tape, hb.output, hb.size, fun i hi => hb.block i (by have := h.size; omega)⟩
section
variable {w : World} {lc lp pb dict : Nat}
end
end Go.Proofs.YtoencondpbkomaaGreatDoor

/-
  The program's Parse of LZMA's properties.
-/
namespace Go.Proofs.YtoencondpbkomaaGreatDoor
open Go.RowKit

section
variable {w : World} {lc lp pb dict : Nat}


/-- a setting is stored into the result -/
theorem store_set {B b : Nat} {w W : World} {x0 x1 x2 x3 : Value} (a0 a1 a2 a3 : Value) (h1 : Blk W b 40 #[x0, x1, x2, x3]) (h2 : Below B w W) (hb : B ≤ b) :
    Blk ((((W.setCell ⟨b, 0, none⟩ a0).setCell ⟨b, 1, none⟩ a1).setCell ⟨b, 2, none⟩ a2).setCell ⟨b, 3, none⟩ a3) b 40 #[a0, a1, a2, a3] ∧
    Below B w ((((W.setCell ⟨b, 0, none⟩ a0).setCell ⟨b, 1, none⟩ a1).setCell ⟨b, 2, none⟩ a2).setCell ⟨b, 3, none⟩ a3) :=
  ⟨(((h1.put 0 a0).put 1 a1).put 2 a2).put 3 a3, (((h2.setCell hb _).setCell hb _).setCell hb _).setCell hb _⟩

set_option maxRecDepth 100000 in
set_option maxHeartbeats 4000000 in
theorem pparse_any {w : World} {n c : Nat} {A : Option Addr} {bs : List UInt8} (hn : n = bs.length) (hS : Sl w A bs.length (bv bs)) (hl : bs.length ≤ 1000000000) :
    Calls Tryz.prog 129 #[.slice A n c] w (ParsePost w (parseOf bs)) := by
  obtain ⟨w1, hw1⟩ : ∃ w1, w1 = w.alloc (.cells #[.int .i64 0, .int .i64 0, .int .i64 0, .int .i64 0] 40) := ⟨_, rfl⟩
  have HBk : Blk w1 w.heap.size 40 #[.int .i64 0, .int .i64 0, .int .i64 0, .int .i64 0] := by rw [hw1]; exact Blk.fresh w _ _
  have hb : Below w.heap.size w w1 := by rw [hw1]; exact (Below.refl _ _).alloc (Nat.le_refl _) _
  have hS1 : Sl w1 A bs.length (bv bs) := by rw [hw1]; exact hS.alloc _
  have r0 : w1.cell? ⟨w.heap.size, 0, none⟩ = some (.int .i64 0) := HBk.cell 0
  have r1 : w1.cell? ⟨w.heap.size, 1, none⟩ = some (.int .i64 0) := HBk.cell 1
  have r2 : w1.cell? ⟨w.heap.size, 2, none⟩ = some (.int .i64 0) := HBk.cell 2
  have r3 : w1.cell? ⟨w.heap.size, 3, none⟩ = some (.int .i64 0) := HBk.cell 3
  have z0 := HBk.free 0
  have z1 := HBk.free 1
  have z2 := HBk.free 2
  have z3 := HBk.free 3
  have HW1 := Lib.hid hw1
  have HB := Lib.hid hb
  have HBK := Lib.hid HBk
  by_cases h5 : n = 5
  · have h5' : bs.length = 5 := by omega
    match bs, h5', hS1 with
    | [a, b, d, e, f], _, hS1 =>
      have KN := Lib.hid (new_any (c := c) hS1 (by simp))
      have ha := a.toNat_lt
      have hbb := b.toNat_lt
      have hd := d.toNat_lt
      have he := e.toNat_lt
      have hf := f.toNat_lt
      have hpar : parseOf [a, b, d, e, f] = if a.toNat < 225 then some (a.toNat % 9, a.toNat / 9 % 5, a.toNat / 45, max 4096 (b.toNat + 256 * d.toNat + 65536 * e.toNat + 16777216 * f.toNat)) else none := rfl
      have hv1 : leVal ((leftOf [a, b, d, e, f] 0 0).take 1) = a.toNat := by simp [leftOf, leVal]
      have hv4 : leVal ((leftOf [a, b, d, e, f] 1 0).take 4) = b.toNat + 256 * d.toNat + 65536 * e.toNat + 16777216 * f.toNat := by simp [leftOf, leVal]; omega
      rw [hpar]
      have KA := fun (W : World) (g : Nat) (h : Cur 235 W g (w1.heap.size ≤ ·) [a, b, d, e, f] 0 0) => num_ok (n := 1) h (by simp) (.inl rfl) (by simp [leftOf])
      have KB := fun (W : World) (g : Nat) (h : Cur 235 W g (w1.heap.size ≤ ·) [a, b, d, e, f] (0 + 1) 0) => num_ok (n := 4) h (by simp) (.inr (.inr (.inl rfl))) (by simp [leftOf])
      rw [hv1] at KA
      rw [show leVal ((leftOf [a, b, d, e, f] (0 + 1) 0).take 4) = leVal ((leftOf [a, b, d, e, f] 1 0).take 4) from rfl, hv4] at KB
      have KA := Lib.hid KA
      have KB := Lib.hid KB
      subst h5
      clear hpar hv1 hv4 hn hl hS hS1 hw1 hb HBk h5'
      obtain ⟨x, hx⟩ : ∃ x, x = a.toNat := ⟨_, rfl⟩
      obtain ⟨y, hy⟩ : ∃ y, y = b.toNat + 256 * d.toNat + 65536 * e.toNat + 16777216 * f.toNat := ⟨_, rfl⟩
      rw [← hx] at KA ha ⊢
      rw [← hy] at KB ⊢
      have hy32 : y < 4294967296 := by omega
      clear hx hy hbb hd he hf
      obtain ⟨lc, hlc⟩ : ∃ v, v = x % 9 := ⟨_, rfl⟩
      obtain ⟨q, hq⟩ : ∃ v, v = x / 9 := ⟨_, rfl⟩
      obtain ⟨lp, hlp⟩ : ∃ v, v = q % 5 := ⟨_, rfl⟩
      obtain ⟨pb, hpb⟩ : ∃ v, v = x / 45 := ⟨_, rfl⟩
      obtain ⟨dc, hdc⟩ : ∃ v, v = max 4096 y := ⟨_, rfl⟩
      rw [← hq, ← hlp, ← hlc, ← hpb, ← hdc]
      obtain ⟨res, hres⟩ : ∃ r, r = if x < 225 then some (lc, lp, pb, dc) else none := ⟨_, rfl⟩
      rw [← hres]
      have HRES := Lib.hid hres
      have e1 : (x : Int).tmod 9 = (lc : Int) := by rw [Int.tmod_eq_emod_of_nonneg (by omega)]; omega
      have e2 : (x : Int) / 9 = (q : Int) := by omega
      have e2' : (x : Int).tdiv 9 = (q : Int) := by rw [Int.tdiv_eq_ediv_of_nonneg (by omega)]; exact e2
      have e3 : (q : Int).tmod 5 = (lp : Int) := by rw [Int.tmod_eq_emod_of_nonneg (by omega)]; omega
      have e4 : (q : Int) / 5 = (pb : Int) := by omega
      have e4' : (q : Int).tdiv 5 = (pb : Int) := by rw [Int.tdiv_eq_ediv_of_nonneg (by omega)]; exact e4
      have u0 : IntKind.i64.wrap (x : Int) = (x : Int) := IntWalk.i64_in _ (by omega)
      have u1 : IntKind.i64.wrap (y : Int) = (y : Int) := IntWalk.i64_in _ (by omega)
      have v1 : IntKind.i64.wrap (lc : Int) = (lc : Int) := IntWalk.i64_in _ (by omega)
      have v2 : IntKind.i64.wrap (q : Int) = (q : Int) := IntWalk.i64_in _ (by omega)
      have v3 : IntKind.i64.wrap (lp : Int) = (lp : Int) := IntWalk.i64_in _ (by omega)
      have v4 : IntKind.i64.wrap (pb : Int) = (pb : Int) := IntWalk.i64_in _ (by omega)
      have m1 : max (y : Int) 4096 = (dc : Int) := by omega
      have KM := fun W => pmay_any (lc : Int) (lp : Int) (pb : Int) (dc : Int) W
      have hmay : maySet (lc : Int) (lp : Int) (pb : Int) (dc : Int) = decide (x < 225) := by
        unfold maySet
        rw [decide_eq_decide]
        omega
      rw [hmay] at KM
      obtain ⟨ok, hok⟩ : ∃ o, o = decide (x < 225) := ⟨_, rfl⟩
      rw [← hok] at KM
      have KM := Lib.hid KM
      have HOK := Lib.hid hok
      clear hok hres hmay hlc hq hlp hpb hdc ha hy32
      go_enter Tryz.func129, Tryz.ntmps129
      go_upto_region 1 with fail
      rw [← HW1.out]
      clear HW1
      generalize hB : w.heap.size = B at *
      go_wp2_with fail
      refine KN.out.mono ?_
      rintro e w2 ⟨g, rfl, hg, hC, hb2⟩
      have HC2 := Lib.hid (And.intro hg hC)
      have HB2 := Lib.hid (And.intro (below_gg HB.out hb2 (Nat.le_of_eq hB.symm)) (HBK.out.below hb2))
      clear hg hC hb2 KN r0 r1 r2 r3 z0 z1 z2 z3
      go_wp2_with fail
      refine (KA.out _ _ HC2.out.2).mono ?_
      rintro e w3 ⟨rfl, hC3, hg3⟩
      have hBg : B ≤ g := by have h1 := HC2.out.1; have h2 := HB.out.size; omega
      have hb3 : Below B w w3 := HB2.out.1.trans (below_of_only hg3 hBg (by have h1 := HB2.out.1.size; omega))
      have hgB : B ≠ g := by have := HC2.out.1; have := HBK.out.lt; omega
      have HB3 := Lib.hid (And.intro hb3 (HB2.out.2.grown hg3 (by intro e; injection e with e; exact hgB e)))
      have HC3 := Lib.hid (And.intro (And.intro hgB hBg) hC3)
      clear hb3 hgB hBg hC3 hg3 KA
      go_wp2_with fail
      refine (KB.out _ _ HC3.out.2).mono ?_
      rintro e w4 ⟨rfl, hC4, hg4⟩
      have hb4 : Below B w w4 := HB3.out.1.trans (below_of_only hg4 HC3.out.1.2 (by have h1 := HB3.out.1.size; omega))
      have hk4 := HB3.out.2.grown hg4 (by intro e; injection e with e; exact HC3.out.1.1 e)
      have HB4 := Lib.hid (And.intro hb4 hk4)
      clear hb4 hk4 hC4 hg4 KB
      go_upto_region 6 with fail
      obtain ⟨w5, hw5⟩ : ∃ w5, w5 = w4.alloc (.cells #[.int .i64 (lc : Int), .int .i64 (lp : Int), .int .i64 (pb : Int), .int .i64 (dc : Int)] 40) := ⟨_, rfl⟩
      have hf5 : Blk w5 w4.heap.size 40 #[.int .i64 (lc : Int), .int .i64 (lp : Int), .int .i64 (pb : Int), .int .i64 (dc : Int)] := by rw [hw5]; exact Blk.fresh w4 _ _
      have hb5 : Below B w w5 := by rw [hw5]; exact HB4.out.1.alloc (by have := HB4.out.1.size; omega) _
      have hk5 : Blk w5 B 40 #[.int .i64 0, .int .i64 0, .int .i64 0, .int .i64 0] := by rw [hw5]; exact HB4.out.2.alloc _
      have hBb : B ≤ w4.heap.size := by have := HB4.out.1.size; omega
      rw [← hw5]
      generalize w4.heap.size = b4 at *
      have k0 : w5.cell? ⟨b4, 0, none⟩ = some (.int .i64 (lc : Int)) := hf5.cell 0
      have k1 : w5.cell? ⟨b4, 1, none⟩ = some (.int .i64 (lp : Int)) := hf5.cell 1
      have k2 : w5.cell? ⟨b4, 2, none⟩ = some (.int .i64 (pb : Int)) := hf5.cell 2
      have k3 : w5.cell? ⟨b4, 3, none⟩ = some (.int .i64 (dc : Int)) := hf5.cell 3
      have H5 := Lib.hid (And.intro hf5 (And.intro hb5 (And.intro hk5 hBb)))
      clear hw5 hf5 hb5 hk5 hBb HB4
      go_wp2_with fail
      refine (KM.out _).mono ?_
      rintro e w6 ⟨rfl, hb6⟩
      obtain ⟨hf5, hb5, hk5, hBb⟩ := H5.out
      have hf6 := hf5.below hb6
      have hk6 := hk5.below hb6
      have hb6' : Below B w w6 := below_gg hb5 hb6 (Nat.le_of_eq hB.symm)
      have q0 : w6.cell? ⟨b4, 0, none⟩ = some (.int .i64 (lc : Int)) := hf6.cell 0
      have q1 : w6.cell? ⟨b4, 1, none⟩ = some (.int .i64 (lp : Int)) := hf6.cell 1
      have q2 : w6.cell? ⟨b4, 2, none⟩ = some (.int .i64 (pb : Int)) := hf6.cell 2
      have q3 : w6.cell? ⟨b4, 3, none⟩ = some (.int .i64 (dc : Int)) := hf6.cell 3
      have r0 : w6.cell? ⟨B, 0, none⟩ = some (.int .i64 0) := hk6.cell 0
      have r1 : w6.cell? ⟨B, 1, none⟩ = some (.int .i64 0) := hk6.cell 1
      have r2 : w6.cell? ⟨B, 2, none⟩ = some (.int .i64 0) := hk6.cell 2
      have r3 : w6.cell? ⟨B, 3, none⟩ = some (.int .i64 0) := hk6.cell 3
      have z0 := hk6.free 0
      have z1 := hk6.free 1
      have z2 := hk6.free 2
      have z3 := hk6.free 3
      have H6 := Lib.hid (And.intro hk6 hb6')
      clear hf5 hb5 hk5 hBb hf6 hk6 hb6 hb6' k0 k1 k2 k3 H5 KM
      cases ok with
      | true =>
        have hr : res = some (lc, lp, pb, dc) := by rw [HRES.out, if_pos (of_decide_eq_true HOK.out.symm)]
        have HR := Lib.hid hr
        have HE := Lib.hid (store_set (.int .i64 (lc : Int)) (.int .i64 (lp : Int)) (.int .i64 (pb : Int)) (.int .i64 (dc : Int)) H6.out.1 H6.out.2 (Nat.le_refl B))
        clear hr
        go_wp2_with fail
        obtain ⟨hk, hb⟩ := HE.out
        generalize (((w6.setCell ⟨B, 0, none⟩ (.int .i64 (lc : Int))).setCell ⟨B, 1, none⟩ (.int .i64 (lp : Int))).setCell ⟨B, 2, none⟩ (.int .i64 (pb : Int))).setCell ⟨B, 3, none⟩ (.int .i64 (dc : Int)) = w7 at *
        have k0 : w7.cell? ⟨B, 0, none⟩ = some (.int .i64 (lc : Int)) := hk.cell 0
        have k1 : w7.cell? ⟨B, 1, none⟩ = some (.int .i64 (lp : Int)) := hk.cell 1
        have k2 : w7.cell? ⟨B, 2, none⟩ = some (.int .i64 (pb : Int)) := hk.cell 2
        have k3 : w7.cell? ⟨B, 3, none⟩ = some (.int .i64 (dc : Int)) := hk.cell 3
        rw [← hB] at hb
        refine bodyPost_ret (v := .tuple #[.agg #[.int .i64 (lc : Int), .int .i64 (lp : Int), .int .i64 (pb : Int), .int .i64 (dc : Int)], .int .i64 0]) (by simp [results, Tryz.results129, go_sem, k0, k1, k2, k3]) rfl ⟨hb, .inr ⟨lc, lp, pb, dc, HR.out, rfl⟩⟩
      | false =>
        have hr : res = none := by rw [HRES.out, if_neg (of_decide_eq_false HOK.out.symm)]
        have HR := Lib.hid hr
        have HE := Lib.hid (store_set (.int .i64 0) (.int .i64 0) (.int .i64 0) (.int .i64 0) H6.out.1 H6.out.2 (Nat.le_refl B))
        clear hr
        go_wp2_with fail
        obtain ⟨hk, hb⟩ := HE.out
        generalize (((w6.setCell ⟨B, 0, none⟩ (.int .i64 0)).setCell ⟨B, 1, none⟩ (.int .i64 0)).setCell ⟨B, 2, none⟩ (.int .i64 0)).setCell ⟨B, 3, none⟩ (.int .i64 0) = w7 at *
        have k0 : w7.cell? ⟨B, 0, none⟩ = some (.int .i64 0) := hk.cell 0
        have k1 : w7.cell? ⟨B, 1, none⟩ = some (.int .i64 0) := hk.cell 1
        have k2 : w7.cell? ⟨B, 2, none⟩ = some (.int .i64 0) := hk.cell 2
        have k3 : w7.cell? ⟨B, 3, none⟩ = some (.int .i64 0) := hk.cell 3
        rw [← hB] at hb
        refine bodyPost_ret (v := .tuple #[.agg #[.int .i64 0, .int .i64 0, .int .i64 0, .int .i64 0], .int .i64 11]) (by simp [results, Tryz.results129, go_sem, k0, k1, k2, k3]) rfl ⟨hb, .inl ⟨HR.out, rfl⟩⟩
  · rw [parse_short (by omega)]
    have q5 : ¬ ((n : Int) = 5) := by omega
    have q5' : ((n : Int) != 5) = true := by simp; omega
    have HE := Lib.hid (store_set (.int .i64 0) (.int .i64 0) (.int .i64 0) (.int .i64 0) HBk hb (Nat.le_refl _))
    clear hS hS1 hn hl h5 hb HBk hw1
    go_enter Tryz.func129, Tryz.ntmps129
    go_upto_region 1 with fail
    rw [← HW1.out]
    clear HW1
    go_wp2_with fail
    obtain ⟨hk, hb⟩ := HE.out
    generalize (((w1.setCell ⟨w.heap.size, 0, none⟩ (.int .i64 0)).setCell ⟨w.heap.size, 1, none⟩ (.int .i64 0)).setCell ⟨w.heap.size, 2, none⟩ (.int .i64 0)).setCell ⟨w.heap.size, 3, none⟩ (.int .i64 0) = w7 at *
    have k0 : w7.cell? ⟨w.heap.size, 0, none⟩ = some (.int .i64 0) := hk.cell 0
    have k1 : w7.cell? ⟨w.heap.size, 1, none⟩ = some (.int .i64 0) := hk.cell 1
    have k2 : w7.cell? ⟨w.heap.size, 2, none⟩ = some (.int .i64 0) := hk.cell 2
    have k3 : w7.cell? ⟨w.heap.size, 3, none⟩ = some (.int .i64 0) := hk.cell 3
    refine bodyPost_ret (v := .tuple #[.agg #[.int .i64 0, .int .i64 0, .int .i64 0, .int .i64 0], .int .i64 11]) (by simp [results, Tryz.results129, go_sem, k0, k1, k2, k3]) rfl ⟨hb, .inl ⟨rfl, rfl⟩⟩

end
end Go.Proofs.YtoencondpbkomaaGreatDoor
