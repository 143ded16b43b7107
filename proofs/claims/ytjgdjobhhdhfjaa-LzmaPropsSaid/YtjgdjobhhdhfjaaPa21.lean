/-
  SrcCur: put together.
-/
import Derived.Test.YtjgdjobhhdhfjaaPa02
import Derived.Deep.QuietTactic
import Derived.BigQuiet
import Derived.IntWalk
import Derived.Lib.Walk
set_option linter.unusedVariables false
set_option linter.unusedSimpArgs false
/-
  The program's cursor and numbers that are put, as far as properties want them (cut out of Prim, New, Nums, Take, Put, Puts).
-/
namespace Go.Proofs.Ytjgdjobhhdhfjaa
open Go.RowKit

/-- The cursor's cells. -/
def curCells (A : Option Addr) (n c : Nat) (at_ : Nat) (code : Int) : Array Value := #[.slice A n c, .int .i64 (at_ : Int), .int .i64 code]

/-- At block g of struct type T stands a cursor over the bytes bs, whose row lies in a block of lo. -/
def Cur (T : TypeId) (w : World) (g : Nat) (lo : Nat → Prop) (bs : List UInt8) (at_ : Nat) (code : Int) : Prop :=
  ∃ A c, Blk w g T (curCells A bs.length c at_ code) ∧ Sl w A bs.length (bv bs) ∧ bs.length ≤ c ∧ c ≤ maxLen ∧ at_ ≤ bs.length ∧ (0 < bs.length → ∀ b o, A = some ⟨b, o, none⟩ → lo b ∧ b ≠ g)

section
variable {T : TypeId} {w w' : World} {g : Nat} {lo : Nat → Prop} {bs : List UInt8} {at_ : Nat} {code : Int}
theorem Cur.lt (h : Cur T w g lo bs at_ code) : g < w.heap.size := by
  obtain ⟨_, _, hB, _⟩ := h
  exact hB.lt
theorem Cur.below (h : Cur T w g lo bs at_ code) (hb : Below w.heap.size w w') : Cur T w' g lo bs at_ code := by
  obtain ⟨A, c, hB, hS, r⟩ := h
  exact ⟨A, c, hB.below hb, hS.below hb, r⟩
theorem Cur.drewN (h : Cur T w g lo bs at_ code) (n : Nat) : Cur T (w.drewN n) g lo bs at_ code := h
/-- Another object's call: only the row has turned, and that is neither this cursor's block nor its row's. -/
theorem Cur.grown (h : Cur T w g lo bs at_ code) {row : Option Nat} (hb : w.grownBy w' row) (hrow : ∀ k, row = some k → g ≠ k ∧ ¬ lo k) : Cur T w' g lo bs at_ code := by
  obtain ⟨A, c, hB, hS, h1, h2, h3, h4⟩ := h
  refine ⟨A, c, hB.grown hb (fun e => (hrow g e.symm).1 rfl), hS.keep hb.size ?_, h1, h2, h3, h4⟩
  intro hn b o hA hlt
  refine hb.block b hlt (fun e => (hrow b e.symm).2 (h4 hn _ _ hA).1)
/-- All that stays at the old blocks. -/
theorem Cur.old (h : Cur T w g lo bs at_ code) : Cur T w g (fun b => lo b ∧ b < w.heap.size) bs at_ code := by
  obtain ⟨A, c, hB, hS, h1, h2, h3, h4⟩ := h
  refine ⟨A, c, hB, hS, h1, h2, h3, fun hn b o hA => ⟨⟨(h4 hn b o hA).1, ?_⟩, (h4 hn b o hA).2⟩⟩
  obtain ⟨b', o', e, hb, _⟩ := hS.2 hn
  rw [hA] at e
  injection e with e
  injection e with e
  omega
theorem Cur.weaken {lo' : Nat → Prop} (h : Cur T w g lo bs at_ code) (hl : ∀ b, lo b → lo' b) : Cur T w g lo' bs at_ code := by
  obtain ⟨A, c, hB, hS, h1, h2, h3, h4⟩ := h
  exact ⟨A, c, hB, hS, h1, h2, h3, fun hn b o hA => ⟨hl b (h4 hn b o hA).1, (h4 hn b o hA).2⟩⟩
end

/-- The code of a cursor that fails with x: the first one stays. -/
def over (code x : Int) : Int := if code = 0 then x else code
theorem over_zero (x : Int) : over 0 x = x := by simp [over]
theorem over_ne {code : Int} (x : Int) (h : code ≠ 0) : over code x = code := by simp [over, h]

/-- What is left to read. -/
def leftOf (bs : List UInt8) (at_ : Nat) (code : Int) : List UInt8 := if code = 0 then bs.drop at_ else []

set_option maxHeartbeats 400000 in
theorem isSize_any (n : Int) (w : World) :
    Calls Try.prog 89 #[.int .i64 n] w fun e w' => e = .returned (.bool (decide (n = 1 ∨ n = 2 ∨ n = 4 ∨ n = 8))) ∧ w = w' := by
  go_enter Try.func89, Try.ntmps89
  go_wp2
  all_goals
    go_ret
    exact ⟨ret_bool (by first | (simp [*]; done) | (rw [Bool.eq_iff_iff]; simp [*])), rfl⟩

theorem rest_raw (g : Nat) (A : Option Addr) (n c k : Nat) (code : Int) (w : World) (hB : Blk w g 138 (curCells A n c k code)) (hk : k ≤ n) (hn : n ≤ c) (hc : c ≤ maxLen) :
    Calls Try.prog 88 #[.pointer (some ⟨g, 0, none⟩)] w fun e w' => e = .returned (if code = 0 then .slice (if c = k then A else A.map (·.add k)) (n - k) (c - k) else .slice none 0 0) ∧ ∃ d, w.drewN d = w' := by
  unfold maxLen at hc
  have h0 : w.cell? ⟨g, 0, none⟩ = some (.slice A n c) := hB.cell 0
  have h1 : w.cell? ⟨g, 1, none⟩ = some (.int .i64 k) := hB.cell 1
  have h2 : w.cell? ⟨g, 2, none⟩ = some (.int .i64 code) := hB.cell 2
  clear hB
  by_cases hz : code = 0
  · subst hz
    go_enter Try.func88, Try.ntmps88
    go_wp2
    go_quiet (fail)
    go_wp2
    all_goals
      go_ret
      exact ⟨by simp [*], _, rfl⟩
  · go_enter Try.func88, Try.ntmps88
    go_wp2
    go_ret
    exact ⟨by simp [*], 0, rfl⟩

/-- rest: what is left, as a slice. -/
theorem rest_any {g : Nat} {lo : Nat → Prop} {bs : List UInt8} {k : Nat} {code : Int} {w : World} (h : Cur 138 w g lo bs k code) :
    Calls Try.prog 88 #[.pointer (some ⟨g, 0, none⟩)] w fun e w' =>
      ∃ B c, e = .returned (.slice B (leftOf bs k code).length c) ∧ (leftOf bs k code).length ≤ c ∧ c ≤ maxLen ∧ Sl w B (leftOf bs k code).length (bv (leftOf bs k code)) ∧ (0 < (leftOf bs k code).length → ∀ b o, B = some ⟨b, o, none⟩ → lo b ∧ b ≠ g) ∧ ∃ d, w.drewN d = w' := by
  obtain ⟨A, c, hB, hS, h1, h2, h3, h4⟩ := h
  refine (rest_raw g A bs.length c k code w hB h3 h1 h2).mono ?_
  rintro e w' ⟨rfl, hd⟩
  by_cases hz : code = 0
  · have el : (leftOf bs k code) = bs.drop k := by simp [leftOf, hz]
    have := hS.cut h3 h1
    refine ⟨_, _, by rw [if_pos hz, el, List.length_drop], by rw [el, List.length_drop]; omega, by omega, ?_, ?_, hd⟩
    · rw [el, List.length_drop, bv_drop]
      exact this
    · rw [el, List.length_drop]
      intro hn b o e
      rw [if_neg (by omega)] at e
      obtain ⟨b', o', rfl, _⟩ := hS.2 (by omega)
      have h5 := h4 (by omega) b' o' rfl
      have e' : b' = b := by
        unfold Addr.add at e
        by_cases hk : k = 0 <;> simp [hk] at e <;> omega
      rw [← e']
      exact h5
  · have el : (leftOf bs k code) = [] := by simp [leftOf, hz]
    refine ⟨_, _, by rw [if_neg hz, el]; rfl, by simp [el], by unfold maxLen; omega, ?_, by simp [el], hd⟩
    rw [el]
    exact Sl.nil

set_option maxHeartbeats 400000 in
theorem fail_any {g : Nat} {lo : Nat → Prop} {bs : List UInt8} {k : Nat} {code x : Int} {w : World} (h : Cur 138 w g lo bs k code) :
    Calls Try.prog 90 #[.pointer (some ⟨g, 0, none⟩), .int .i64 x] w fun e w' =>
      e = .returned (.tuple #[]) ∧ Cur 138 w' g lo bs k (over code x) ∧ w.grownBy w' (some g) := by
  obtain ⟨A, c, hB, hS, r⟩ := h
  have h2 : w.cell? ⟨g, 2, none⟩ = some (.int .i64 code) := hB.cell 2
  have hf : w.frozen? ⟨g, 2, none⟩ = false := hB.free 2
  have HB := Lib.hid hB
  have HS := Lib.hid hS
  have HR := Lib.hid r
  clear hB hS r
  by_cases hz : code = 0
  · subst hz
    go_enter Try.func90, Try.ntmps90
    go_wp2
    go_end0
    rw [over_zero]
    refine ⟨rfl, ⟨A, c, HB.out.put 2 _, ?_, HR.out⟩, only_setCell (World.grownBy.refl w _) (.inl rfl) _⟩
    refine HS.out.grown (only_setCell (World.grownBy.refl w _) (.inl rfl) _) (fun hn b o e => (HR.out.2.2.2 hn b o e).2)
  · go_enter Try.func90, Try.ntmps90
    go_wp2
    go_end0
    rw [over_ne _ hz]
    exact ⟨rfl, ⟨A, c, HB.out, HS.out, HR.out⟩, World.grownBy.refl w _⟩

set_option maxHeartbeats 400000 in
theorem pass_any {g : Nat} {lo : Nat → Prop} {bs : List UInt8} {k n : Nat} {x code : Int} {w : World} (h : Cur 138 w g lo bs k code) (hx : x = (n : Int)) (hn : k + n ≤ bs.length) :
    Calls Try.prog 91 #[.pointer (some ⟨g, 0, none⟩), .int .i64 x] w fun e w' =>
      e = .returned (.tuple #[]) ∧ Cur 138 w' g lo bs (k + n) code ∧ w.grownBy w' (some g) := by
  subst hx
  obtain ⟨A, c, hB, hS, r1, r2, r3, r4⟩ := h
  have h2 : w.cell? ⟨g, 1, none⟩ = some (.int .i64 k) := hB.cell 1
  have hf : w.frozen? ⟨g, 1, none⟩ = false := hB.free 1
  have HB := Lib.hid hB
  have HS := Lib.hid hS
  have HR := Lib.hid r4
  have hm := r2
  unfold maxLen at hm
  clear hB hS r4
  go_enter Try.func91, Try.ntmps91
  go_wp2
  go_end0
  refine ⟨rfl, ⟨A, c, ?_, ?_, r1, r2, by omega, HR.out⟩, only_setCell (World.grownBy.refl w _) (.inl rfl) _⟩
  · have := HB.out.put 1 (.int .i64 ((k : Int) + (n : Int)))
    rw [← Int.natCast_add] at this
    simpa [curCells] using this
  · refine HS.out.grown (only_setCell (World.grownBy.refl w _) (.inl rfl) _) (fun hn b o e => (HR.out hn b o e).2)
set_option maxHeartbeats 400000 in
theorem new_any {A : Option Addr} {n c : Nat} {bs : List UInt8} {w : World} (hS : Sl w A n (bv bs)) (hm : n ≤ 1000000000) :
    Calls Try.prog 48 #[.slice A n c] w fun e w' =>
      ∃ g, e = .returned (.pointer (some ⟨g, 0, none⟩)) ∧ w.heap.size ≤ g ∧ Cur 138 w' g (w.heap.size ≤ ·) bs 0 0 ∧ Below w.heap.size w w' := by
  go_enter Try.func48, Try.ntmps48
  go_wp2_with (go_at_call 42; refine (clone_any hS hm).mono ?_; rintro e w' ⟨A', c', rfl, ho, hb⟩; have HO := Lib.hid ho; have HB := Lib.hid hb; clear ho hb)
  go_ret
  have hl : n = bs.length := by rw [← hS.1, bv_length]
  subst hl
  obtain ⟨h1, h2, h3, h4⟩ := own_facts HO.out
  refine ⟨_, rfl, HB.out.size, ⟨A', c', Blk.fresh _ _ _, h1.alloc _, h2, h3, by omega, fun _ b o e => ⟨(h4 b o e).1, Nat.ne_of_lt (h4 b o e).2⟩⟩, HB.out.alloc HB.out.size _⟩
set_option maxHeartbeats 400000 in
theorem least_any {A : Option Addr} {n c : Nat} {bs : List UInt8} {w : World} (hS : Sl w A n (bv bs)) (hm : n ≤ 8) :
    Calls Try.prog 92 #[.slice A n c] w fun e w' => e = .returned (.int .u64 (leVal bs : Int)) ∧ w = w' := by
  go_enter Try.func92, Try.ntmps92
  go_wp2
  go_loop [3, 7] (fun v i => ∃ k : Nat, k ≤ n ∧ i = .int .i64 k ∧ v = .int .u64 (leVal (bs.take k) : Int)) (fun _ i => n - (intOf i).toNat)
  case atStart => exact ⟨0, Nat.zero_le _, rfl, rfl⟩
  case round =>
    obtain ⟨k, hk, rfl, rfl⟩ := hrel
    have hl : bs.length = n := by rw [← hS.1, bv_length]
    by_cases hlt : k < n
    · obtain ⟨b, o, rfl, _, hc⟩ := hS.2 (by omega)
      have hcell : w.cell? ⟨b, o + k, none⟩ = some (.int .u8 ((bs.getD k 0).toNat : Int)) := by rw [hc k hlt, bv_get _ _ (by omega)]
      have hv := leVal_take bs k (by omega)
      generalize bs.getD k 0 = x at hcell hv
      have HV := Lib.hid hv
      have HL := Lib.hid hl
      clear hc hS hv hl
      go_wp2
      go_round
      case rel => exact ⟨k + 1, by omega, by go_num, by rw [HV.out, ← or_step _ _ _ (leVal_take_lt bs k) x.toNat_lt (by omega)]⟩
      case measure => simp [intOf]; omega
    · have HL := Lib.hid hl
      clear hl hS
      go_wp2
      go_ret
      exact ⟨ret_int (by rw [List.take_of_length_le (by have := HL.out; omega)]), rfl⟩
theorem left_le {T : TypeId} {w : World} {g : Nat} {lo : Nat → Prop} {bs : List UInt8} {k : Nat} {code : Int} (h : Cur T w g lo bs k code) : k + (leftOf bs k code).length ≤ bs.length := by
  obtain ⟨_, _, _, _, _, _, h3, _⟩ := h
  unfold leftOf
  split
  · rw [List.length_drop]; omega
  · simp; omega

set_option maxHeartbeats 1000000 in
theorem num_ok {g : Nat} {lo : Nat → Prop} {bs : List UInt8} {k n : Nat} {code : Int} {w : World} (h : Cur 138 w g lo bs k code) (hm : bs.length ≤ 1000000000) (hs : n = 1 ∨ n = 2 ∨ n = 4 ∨ n = 8) (hn : n ≤ (leftOf bs k code).length) :
    Calls Try.prog 49 #[.pointer (some ⟨g, 0, none⟩), .int .i64 (n : Int)] w fun e w' =>
      e = .returned (.int .u64 (leVal ((leftOf bs k code).take n) : Int)) ∧ Cur 138 w' g lo bs (k + n) code ∧ w.grownBy w' (some g) := by
  have hl := left_le h
  have HR := Lib.hid (rest_any h)
  have HC := Lib.hid h
  clear h
  generalize leftOf bs k code = r at *
  have hz := fun w => isSize_any (n : Int) w
  rw [decide_eq_true (by omega)] at hz
  have HZ := Lib.hid hz
  have h8 : n ≤ 8 := by omega
  clear hz hs
  go_enter Try.func49, Try.ntmps49
  go_wp2_with (first
    | (go_at_call 88; refine HR.out.mono ?_; rintro e w1 ⟨B, c, rfl, hcl, hcm, hS, hbg, d, rfl⟩; have HS := Lib.hid hS; have HBG := Lib.hid hbg; clear hS hbg)
    | (go_at_call 89; refine (HZ.out _).mono ?_; rintro e w2 ⟨rfl, rfl⟩)
    | (go_at_call 91; refine (pass_any (n := n) (HC.out.drewN _) rfl (by omega)).mono ?_; rintro e w2 ⟨rfl, hc, hg⟩; have HC2 := Lib.hid hc; have HG := Lib.hid (only_of_drewN hg); clear hc hg))
  have hS2 : Sl w2 B n (bv (r.take n)) := by
    rw [bv_take]
    exact (HS.out.first hn).grown HG.out (fun h0 b o e => (HBG.out (by omega) b o e).2)
  refine (least_any hS2 h8).mono ?_
  rintro e w3 ⟨rfl, rfl⟩
  clear hS2
  go_wp2
  go_ret
  exact ⟨rfl, HC2.out, HG.out⟩

set_option maxHeartbeats 400000 in
theorem withRoom_any {A : Option Addr} {n c m : Nat} {x : Int} {bs : List UInt8} {w : World} (hS : Sl w A n (bv bs)) (hm : n ≤ 1000000000) (hx : x = (m : Int)) (hr : m ≤ 1000000000) :
    Calls Try.prog 94 #[.slice A n c, .int .i64 x] w fun e w' =>
      ∃ A' c', e = .returned (.slice A' n c') ∧ w'.ownsRow w.heap.size 5 1 (.slice A' n c') n (bv bs) ∧ Below w.heap.size w w' := by
  subst hx
  obtain ⟨i, hi, hz0, hz1, hz2⟩ := info_parts info_u8
  go_enter Try.func94, Try.ntmps94
  go_wp2_with (at_make; refine wpList_make_own _ rfl _ _ 22 rfl w.heap.size 5 i _ 1 Try.underlying22 hi hz0 hz1 _ _ _ (n + m) rfl rfl (Int.natCast_add n m).symm ?b1 ?b2 ?b3 ?_)
  case b1 => rw [hz2]; omega
  case b2 => unfold maxLen; omega
  case b3 => omega
  intro w1 ho hg
  have HO := Lib.hid ho
  have HG := Lib.hid hg
  have HS1 := Lib.hid (hS.below (only_none hg))
  clear ho hg hS
  go_wp2_with (at_builtin; refine wpList_app _ rfl (.tmp 9) (.tmp 10) 22 rfl w.heap.size 5 i _ 1 Try.underlying22 hi hz0 hz1 hz2 rfl _ 0 [] rfl HO.out A n c (bv bs) rfl HS1.out (bv_one bs) (by omega) (by omega) HG.out.size ?_)
  intro A' c' w2 ho hg
  have HO2 := Lib.hid ho
  have HG2 := Lib.hid hg
  clear ho hg
  go_wp2
  go_ret
  have ho := HO2.out
  simp only [Nat.zero_add, List.nil_append] at ho ⊢
  exact ⟨A', c', rfl, ho, (only_none HG.out).trans (below_of_only HG2.out (Nat.le_refl _) HG.out.size)⟩

set_option maxHeartbeats 400000 in
theorem putLeast_any {A : Option Addr} {n c base size v : Nat} {x : Int} {bs : List UInt8} {w : World} (hO : w.ownsRow base 5 1 (.slice A n c) n (bv bs)) (hb : base ≤ w.heap.size) (hm : n ≤ 1000000000) (hx : x = (size : Int)) (hs : size ≤ 8) (hv : v < 18446744073709551616) :
    Calls Try.prog 95 #[.slice A n c, .int .i64 x, .int .u64 (v : Int)] w fun e w' =>
      ∃ A' c', e = .returned (.slice A' (n + size) c') ∧ w'.ownsRow base 5 1 (.slice A' (n + size) c') (n + size) (bv (bs ++ leBytes size v)) ∧ Below base w w' := by
  subst hx
  obtain ⟨i, hi, hz0, hz1, hz2⟩ := info_parts info_u8
  have HO := Lib.hid hO
  clear hO
  go_enter Try.func95, Try.ntmps95
  go_wp2
  go_loopw [0, 9] (fun s i wr => ∃ (k : Nat) (A' : Option Addr) (c' : Nat), k ≤ size ∧ i = .int .i64 k ∧ s = .slice A' (n + k) c' ∧ wr.ownsRow base 5 1 (.slice A' (n + k) c') (n + k) (bv (bs ++ leBytes k v)) ∧ Below base w wr) (fun _ i _ => size - (intOf i).toNat)
  case atStart => exact ⟨0, A, c, Nat.zero_le _, rfl, rfl, by simpa [leBytes] using HO.out, Below.refl _ _⟩
  case round =>
    obtain ⟨k, A', c', hk, rfl, rfl, ho, hbw⟩ := hrel
    have HO1 := Lib.hid ho
    have HB := Lib.hid hbw
    have hsz : base ≤ wr.heap.size := Nat.le_trans hb hbw.size
    clear ho hbw HO
    by_cases hlt : k < size
    · have hi8 : (8 * (k : Int)) ≤ 64 := by omega
      go_wp2_with (at_builtin; refine wpList_app _ rfl (.tmp 12) (.tmp 18) 22 rfl base 5 i _ 1 Try.underlying22 hi hz0 hz1 hz2 rfl _ (n + k) _ rfl (HO1.out.alloc _) _ 1 1 _ rfl (sl_one _ _ _) (one_one _ _) (by omega) (by omega) (by simp; omega) ?_)
      intro A2 c2 w2 ho hg
      have hb2 : Below base w w2 := (HB.out.alloc hsz _).grown hg (by simp; omega) (fun k e => (HO1.out.lt k e).1)
      have HO2 := Lib.hid ho
      have HB2 := Lib.hid hb2
      clear ho hg hb2
      go_wp2
      go_roundw
      case rel =>
        refine ⟨k + 1, A2, c2, by omega, by go_num, rfl, ?_, HB2.out⟩
        have ho := HO2.out
        rw [put_byte] at ho
        rw [leBytes_succ, ← List.append_assoc, bv_append]
        exact ho
      case measure => simp [intOf]; omega
    · obtain rfl : k = size := by omega
      go_wp2
      go_ret
      exact ⟨A', c', rfl, HO1.out, HB.out⟩
/-- a number of a size as bytes -/
def putM (size : Int) (v : Nat) : List UInt8 := if size = 1 ∨ size = 2 ∨ size = 4 ∨ size = 8 then leBytes size.toNat v else []

set_option maxHeartbeats 1000000 in
theorem put_any {A : Option Addr} {n c v : Nat} {x : Int} {bs : List UInt8} {w : World} (hS : Sl w A n (bv bs)) (hm : n ≤ 100000000) (hv : v < 18446744073709551616) :
    Calls Try.prog 51 #[.slice A n c, .int .i64 x, .int .u64 (v : Int)] w fun e w' =>
      ∃ A' c', e = .returned (.slice A' (n + (putM x v).length) c') ∧ w'.ownsRow w.heap.size 5 1 (.slice A' (n + (putM x v).length) c') (n + (putM x v).length) (bv (bs ++ putM x v)) ∧ Below w.heap.size w w' := by
  have HS := Lib.hid hS
  clear hS
  have hz := fun w => isSize_any x w
  by_cases hs : x = 1 ∨ x = 2 ∨ x = 4 ∨ x = 8
  · obtain ⟨size, rfl⟩ := Int.eq_ofNat_of_zero_le (show 0 ≤ x by omega)
    rw [decide_eq_true hs] at hz
    have hp : putM (size : Int) v = leBytes size v := by simp [putM, hs]
    rw [hp, leBytes_length]
    have h8 : size ≤ 8 := by omega
    have HZ := Lib.hid hz
    clear hz hs hp
    go_enter Try.func51, Try.ntmps51
    go_wp2_with fail
    refine (withRoom_any (m := 8) HS.out (by omega) rfl (by omega)).mono ?_
    rintro e w1 ⟨A1, c1, rfl, ho, hb⟩
    have HO := Lib.hid ho
    have HB := Lib.hid hb
    clear ho hb
    go_wp2_with fail
    refine (HZ.out _).mono ?_
    rintro e w2 ⟨rfl, rfl⟩
    go_wp2_with fail
    refine (putLeast_any (size := size) HO.out HB.out.size (by omega) rfl h8 hv).mono ?_
    rintro e w2 ⟨A2, c2, rfl, ho, hb⟩
    have HO2 := Lib.hid ho
    have HB2 := Lib.hid (HB.out.trans hb)
    clear ho hb
    go_wp2
    go_ret
    exact ⟨A2, c2, rfl, HO2.out, HB2.out⟩
  · rw [decide_eq_false hs] at hz
    have hp : putM x v = [] := by simp [putM, hs]
    rw [hp]
    have HZ := Lib.hid hz
    clear hz hs hp
    go_enter Try.func51, Try.ntmps51
    go_wp2_with fail
    refine (withRoom_any (m := 8) HS.out (by omega) rfl (by omega)).mono ?_
    rintro e w1 ⟨A1, c1, rfl, ho, hb⟩
    have HO := Lib.hid ho
    have HB := Lib.hid hb
    clear ho hb
    go_wp2_with fail
    refine (HZ.out _).mono ?_
    rintro e w2 ⟨rfl, rfl⟩
    go_wp2
    go_ret
    exact ⟨A1, c1, rfl, by simpa using HO.out, HB.out⟩
end Go.Proofs.Ytjgdjobhhdhfjaa
