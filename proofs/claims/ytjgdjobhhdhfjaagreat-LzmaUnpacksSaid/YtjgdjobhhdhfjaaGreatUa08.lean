/-
  PkSt, PkRow, LwMid, LwSet, LwReset: put together.
-/
import Derived.Test.YtjgdjobhhdhfjaaGreatUa05
import Derived.Test.YtjgdjobhhdhfjaaGreatUa01
import Derived.Deep.Cut
import Derived.Test.YtjgdjobhhdhfjaaGreatUa07
import Derived.Deep.RegionHeld3
import Derived.Test.YtjgdjobhhdhfjaaGreatUa04
import Derived.BigQuiet
set_option linter.unusedVariables false
set_option linter.unusedSimpArgs false
/-
  The program's states: behind each packet.
-/
namespace Go.Proofs.YtjgdjobhhdhfjaaGreat
open Go.RowKit

set_option maxRecDepth 100000 in
set_option maxHeartbeats 1000000 in
theorem papart_any (st : Nat) (w : World) :
    Calls Tryz.prog 90 #[.int .i64 (st : Int)] w fun e w' => e = .returned (.bool (decide (7 ≤ st))) ∧ w = w' := by
  have hu : decide ((st : Int) ≥ 7) = decide (7 ≤ st) := by rw [Bool.eq_iff_iff]; simp; omega
  have HU := Lib.hid hu
  clear hu
  go_enter Tryz.func90, Tryz.ntmps90
  go_wp2_with fail
  go_ret
  exact ⟨congrArg (fun x => Ending.returned (.bool x)) HU.out, rfl⟩

set_option maxRecDepth 100000 in
set_option maxHeartbeats 1000000 in
theorem pbehind_any (st a b : Nat) (w : World) :
    Calls Tryz.prog 98 #[.int .i64 (st : Int), .int .i64 (a : Int), .int .i64 (b : Int)] w fun e w' => e = .returned (.int .i64 ((aft a b st : Nat) : Int)) ∧ w = w' := by
  have KA := Lib.hid (papart_any st w)
  unfold aft
  by_cases h7 : st < 7
  · have g7 : decide (7 ≤ st) = false := decide_eq_false (by omega)
    rw [g7] at KA
    rw [if_pos h7]
    clear h7 g7
    go_enter Tryz.func98, Tryz.ntmps98
    go_wp2_with fail
    refine KA.out.mono ?_
    rintro e w1 ⟨rfl, rfl⟩
    go_wp2_with fail
    go_ret
    exact ⟨rfl, rfl⟩
  · have g7 : decide (7 ≤ st) = true := decide_eq_true (by omega)
    rw [g7] at KA
    rw [if_neg h7]
    clear h7 g7
    go_enter Tryz.func98, Tryz.ntmps98
    go_wp2_with fail
    refine KA.out.mono ?_
    rintro e w1 ⟨rfl, rfl⟩
    go_wp2_with fail
    go_ret
    exact ⟨rfl, rfl⟩

set_option maxRecDepth 100000 in
set_option maxHeartbeats 1000000 in
theorem pmat_any (st : Nat) (w : World) :
    Calls Tryz.prog 95 #[.int .i64 (st : Int)] w fun e w' => e = .returned (.int .i64 ((aft 7 10 st : Nat) : Int)) ∧ w = w' := by
  have KA := Lib.hid (pbehind_any st 7 10 w)
  go_enter Tryz.func95, Tryz.ntmps95
  go_wp2_with fail
  refine KA.out.mono ?_
  rintro e w1 ⟨rfl, rfl⟩
  go_wp2_with fail
  go_ret
  exact ⟨rfl, rfl⟩

set_option maxRecDepth 100000 in
set_option maxHeartbeats 1000000 in
theorem pag_any (st : Nat) (w : World) :
    Calls Tryz.prog 99 #[.int .i64 (st : Int)] w fun e w' => e = .returned (.int .i64 ((aft 8 11 st : Nat) : Int)) ∧ w = w' := by
  have KA := Lib.hid (pbehind_any st 8 11 w)
  go_enter Tryz.func99, Tryz.ntmps99
  go_wp2_with fail
  refine KA.out.mono ?_
  rintro e w1 ⟨rfl, rfl⟩
  go_wp2_with fail
  go_ret
  exact ⟨rfl, rfl⟩

set_option maxRecDepth 100000 in
set_option maxHeartbeats 1000000 in
theorem psing_any (st : Nat) (w : World) :
    Calls Tryz.prog 49 #[.int .i64 (st : Int)] w fun e w' => e = .returned (.int .i64 ((aft 9 11 st : Nat) : Int)) ∧ w = w' := by
  have KA := Lib.hid (pbehind_any st 9 11 w)
  go_enter Tryz.func49, Tryz.ntmps49
  go_wp2_with fail
  refine KA.out.mono ?_
  rintro e w1 ⟨rfl, rfl⟩
  go_wp2_with fail
  go_ret
  exact ⟨rfl, rfl⟩

set_option maxRecDepth 100000 in
set_option maxHeartbeats 1000000 in
theorem llit7_any (st : Nat) (hs : st ≤ 11) (w : World) :
    Calls Tryz.prog 93 #[.int .i64 (st : Int)] w fun e w' => e = .returned (.int .i64 ((litSt st : Nat) : Int)) ∧ w = w' := by
  unfold litSt
  by_cases h4 : st < 4
  · have g4 : (st : Int) < 4 := by omega
    rw [if_pos h4]
    clear h4 hs
    go_enter Tryz.func93, Tryz.ntmps93
    go_wp2_with fail
    go_ret
    exact ⟨rfl, rfl⟩
  · have g4 : ¬ (st : Int) < 4 := by omega
    rw [if_neg h4]
    by_cases h10 : st < 10
    · have g10 : (st : Int) < 10 := by omega
      rw [if_pos h10]
      have e1 : IntKind.i64.wrap ((st : Int) - 3) = ((st - 3 : Nat) : Int) := by rw [show (st : Int) - 3 = ((st - 3 : Nat) : Int) by omega]; exact IntWalk.i64_in _ (by omega)
      clear h4 h10 hs
      go_enter Tryz.func93, Tryz.ntmps93
      go_wp2_with fail
      go_ret
      exact ⟨rfl, rfl⟩
    · have g10 : ¬ (st : Int) < 10 := by omega
      rw [if_neg h10]
      have e1 : IntKind.i64.wrap ((st : Int) - 6) = ((st - 6 : Nat) : Int) := by rw [show (st : Int) - 6 = ((st - 6 : Nat) : Int) by omega]; exact IntWalk.i64_in _ (by omega)
      clear h4 h10 hs
      go_enter Tryz.func93, Tryz.ntmps93
      go_wp2_with fail
      go_ret
      exact ⟨rfl, rfl⟩
end Go.Proofs.YtjgdjobhhdhfjaaGreat

/-
  The program's probabilities of packets: those of a literal, and of a distance's slot.
-/
namespace Go.Proofs.YtjgdjobhhdhfjaaGreat
open Go.RowKit

theorem ofInt_w64 (a : Nat) (h : a < 18446744073709551616) : (BitVec.ofInt 64 (a : Int)).toNat = a := by simp; omega
theorem i64_and_low (n k : Nat) (hn : n < 9223372036854775808) (hk : k ≤ 62) : bits .and .i64 (n : Int) (wrap64 (wrap64 (2 ^ k) - 1)) = ((n % 2 ^ k : Nat) : Int) := by
  have hp : 2 ^ k ≤ 2 ^ 62 := Nat.pow_le_pow_right (by omega) hk
  have h1 : 1 ≤ 2 ^ k := Nat.one_le_two_pow
  have hw : wrap64 (2 ^ k) = ((2 ^ k : Nat) : Int) := by
    rw [cast_pow2]
    generalize 2 ^ k = y at *
    unfold wrap64
    omega
  have hw2 : wrap64 (((2 ^ k : Nat) : Int) - 1) = ((2 ^ k - 1 : Nat) : Int) := by
    generalize 2 ^ k = y at *
    unfold wrap64
    omega
  rw [hw, hw2]
  show IntKind.i64.wrap ((BitVec.ofInt 64 (n : Int) &&& BitVec.ofInt 64 ((2 ^ k - 1 : Nat) : Int)).toNat : Int) = _
  rw [BitVec.toNat_and, ofInt_w64 n (by omega), ofInt_w64 (2 ^ k - 1) (by omega), Nat.and_two_pow_sub_one_eq_mod]
  have := Nat.mod_le n (2 ^ k)
  exact IntWalk.i64_in _ (by omega)

theorem pow_pb {k : Nat} (h : k ≤ 4) : 2 ^ k ≤ 16 := Nat.le_trans (Nat.pow_le_pow_right (by omega) h) (by decide)
theorem mod_pb {n k : Nat} (h : k ≤ 4) : n % 2 ^ k ≤ 15 := by
  have h1 := pow_pb h
  have h2 := Nat.mod_lt n (Nat.two_pow_pos k)
  omega

theorem wrap_id (x : Nat) (h : x < 9223372036854775808) : wrap64 (x : Int) = (x : Int) := by unfold wrap64; omega
theorem shr_nat (x k : Nat) (h : x < 9223372036854775808) : wrap64 (x : Int) / 2 ^ k = ((x / 2 ^ k : Nat) : Int) := by
  rw [wrap_id x h, cast_pow2]
  exact (Int.natCast_ediv x (2 ^ k)).symm
theorem shl_nat (x k y : Nat) (hy : y = x * 2 ^ k) (h : y < 9223372036854775808) : wrap64 ((x : Int) * 2 ^ k) = (y : Int) := by
  rw [cast_pow2, ← Int.natCast_mul, ← hy]
  exact wrap_id y h

theorem row_small {a x nl : Nat} (h : a = 768 * x) (h1 : a + 768 ≤ nl) (h2 : nl ≤ 100000000) : x ≤ 200000 ∧ a ≤ 100000000 := by omega
theorem row_facts {a S b nl P2 last : Nat} (h : a = 768 * (P2 + last)) (h1 : a + 768 ≤ nl) (h2 : nl ≤ 100000000) (hS : S = P2 + last) (hb : b = a + 768) :
    wrap64 ((P2 : Int) + (last : Int)) = (S : Int) ∧ wrap64 (768 * (S : Int)) = (a : Int) ∧ wrap64 ((a : Int) + 768) = (b : Int) ∧ (0 : Int) ≤ (a : Int) ∧ (a : Int) ≤ (b : Int) ∧ (b : Int) ≤ (nl : Int) ∧ ¬ nl = a := by
  have hs := row_small h h1 h2
  refine ⟨?_, ?_, ?_, by omega, by omega, by omega, by omega⟩
  · rw [← Int.natCast_add, ← hS]
    exact wrap_id _ (by omega)
  · rw [show 768 * (S : Int) = (a : Int) by omega]
    exact wrap_id _ (by omega)
  · rw [show (a : Int) + 768 = (b : Int) by omega]
    exact wrap_id _ (by omega)


set_option maxRecDepth 100000 in
set_option maxHeartbeats 2000000 in
theorem pslot_any {g o0 l ml : Nat} (hm : ml = min l 3) (w : World) :
    Calls Tryz.prog 131 #[.pointer (some ⟨g, o0, none⟩), .int .i64 (l : Int)] w fun e w' => e = .returned (.slice (some ⟨g, o0 + 1591 + ml * 64, none⟩) 64 64) ∧ w = w' := by
  by_cases h3 : l ≤ 3
  · obtain rfl : ml = l := by omega
    have g3 : (ml : Int) ≤ 3 := by omega
    have g3' : (ml : Int) < 4 := by omega
    have g0 : (0 : Int) ≤ (ml : Int) := by omega
    have gm : min (ml : Int) 3 = (ml : Int) := by omega
    clear hm h3
    go_enter Tryz.func131, Tryz.ntmps131
    go_wp2_with fail
    go_ret
    exact ⟨rfl, rfl⟩
  · obtain rfl : ml = 3 := by omega
    have g3 : ¬ (l : Int) ≤ 3 := by omega
    have gm : min (l : Int) 3 = 3 := by omega
    clear hm h3
    go_enter Tryz.func131, Tryz.ntmps131
    go_wp2_with fail
    go_ret
    exact ⟨rfl, rfl⟩

set_option maxRecDepth 100000 in
set_option maxHeartbeats 4000000 in
theorem prow_any {b nl lc lp n last a : Nat} {pb d : Int} (hlc : lc ≤ 8) (hlp : lp ≤ 4) (hn : n ≤ 1000000) (hla : last < 256) (ha : a = 768 * (n % 2 ^ lp * 2 ^ lc + last / 2 ^ (8 - lc))) (h1 : a + 768 ≤ nl) (h2 : nl ≤ 100000000) (w : World) :
    Calls Tryz.prog 88 #[.slice (some ⟨b, 0, none⟩) nl nl, .agg #[.int .i64 (lc : Int), .int .i64 (lp : Int), .int .i64 pb, .int .i64 d], .int .i64 (n : Int), .int .u8 (last : Int)] w fun e w' => e = .returned (.slice (some ⟨b, a, none⟩) 768 (nl - a)) ∧ Only (fun _ => False) w w' := by
  have hl4 : min lp 64 = lp := by omega
  have hl8 : min lc 64 = lc := by omega
  have hl88 : min (8 - lc) 64 = 8 - lc := by omega
  obtain ⟨w1, hw1⟩ : ∃ w1, w1 = w.alloc (.cells #[.int .i64 (lc : Int), .int .i64 (lp : Int), .int .i64 pb, .int .i64 d] 24) := ⟨_, rfl⟩
  have hb1 : Only (fun _ => False) w w1 := by rw [hw1]; exact (Only.refl _ w).alloc _
  have HBk : Blk w1 w.heap.size 24 #[.int .i64 (lc : Int), .int .i64 (lp : Int), .int .i64 pb, .int .i64 d] := by rw [hw1]; exact Blk.fresh w _ _
  have c0 : w1.cell? ⟨w.heap.size, 0, none⟩ = some (.int .i64 (lc : Int)) := HBk.cell 0
  have c1 : w1.cell? ⟨w.heap.size, 1, none⟩ = some (.int .i64 (lp : Int)) := HBk.cell 1
  have e0 : IntKind.i64.wrap (8 - (lc : Int)) = ((8 - lc : Nat) : Int) := by rw [show 8 - (lc : Int) = ((8 - lc : Nat) : Int) by omega]; exact IntWalk.i64_in _ (by omega)
  have E1 := Lib.hid (i64_and_low n lp (by omega) (by omega))
  obtain ⟨P, hP⟩ : ∃ P, P = n % 2 ^ lp := ⟨_, rfl⟩
  rw [← hP] at E1 ha
  have E2 := Lib.hid (shr_nat last (8 - lc) (by omega))
  obtain ⟨la, hla2⟩ : ∃ x, x = last / 2 ^ (8 - lc) := ⟨_, rfl⟩
  rw [← hla2] at E2 ha
  obtain ⟨P2, hP2⟩ : ∃ x, x = P * 2 ^ lc := ⟨_, rfl⟩
  rw [← hP2] at ha
  have hsm := row_small ha h1 h2
  have f1 := shl_nat P lc P2 hP2 (Nat.lt_of_le_of_lt (Nat.le_trans (Nat.le_add_right _ _) hsm.1) (by decide))
  obtain ⟨S, hS⟩ : ∃ S, S = P2 + la := ⟨_, rfl⟩
  obtain ⟨b2, hb⟩ : ∃ b, b = a + 768 := ⟨_, rfl⟩
  obtain ⟨f2, f3, f4, g1, g2, g3, g4⟩ := row_facts ha h1 h2 hS hb
  have HB := Lib.hid hb
  have HF := Lib.hid (And.intro f1 (And.intro f2 (And.intro f3 (And.intro f4 (And.intro g1 (And.intro g2 (And.intro g3 g4)))))))
  have HW1 := Lib.hid hw1
  have HB1 := Lib.hid hb1
  clear hb ha hP hla2 hP2 hsm f1 f2 f3 f4 g1 g2 g3 g4 hS hn h1 h2 hla hw1 hb1 HBk
  go_enter Tryz.func88, Tryz.ntmps88
  go_upto_region 1 with fail
  rw [← HW1.out]
  clear HW1
  go_upto_region 2 with fail
  rw [E1.out]
  go_quiet (fail)
  rw [E2.out]
  have HB2 := Lib.hid (HB1.out.drewN nq)
  obtain ⟨f1, f2, f3, f4, g1, g2, g3, g4⟩ := HF.out
  clear e0 E1 E2 HF c0 c1 HB1
  generalize w1.drewN nq = w2 at *
  go_wp2_with fail
  go_ret
  have e768 : b2 - a = 768 := by have := HB.out; omega
  exact ⟨congrArg (fun n => Ending.returned (.slice (some ⟨b, a, none⟩) n (nl - a))) e768, HB2.out⟩
end Go.Proofs.YtjgdjobhhdhfjaaGreat

/-
  The program's decoder of LZMA: its small calls: the place's bits, which packet, which elder distance.
-/
namespace Go.Proofs.YtjgdjobhhdhfjaaGreat
open Go.RowKit

/-! ### a machine that is dead changes nothing; what is wanted of a decoder doesn't matter -/
theorem set_self (ps : List Nat) (a : Nat) : ps.set a (ps.getD a 0) = ps := by
  by_cases h : a < ps.length
  · exact set_same_get ps a h
  · exact List.set_eq_of_length_le (by omega)
theorem bitP_none {t : Pm Dc} {a : Nat} {w : Int} (h : t.x = none) : bitP decM t a w = (0, t) := by
  show ((bitD t.x (t.ps.getD a 0)).1, (⟨t.ps.set a (bitD t.x (t.ps.getD a 0)).2.1, (bitD t.x (t.ps.getD a 0)).2.2⟩ : Pm Dc)) = _
  rw [h]
  show (0, (⟨t.ps.set a (t.ps.getD a 0), none⟩ : Pm Dc)) = _
  rw [set_self, ← h]
theorem treeG_none {t : Pm Dc} {a n : Nat} {v : Int} (h : t.x = none) : ∀ j, (treeG decM t a n v j).t = t
  | 0 => rfl
  | j + 1 => by
    show (bitP decM (treeG decM t a n v j).t _ _).2 = t
    rw [treeG_none h j, bitP_none h]
theorem revG_none {t : Pm Dc} {a : Nat} {v : Int} (h : t.x = none) : ∀ j, (revG decM t a v j).t = t
  | 0 => rfl
  | j + 1 => by
    show (bitP decM (revG decM t a v j).t _ _).2 = t
    rw [revG_none h j, bitP_none h]
theorem treeP_none {t : Pm Dc} {a n : Nat} {v : Int} (h : t.x = none) : (treeP decM t a n v).2 = t := treeG_none h n
theorem revP_none {t : Pm Dc} {a n : Nat} {v : Int} (h : t.x = none) : (revP decM t a n v).2 = t := revG_none h n
theorem treeG_dec {t : Pm Dc} {a n : Nat} (v v' : Int) : ∀ j, treeG decM t a n v j = treeG decM t a n v' j
  | 0 => rfl
  | j + 1 => by
    show tgStep decM a j _ (treeG decM t a n v j) = tgStep decM a j _ (treeG decM t a n v' j)
    rw [treeG_dec v v' j]
    rfl
theorem revG_dec {t : Pm Dc} {a : Nat} (v v' : Int) : ∀ j, revG decM t a v j = revG decM t a v' j
  | 0 => rfl
  | j + 1 => by
    show tgStep decM a j _ (revG decM t a v j) = tgStep decM a j _ (revG decM t a v' j)
    rw [revG_dec v v' j]
    rfl
theorem treeP_dec {t : Pm Dc} {a n : Nat} (v v' : Int) : treeP decM t a n v = treeP decM t a n v' := by
  unfold treeP
  rw [treeG_dec v v']
theorem revP_dec {t : Pm Dc} {a n : Nat} (v v' : Int) : revP decM t a n v = revP decM t a n v' := by
  unfold revP
  rw [revG_dec v v']
theorem lenB_none {b : Nat × Pm Dc} {a s : Nat} {v : Int} (h : b.2.x = none) : (lenB decM b a s v).2 = b.2 := by
  unfold lenB
  split
  · dsimp only
    exact treeP_none h
  · dsimp only
    exact treeP_none h
theorem lenP_none {t : Pm Dc} {a s : Nat} {v : Int} (h : t.x = none) : (lenP decM t a s v).2 = t := by
  unfold lenP
  rw [bitP_none h]
  exact treeP_none h
theorem distB_none {b : Nat × Pm Dc} {v : Nat} (h : b.2.x = none) : (distB decM b v).2 = b.2 := by
  unfold distB
  split
  · rfl
  split
  · exact revP_none h
  · unfold distC
    have e : (decM.str b.2.x (b.1 / 2 - 1 - 4) ((v + 4294967296 - (2 + b.1 % 2) * 2 ^ (b.1 / 2 - 1)) % 4294967296 / 16)).2 = none := by
      show (straightD _ b.2.x).2 = none
      rw [h, straightD_none]
    rw [e]
    have : (⟨b.2.ps, none⟩ : Pm Dc) = b.2 := by rw [← h]
    rw [this]
    exact revP_none h
theorem distP_none {t : Pm Dc} {l v : Nat} (h : t.x = none) : (distP decM t l v).2 = t := by
  have h1 : (treeP decM t (432 + 64 * min l 3) 6 (slotOf v : Int)).2 = t := treeP_none h
  unfold distP
  rw [distB_none (by rw [h1]; exact h), h1]

/-! ### where a probability lies -/
section
variable {K : Kon} {w w' : World} {Gw : Nat → Prop} {z : Lzs} {t : Pm Dc} {left : Nat}
theorem Kon.lay (K : Kon) : Lay K.ad K.g 15 := fun a ha => by unfold Kon.ad; rw [if_pos ha]
theorem Kon.ad_low {a i : Nat} (h : a < 192) (hi : i = 15 + a) : K.ad a = (K.g, i) := K.lay.low h hi
theorem Kon.ad_rep {a i : Nat} (h : 192 ≤ a) (h1 : a < 240) (hi : i = 15 + (a + 192)) : K.ad a = (K.g, i) := K.lay.rep h h1 hi
theorem Kon.ad_long {a i : Nat} (h : 240 ≤ a) (h1 : a < 432) (hi : i = 15 + (a - 48)) : K.ad a = (K.g, i) := K.lay.long h h1 hi
theorem Kon.ad_slot {a i : Nat} (h : 432 ≤ a) (h1 : a < 688) (hi : i = 15 + (a + 1159)) : K.ad a = (K.g, i) := K.lay.slot h h1 hi
theorem Kon.ad_rest {a i : Nat} (h : 688 ≤ a) (h1 : a < 1847) (hi : i = 15 + (a - 256)) : K.ad a = (K.g, i) := K.lay.rest h h1 hi
theorem Kon.ad_lit {a i : Nat} (h : 1847 ≤ a) (hi : i = a - 1847) : K.ad a = (K.lb, i) := by
  unfold Kon.ad
  rw [if_neg (by omega), hi]

theorem Lw.bit (h : Lw K w Gw z t left) {a b i : Nat} (k : Int) (hab : K.ad a = (b, i)) (ha : a < 1847 + K.nl) :
    Calls Tryz.prog 109 #[.pointer (some ⟨K.dg, 0, none⟩), .pointer (some ⟨b, i, none⟩)] w (MidPost K w Gw (.int .i64 ((bitP decM t a k).1 : Int)) z (bitP decM t a k).2 left) :=
  (lw_bit (K.prb _ h.ap.gn) h.ap.b0 hab ha h.mch).mono fun _ _ hp => h.bits hp
/-- a value that is told, by a machine that may be dead then -/
def Alive (t : Pm Dc) (v u : Nat) : Nat := if t.x = none then v else u
def TreePost (K : Kon) (w : World) (Gw : Nat → Prop) (z : Lzs) (r : Nat × Pm Dc) (left : Nat) (e : Ending) (w' : World) : Prop := MidPost K w Gw (.int .i64 (Alive r.2 0 r.1 : Nat)) z r.2 left e w'
theorem Lw.tree (h : Lw K w Gw z t left) {a n b o len cap : Nat} (v : Int) (had : ∀ m, m < 2 ^ n → K.ad (a + m) = (b, o + m)) (haL : a + 2 ^ n ≤ 1847 + K.nl) (hn : 2 ^ n ≤ len) (hn8 : n ≤ 8) :
    Calls Tryz.prog 113 #[.pointer (some ⟨K.dg, 0, none⟩), .slice (some ⟨b, o, none⟩) len cap, .int .i64 (n : Int)] w (TreePost K w Gw z (treeP decM t a n v) left) := by
  rw [treeP_dec v 0]
  exact (lw_tree (K.prb _ h.ap.gn) h.ap.b0 had haL rfl h.mch hn hn8).mono fun _ _ hp => h.bits hp
theorem Lw.rev (h : Lw K w Gw z t left) {a n b o len cap : Nat} (v : Int) (had : ∀ m, m < 2 ^ n → K.ad (a + m) = (b, o + m)) (haL : a + 2 ^ n ≤ 1847 + K.nl) (hn : 2 ^ n ≤ len) (hn8 : n ≤ 8) :
    Calls Tryz.prog 151 #[.pointer (some ⟨K.dg, 0, none⟩), .slice (some ⟨b, o, none⟩) len cap, .int .i64 (n : Int)] w (TreePost K w Gw z (revP decM t a n v) left) := by
  rw [revP_dec v 0]
  exact (lw_rev (K.prb _ h.ap.gn) h.ap.b0 had haL rfl h.mch hn hn8).mono fun _ _ hp => h.bits hp
theorem Lw.straight (h : Lw K w Gw z t left) {n : Nat} (hn : n ≤ 32) :
    Calls Tryz.prog 152 #[.pointer (some ⟨K.dg, 0, none⟩), .int .i64 (n : Int)] w (MidPost K w Gw (.int .u32 ((straightD n t.x).1 : Int)) z ⟨t.ps, (straightD n t.x).2⟩ left) :=
  (lw_straight (K.prb _ h.ap.gn) h.ap.b0 h.mch hn).mono fun _ _ hp => h.bits hp
theorem Lw.isBad (h : Lw K w Gw z t left) : Calls Tryz.prog 108 #[.pointer (some ⟨K.dg, 0, none⟩)] w fun e w' => e = .returned (.bool (decM.bad t.x)) ∧ w = w' := lw_bad h.mch

/-- what its fields hold -/
structure Lf (K : Kon) (w : World) (z : Lzs) (left : Nat) : Prop where
  c0 : w.cell? ⟨K.g, 0, none⟩ = some (.int .i64 (z.lc : Int))
  c1 : w.cell? ⟨K.g, 1, none⟩ = some (.int .i64 (z.lp : Int))
  c2 : w.cell? ⟨K.g, 2, none⟩ = some (.int .i64 (z.pb : Int))
  c4 : w.cell? ⟨K.g, 4, none⟩ = some (.iface 63 (.pointer (some ⟨K.f, 0, none⟩)))
  c5 : w.cell? ⟨K.g, 5, none⟩ = some (.pointer (some ⟨K.dg, 0, none⟩))
  c6 : w.cell? ⟨K.g, 6, none⟩ = some (.pointer (some ⟨K.wg, 0, none⟩))
  c7 : w.cell? ⟨K.g, 7, none⟩ = some (.pointer (some ⟨K.m, 0, none⟩))
  c8 : w.cell? ⟨K.g, 8, none⟩ = some (.int .i64 K.room)
  c9 : w.cell? ⟨K.g, 9, none⟩ = some (.int .i64 (z.out.length : Int))
  c10 : w.cell? ⟨K.g, 10, none⟩ = some (.int .i64 (z.st : Int))
  c11 : w.cell? ⟨K.g, 11, none⟩ = some (.int .u32 (z.r0 : Int))
  c12 : w.cell? ⟨K.g, 12, none⟩ = some (.int .u32 (z.r1 : Int))
  c13 : w.cell? ⟨K.g, 13, none⟩ = some (.int .u32 (z.r2 : Int))
  c14 : w.cell? ⟨K.g, 14, none⟩ = some (.int .u32 (z.r3 : Int))
  lits : w.cell? ⟨K.g, 1862, none⟩ = some (.slice (some ⟨K.lb, 0, none⟩) K.nl K.nl)
  left : w.cell? ⟨K.g, 1863, none⟩ = some (.int .i64 (left : Int))
  ended : w.cell? ⟨K.g, 1864, none⟩ = some (.bool z.ended)
  bad : w.cell? ⟨K.g, 1865, none⟩ = some (.bool z.bad)
  fz : ∀ i, w.frozen? ⟨K.g, i, none⟩ = false
theorem Lw.f (h : Lw K w Gw z t left) : Lf K w z left :=
  ⟨h.dec.cell 0 (by decide), h.dec.cell 1 (by decide), h.dec.cell 2 (by decide), h.dec.cell 4 (by decide), h.dec.cell 5 (by decide), h.dec.cell 6 (by decide), h.dec.cell 7 (by decide), h.dec.cell 8 (by decide), h.dec.cell 9 (by decide), h.dec.cell 10 (by decide),
    h.dec.cell 11 (by decide), h.dec.cell 12 (by decide), h.dec.cell 13 (by decide), h.dec.cell 14 (by decide), h.dec.cell 15 (by decide), h.dec.cell 16 (by decide), h.dec.cell 17 (by decide), h.dec.cell 18 (by decide), fun i => h.dec.free i⟩

set_option maxRecDepth 100000 in
set_option maxHeartbeats 1000000 in
theorem lplace_any (h : Lw K w Gw z t left) (hp : z.pb ≤ 4) (ho : z.out.length ≤ 1000000) :
    Calls Tryz.prog 110 #[.pointer (some ⟨K.g, 0, none⟩)] w fun e w' => e = .returned (.int .i64 ((z.out.length % 2 ^ z.pb : Nat) : Int)) ∧ ∃ n, w.drewN n = w' := by
  have c9 := h.f.c9
  have c2 := h.f.c2
  have e0 := i64_and_low z.out.length z.pb (by omega) (by omega)
  have HE0 := Lib.hid e0
  clear h e0
  generalize z.out.length = n at *
  generalize z.pb = k at *
  go_enter Tryz.func110, Tryz.ntmps110
  go_wp2_with fail
  go_quiet (fail)
  go_wp2_with fail
  go_ret
  exact ⟨congrArg (fun x => Ending.returned (.int .i64 x)) HE0.out, _, rfl⟩

theorem lplace_mid (h : Lw K w Gw z t left) (hp : z.pb ≤ 4) (ho : z.out.length ≤ 1000000) :
    Calls Tryz.prog 110 #[.pointer (some ⟨K.g, 0, none⟩)] w (MidPost K w Gw (.int .i64 ((z.out.length % 2 ^ z.pb : Nat) : Int)) z t left) := by
  refine (lplace_any h hp ho).mono ?_
  rintro e w' ⟨rfl, n, rfl⟩
  exact ⟨rfl, h.drewN n, (Only.refl _ w).drewN n⟩

set_option maxRecDepth 100000 in
set_option maxHeartbeats 2000000 in
theorem lstart_any (h : Lw K w Gw z t left) (hs : z.st ≤ 11) (hp : z.pb ≤ 4) (ho : z.out.length ≤ 1000000) :
    Calls Tryz.prog 64 #[.pointer (some ⟨K.g, 0, none⟩)] w
      (MidPost K w Gw (.bool (decide ((bitP decM t (16 * z.st + z.out.length % 2 ^ z.pb) 0).1 = 0))) z (bitP decM t (16 * z.st + z.out.length % 2 ^ z.pb) 0).2 left) := by
  have c10 := h.f.c10
  have c5 := h.f.c5
  have KP := Lib.hid (fun n => lplace_any (h.drewN n) hp ho)
  have hs15 := mod_pb (n := z.out.length) hp
  obtain ⟨s, hs2⟩ : ∃ s, s = z.out.length % 2 ^ z.pb := ⟨_, rfl⟩
  rw [← hs2] at KP hs15 ⊢
  have KB := Lib.hid (fun n => (h.drewN n).bit (a := 16 * z.st + s) (b := K.g) (i := 15 + z.st * 16 + s) 0 (Kon.ad_low (by omega) (by omega)) (by omega))
  obtain ⟨B, hB⟩ : ∃ B, B = bitP decM t (16 * z.st + s) 0 := ⟨_, rfl⟩
  rw [← hB] at KB ⊢
  obtain ⟨st, hst⟩ : ∃ st, st = z.st := ⟨_, rfl⟩
  rw [← hst] at c10 KB
  have i1 : (st : Int) < 12 := by omega
  have i0 : (0 : Int) ≤ (st : Int) := by omega
  have j1 : (s : Int) < 16 := by omega
  have j0 : (0 : Int) ≤ (s : Int) := by omega
  have hu : ((B.1 : Int) == 0) = decide (B.1 = 0) := by rw [Bool.eq_iff_iff]; simp
  have HST := Lib.hid hst
  clear h hst hs2 hB hs15 hs hp ho
  go_enter Tryz.func64, Tryz.ntmps64
  go_wp2_with fail
  go_region_held3 (fun w' => w'.cell? ⟨K.g, 5, none⟩ = some (.pointer (some ⟨K.dg, 0, none⟩)) ∧ w'.cell? ⟨K.g, 10, none⟩ = some (.int .i64 (st : Int)))
    (first | assumption | go_keep | exact ⟨c5, c10⟩ | exact ⟨e5, e10⟩)
    (first
      | (go_at_call 110; refine (KP.out 1).mono ?_; rintro e w1 ⟨rfl, n1, rfl⟩; clear KP)
      | (go_at_call 109; refine (KB.out _).mono ?_; rintro e w2 ⟨rfl, hz2, ho2⟩; have e5 := hz2.f.c5; have e10 := hz2.f.c10; rw [← HST.out] at e10; have HZ2 := Lib.hid hz2; have HO2 := Lib.hid (Only.of_drewN ho2); clear hz2 ho2 KB))
  go_wp2_with fail
  go_ret
  exact ⟨rfl, HZ2.out, HO2.out⟩

def ElderPost (K : Kon) (w : World) (Gw : Nat → Prop) (z : Lzs) (t : Pm Dc) (left : Nat) (e : Ending) (w' : World) : Prop :=
  ((bitP decM t (216 + z.st) 0).1 = 0 ∧ MidPost K w Gw (.int .i64 ((1 : Nat) : Int)) z (bitP decM t (216 + z.st) 0).2 left e w') ∨
  ((bitP decM t (216 + z.st) 0).1 ≠ 0 ∧ MidPost K w Gw (.int .i64 ((2 + (bitP decM (bitP decM t (216 + z.st) 0).2 (228 + z.st) 0).1 : Nat) : Int)) z (bitP decM (bitP decM t (216 + z.st) 0).2 (228 + z.st) 0).2 left e w')

set_option maxRecDepth 100000 in
set_option maxHeartbeats 2000000 in
theorem lelder_any (h : Lw K w Gw z t left) (hs : z.st ≤ 11) :
    Calls Tryz.prog 143 #[.pointer (some ⟨K.g, 0, none⟩)] w (ElderPost K w Gw z t left) := by
  have c10 := h.f.c10
  have c5 := h.f.c5
  have KB := Lib.hid ((h.drewN 1).bit (a := 216 + z.st) (b := K.g) (i := 423 + z.st) 0 (Kon.ad_rep (by omega) (by omega) (by omega)) (by omega))
  have KB2 := Lib.hid (fun (w1 : World) (h1 : Lw K w1 Gw z (bitP decM t (216 + z.st) 0).2 left) => (h1.drewN 1).bit (a := 228 + z.st) (b := K.g) (i := 435 + z.st) 0 (Kon.ad_rep (by omega) (by omega) (by omega)) (by omega))
  have hb1 := (bitP_ok decM_ok (k := 0) (a := 216 + z.st) (w := 0) (okD_any h.mch.ok) (by omega) (fun h => by cases h))
  have hb2 := (bitP_ok decM_ok (k := 0) (a := 228 + z.st) (w := 0) (okD_any hb1.2) (by omega) (fun h => by cases h)).1
  unfold ElderPost
  obtain ⟨B, hB⟩ : ∃ B, B = bitP decM t (216 + z.st) 0 := ⟨_, rfl⟩
  rw [← hB] at KB KB2 hb1 hb2 ⊢
  obtain ⟨B2, hB2⟩ : ∃ B2, B2 = bitP decM B.2 (228 + z.st) 0 := ⟨_, rfl⟩
  rw [← hB2] at KB2 hb2 ⊢
  obtain ⟨st, hst⟩ : ∃ st, st = z.st := ⟨_, rfl⟩
  rw [← hst] at c10 KB KB2
  have i1 : (st : Int) < 12 := by omega
  have i0 : (0 : Int) ≤ (st : Int) := by omega
  have e2 : IntKind.i64.wrap (2 + (B2.1 : Int)) = ((2 + B2.1 : Nat) : Int) := by rw [show 2 + (B2.1 : Int) = ((2 + B2.1 : Nat) : Int) by omega]; exact IntWalk.i64_in _ (by omega)
  have HST := Lib.hid hst
  clear h hst hB hB2 hs hb1 hb2
  by_cases hu : B.1 = 0
  · have hu2 : ((B.1 : Int) == 0) = true := by simp [hu]
    have HU := Lib.hid hu
    clear hu
    go_enter Tryz.func143, Tryz.ntmps143
    go_wp2_with fail
    go_still_tail 13, (by kernel_rfl)
    change wpList _ _ _ _ _ w.drew
    go_wp2_with fail
    refine KB.out.mono ?_
    rintro e w2 ⟨rfl, hz2, ho2⟩
    have HZ2 := Lib.hid hz2
    have HO2 := Lib.hid (Only.of_drewN ho2)
    clear hz2 ho2 KB
    go_wp2_with fail
    go_ret
    exact .inl ⟨HU.out, rfl, HZ2.out, HO2.out⟩
  · have hu2 : ((B.1 : Int) == 0) = false := by simp; omega
    have HU := Lib.hid hu
    clear hu
    go_enter Tryz.func143, Tryz.ntmps143
    go_wp2_with fail
    go_still_tail 13, (by kernel_rfl)
    change wpList _ _ _ _ _ w.drew
    go_wp2_with fail
    refine KB.out.mono ?_
    rintro e w2 ⟨rfl, hz2, ho2⟩
    have HO2 := Lib.hid (Only.of_drewN ho2)
    have e5 := hz2.f.c5
    have e10 := hz2.f.c10
    rw [← HST.out] at e10
    have KC := Lib.hid (KB2.out w2 hz2)
    clear hz2 ho2 KB KB2 c10 c5
    go_wp2_with fail
    go_still_tail 13, (by kernel_rfl)
    change wpList _ _ _ _ _ w2.drew
    go_wp2_with fail
    refine KC.out.mono ?_
    rintro e w3 ⟨rfl, hz3, ho3⟩
    have HZ3 := Lib.hid hz3
    have HO3 := Lib.hid (HO2.out.trans (Only.of_drewN ho3))
    clear hz3 ho3 KC
    go_wp2_with fail
    go_ret
    exact .inr ⟨HU.out, rfl, HZ3.out, HO3.out⟩
end
end Go.Proofs.YtjgdjobhhdhfjaaGreat

/-
  The program's settings of LZMA: whether one may be; how many probabilities there are.
-/
namespace Go.Proofs.YtjgdjobhhdhfjaaGreat
open Go.RowKit

def inB (n most : Int) : Bool := decide (0 ≤ n ∧ n ≤ most)
set_option maxRecDepth 100000 in
set_option maxHeartbeats 1000000 in
theorem pwithin_any (n most : Int) (w : World) : Calls Tryz.prog 127 #[.int .i64 n, .int .i64 most] w fun e w' => e = .returned (.bool (inB n most)) ∧ w = w' := by
  obtain ⟨v, hv⟩ : ∃ v, v = inB n most := ⟨_, rfl⟩
  rw [← hv]
  unfold inB at hv
  by_cases h0 : 0 ≤ n
  · have g0 : n ≥ 0 := h0
    by_cases h1 : n ≤ most
    · obtain rfl : v = true := by rw [hv]; exact decide_eq_true ⟨h0, h1⟩
      clear hv
      go_enter Tryz.func127, Tryz.ntmps127
      go_wp2_with fail
      go_ret
      exact ⟨rfl, rfl⟩
    · obtain rfl : v = false := by rw [hv]; exact decide_eq_false (fun h => h1 h.2)
      clear hv
      go_enter Tryz.func127, Tryz.ntmps127
      go_wp2_with fail
      go_ret
      exact ⟨rfl, rfl⟩
  · have g0 : ¬ n ≥ 0 := h0
    obtain rfl : v = false := by rw [hv]; exact decide_eq_false (fun h => h0 h.1)
    clear hv
    go_enter Tryz.func127, Tryz.ntmps127
    go_wp2_with fail
    go_ret
    exact ⟨rfl, rfl⟩

def mayB (a b c : Int) : Bool := inB a 8 && (inB b 4 && inB c 4)
set_option maxRecDepth 100000 in
set_option maxHeartbeats 4000000 in
theorem pbits_any (a b c d : Int) (w : World) : Calls Tryz.prog 80 #[.agg #[.int .i64 a, .int .i64 b, .int .i64 c, .int .i64 d]] w fun e w' => e = .returned (.bool (mayB a b c)) ∧ Below w.heap.size w w' := by
  have HB := Lib.hid ((Below.refl w.heap.size w).alloc (Nat.le_refl _) (.cells #[.int .i64 a, .int .i64 b, .int .i64 c, .int .i64 d] 24))
  have K1 := Lib.hid (fun w => pwithin_any a 8 w)
  have K2 := Lib.hid (fun w => pwithin_any b 4 w)
  have K3 := Lib.hid (fun w => pwithin_any c 4 w)
  obtain ⟨v, hv⟩ : ∃ v, v = mayB a b c := ⟨_, rfl⟩
  rw [← hv]
  unfold mayB at hv
  obtain ⟨x, hx⟩ : ∃ x, x = inB a 8 := ⟨_, rfl⟩
  obtain ⟨y, hy⟩ : ∃ x, x = inB b 4 := ⟨_, rfl⟩
  obtain ⟨z, hz⟩ : ∃ x, x = inB c 4 := ⟨_, rfl⟩
  rw [← hx] at K1 hv
  rw [← hy] at K2 hv
  rw [← hz] at K3 hv
  clear hx hy hz
  cases x with
  | false =>
    obtain rfl : v = false := hv
    go_enter Tryz.func80, Tryz.ntmps80
    go_wp2_with fail
    refine (K1.out _).mono ?_
    rintro e w1 ⟨rfl, rfl⟩
    go_wp2_with fail
    go_ret
    exact ⟨rfl, HB.out⟩
  | true =>
    cases y with
    | false =>
      obtain rfl : v = false := hv
      go_enter Tryz.func80, Tryz.ntmps80
      go_wp2_with fail
      refine (K1.out _).mono ?_
      rintro e w1 ⟨rfl, rfl⟩
      go_wp2_with fail
      refine (K2.out _).mono ?_
      rintro e w1 ⟨rfl, rfl⟩
      go_wp2_with fail
      go_ret
      exact ⟨rfl, HB.out⟩
    | true =>
      obtain rfl : v = z := by rw [hv]; cases z <;> rfl
      clear hv
      cases v
      all_goals
        go_enter Tryz.func80, Tryz.ntmps80
        go_wp2_with fail
        refine (K1.out _).mono ?_
        rintro e w1 ⟨rfl, rfl⟩
        go_wp2_with fail
        refine (K2.out _).mono ?_
        rintro e w1 ⟨rfl, rfl⟩
        go_wp2_with fail
        refine (K3.out _).mono ?_
        rintro e w1 ⟨rfl, rfl⟩
        go_wp2_with fail
        go_ret
        exact ⟨rfl, HB.out⟩

theorem may_split (a b c d : Int) : maySet a b c d = (mayB a b c && (decide (4096 ≤ d) && decide (d ≤ 4294967295))) := by
  unfold maySet mayB inB
  rw [Bool.eq_iff_iff]
  simp
  constructor
  · rintro ⟨h1, h2, h3, h4, h5, h6, h7, h8⟩; exact ⟨⟨⟨h1, h2⟩, ⟨h3, h4⟩, h5, h6⟩, h7, h8⟩
  · rintro ⟨⟨⟨h1, h2⟩, ⟨h3, h4⟩, h5, h6⟩, h7, h8⟩; exact ⟨h1, h2, h3, h4, h5, h6, h7, h8⟩

set_option maxRecDepth 100000 in
set_option maxHeartbeats 4000000 in
theorem pmay_any (a b c d : Int) (w : World) : Calls Tryz.prog 41 #[.agg #[.int .i64 a, .int .i64 b, .int .i64 c, .int .i64 d]] w fun e w' => e = .returned (.bool (maySet a b c d)) ∧ Below w.heap.size w w' := by
  obtain ⟨w1, hw1⟩ : ∃ w1, w1 = w.alloc (.cells #[.int .i64 a, .int .i64 b, .int .i64 c, .int .i64 d] 24) := ⟨_, rfl⟩
  have hb1 : Below w.heap.size w w1 := by rw [hw1]; exact (Below.refl _ _).alloc (Nat.le_refl _) _
  have HBk : Blk w1 w.heap.size 24 #[.int .i64 a, .int .i64 b, .int .i64 c, .int .i64 d] := by rw [hw1]; exact Blk.fresh w _ _
  have K := Lib.hid (pbits_any a b c d w1)
  have c0 : w1.cell? ⟨w.heap.size, 0, none⟩ = some (.int .i64 a) := HBk.cell 0
  have c1 : w1.cell? ⟨w.heap.size, 1, none⟩ = some (.int .i64 b) := HBk.cell 1
  have c2 : w1.cell? ⟨w.heap.size, 2, none⟩ = some (.int .i64 c) := HBk.cell 2
  have c3 : w1.cell? ⟨w.heap.size, 3, none⟩ = some (.int .i64 d) := HBk.cell 3
  have HW1 := Lib.hid hw1
  have HB1 := Lib.hid hb1
  have HBK := Lib.hid HBk
  have hs := may_split a b c d
  obtain ⟨v, hv⟩ : ∃ v, v = maySet a b c d := ⟨_, rfl⟩
  rw [← hv] at hs ⊢
  obtain ⟨x, hx⟩ : ∃ x, x = mayB a b c := ⟨_, rfl⟩
  rw [← hx] at hs K
  clear hw1 hb1 HBk hv hx
  cases x with
  | false =>
    obtain rfl : v = false := hs
    go_enter Tryz.func41, Tryz.ntmps41
    go_upto_region 1 with fail
    rw [← HW1.out]
    clear HW1
    go_wp2_with fail
    refine K.out.mono ?_
    rintro e w2 ⟨rfl, hb2⟩
    have HB2 := Lib.hid (HB1.out.trans ⟨hb2.os, hb2.tape, hb2.output, hb2.size, fun i hi => hb2.block i (Nat.lt_of_lt_of_le hi HB1.out.size)⟩)
    clear hb2 K c0 c1 c2 c3 HB1
    go_wp2_with fail
    go_ret
    exact ⟨rfl, HB2.out⟩
  | true =>
    rw [Bool.true_and] at hs
    by_cases h6 : 4096 ≤ d
    · have g6 : d ≥ 4096 := h6
      by_cases h7 : d ≤ 4294967295
      · obtain rfl : v = true := by rw [hs, decide_eq_true h6, decide_eq_true h7]; rfl
        clear hs h6
        go_enter Tryz.func41, Tryz.ntmps41
        go_upto_region 1 with fail
        rw [← HW1.out]
        clear HW1
        go_wp2_with fail
        refine K.out.mono ?_
        rintro e w2 ⟨rfl, hb2⟩
        have hk2 : Blk w2 w.heap.size 24 #[.int .i64 a, .int .i64 b, .int .i64 c, .int .i64 d] := HBK.out.below hb2
        have d3 : w2.cell? ⟨w.heap.size, 3, none⟩ = some (.int .i64 d) := hk2.cell 3
        have HB2 := Lib.hid (HB1.out.trans ⟨hb2.os, hb2.tape, hb2.output, hb2.size, fun i hi => hb2.block i (Nat.lt_of_lt_of_le hi HB1.out.size)⟩)
        clear hb2 hk2 K c0 c1 c2 c3 HB1
        go_wp2_with fail
        go_ret
        exact ⟨rfl, HB2.out⟩
      · obtain rfl : v = false := by rw [hs, decide_eq_false h7, Bool.and_false]
        have H7 := Lib.hid h7
        clear hs h6 h7
        go_enter Tryz.func41, Tryz.ntmps41
        go_upto_region 1 with fail
        rw [← HW1.out]
        clear HW1
        go_wp2_with fail
        refine K.out.mono ?_
        rintro e w2 ⟨rfl, hb2⟩
        have hk2 : Blk w2 w.heap.size 24 #[.int .i64 a, .int .i64 b, .int .i64 c, .int .i64 d] := HBK.out.below hb2
        have d3 : w2.cell? ⟨w.heap.size, 3, none⟩ = some (.int .i64 d) := hk2.cell 3
        have HB2 := Lib.hid (HB1.out.trans ⟨hb2.os, hb2.tape, hb2.output, hb2.size, fun i hi => hb2.block i (Nat.lt_of_lt_of_le hi HB1.out.size)⟩)
        clear hb2 hk2 K c0 c1 c2 c3 HB1
        go_wp2_with fail
        go_ret
        exact ⟨congrArg (fun b => Ending.returned (.bool b)) (decide_eq_false (by have := H7.out; omega)), HB2.out⟩
    · obtain rfl : v = false := by rw [hs, decide_eq_false h6]; rfl
      have g6 : ¬ d ≥ 4096 := h6
      clear hs h6
      go_enter Tryz.func41, Tryz.ntmps41
      go_upto_region 1 with fail
      rw [← HW1.out]
      clear HW1
      go_wp2_with fail
      refine K.out.mono ?_
      rintro e w2 ⟨rfl, hb2⟩
      have hk2 : Blk w2 w.heap.size 24 #[.int .i64 a, .int .i64 b, .int .i64 c, .int .i64 d] := HBK.out.below hb2
      have d3 : w2.cell? ⟨w.heap.size, 3, none⟩ = some (.int .i64 d) := hk2.cell 3
      have HB2 := Lib.hid (HB1.out.trans ⟨hb2.os, hb2.tape, hb2.output, hb2.size, fun i hi => hb2.block i (Nat.lt_of_lt_of_le hi HB1.out.size)⟩)
      clear hb2 hk2 K c0 c1 c2 c3 HB1
      go_wp2_with fail
      go_ret
      exact ⟨rfl, HB2.out⟩

theorem lits_small {k : Nat} (h : k ≤ 12) : 768 * 2 ^ k ≤ 3145728 := Nat.mul_le_mul_left 768 (Nat.le_trans (Nat.pow_le_pow_right (by decide) h) (show 2 ^ 12 ≤ 4096 by decide))
set_option maxRecDepth 100000 in
set_option maxHeartbeats 2000000 in
theorem plits_any {lc lp : Nat} (c d : Int) (h : lc + lp ≤ 12) (w : World) : Calls Tryz.prog 58 #[.agg #[.int .i64 (lc : Int), .int .i64 (lp : Int), .int .i64 c, .int .i64 d]] w fun e w' => e = .returned (.int .i64 ((768 * 2 ^ (lc + lp) : Nat) : Int)) ∧ Below w.heap.size w w' := by
  have HB := Lib.hid ((Below.refl w.heap.size w).alloc (Nat.le_refl _) (.cells #[.int .i64 (lc : Int), .int .i64 (lp : Int), .int .i64 c, .int .i64 d] 24))
  obtain ⟨k, hk⟩ : ∃ k, k = lc + lp := ⟨_, rfl⟩
  have hs := lits_small h
  rw [← hk] at hs ⊢
  have e1 : IntKind.i64.wrap ((lc : Int) + (lp : Int)) = (k : Int) := by rw [hk, ← Int.natCast_add]; exact IntWalk.i64_in _ (by omega)
  obtain ⟨y, hy⟩ : ∃ y, y = 768 * 2 ^ k := ⟨_, rfl⟩
  rw [← hy] at hs ⊢
  have e2 : IntKind.i64.wrap (768 * 2 ^ k) = (y : Int) := by
    rw [cast_pow2, show (768 : Int) * ((2 ^ k : Nat) : Int) = (y : Int) by rw [hy, Int.natCast_mul]; rfl]
    exact IntWalk.i64_in _ (by omega)
  have e3 : min k 64 = k := by omega
  have e4 : (0 : Int) ≤ (k : Int) := by omega
  have HE := Lib.hid (And.intro h hk)
  have HY := Lib.hid (And.intro hy hs)
  clear h hk hy hs
  go_enter Tryz.func58, Tryz.ntmps58
  go_wp2_with fail
  go_ret
  exact ⟨rfl, HB.out⟩
end Go.Proofs.YtjgdjobhhdhfjaaGreat

/-
  The program's decoder of LZMA: state, distances and probabilities begin anew.
-/
namespace Go.Proofs.YtjgdjobhhdhfjaaGreat
open Go.RowKit

/-- the fields of a decoder that has begun nothing; what is cut out of them is written by Reset -/
def unFs (K : Kon) (a b c d : Int) : List Value :=
  [.int .i64 a, .int .i64 b, .int .i64 c, .int .i64 d, .nilIface, .pointer none, .pointer (some ⟨K.wg, 0, none⟩), .pointer (some ⟨K.m, 0, none⟩), .int .i64 K.room,
    .int .i64 0, .int .i64 0, .int .u32 0, .int .u32 0, .int .u32 0, .int .u32 0, .slice (some ⟨K.lb, 0, none⟩) K.nl K.nl, .int .i64 0, .bool false, .bool false]

theorem all_fresh {ps : List Nat} {L : Nat} (hl : ps.length = L) (h : ∀ i, i < L → ps.getD i 0 = 1024) : ps = List.replicate L 1024 := by
  refine List.ext_getElem (by simp [hl]) (fun i h1 h2 => ?_)
  have := h i (by omega)
  simp only [List.getD, List.getElem?_eq_getElem h1, Option.getD_some] at this
  rw [this, List.getElem_replicate]
theorem Rk.put {K : Kon} {fs : List Value} {w : World} {ps : List Nat} (h : Rk K fs w ps) (hn : K.g ≠ K.lb) (k : Nat) (hk : k < 19) (v : Value) : Rk K (fs.set k v) (w.setCell ⟨K.g, fat k, none⟩ v) ps :=
  ⟨h.1.put k hk v, h.2.1.only ((Only.refl (fun j => j = K.g) w).setCell (p := ⟨K.g, fat k, none⟩) (.inl rfl) v) (fun e => hn e.symm), h.2.2⟩

section
variable {K : Kon} {w w' : World} {a b c d : Int}

set_option maxRecDepth 100000 in
set_option maxHeartbeats 8000000 in
theorem preset_any {lc lp pb : Nat} {ps : List Nat} (hn : K.g ≠ K.lb) (h1 : lc ≤ 8) (h2 : lp ≤ 4) (h3 : pb ≤ 4) (hnl : K.nl = 768 * 2 ^ (lc + lp)) (hnl2 : K.nl ≤ 1000000) (h : Rk K (unFs K 0 0 0 0) w ps) :
    Calls Tryz.prog 59 #[.pointer (some ⟨K.g, 0, none⟩), .agg #[.int .i64 (lc : Int), .int .i64 (lp : Int), .int .i64 (pb : Int), .int .i64 d]] w fun e w' =>
      e = .returned (.tuple #[]) ∧ Rk K (unFs K lc lp pb d) w' (List.replicate (1847 + K.nl) 1024) ∧ Only K.Bk w w' := by
  obtain ⟨w1, hw1⟩ : ∃ w1, w1 = w.alloc (.cells #[.int .i64 (lc : Int), .int .i64 (lp : Int), .int .i64 (pb : Int), .int .i64 d] 24) := ⟨_, rfl⟩
  have hO1 : Only K.Bk w w1 := by rw [hw1]; exact (Only.refl _ w).alloc _
  have hz1 : Rk K (unFs K 0 0 0 0) w1 ps := (K.prb _ hn).only h (show Only (fun _ => False) w w1 by rw [hw1]; exact (Only.refl _ w).alloc _) (fun _ _ h => h)
  have HBk : Blk w1 w.heap.size 24 #[.int .i64 (lc : Int), .int .i64 (lp : Int), .int .i64 (pb : Int), .int .i64 d] := by rw [hw1]; exact Blk.fresh w _ _
  have hgs : K.g < w.heap.size := h.1.lt
  have hls : K.lb < w.heap.size := h.2.1.lt
  have KM := fun w => pbits_any (lc : Int) (lp : Int) (pb : Int) d w
  have hmay : mayB (lc : Int) (lp : Int) (pb : Int) = true := by unfold mayB inB; simp; omega
  rw [hmay] at KM
  have KM := Lib.hid KM
  have KL := fun w => plits_any (lc := lc) (lp := lp) (pb : Int) d (by omega) w
  rw [← hnl] at KL
  have KL := Lib.hid KL
  have HW1 := Lib.hid hw1
  have HZ1 := Lib.hid hz1
  have HO1 := Lib.hid hO1
  have HN := Lib.hid (And.intro hn (And.intro hnl2 (And.intro hgs hls)))
  clear hw1 hz1 hO1 hmay hnl h h1 h2 h3 hn hnl2
  generalize hB : w.heap.size = B at *
  have HBK := Lib.hid HBk
  have q1 : ¬ ((K.nl : Nat) : Int) > (K.nl : Int) := by omega
  have q1' : decide (((K.nl : Nat) : Int) > (K.nl : Int)) = false := decide_eq_false q1
  clear HBk hgs hls
  go_enter Tryz.func59, Tryz.ntmps59
  go_upto_region 1 with fail
  rw [← HW1.out]
  clear HW1
  have HS := Lib.hid (fun (W : World) (hW : Only (fun _ => False) w1 W) => (show W.cell? ⟨B, 0, none⟩ = some (.int .i64 (lc : Int)) ∧ W.cell? ⟨B, 1, none⟩ = some (.int .i64 (lp : Int)) ∧ W.cell? ⟨B, 2, none⟩ = some (.int .i64 (pb : Int)) ∧ W.cell? ⟨B, 3, none⟩ = some (.int .i64 d) ∧ W.cell? ⟨K.g, 1862, none⟩ = some (.slice (some ⟨K.lb, 0, none⟩) K.nl K.nl) from
    have hk := HBK.out.only hW (fun h => h)
    ⟨hk.cell 0, hk.cell 1, hk.cell 2, hk.cell 3, (HZ1.out.1.only hW (fun h => h)).cell 15 (by decide)⟩))
  obtain ⟨c0, c1, c2, c3, c4⟩ := HS.out w1 (Only.refl _ _)
  go_region_held3 (fun w' => w'.cell? ⟨B, 0, none⟩ = some (.int .i64 (lc : Int)) ∧ w'.cell? ⟨B, 1, none⟩ = some (.int .i64 (lp : Int)) ∧ w'.cell? ⟨B, 2, none⟩ = some (.int .i64 (pb : Int)) ∧ w'.cell? ⟨B, 3, none⟩ = some (.int .i64 d) ∧ w'.cell? ⟨K.g, 1862, none⟩ = some (.slice (some ⟨K.lb, 0, none⟩) K.nl K.nl))
    (first | assumption | go_keep | exact ⟨c0, c1, c2, c3, c4⟩ | exact HS.out _ HB2.out | exact HS.out _ HB3.out)
    (first
      | (go_at_call 80; refine (KM.out _).mono ?_; rintro e w2 ⟨rfl, hb2⟩; have HB2 := Lib.hid (show Only (fun _ => False) w1 w2 from ((Only.refl (fun _ => False) w1).drew).trans (Only.of_below hb2)); clear hb2)
      | (go_at_call 58; refine (KL.out _).mono ?_; rintro e w3 ⟨rfl, hb3⟩; have HB3 := Lib.hid (show Only (fun _ => False) w1 w3 from HB2.out.trans (Only.of_below hb3)); clear hb3))
  have hz3 : Rk K (unFs K 0 0 0 0) w3 ps := (K.prb _ HN.out.1).only HZ1.out HB3.out (fun _ _ h => h)
  have p0 := hz3.put HN.out.1 0 (by decide) (.int .i64 (lc : Int))
  have p1 := p0.put HN.out.1 1 (by decide) (.int .i64 (lp : Int))
  have p2 := p1.put HN.out.1 2 (by decide) (.int .i64 (pb : Int))
  have p3 := p2.put HN.out.1 3 (by decide) (.int .i64 d)
  have p4 := p3.put HN.out.1 10 (by decide) (.int .i64 0)
  have p5 := p4.put HN.out.1 11 (by decide) (.int .u32 0)
  have p6 := p5.put HN.out.1 12 (by decide) (.int .u32 0)
  have p7 := p6.put HN.out.1 13 (by decide) (.int .u32 0)
  have p8 := p7.put HN.out.1 14 (by decide) (.int .u32 0)
  have HZ4 : Hid (Rk K (unFs K lc lp pb d) ((((((((((w3).setCell ⟨K.g, 0, none⟩ (.int .i64 (lc : Int))).setCell ⟨K.g, 1, none⟩ (.int .i64 (lp : Int))).setCell ⟨K.g, 2, none⟩ (.int .i64 (pb : Int))).setCell ⟨K.g, 3, none⟩ (.int .i64 d)).setCell ⟨K.g, 10, none⟩ (.int .i64 0)).setCell ⟨K.g, 11, none⟩ (.int .u32 0)).setCell ⟨K.g, 12, none⟩ (.int .u32 0)).setCell ⟨K.g, 13, none⟩ (.int .u32 0)).setCell ⟨K.g, 14, none⟩ (.int .u32 0)) ps) := Lib.hid p8
  have HO4 : Hid (Only K.Bk w ((((((((((w3).setCell ⟨K.g, 0, none⟩ (.int .i64 (lc : Int))).setCell ⟨K.g, 1, none⟩ (.int .i64 (lp : Int))).setCell ⟨K.g, 2, none⟩ (.int .i64 (pb : Int))).setCell ⟨K.g, 3, none⟩ (.int .i64 d)).setCell ⟨K.g, 10, none⟩ (.int .i64 0)).setCell ⟨K.g, 11, none⟩ (.int .u32 0)).setCell ⟨K.g, 12, none⟩ (.int .u32 0)).setCell ⟨K.g, 13, none⟩ (.int .u32 0)).setCell ⟨K.g, 14, none⟩ (.int .u32 0))) := Lib.hid ((((((((((HO1.out.trans (HB3.out.mono fun _ h => h.elim)).setCell (p := ⟨K.g, 0, none⟩) (.inl (.inl rfl)) (.int .i64 (lc : Int))).setCell (p := ⟨K.g, 1, none⟩) (.inl (.inl rfl)) (.int .i64 (lp : Int))).setCell (p := ⟨K.g, 2, none⟩) (.inl (.inl rfl)) (.int .i64 (pb : Int))).setCell (p := ⟨K.g, 3, none⟩) (.inl (.inl rfl)) (.int .i64 d)).setCell (p := ⟨K.g, 10, none⟩) (.inl (.inl rfl)) (.int .i64 0)).setCell (p := ⟨K.g, 11, none⟩) (.inl (.inl rfl)) (.int .u32 0)).setCell (p := ⟨K.g, 12, none⟩) (.inl (.inl rfl)) (.int .u32 0)).setCell (p := ⟨K.g, 13, none⟩) (.inl (.inl rfl)) (.int .u32 0)).setCell (p := ⟨K.g, 14, none⟩) (.inl (.inl rfl)) (.int .u32 0))
  have HB4 : Hid (Blk ((((((((((w3).setCell ⟨K.g, 0, none⟩ (.int .i64 (lc : Int))).setCell ⟨K.g, 1, none⟩ (.int .i64 (lp : Int))).setCell ⟨K.g, 2, none⟩ (.int .i64 (pb : Int))).setCell ⟨K.g, 3, none⟩ (.int .i64 d)).setCell ⟨K.g, 10, none⟩ (.int .i64 0)).setCell ⟨K.g, 11, none⟩ (.int .u32 0)).setCell ⟨K.g, 12, none⟩ (.int .u32 0)).setCell ⟨K.g, 13, none⟩ (.int .u32 0)).setCell ⟨K.g, 14, none⟩ (.int .u32 0)) B 24 #[.int .i64 (lc : Int), .int .i64 (lp : Int), .int .i64 (pb : Int), .int .i64 d]) := Lib.hid (((((((((((HBK.out.only HB3.out (fun h => h)).far (p := ⟨K.g, 0, none⟩) (show B ≠ K.g by have := HN.out.2.2.1; omega) (.int .i64 (lc : Int))).far (p := ⟨K.g, 1, none⟩) (show B ≠ K.g by have := HN.out.2.2.1; omega) (.int .i64 (lp : Int))).far (p := ⟨K.g, 2, none⟩) (show B ≠ K.g by have := HN.out.2.2.1; omega) (.int .i64 (pb : Int))).far (p := ⟨K.g, 3, none⟩) (show B ≠ K.g by have := HN.out.2.2.1; omega) (.int .i64 d)).far (p := ⟨K.g, 10, none⟩) (show B ≠ K.g by have := HN.out.2.2.1; omega) (.int .i64 0)).far (p := ⟨K.g, 11, none⟩) (show B ≠ K.g by have := HN.out.2.2.1; omega) (.int .u32 0)).far (p := ⟨K.g, 12, none⟩) (show B ≠ K.g by have := HN.out.2.2.1; omega) (.int .u32 0)).far (p := ⟨K.g, 13, none⟩) (show B ≠ K.g by have := HN.out.2.2.1; omega) (.int .u32 0)).far (p := ⟨K.g, 14, none⟩) (show B ≠ K.g by have := HN.out.2.2.1; omega) (.int .u32 0)))
  obtain ⟨u0, a0⟩ : ∃ u, w3.cell? ⟨K.g, 0, none⟩ = some u := ⟨_, hz3.1.cell 0 (by decide)⟩
  have f0 := hz3.1.free 0
  obtain ⟨u1, a1⟩ : ∃ u, w3.cell? ⟨K.g, 1, none⟩ = some u := ⟨_, hz3.1.cell 1 (by decide)⟩
  have f1 := hz3.1.free 1
  obtain ⟨u2, a2⟩ : ∃ u, w3.cell? ⟨K.g, 2, none⟩ = some u := ⟨_, hz3.1.cell 2 (by decide)⟩
  have f2 := hz3.1.free 2
  obtain ⟨u3, a3⟩ : ∃ u, w3.cell? ⟨K.g, 3, none⟩ = some u := ⟨_, hz3.1.cell 3 (by decide)⟩
  have f3 := hz3.1.free 3
  obtain ⟨u10, a10⟩ : ∃ u, w3.cell? ⟨K.g, 10, none⟩ = some u := ⟨_, hz3.1.cell 10 (by decide)⟩
  have f10 := hz3.1.free 10
  obtain ⟨u11, a11⟩ : ∃ u, w3.cell? ⟨K.g, 11, none⟩ = some u := ⟨_, hz3.1.cell 11 (by decide)⟩
  have f11 := hz3.1.free 11
  obtain ⟨u12, a12⟩ : ∃ u, w3.cell? ⟨K.g, 12, none⟩ = some u := ⟨_, hz3.1.cell 12 (by decide)⟩
  have f12 := hz3.1.free 12
  obtain ⟨u13, a13⟩ : ∃ u, w3.cell? ⟨K.g, 13, none⟩ = some u := ⟨_, hz3.1.cell 13 (by decide)⟩
  have f13 := hz3.1.free 13
  obtain ⟨u14, a14⟩ : ∃ u, w3.cell? ⟨K.g, 14, none⟩ = some u := ⟨_, hz3.1.cell 14 (by decide)⟩
  have f14 := hz3.1.free 14
  obtain ⟨c0, c1, c2, c3, _⟩ := HS.out w3 HB3.out
  clear hz3 p0 p1 p2 p3 p4 p5 p6 p7 p8 HS HZ1 HBK HB2 HB3 KM
  go_upto_region 4 with fail
  generalize (((((((((w3).setCell ⟨K.g, 0, none⟩ (.int .i64 (lc : Int))).setCell ⟨K.g, 1, none⟩ (.int .i64 (lp : Int))).setCell ⟨K.g, 2, none⟩ (.int .i64 (pb : Int))).setCell ⟨K.g, 3, none⟩ (.int .i64 d)).setCell ⟨K.g, 10, none⟩ (.int .i64 0)).setCell ⟨K.g, 11, none⟩ (.int .u32 0)).setCell ⟨K.g, 12, none⟩ (.int .u32 0)).setCell ⟨K.g, 13, none⟩ (.int .u32 0)).setCell ⟨K.g, 14, none⟩ (.int .u32 0) = w4 at *
  clear a0 f0 a1 f1 a2 f2 a3 f3 a10 f10 a11 f11 a12 f12 a13 f13 a14 f14 c0 c1 c2 c3
  have KC := Lib.hid (chances_renew (D := fun _ => False) (K.prb _ HN.out.1) K.lay (by omega) ⟨ps, HZ4.out, fun _ h => h.elim, Only.refl _ _⟩)
  go_wp2_with fail
  refine KC.out.mono ?_
  rintro e w5 ⟨rfl, hr5⟩
  have HR5 := Lib.hid hr5
  obtain ⟨ps5, hp5, _, ho5⟩ := hr5
  have HS5 := Lib.hid (fun (W : World) (hW : Only (fun _ => False) w5 W) => (show W.cell? ⟨B, 0, none⟩ = some (.int .i64 (lc : Int)) ∧ W.cell? ⟨B, 1, none⟩ = some (.int .i64 (lp : Int)) ∧ W.cell? ⟨B, 2, none⟩ = some (.int .i64 (pb : Int)) ∧ W.cell? ⟨B, 3, none⟩ = some (.int .i64 d) ∧ W.cell? ⟨K.g, 1862, none⟩ = some (.slice (some ⟨K.lb, 0, none⟩) K.nl K.nl) from
    have hk := (HB4.out.only ho5 (fun h => by have := HN.out.2.2; rcases h with h | h <;> omega)).only hW (fun h => h)
    ⟨hk.cell 0, hk.cell 1, hk.cell 2, hk.cell 3, (hp5.1.only hW (fun h => h)).cell 15 (by decide)⟩))
  obtain ⟨c0, c1, c2, c3, c4⟩ := HS5.out w5 (Only.refl _ _)
  have q2 : (0 : Int) ≤ ((K.nl : Nat) : Int) := by omega
  clear hp5 ho5 HZ4 KC
  go_wp2_with fail
  go_region_held3 (fun w' => w'.cell? ⟨B, 0, none⟩ = some (.int .i64 (lc : Int)) ∧ w'.cell? ⟨B, 1, none⟩ = some (.int .i64 (lp : Int)) ∧ w'.cell? ⟨B, 2, none⟩ = some (.int .i64 (pb : Int)) ∧ w'.cell? ⟨B, 3, none⟩ = some (.int .i64 d) ∧ w'.cell? ⟨K.g, 1862, none⟩ = some (.slice (some ⟨K.lb, 0, none⟩) K.nl K.nl))
    (first | assumption | go_keep | exact ⟨c0, c1, c2, c3, c4⟩ | exact HS5.out _ HB6.out | exact HS6)
    (first
      | (go_at_call 58; refine (KL.out _).mono ?_; rintro e w6 ⟨rfl, hb6⟩; have HB6 := Lib.hid (show Only (fun _ => False) w5 w6 from ((Only.refl (fun _ => False) w5).drew).trans (Only.of_below hb6)); clear hb6)
      | (go_at_call 104; refine (renew_any (R := Rk K (unFs K lc lp pb d)) (B := K.Bk) (w0 := w4) (D := fun i => False ∨ i < 1847) (ad := K.ad) (L := 1847 + K.nl) (a := 1847) (b := K.lb) (o := 0) (n := K.nl) (cap := K.nl) (K.prb _ HN.out.1) (fun j hj => Kon.ad_lit (by omega) (by omega)) (by omega) HN.out.2.1 ?_).mono ?_; (· obtain ⟨ps6, g1, g2, g3⟩ := HR5.out; exact ⟨ps6, (K.prb _ HN.out.1).only g1 HB6.out (fun _ _ h => h), g2, g3.trans (HB6.out.mono fun _ h => h.elim)⟩); rintro e w7 ⟨rfl, hr7⟩; have HR7 := Lib.hid hr7; have HS6 := (show w7.cell? ⟨B, 0, none⟩ = some (.int .i64 (lc : Int)) ∧ w7.cell? ⟨B, 1, none⟩ = some (.int .i64 (lp : Int)) ∧ w7.cell? ⟨B, 2, none⟩ = some (.int .i64 (pb : Int)) ∧ w7.cell? ⟨B, 3, none⟩ = some (.int .i64 d) ∧ w7.cell? ⟨K.g, 1862, none⟩ = some (.slice (some ⟨K.lb, 0, none⟩) K.nl K.nl) from (by obtain ⟨ps7, g1, _, g3⟩ := hr7; have hk := HB4.out.only g3 (fun h => by have := HN.out.2.2; rcases h with h | h <;> omega); exact ⟨hk.cell 0, hk.cell 1, hk.cell 2, hk.cell 3, g1.1.cell 15 (by decide)⟩)); clear hr7))
  go_wp2_with fail
  first | go_end0 | refine bodyPost_ret (results_none rfl _ _ _) rfl ?_
  obtain ⟨ps7, g1, g2, g3⟩ := HR7.out
  have he := all_fresh g1.2.2 (fun i hi => g2 i (by
    by_cases h : i < 1847
    · exact .inl (.inr h)
    · exact .inr (by omega)))
  rw [he] at g1
  exact ⟨rfl, g1, HO4.out.trans g3⟩
end
end Go.Proofs.YtjgdjobhhdhfjaaGreat
