/-
  CwZero, PkRow, PkSt, CwMid, RdBegun, RdNew: put together.
-/
import Derived.Test.YtdhhibfppcpieaaQ06
import Derived.Test.YtdhhibfppcpieaaQ05
import Derived.Test.YtdhhibfppcpieaaQ01
import Derived.Deep.Cut
import Derived.Deep.RegionHeld3
import Derived.Test.YtdhhibfppcpieaaQ02
import Derived.Test.YtdhhibfppcpieaaRows
import Derived.Test.YtdhhibfppcpieaaQ03
import Derived.Laws.MakeOwn
set_option linter.unusedVariables false
set_option linter.unusedSimpArgs false
/-
  The program's coder of LZMA, as it is built.
-/
namespace Go.Proofs.Ytdhhibfppcpieaa
open Go.RowKit

def czk (i : Nat) : Nat := if i < 4 then 1 else if i = 4 then 4 else if i = 5 then 5 else if i = 6 then 1 else if i < 11 then 2 else if i < 1858 then 0 else if i = 1858 then 5 else 6
def cchk : Nat → List Value → Bool
  | i, [] => i == 1860
  | i, v :: l => isz (czk i) v && cchk (i + 1) l
theorem cchk_sound : ∀ (l : List Value) (i : Nat), cchk i l = true → i + l.length = 1860 ∧ ∀ j, j < l.length → l[j]? = some (vk (czk (i + j)))
  | [], i, h => ⟨by have := eq_of_beq h; simpa using this, fun j hj => by simp at hj⟩
  | v :: l, i, h => by
    unfold cchk at h
    obtain ⟨h1, h2⟩ := Bool.and_eq_true_iff.1 h
    obtain ⟨g1, g2⟩ := cchk_sound l (i + 1) h2
    refine ⟨by simp only [List.length_cons]; omega, fun j hj => ?_⟩
    cases j with
    | zero => simp [isz_sound _ _ h1]
    | succ j =>
      simp only [List.length_cons] at hj
      rw [List.getElem?_cons_succ, g2 j (by omega)]
      congr 3
      omega
set_option maxRecDepth 1000000 in
theorem czero_chk : cchk 0 (zOf Try.prog 92).toList = true := by kernel_rfl
def madeCo (Z : Array Value) (a b c d : Int) (x : Option Addr) : Array Value :=
  ((((Z.setIfInBounds 0 (.int .i64 a)).setIfInBounds 1 (.int .i64 b)).setIfInBounds 2 (.int .i64 c)).setIfInBounds 3 (.int .i64 d)).setIfInBounds 4 (.pointer x)
theorem czero_size : (zOf Try.prog 92).size = 1860 := by
  have := (cchk_sound _ _ czero_chk).1
  rw [Array.length_toList] at this
  omega
theorem czero_get (i : Nat) (h : i < 1860) : (zOf Try.prog 92)[i]? = some (vk (czk i)) := by
  have := (cchk_sound _ _ czero_chk).2 i (by rw [Array.length_toList, czero_size]; exact h)
  rw [Nat.zero_add, Array.getElem?_toList] at this
  exact this
theorem czero_low (a : Nat) (h : a < 1847) : (zOf Try.prog 92)[11 + a]? = some (.int .u16 0) := by
  rw [czero_get _ (by omega)]
  unfold czk
  rw [if_neg (by omega), if_neg (by omega), if_neg (by omega), if_neg (by omega), if_neg (by omega), if_pos (by omega)]
  rfl
def coPlaces : List (Nat × Nat) := [(0, 4), (4, 1), (5, 1), (6, 1), (7, 4), (11, 1847), (1858, 1), (1859, 1)]
/-- the fields of a coder that was built, and not begun -/
def coFs (a b c d : Int) (eg : Nat) (v : Value) : List Value :=
  [.int .i64 a, .int .i64 b, .int .i64 c, .int .i64 d, .pointer (some ⟨eg, 0, none⟩), .slice none 0 0, .int .i64 0, .int .u32 0, .int .u32 0, .int .u32 0, .int .u32 0, v, .bool false]
theorem made_co {g eg : Nat} {a b c d : Int} {w : World} (hB : Blk w g 92 (madeCo (zOf Try.prog 92) a b c d (some ⟨eg, 0, none⟩))) : LcAt w g (coFs a b c d eg (.slice none 0 0)) (List.replicate 1847 0) := by
  have hs := czero_size
  refine ⟨_, hB, by unfold madeCo; simp [hs], rfl, fun k hk => ?_, fun a ha => ?_⟩
  · unfold madeCo
    match k, hk with
    | 0, _ => exact (by rw [show cfat 0 = 0 from rfl]; simp [hs]; rfl)
    | 1, _ => exact (by rw [show cfat 1 = 1 from rfl]; simp [hs]; rfl)
    | 2, _ => exact (by rw [show cfat 2 = 2 from rfl]; simp [hs]; rfl)
    | 3, _ => exact (by rw [show cfat 3 = 3 from rfl]; simp [hs]; rfl)
    | 4, _ => exact (by rw [show cfat 4 = 4 from rfl]; simp [hs]; rfl)
    | 5, _ => exact (by rw [show cfat 5 = 5 from rfl]; simp [czero_get 5 (by decide)]; rfl)
    | 6, _ => exact (by rw [show cfat 6 = 6 from rfl]; simp [czero_get 6 (by decide)]; rfl)
    | 7, _ => exact (by rw [show cfat 7 = 7 from rfl]; simp [czero_get 7 (by decide)]; rfl)
    | 8, _ => exact (by rw [show cfat 8 = 8 from rfl]; simp [czero_get 8 (by decide)]; rfl)
    | 9, _ => exact (by rw [show cfat 9 = 9 from rfl]; simp [czero_get 9 (by decide)]; rfl)
    | 10, _ => exact (by rw [show cfat 10 = 10 from rfl]; simp [czero_get 10 (by decide)]; rfl)
    | 11, _ => exact (by rw [show cfat 11 = 1858 from rfl]; simp [czero_get 1858 (by decide)]; rfl)
    | 12, _ => exact (by rw [show cfat 12 = 1859 from rfl]; simp [czero_get 1859 (by decide)]; rfl)
    | k + 13, hk => omega
  · have := sg_lt ha
    unfold madeCo
    rw [Array.getElem?_setIfInBounds_ne (by omega), Array.getElem?_setIfInBounds_ne (by omega), Array.getElem?_setIfInBounds_ne (by omega), Array.getElem?_setIfInBounds_ne (by omega), Array.getElem?_setIfInBounds_ne (by omega), czero_low _ this]
    have e : (List.replicate 1847 (0 : Nat)).getD a 0 = 0 := by
      unfold List.getD
      rw [List.getElem?_replicate, if_pos ha]
      rfl
    rw [e]
    rfl

set_option maxRecDepth 1000000 in
theorem czeroCells_chk : cchk 0 Try.zeroCells92.toList = true := by kernel_rfl
theorem czero_link : Try.zeroCells92 = zOf Try.prog 92 := by
  have hs : Try.zeroCells92.size = 1860 := by
    have := (cchk_sound _ _ czeroCells_chk).1
    rw [Array.length_toList] at this
    omega
  have hg : ∀ i, i < 1860 → Try.zeroCells92[i]? = some (vk (czk i)) := by
    intro i h
    have := (cchk_sound _ _ czeroCells_chk).2 i (by rw [Array.length_toList, hs]; exact h)
    rw [Nat.zero_add, Array.getElem?_toList] at this
    exact this
  apply Array.ext_getElem?
  intro i
  by_cases h : i < 1860
  · rw [hg i h, czero_get i h]
  · rw [Array.getElem?_eq_none (by omega), Array.getElem?_eq_none (by rw [czero_size]; omega)]
end Go.Proofs.Ytdhhibfppcpieaa

/-
  The program's probabilities of packets: those of a literal, and of a distance's slot.
-/
namespace Go.Proofs.Ytdhhibfppcpieaa
open Go.RowKit

theorem ofInt_w64 (a : Nat) (h : a < 18446744073709551616) : (BitVec.ofInt 64 (a : Int)).toNat = a := by simp; omega
theorem i64_and_low (n k : Nat) (hn : n < 9223372036854775808) (hk : k ≤ 62) : bits .and .i64 (n : Int) (wrap64 (wrap64 (2 ^ k) - 1)) = ((n % 2 ^ k : Nat) : Int) := by
  have hp : 2 ^ k ≤ 2 ^ 62 := Nat.pow_le_pow_right (by omega) hk
  have h1 : 1 ≤ 2 ^ k := Nat.one_le_two_pow
  have hw : wrap64 (2 ^ k) = ((2 ^ k : Nat) : Int) := by
    rw [cast_pow2]
    generalize 2 ^ k = y at *
    unfold wrap64
    omega
  have hw2 : wrap64 (((2 ^ k : Nat) : Int) - 1) = ((2 ^ k - 1 : Nat) : Int) := by
    generalize 2 ^ k = y at *
    unfold wrap64
    omega
  rw [hw, hw2]
  show IntKind.i64.wrap ((BitVec.ofInt 64 (n : Int) &&& BitVec.ofInt 64 ((2 ^ k - 1 : Nat) : Int)).toNat : Int) = _
  rw [BitVec.toNat_and, ofInt_w64 n (by omega), ofInt_w64 (2 ^ k - 1) (by omega), Nat.and_two_pow_sub_one_eq_mod]
  have := Nat.mod_le n (2 ^ k)
  exact IntWalk.i64_in _ (by omega)

theorem pow_pb {k : Nat} (h : k ≤ 4) : 2 ^ k ≤ 16 := Nat.le_trans (Nat.pow_le_pow_right (by omega) h) (by decide)
theorem mod_pb {n k : Nat} (h : k ≤ 4) : n % 2 ^ k ≤ 15 := by
  have h1 := pow_pb h
  have h2 := Nat.mod_lt n (Nat.two_pow_pos k)
  omega

theorem wrap_id (x : Nat) (h : x < 9223372036854775808) : wrap64 (x : Int) = (x : Int) := by unfold wrap64; omega
theorem shr_nat (x k : Nat) (h : x < 9223372036854775808) : wrap64 (x : Int) / 2 ^ k = ((x / 2 ^ k : Nat) : Int) := by
  rw [wrap_id x h, cast_pow2]
  exact (Int.natCast_ediv x (2 ^ k)).symm
theorem shl_nat (x k y : Nat) (hy : y = x * 2 ^ k) (h : y < 9223372036854775808) : wrap64 ((x : Int) * 2 ^ k) = (y : Int) := by
  rw [cast_pow2, ← Int.natCast_mul, ← hy]
  exact wrap_id y h

theorem row_small {a x nl : Nat} (h : a = 768 * x) (h1 : a + 768 ≤ nl) (h2 : nl ≤ 100000000) : x ≤ 200000 ∧ a ≤ 100000000 := by omega
theorem row_facts {a S b nl P2 last : Nat} (h : a = 768 * (P2 + last)) (h1 : a + 768 ≤ nl) (h2 : nl ≤ 100000000) (hS : S = P2 + last) (hb : b = a + 768) :
    wrap64 ((P2 : Int) + (last : Int)) = (S : Int) ∧ wrap64 (768 * (S : Int)) = (a : Int) ∧ wrap64 ((a : Int) + 768) = (b : Int) ∧ (0 : Int) ≤ (a : Int) ∧ (a : Int) ≤ (b : Int) ∧ (b : Int) ≤ (nl : Int) ∧ ¬ nl = a := by
  have hs := row_small h h1 h2
  refine ⟨?_, ?_, ?_, by omega, by omega, by omega, by omega⟩
  · rw [← Int.natCast_add, ← hS]
    exact wrap_id _ (by omega)
  · rw [show 768 * (S : Int) = (a : Int) by omega]
    exact wrap_id _ (by omega)
  · rw [show (a : Int) + 768 = (b : Int) by omega]
    exact wrap_id _ (by omega)


set_option maxRecDepth 100000 in
set_option maxHeartbeats 2000000 in
theorem pslot_any {g o0 l ml : Nat} (hm : ml = min l 3) (w : World) :
    Calls Try.prog 86 #[.pointer (some ⟨g, o0, none⟩), .int .i64 (l : Int)] w fun e w' => e = .returned (.slice (some ⟨g, o0 + 1591 + ml * 64, none⟩) 64 64) ∧ w = w' := by
  by_cases h3 : l ≤ 3
  · obtain rfl : ml = l := by omega
    have g3 : (ml : Int) ≤ 3 := by omega
    have g3' : (ml : Int) < 4 := by omega
    have g0 : (0 : Int) ≤ (ml : Int) := by omega
    have gm : min (ml : Int) 3 = (ml : Int) := by omega
    clear hm h3
    go_enter Try.func86, Try.ntmps86
    go_wp2_with fail
    go_ret
    exact ⟨rfl, rfl⟩
  · obtain rfl : ml = 3 := by omega
    have g3 : ¬ (l : Int) ≤ 3 := by omega
    have gm : min (l : Int) 3 = 3 := by omega
    clear hm h3
    go_enter Try.func86, Try.ntmps86
    go_wp2_with fail
    go_ret
    exact ⟨rfl, rfl⟩

set_option maxRecDepth 100000 in
set_option maxHeartbeats 4000000 in
theorem prow_any {b nl lc lp n last a : Nat} {pb d : Int} (hlc : lc ≤ 8) (hlp : lp ≤ 4) (hn : n ≤ 1000000) (hla : last < 256) (ha : a = 768 * (n % 2 ^ lp * 2 ^ lc + last / 2 ^ (8 - lc))) (h1 : a + 768 ≤ nl) (h2 : nl ≤ 100000000) (w : World) :
    Calls Try.prog 69 #[.slice (some ⟨b, 0, none⟩) nl nl, .agg #[.int .i64 (lc : Int), .int .i64 (lp : Int), .int .i64 pb, .int .i64 d], .int .i64 (n : Int), .int .u8 (last : Int)] w fun e w' => e = .returned (.slice (some ⟨b, a, none⟩) 768 (nl - a)) ∧ Only (fun _ => False) w w' := by
  have hl4 : min lp 64 = lp := by omega
  have hl8 : min lc 64 = lc := by omega
  have hl88 : min (8 - lc) 64 = 8 - lc := by omega
  obtain ⟨w1, hw1⟩ : ∃ w1, w1 = w.alloc (.cells #[.int .i64 (lc : Int), .int .i64 (lp : Int), .int .i64 pb, .int .i64 d] 39) := ⟨_, rfl⟩
  have hb1 : Only (fun _ => False) w w1 := by rw [hw1]; exact (Only.refl _ w).alloc _
  have HBk : Blk w1 w.heap.size 39 #[.int .i64 (lc : Int), .int .i64 (lp : Int), .int .i64 pb, .int .i64 d] := by rw [hw1]; exact Blk.fresh w _ _
  have c0 : w1.cell? ⟨w.heap.size, 0, none⟩ = some (.int .i64 (lc : Int)) := HBk.cell 0
  have c1 : w1.cell? ⟨w.heap.size, 1, none⟩ = some (.int .i64 (lp : Int)) := HBk.cell 1
  have e0 : IntKind.i64.wrap (8 - (lc : Int)) = ((8 - lc : Nat) : Int) := by rw [show 8 - (lc : Int) = ((8 - lc : Nat) : Int) by omega]; exact IntWalk.i64_in _ (by omega)
  have E1 := Lib.hid (i64_and_low n lp (by omega) (by omega))
  obtain ⟨P, hP⟩ : ∃ P, P = n % 2 ^ lp := ⟨_, rfl⟩
  rw [← hP] at E1 ha
  have E2 := Lib.hid (shr_nat last (8 - lc) (by omega))
  obtain ⟨la, hla2⟩ : ∃ x, x = last / 2 ^ (8 - lc) := ⟨_, rfl⟩
  rw [← hla2] at E2 ha
  obtain ⟨P2, hP2⟩ : ∃ x, x = P * 2 ^ lc := ⟨_, rfl⟩
  rw [← hP2] at ha
  have hsm := row_small ha h1 h2
  have f1 := shl_nat P lc P2 hP2 (Nat.lt_of_le_of_lt (Nat.le_trans (Nat.le_add_right _ _) hsm.1) (by decide))
  obtain ⟨S, hS⟩ : ∃ S, S = P2 + la := ⟨_, rfl⟩
  obtain ⟨b2, hb⟩ : ∃ b, b = a + 768 := ⟨_, rfl⟩
  obtain ⟨f2, f3, f4, g1, g2, g3, g4⟩ := row_facts ha h1 h2 hS hb
  have HB := Lib.hid hb
  have HF := Lib.hid (And.intro f1 (And.intro f2 (And.intro f3 (And.intro f4 (And.intro g1 (And.intro g2 (And.intro g3 g4)))))))
  have HW1 := Lib.hid hw1
  have HB1 := Lib.hid hb1
  clear hb ha hP hla2 hP2 hsm f1 f2 f3 f4 g1 g2 g3 g4 hS hn h1 h2 hla hw1 hb1 HBk
  go_enter Try.func69, Try.ntmps69
  go_upto_region 1 with fail
  rw [← HW1.out]
  clear HW1
  go_upto_region 2 with fail
  rw [E1.out]
  go_quiet (fail)
  rw [E2.out]
  have HB2 := Lib.hid (HB1.out.drewN nq)
  obtain ⟨f1, f2, f3, f4, g1, g2, g3, g4⟩ := HF.out
  clear e0 E1 E2 HF c0 c1 HB1
  generalize w1.drewN nq = w2 at *
  go_wp2_with fail
  go_ret
  have e768 : b2 - a = 768 := by have := HB.out; omega
  exact ⟨congrArg (fun n => Ending.returned (.slice (some ⟨b, a, none⟩) n (nl - a))) e768, HB2.out⟩
end Go.Proofs.Ytdhhibfppcpieaa

/-
  The program's states: behind each packet.
-/
namespace Go.Proofs.Ytdhhibfppcpieaa
open Go.RowKit

set_option maxRecDepth 100000 in
set_option maxHeartbeats 1000000 in
theorem papart_any (st : Nat) (w : World) :
    Calls Try.prog 71 #[.int .i64 (st : Int)] w fun e w' => e = .returned (.bool (decide (7 ≤ st))) ∧ w = w' := by
  have hu : decide ((st : Int) ≥ 7) = decide (7 ≤ st) := by rw [Bool.eq_iff_iff]; simp; omega
  have HU := Lib.hid hu
  clear hu
  go_enter Try.func71, Try.ntmps71
  go_wp2_with fail
  go_ret
  exact ⟨congrArg (fun x => Ending.returned (.bool x)) HU.out, rfl⟩

set_option maxRecDepth 100000 in
set_option maxHeartbeats 1000000 in
theorem pbehind_any (st a b : Nat) (w : World) :
    Calls Try.prog 78 #[.int .i64 (st : Int), .int .i64 (a : Int), .int .i64 (b : Int)] w fun e w' => e = .returned (.int .i64 ((aft a b st : Nat) : Int)) ∧ w = w' := by
  have KA := Lib.hid (papart_any st w)
  unfold aft
  by_cases h7 : st < 7
  · have g7 : decide (7 ≤ st) = false := decide_eq_false (by omega)
    rw [g7] at KA
    rw [if_pos h7]
    clear h7 g7
    go_enter Try.func78, Try.ntmps78
    go_wp2_with fail
    refine KA.out.mono ?_
    rintro e w1 ⟨rfl, rfl⟩
    go_wp2_with fail
    go_ret
    exact ⟨rfl, rfl⟩
  · have g7 : decide (7 ≤ st) = true := decide_eq_true (by omega)
    rw [g7] at KA
    rw [if_neg h7]
    clear h7 g7
    go_enter Try.func78, Try.ntmps78
    go_wp2_with fail
    refine KA.out.mono ?_
    rintro e w1 ⟨rfl, rfl⟩
    go_wp2_with fail
    go_ret
    exact ⟨rfl, rfl⟩

set_option maxRecDepth 100000 in
set_option maxHeartbeats 1000000 in
theorem pmat_any (st : Nat) (w : World) :
    Calls Try.prog 76 #[.int .i64 (st : Int)] w fun e w' => e = .returned (.int .i64 ((aft 7 10 st : Nat) : Int)) ∧ w = w' := by
  have KA := Lib.hid (pbehind_any st 7 10 w)
  go_enter Try.func76, Try.ntmps76
  go_wp2_with fail
  refine KA.out.mono ?_
  rintro e w1 ⟨rfl, rfl⟩
  go_wp2_with fail
  go_ret
  exact ⟨rfl, rfl⟩

set_option maxRecDepth 100000 in
set_option maxHeartbeats 1000000 in
theorem pag_any (st : Nat) (w : World) :
    Calls Try.prog 79 #[.int .i64 (st : Int)] w fun e w' => e = .returned (.int .i64 ((aft 8 11 st : Nat) : Int)) ∧ w = w' := by
  have KA := Lib.hid (pbehind_any st 8 11 w)
  go_enter Try.func79, Try.ntmps79
  go_wp2_with fail
  refine KA.out.mono ?_
  rintro e w1 ⟨rfl, rfl⟩
  go_wp2_with fail
  go_ret
  exact ⟨rfl, rfl⟩

set_option maxRecDepth 100000 in
set_option maxHeartbeats 1000000 in
theorem psing_any (st : Nat) (w : World) :
    Calls Try.prog 58 #[.int .i64 (st : Int)] w fun e w' => e = .returned (.int .i64 ((aft 9 11 st : Nat) : Int)) ∧ w = w' := by
  have KA := Lib.hid (pbehind_any st 9 11 w)
  go_enter Try.func58, Try.ntmps58
  go_wp2_with fail
  refine KA.out.mono ?_
  rintro e w1 ⟨rfl, rfl⟩
  go_wp2_with fail
  go_ret
  exact ⟨rfl, rfl⟩

set_option maxRecDepth 100000 in
set_option maxHeartbeats 1000000 in
theorem llit7_any (st : Nat) (hs : st ≤ 11) (w : World) :
    Calls Try.prog 74 #[.int .i64 (st : Int)] w fun e w' => e = .returned (.int .i64 ((litSt st : Nat) : Int)) ∧ w = w' := by
  unfold litSt
  by_cases h4 : st < 4
  · have g4 : (st : Int) < 4 := by omega
    rw [if_pos h4]
    clear h4 hs
    go_enter Try.func74, Try.ntmps74
    go_wp2_with fail
    go_ret
    exact ⟨rfl, rfl⟩
  · have g4 : ¬ (st : Int) < 4 := by omega
    rw [if_neg h4]
    by_cases h10 : st < 10
    · have g10 : (st : Int) < 10 := by omega
      rw [if_pos h10]
      have e1 : IntKind.i64.wrap ((st : Int) - 3) = ((st - 3 : Nat) : Int) := by rw [show (st : Int) - 3 = ((st - 3 : Nat) : Int) by omega]; exact IntWalk.i64_in _ (by omega)
      clear h4 h10 hs
      go_enter Try.func74, Try.ntmps74
      go_wp2_with fail
      go_ret
      exact ⟨rfl, rfl⟩
    · have g10 : ¬ (st : Int) < 10 := by omega
      rw [if_neg h10]
      have e1 : IntKind.i64.wrap ((st : Int) - 6) = ((st - 6 : Nat) : Int) := by rw [show (st : Int) - 6 = ((st - 6 : Nat) : Int) by omega]; exact IntWalk.i64_in _ (by omega)
      clear h4 h10 hs
      go_enter Try.func74, Try.ntmps74
      go_wp2_with fail
      go_ret
      exact ⟨rfl, rfl⟩
end Go.Proofs.Ytdhhibfppcpieaa

/-
  The program's coder of LZMA: its small calls: bits, the place's bits, which bytes are there.
-/
namespace Go.Proofs.Ytdhhibfppcpieaa
open Go.RowKit

section
variable {K : Koc} {w w' : World} {Ge Ge' : Option Nat} {A : Option Addr} {c : Nat} {z : Lzs} {k : Nat} {t : Pm En}

theorem Koc.lay (K : Koc) : Lay K.ad K.g 11 := fun a ha => by unfold Koc.ad; rw [if_pos ha]
theorem Koc.ad_lit {K : Koc} {a i : Nat} (h : 1847 ≤ a) (hi : i = a - 1847) : K.ad a = (K.lb, i) := by
  unfold Koc.ad
  rw [if_neg (by omega), hi]

theorem Cw.bit (h : Cw K w Ge A c z (k + 1) t) {a b i bit : Nat} (hab : K.ad a = (b, i)) (ha : a < 1847 + K.nl) (hb : bit ≤ 1) :
    Calls Try.prog 67 #[.pointer (some ⟨K.eg, 0, none⟩), .pointer (some ⟨b, i, none⟩), .int .i64 (bit : Int)] w (CMid K w Ge (.tuple #[]) A c z k (bitP encM t a (bit : Int)).2) :=
  (cw_bit (K.prb _ h.ap.gl) h.ap.off hab ha h.mch hb).mono fun _ _ hp => h.bits hp
theorem Cw.bit0 (h : Cw K w Ge A c z (k + 1) t) {a b i : Nat} (hab : K.ad a = (b, i)) (ha : a < 1847 + K.nl) :
    Calls Try.prog 67 #[.pointer (some ⟨K.eg, 0, none⟩), .pointer (some ⟨b, i, none⟩), .int .i64 0] w (CMid K w Ge (.tuple #[]) A c z k (bitP encM t a 0).2) := h.bit (bit := 0) hab ha (by decide)
theorem Cw.bit1 (h : Cw K w Ge A c z (k + 1) t) {a b i : Nat} (hab : K.ad a = (b, i)) (ha : a < 1847 + K.nl) :
    Calls Try.prog 67 #[.pointer (some ⟨K.eg, 0, none⟩), .pointer (some ⟨b, i, none⟩), .int .i64 1] w (CMid K w Ge (.tuple #[]) A c z k (bitP encM t a 1).2) := h.bit (bit := 1) hab ha (by decide)
theorem Cw.tree {n b o len cap V a : Nat} (h : Cw K w Ge A c z (k + n) t) (had : ∀ m, m < 2 ^ n → K.ad (a + m) = (b, o + m)) (haL : a + 2 ^ n ≤ 1847 + K.nl) (hn : 2 ^ n ≤ len) (hn8 : n ≤ 8) (hV : V < 4294967296) :
    Calls Try.prog 73 #[.pointer (some ⟨K.eg, 0, none⟩), .slice (some ⟨b, o, none⟩) len cap, .int .i64 (n : Int), .int .u32 (V : Int)] w (CMid K w Ge (.tuple #[]) A c z k (treeP encM t a n (V : Int)).2) :=
  (cw_tree (K.prb _ h.ap.gl) h.ap.off had haL h.mch hn hn8 hV).mono fun _ _ hp => h.bits hp
theorem Cw.rev {n b o len cap V a : Nat} (h : Cw K w Ge A c z (k + n) t) (had : ∀ m, m < 2 ^ n → K.ad (a + m) = (b, o + m)) (haL : a + 2 ^ n ≤ 1847 + K.nl) (hn : 2 ^ n ≤ len) (hn8 : n ≤ 8) (hV : V < 4294967296) :
    Calls Try.prog 87 #[.pointer (some ⟨K.eg, 0, none⟩), .slice (some ⟨b, o, none⟩) len cap, .int .i64 (n : Int), .int .u32 (V : Int)] w (CMid K w Ge (.tuple #[]) A c z k (revP encM t a n (V : Int)).2) :=
  (cw_rev (K.prb _ h.ap.gl) h.ap.off had haL h.mch hn hn8 hV).mono fun _ _ hp => h.bits hp
theorem Cw.straight (h : Cw K w Ge A c z (k + 1) t) {n V : Nat} (hn : n ≤ 32) (hV : V < 4294967296) (hok : okE k (strE t.x V n n)) :
    Calls Try.prog 88 #[.pointer (some ⟨K.eg, 0, none⟩), .int .i64 (n : Int), .int .u32 (V : Int)] w (CMid K w Ge (.tuple #[]) A c z k ⟨t.ps, strE t.x V n n⟩) :=
  (cw_straight (K.prb _ h.ap.gl) h.ap.off h.mch hn hV hok).mono fun _ _ hp => h.bits hp

/-- what its fields hold -/
structure Cf (K : Koc) (w : World) (A : Option Addr) (c : Nat) (z : Lzs) : Prop where
  c0 : w.cell? ⟨K.g, 0, none⟩ = some (.int .i64 (z.lc : Int))
  c1 : w.cell? ⟨K.g, 1, none⟩ = some (.int .i64 (z.lp : Int))
  c2 : w.cell? ⟨K.g, 2, none⟩ = some (.int .i64 (z.pb : Int))
  c3 : w.cell? ⟨K.g, 3, none⟩ = some (.int .i64 (z.dict : Int))
  c4 : w.cell? ⟨K.g, 4, none⟩ = some (.pointer (some ⟨K.eg, 0, none⟩))
  c5 : w.cell? ⟨K.g, 5, none⟩ = some (.slice A z.out.length c)
  c6 : w.cell? ⟨K.g, 6, none⟩ = some (.int .i64 (z.st : Int))
  c7 : w.cell? ⟨K.g, 7, none⟩ = some (.int .u32 (z.r0 : Int))
  c8 : w.cell? ⟨K.g, 8, none⟩ = some (.int .u32 (z.r1 : Int))
  c9 : w.cell? ⟨K.g, 9, none⟩ = some (.int .u32 (z.r2 : Int))
  c10 : w.cell? ⟨K.g, 10, none⟩ = some (.int .u32 (z.r3 : Int))
  lits : w.cell? ⟨K.g, 1858, none⟩ = some (.slice (some ⟨K.lb, 0, none⟩) K.nl K.nl)
  ended : w.cell? ⟨K.g, 1859, none⟩ = some (.bool z.ended)
  fz : ∀ i, w.frozen? ⟨K.g, i, none⟩ = false
theorem Cw.f (h : Cw K w Ge A c z k t) : Cf K w A c z :=
  ⟨h.dec.cell 0 (by decide), h.dec.cell 1 (by decide), h.dec.cell 2 (by decide), h.dec.cell 3 (by decide), h.dec.cell 4 (by decide), h.dec.cell 5 (by decide), h.dec.cell 6 (by decide), h.dec.cell 7 (by decide), h.dec.cell 8 (by decide), h.dec.cell 9 (by decide), h.dec.cell 10 (by decide),
    h.dec.cell 11 (by decide), h.dec.cell 12 (by decide), fun i => h.dec.free i⟩

set_option maxRecDepth 100000 in
set_option maxHeartbeats 1000000 in
theorem cplace_any (h : Cw K w Ge A c z k t) (hp : z.pb ≤ 4) (ho : z.out.length ≤ 1000000) :
    Calls Try.prog 66 #[.pointer (some ⟨K.g, 0, none⟩)] w fun e w' => e = .returned (.int .i64 ((z.out.length % 2 ^ z.pb : Nat) : Int)) ∧ ∃ n, w.drewN n = w' := by
  have c5 := h.f.c5
  have c2 := h.f.c2
  have e0 := i64_and_low z.out.length z.pb (by omega) (by omega)
  have HE0 := Lib.hid e0
  clear h e0
  generalize z.out.length = n at *
  generalize z.pb = k at *
  go_enter Try.func66, Try.ntmps66
  go_wp2_with fail
  go_quiet (fail)
  go_wp2_with fail
  go_ret
  exact ⟨congrArg (fun x => Ending.returned (.int .i64 x)) HE0.out, _, rfl⟩

set_option maxRecDepth 100000 in
set_option maxHeartbeats 1000000 in
theorem chas_any (h : Cw K w Ge A c z k t) {d : Nat} (hd : d < 4294967296) :
    Calls Try.prog 65 #[.pointer (some ⟨K.g, 0, none⟩), .int .u32 (d : Int)] w fun e w' => e = .returned (.bool (z.has d)) ∧ ∃ n, w.drewN n = w' := by
  have c5 := h.f.c5
  have c3 := h.f.c3
  have e0 : IntKind.i64.wrap (d : Int) = (d : Int) := IntWalk.i64_in _ (by omega)
  have hh : z.has d = decide (d < z.out.length ∧ d < z.dict) := rfl
  rw [hh]
  clear hh h
  generalize z.out.length = n at *
  generalize z.dict = m at *
  obtain ⟨v, hv⟩ : ∃ v, v = decide (d < n ∧ d < m) := ⟨_, rfl⟩
  rw [← hv]
  have HV := Lib.hid hv
  clear hv
  go_enter Try.func65, Try.ntmps65
  go_wp2_with fail
  go_quiet (fail)
  all_goals go_wp2_with fail
  all_goals go_ret
  all_goals
    refine ⟨congrArg (fun x => Ending.returned (.bool x)) ?_, _, rfl⟩
    rw [HV.out, Bool.eq_iff_iff]
    simp only [decide_eq_true_eq]
    omega

set_option maxRecDepth 100000 in
set_option maxHeartbeats 1000000 in
theorem clen_any (n : Int) (w : World) : Calls Try.prog 64 #[.int .i64 n] w fun e w' => e = .returned (.bool (decide (2 ≤ n ∧ n ≤ 273))) ∧ w = w' := by
  by_cases h0 : 2 ≤ n
  · have g0 : n ≥ 2 := h0
    by_cases h1 : n ≤ 273
    · have e : decide (2 ≤ n ∧ n ≤ 273) = true := decide_eq_true ⟨h0, h1⟩
      rw [e]
      clear e h0
      go_enter Try.func64, Try.ntmps64
      go_wp2_with fail
      go_ret
      exact ⟨rfl, rfl⟩
    · have e : decide (2 ≤ n ∧ n ≤ 273) = false := decide_eq_false (fun h => h1 h.2)
      rw [e]
      clear e h0
      go_enter Try.func64, Try.ntmps64
      go_wp2_with fail
      go_ret
      exact ⟨rfl, rfl⟩
  · have g0 : ¬ n ≥ 2 := h0
    have e : decide (2 ≤ n ∧ n ≤ 273) = false := decide_eq_false (fun h => h0 h.1)
    rw [e]
    clear e h0
    go_enter Try.func64, Try.ntmps64
    go_wp2_with fail
    go_ret
    exact ⟨rfl, rfl⟩
end
end Go.Proofs.Ytdhhibfppcpieaa

/-
  How a decoder of ranges begins, as numbers (cut out of RdNew).
-/
namespace Go.Proofs.Ytdhhibfppcpieaa

/-- behind the first byte and j more -/
def Begun (bs : List UInt8) (j c : Nat) : Prop := j + 1 ≤ bs.length ∧ (bs.getD 0 0).toNat = 0 ∧ c = be ((bs.drop 1).take j)

theorem info_u16 : (Try.prog.info? 34).map (fun i => (i.zero, i.size, i.bytes)) = some (some (.int .u16 0), 1, 2) := by kernel_rfl
end Go.Proofs.Ytdhhibfppcpieaa

/-
  Fresh probabilities.
-/
namespace Go.Proofs.Ytdhhibfppcpieaa
open Go.RowKit

theorem madeNums (n : Nat) : (madeCells #[Value.int .u16 0] n).toList = pv (List.replicate n 0) := by
  rw [toList_madeCells_one]
  simp [pv]

set_option maxRecDepth 100000 in
set_option maxHeartbeats 2000000 in
theorem fresh_any {n : Nat} (hn : n ≤ 1000000) (w : World) :
    Calls Try.prog 41 #[.int .i64 (n : Int)] w fun e w' =>
      e = .returned (.slice (some ⟨w.heap.size, 0, none⟩) n n) ∧ Row w' w.heap.size (List.replicate n 1024) n ∧ Below w.heap.size w w' := by
  obtain ⟨i, hi, hz0, hz1, hz2⟩ := info_parts info_u16
  have h0 : ¬ (n : Int) < 0 := by omega
  have h1 : ¬ (n : Int) > 2147483647 := by omega
  go_enter Try.func41, Try.ntmps41
  go_wp2_with (first
      | (at_make; refine wpList_make_full _ rfl _ _ 90 rfl w.heap.size 34 i _ 1 Try.underlying90 hi hz0 hz1 _ _ _ _ n rfl rfl rfl rfl ?b1 ?b2 (by simp) ?_))
  case b1 => omega
  case b2 => unfold maxLen; omega
  intro w2 ho hg
  rw [madeNums] at ho
  have HO := Lib.hid ho
  have HG := Lib.hid (only_none hg)
  clear ho hg
  go_wp2_with fail
  go_loopw [4, 14] (fun _ k wr => ∃ j : Nat, j ≤ n ∧ k = .int .i64 (j : Int) ∧ wr.ownsRow w.heap.size 34 1 (.slice (some ⟨w.heap.size, 0, none⟩) n n) n (pv (List.replicate j 1024 ++ List.replicate (n - j) 0)) ∧ Below w.heap.size w wr) (fun _ k _ => n - (intOf k).toNat)
  case atStart => exact ⟨0, by omega, rfl, by simpa using HO.out, HG.out⟩
  case round =>
    clear HO HG
    obtain ⟨j, hj, rfl, ho, hb⟩ := hrel
    have HO := Lib.hid ho
    have HG := Lib.hid hb
    clear ho hb
    by_cases hlt : j < n
    · have hfree := HO.out.frozenAt j
      have hl2 : (pv (List.replicate j 1024 ++ List.replicate (n - j) 0)).length = n := by rw [pv_length]; simp; omega
      obtain ⟨old, hold⟩ : ∃ u, wr.cell? ⟨w.heap.size, j, none⟩ = some u := by
        rw [HO.out.cellAt j (by omega), List.getElem?_eq_getElem (by omega)]
        exact ⟨_, rfl⟩
      have i1 : (j : Int) < (n : Int) := by omega
      have i0 : (0 : Int) ≤ (j : Int) := by omega
      have HN := Lib.hid (show (pv (List.replicate j 1024 ++ List.replicate (n - j) 0)).set j (.int .u16 1024) = pv (List.replicate (j + 1) 1024 ++ List.replicate (n - (j + 1)) 0) by
        obtain ⟨m, hm⟩ : ∃ m, n - j = m + 1 := ⟨n - j - 1, by omega⟩
        rw [show n - (j + 1) = m by omega, hm, List.replicate_succ, show (Value.int .u16 1024) = .int .u16 ((1024 : Nat) : Int) from rfl, pv_set, List.set_append_right _ _ (by simp), List.length_replicate, Nat.sub_self, List.set_cons_zero, List.replicate_succ']
        simp)
      clear hl2
      go_wp2_with fail
      go_roundw
      case rel =>
        refine ⟨j + 1, by omega, by go_num, ?_, HG.out.setCell (by simp) _⟩
        have ho := (HO.out.stored j (.int .u16 1024)).1
        rw [HN.out] at ho
        exact ho
      case measure => simp [intOf]; omega
    · obtain rfl : j = n := by omega
      go_wp2_with fail
      go_ret
      refine ⟨rfl, ?_, HG.out⟩
      have ho := HO.out
      rw [Nat.sub_self, List.replicate_zero, List.append_nil] at ho
      unfold Row
      rw [List.length_replicate]
      exact own_mono ho (Nat.zero_le _)
end Go.Proofs.Ytdhhibfppcpieaa
