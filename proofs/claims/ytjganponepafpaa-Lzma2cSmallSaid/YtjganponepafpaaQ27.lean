/-
  CkIter, CkMay, LqProp, CkPack: put together.
-/
import Derived.RangeFuncNested
import Derived.RangeFuncBound
import Derived.RangeFuncCalls
import Derived.RangeFuncLeaves
import Derived.Shelf.Abstract
import Derived.WalkKit
import Derived.OwnWalkIn
import Derived.TacticsInMore
import Derived.LoopNIn
import Derived.LoopIn
import Derived.RegionIn
import Derived.Shelf.RegionOpen
import Derived.Sort.QuietIn
import Derived.Test.YtjganponepafpaaQ16
import Derived.Test.YtjganponepafpaaQ21
import Derived.Test.YtjganponepafpaaQ18
import Derived.Test.YtjganponepafpaaQ06
import Derived.Test.YtjganponepafpaaQ26
import Derived.Maps.AppendAt
import Derived.Maps.OwnIn
set_option linter.unusedVariables false
set_option linter.unusedSimpArgs false
/-
  The library's iterator over a slice's chunks.
-/
namespace Go.Proofs.Ytjganponepafpaa
open Go.RowKit Go.Shelf
attribute [local go_sem] Oper.semAt_some

/-- what a round keeps: the iterator's two variables -/
def KpC (B1 B2 : Nat) (W W' : World) : Prop := W'.cell? ⟨B1, 0, none⟩ = W.cell? ⟨B1, 0, none⟩ ∧ W'.cell? ⟨B2, 0, none⟩ = W.cell? ⟨B2, 0, none⟩
/-- chunk number x of the bytes at q -/
def encC (q o n p : Nat) (x : { j : Nat // j < manyN n p }) : Array Value := #[.slice (some ⟨q, o + x.1 * p, none⟩) (min p (n - x.1 * p)) (min p (n - x.1 * p))]
def ofN (n p : Nat) : Nat → List { j : Nat // j < manyN n p }
  | 0 => []
  | k + 1 => if h : k < manyN n p then ofN n p k ++ [⟨k, h⟩] else ofN n p k
theorem ofN_succ {n p k : Nat} (h : k < manyN n p) : ofN n p (k + 1) = ofN n p k ++ [⟨k, h⟩] := dif_pos h
theorem ofN_len {n p : Nat} : ∀ {k : Nat}, k ≤ manyN n p → (ofN n p k).length = k
  | 0, _ => rfl
  | k + 1, h => by
    rw [ofN_succ (by omega), List.length_append, ofN_len (by omega)]
    rfl
theorem ofN_val {n p : Nat} : ∀ {k : Nat}, k ≤ manyN n p → (ofN n p k).map (·.1) = List.range k
  | 0, _ => rfl
  | k + 1, h => by
    rw [ofN_succ (by omega), List.map_append, ofN_val (by omega), List.range_succ]
    rfl

set_option maxHeartbeats 1000000 in
theorem chunk_in {A : Option Addr} {n c p : Nat} (hp : 1 ≤ p) (d : Nat) (w : World) :
    CallsIn Fence.wide d Try.prog 17 #[.slice A n c, .int .i64 (p : Int)] w fun e w' => e = .returned (.func (.func 28) #[] #[.pointer (some ⟨w.heap.size, 0, none⟩), .pointer (some ⟨w.heap.size + 1, 0, none⟩)]) ∧
      w' = (w.alloc (.cells #[.slice A n c] 22)).alloc (.cells #[.int .i64 (p : Int)] 3) := by
  have g1 : ¬ (p : Int) < 1 := by omega
  refine callsIn_of_wp Try.func17 rfl trivial ?_ rfl
  simp only [Try.ntmps17, List.size_toArray, List.length_cons, List.length_nil, Nat.reduceAdd, Nat.reduceSub, Array.replicate_succ, Array.replicate_zero, List.push_toArray, List.append_toArray, List.nil_append, List.cons_append]
  gi_wp2
  go_ret
  exact ⟨rfl, rfl⟩

set_option maxRecDepth 100000 in
set_option maxHeartbeats 4000000 in
theorem chunk1_in (d : Nat) (hd : 1 ≤ d) (l B1 B2 q o n c p : Nat) (hp : 1 ≤ p) (hp2 : p ≤ 65536) (hn : n ≤ 1000000) {A : Option Addr} (hA : 0 < n → A = some ⟨q, o, none⟩) (hnc : n ≤ c) (hc : c ≤ maxLen) (J Jx : List { j : Nat // j < manyN n p } → World → Prop) (hJd : ∀ pre W k, J pre W → J pre (W.drewN k))
    (hY : ∀ pre x W, J pre W → pre.length < manyN n p → YieldAt Fence.wide (d - 1) Try.prog l (encC q o n p x) W fun e W' =>
      (e = .returned (.bool true) ∧ J (pre ++ [x]) W' ∧ KpC B1 B2 W W') ∨ (e = .returned (.bool false) ∧ Jx (pre ++ [x]) W'))
    (W : World) (hB1 : W.cell? ⟨B1, 0, none⟩ = some (.slice A n c)) (hB2 : W.cell? ⟨B2, 0, none⟩ = some (.int .i64 (p : Int))) (h0 : J [] W) :
    CallsIn Fence.wide d Try.prog 28 #[.func (.yield l) #[] #[], .pointer (some ⟨B1, 0, none⟩), .pointer (some ⟨B2, 0, none⟩)] W fun e W' => (∃ v, e = .returned v) ∧
      ((∃ ys, ys = ofN n p (manyN n p) ∧ J ys W') ∨ (∃ pre, True ∧ Jx pre W')) := by
  unfold maxLen at hc
  refine callsIn_of_wp Try.func28 rfl trivial ?_ rfl
  simp only [Try.ntmps28, List.size_toArray, List.length_cons, List.length_nil, Nat.reduceAdd, Nat.reduceSub, Array.replicate_succ, Array.replicate_zero, List.push_toArray, List.append_toArray, List.nil_append, List.cons_append]
  gi_wp2
  gi_loopw [4] (fun i wr => ∃ k : Nat, k ≤ manyN n p ∧ i = .int .i64 ((k * p : Nat) : Int) ∧ J (ofN n p k) wr ∧ KpC B1 B2 W wr)
    (fun i _ => n + p - (intOf i).toNat)
  case atStart => exact ⟨0, Nat.zero_le _, by simp, h0, rfl, rfl⟩
  case round =>
    obtain ⟨k, hk, rfl, hJs, hk1, hk2⟩ := hrel
    have c1 := hk1.trans hB1
    have c2 := hk2.trans hB2
    obtain ⟨kp, hkp⟩ : ∃ kp, kp = k * p := ⟨_, rfl⟩
    rw [← hkp]
    by_cases hlt : k < manyN n p
    · have hlt2 : kp < n := by rw [hkp]; exact (many_lt hp).1 hlt
      obtain rfl := hA (by omega)
      obtain ⟨e, he⟩ : ∃ e, e = min p (n - kp) := ⟨_, rfl⟩
      have i1 : (kp : Int) < (n : Int) := by omega
      have hle : e ≤ n - kp := by omega
      have m1 := min2_int (P := Try.prog) #[3, 3] 3 (p : Int) ((n : Int) - (kp : Int)) (e : Int) (by omega)
      have m2 := min2_int (P := Try.prog) #[3, 3] 3 (p : Int) ((n - kp : Nat) : Int) (e : Int) (by omega)
      have he0 : 1 ≤ e := by omega
      have HKP := Lib.hid hkp
      have HE := Lib.hid he
      clear hkp he
      have w1 : IntKind.i64.wrap ((kp : Int) + (e : Int)) = ((kp + e : Nat) : Int) := by rw [IntWalk.i64_in _ (by omega)]; omega
      have w2 : IntKind.i64.wrap ((kp : Int) + (p : Int)) = ((kp + p : Nat) : Int) := by rw [IntWalk.i64_in _ (by omega)]; omega
      have j1 : (kp : Int) ≤ ((kp + e : Nat) : Int) := by omega
      have j2 : ((kp + e : Nat) : Int) ≤ (c : Int) := by omega
      gi_wp2
      gi_quiet (fail)
      obtain ⟨fn, tmps, assign, body, hy, hR⟩ := hY _ ⟨k, hlt⟩ (wr.drewN nq) (hJd _ _ _ hJs) (by rw [ofN_len hk]; exact hlt)
      unfold encC at hy
      dsimp only at hy
      rw [← HKP.out, ← HE.out] at hy
      have c1x : (wr.drewN nq).cell? ⟨B1, 0, none⟩ = some (.slice (some ⟨q, o, none⟩) n c) := c1
      have c2x : (wr.drewN nq).cell? ⟨B2, 0, none⟩ = some (.int .i64 (p : Int)) := c2
      have k1x : KpC B1 B2 wr (wr.drewN nq) := ⟨rfl, rfl⟩
      generalize wr.drewN nq = wx at *
      gi_wp2
      refine hR.mono ?_
      rintro e1 W3 (⟨rfl, hJ3, hk3⟩ | ⟨rfl, hJx3⟩)
      · have c2y := hk3.2.trans c2x
        gi_wp2
        go_roundw
        case rel => exact ⟨k + 1, by omega, by rw [show (k + 1) * p = kp + p by rw [Nat.succ_mul, ← HKP.out]]; first | rfl | go_num | (simp; done), by rw [ofN_succ hlt]; exact hJ3, hk3.1.trans (k1x.1.trans hk1), hk3.2.trans (k1x.2.trans hk2)⟩
        case measure => simp [intOf]; omega
      · gi_wp2
        refine bodyPost_ret (results_none rfl _ _ _) rfl ?_
        exact ⟨⟨_, rfl⟩, .inr ⟨_, trivial, hJx3⟩⟩
    · obtain rfl : k = manyN n p := by omega
      have i1 : ¬ (kp : Int) < (n : Int) := by
        have : ¬ kp < n := by rw [hkp]; exact fun h => hlt ((many_lt hp).2 h)
        omega
      clear hkp
      gi_wp2
      go_end0
      first | exact ⟨⟨_, rfl⟩, .inl hJs⟩ | exact ⟨⟨_, rfl⟩, .inl ⟨_, rfl, hJs⟩⟩
theorem chunk_stops {d B1 B2 q o n c p : Nat} {A : Option Addr} {w : World} (hd : 1 ≤ d) (hp : 1 ≤ p) (hp2 : p ≤ 65536) (hn : n ≤ 1000000) (hA : 0 < n → A = some ⟨q, o, none⟩) (hnc : n ≤ c) (hc : c ≤ maxLen) (hb1 : B1 < w.heap.size) (hb2 : B2 < w.heap.size)
    (hB1 : w.cell? ⟨B1, 0, none⟩ = some (.slice A n c)) (hB2 : w.cell? ⟨B2, 0, none⟩ = some (.int .i64 (p : Int))) :
    SeqStopsK Fence.wide d Try.prog 28 #[.pointer (some ⟨B1, 0, none⟩), .pointer (some ⟨B2, 0, none⟩)] (encC q o n p) (KpC B1 B2) (fun ys => ys = ofN n p (manyN n p)) (fun _ => True) (manyN n p) w := fun l J Jx W hW hJ _ hY h0 =>
  chunk1_in d hd l B1 B2 q o n c p hp hp2 hn hA hnc hc J Jx (fun pre W k h => hJ pre W (W.drewN k) none h ⟨rfl, rfl, rfl, Nat.le_refl _, fun _ _ _ => rfl⟩ (fun r e => (nomatch e))) hY W ((hW.cell (p := ⟨B1, 0, none⟩) hb1).trans hB1) ((hW.cell (p := ⟨B2, 0, none⟩) hb2).trans hB2) h0
end Go.Proofs.Ytjganponepafpaa

/-
  The coder of LZMA2: which settings may be.
-/
namespace Go.Proofs.Ytjganponepafpaa
open Go.RowKit

def may12 (a b c d : Int) : Bool := maySet a b c d && decide (a + b ≤ 4)
set_option maxRecDepth 100000 in
set_option maxHeartbeats 4000000 in
theorem kmay_any (a b c d : Int) (w : World) : Calls Try.prog 14 #[.agg #[.int .i64 a, .int .i64 b, .int .i64 c, .int .i64 d]] w fun e w' => e = .returned (.bool (may12 a b c d)) ∧ Below w.heap.size w w' := by
  obtain ⟨w1, hw1⟩ : ∃ w1, w1 = w.alloc (.cells #[.int .i64 a, .int .i64 b, .int .i64 c, .int .i64 d] 39) := ⟨_, rfl⟩
  have hb1 : Below w.heap.size w w1 := by rw [hw1]; exact (Below.refl _ _).alloc (Nat.le_refl _) _
  have HBk : Blk w1 w.heap.size 39 #[.int .i64 a, .int .i64 b, .int .i64 c, .int .i64 d] := by rw [hw1]; exact Blk.fresh w _ _
  have KM := pmay_any a b c d w1
  have c0 : w1.cell? ⟨w.heap.size, 0, none⟩ = some (.int .i64 a) := HBk.cell 0
  have c1 : w1.cell? ⟨w.heap.size, 1, none⟩ = some (.int .i64 b) := HBk.cell 1
  have c2 : w1.cell? ⟨w.heap.size, 2, none⟩ = some (.int .i64 c) := HBk.cell 2
  have c3 : w1.cell? ⟨w.heap.size, 3, none⟩ = some (.int .i64 d) := HBk.cell 3
  have HBK := Lib.hid HBk
  have HW1 := Lib.hid hw1
  have HB1 := Lib.hid hb1
  have hbw : w.heap.size < w1.heap.size := HBk.lt
  have HLT := Lib.hid hbw
  by_cases hm : maySet a b c d = true
  · obtain ⟨m1, m2, m3, m4, m5, m6, m7, m8⟩ := may_iff.1 hm
    have e1 : IntKind.i64.wrap (a + b) = a + b := IntWalk.i64_in _ (by omega)
    have hres : may12 a b c d = decide (a + b ≤ 4) := by unfold may12; rw [hm]; rfl
    rw [hm] at KM
    rw [hres]
    have KM := Lib.hid KM
    clear hw1 hb1 HBk hres hm m1 m2 m3 m4 m5 m6 m7 m8 hbw
    go_enter Try.func14, Try.ntmps14
    go_upto_region 1 with fail
    rw [← HW1.out]
    clear HW1
    generalize hB : w.heap.size = B at *
    go_wp2_with fail
    refine KM.out.mono ?_
    rintro e w2 ⟨rfl, hb2⟩
    have hk2 := HBK.out.below hb2
    have d0 : w2.cell? ⟨B, 0, none⟩ = some (.int .i64 a) := hk2.cell 0
    have d1 : w2.cell? ⟨B, 1, none⟩ = some (.int .i64 b) := hk2.cell 1
    have HB2 := Lib.hid (show Below B w w2 from HB1.out.trans ⟨hb2.os, hb2.tape, hb2.output, hb2.size, fun i hi => hb2.block i (by have := HLT.out; omega)⟩)
    clear hb2 hk2 KM c0 c1 c2 c3 HB1 HBK
    go_wp2_with fail
    go_ret
    exact ⟨rfl, by rw [hB]; exact HB2.out⟩
  · have h0 : maySet a b c d = false := by simpa using hm
    have hres : may12 a b c d = false := by unfold may12; rw [h0]; rfl
    rw [h0] at KM
    rw [hres]
    have KM := Lib.hid KM
    clear hw1 hb1 HBk hres hm h0 hbw
    go_enter Try.func14, Try.ntmps14
    go_upto_region 1 with fail
    rw [← HW1.out]
    clear HW1
    generalize hB : w.heap.size = B at *
    go_wp2_with fail
    refine KM.out.mono ?_
    rintro e w2 ⟨rfl, hb2⟩
    have HB2 := Lib.hid (show Below B w w2 from HB1.out.trans ⟨hb2.os, hb2.tape, hb2.output, hb2.size, fun i hi => hb2.block i (by have := HLT.out; omega)⟩)
    clear hb2 KM c0 c1 c2 c3 HB1 HBK
    go_wp2_with fail
    go_ret
    exact ⟨rfl, by rw [hB]; exact HB2.out⟩
end Go.Proofs.Ytjganponepafpaa

/-
  The property of LZMA2.
-/
namespace Go.Proofs.Ytjganponepafpaa
open Go.RowKit

def dictN (p : Nat) : Nat := if p > 40 then 0 else if p = 40 then 4294967295 else (2 + p % 2) * 2 ^ (p / 2 + 11)
def dictC (p : Nat) : Int := if p > 40 then 11 else 0
set_option maxRecDepth 100000 in
set_option maxHeartbeats 1000000 in
theorem qdict_any {p : Nat} (hp : p < 256) (w : World) :
    Calls Try.prog 25 #[.int .u8 (p : Int)] w fun e w' => e = .returned (.tuple #[.int .i64 (dictN p : Int), .int .i64 (dictC p)]) ∧ w = w' := by
  unfold dictN dictC
  by_cases h1 : p > 40
  · have c1 : (p : Int) > 40 := by omega
    rw [if_pos h1, if_pos h1]
    clear h1
    go_enter Try.func25, Try.ntmps25
    go_wp2_with fail
    go_ret2
    exact ⟨rfl, rfl⟩
  · have c1 : ¬ (p : Int) > 40 := by omega
    rw [if_neg h1, if_neg h1]
    by_cases h2 : p = 40
    · subst h2
      rw [if_pos rfl]
      clear h1 c1
      go_enter Try.func25, Try.ntmps25
      go_wp2_with fail
      go_ret2
      exact ⟨rfl, rfl⟩
    · rw [if_neg h2]
      have c2 : ((p : Int) == 40) = false := by simp; omega
      have hb : (2 : Nat) ^ (p / 2 + 11) ≤ 2 ^ 31 := Nat.pow_le_pow_right (by decide) (by omega)
      have hc : ((2 : Int) ^ (p / 2 + 11)) = ((2 ^ (p / 2 + 11) : Nat) : Int) := by simp
      have hx : (2 + (p : Int) % 2) * 2 ^ (p / 2 + 11) = (((2 + p % 2) * 2 ^ (p / 2 + 11) : Nat) : Int) := by rw [hc]; simp
      have hs : (2 + p % 2) * 2 ^ (p / 2 + 11) ≤ 3 * 2 ^ 31 := Nat.mul_le_mul (by omega) hb
      have e1 : wrap64 ((2 + (p : Int) % 2) * 2 ^ (p / 2 + 11)) = (2 + (p : Int) % 2) * 2 ^ (p / 2 + 11) := by
        refine IntWalk.wrap64_in _ ?_
        rw [hx]
        omega
      clear hx hs hb hc
      go_enter Try.func25, Try.ntmps25
      go_wp2_with fail
      go_ret2
      exact ⟨by simp, rfl⟩

/-- the least property whose dictionary is great enough, or none -/
def IsProp (dict : Int) (r : Nat) (c : Int) : Prop := (c = 0 ∧ r ≤ 40 ∧ dict ≤ (dictN r : Int) ∧ ∀ j, j < r → (dictN j : Int) < dict) ∨ (c = 11 ∧ r = 0 ∧ ∀ j, j ≤ 40 → (dictN j : Int) < dict)
def PropPost (dict : Int) (w : World) (e : Ending) (w' : World) : Prop := ∃ r c, e = .returned (.tuple #[.int .u8 ((r : Nat) : Int), .int .i64 c]) ∧ IsProp dict r c ∧ Below w.heap.size w w'

set_option maxRecDepth 100000 in
set_option maxHeartbeats 2000000 in
theorem qprop_any (dict : Int) (w : World) : Calls Try.prog 15 #[.int .i64 dict] w (PropPost dict w) := by
  have KD := Lib.hid (fun (p : Nat) (hp : p < 256) (w : World) => qdict_any hp w)
  go_enter Try.func15, Try.ntmps15
  go_wp2_with fail
  go_loopw [7] (fun v wr => ∃ i : Nat, v = .int .u8 (i : Int) ∧ i ≤ 41 ∧ (∀ j, j < i → (dictN j : Int) < dict) ∧ Below w.heap.size w wr) (fun v wr => 41 - (match v with | .int _ n => n.toNat | _ => 0))
  case atStart => exact ⟨0, rfl, by omega, fun j hj => absurd hj (Nat.not_lt_zero j), Below.refl _ _⟩
  case round =>
    obtain ⟨i, rfl, hi, hlow, hb⟩ := hrel
    have HI := Lib.hid (And.intro hi (And.intro hlow hb))
    by_cases hlt : i < 41
    · have c1 : (i : Int) < 41 := by omega
      have K := Lib.hid (KD.out i (by omega) wr)
      clear hi hlow hb
      go_wp2_with fail
      refine K.out.mono ?_
      rintro e w1 ⟨rfl, rfl⟩
      clear K
      by_cases hge : (dictN i : Int) ≥ dict
      · go_wp2_with fail
        go_ret2
        exact ⟨i, 0, rfl, .inl ⟨rfl, by omega, hge, HI.out.2.1⟩, HI.out.2.2⟩
      · have e1 : IntKind.u8.wrap ((i : Int) + 1) = ((i + 1 : Nat) : Int) := by simp [IntKind.wrap, IntKind.bits, IntKind.signed]; omega
        go_wp2_with fail
        go_roundw
        case rel =>
          refine ⟨i + 1, by simp [e1], by omega, fun j hj => ?_, HI.out.2.2⟩
          rcases Nat.lt_or_ge j i with h | h
          · exact HI.out.2.1 j h
          · obtain rfl : j = i := by omega
            omega
        case measure =>
          simp [e1]
          omega
    · have c1 : ¬ (i : Int) < 41 := by omega
      clear hi hlow hb
      go_wp2_with fail
      go_ret2
      exact ⟨0, 11, rfl, .inr ⟨rfl, rfl, fun j hj => HI.out.2.1 j (by omega)⟩, HI.out.2.2⟩
end Go.Proofs.Ytjganponepafpaa

/-
  The coder of LZMA2: Pack.
-/
namespace Go.Proofs.Ytjganponepafpaa
open Go.RowKit Go.Shelf
attribute [local go_sem] Oper.semAt_some

theorem prop_has {dict r : Nat} {c : Int} (h : IsProp (dict : Int) r c) (hd : dict < 4294967296) : c = 0 := by
  rcases h with h | h
  · exact h.1
  · have := h.2.2 40 (by decide)
    have e : dictN 40 = 4294967295 := by decide
    rw [e] at this
    omega
theorem cutB_sl {w : World} {q o n p j : Nat} {b : List UInt8} (h : Sl w (some ⟨q, o, none⟩) n (bv b)) (hj : j * p < n) : Sl w (some ⟨q, o + j * p, none⟩) (min p (n - j * p)) (bv (cutB b p j)) := by
  have hl : b.length = n := by rw [← bv_length]; exact h.1
  refine ⟨by rw [bv_length, cutB_len, hl], fun h0 => ?_⟩
  obtain ⟨b', o', e, hlt, hc⟩ := h.2 (by omega)
  injection e with e
  injection e with e1 e2
  subst e1 e2
  refine ⟨q, o + j * p, rfl, hlt, fun i hi => ?_⟩
  have := hc (j * p + i) (by omega)
  rw [Nat.add_assoc, this]
  unfold cutB bv
  rw [List.getElem?_map, List.getElem?_map, List.getElem?_take_of_lt (by omega), List.getElem?_drop]

theorem many_mul {n p : Nat} : manyN n p * p ≤ n + (p - 1) := Nat.div_mul_le_self _ _
theorem many_le {n p : Nat} (hp : 1 ≤ p) : manyN n p ≤ n + (p - 1) := Nat.div_le_self _ _
/-- what holds between two rounds -/
def Kin (Q : Kq) (b : List UInt8) (p : Nat) (wL : World) (G0 : Nat → Prop) (s : Lzs × Pm En) (js : List Nat) (W : World) : Prop :=
  ∃ G, Kwn Q W (foldQ b (headB Q.lc Q.lp Q.pb) Q.dict p s js).1 (foldQ b (headB Q.lc Q.lp Q.pb) Q.dict p s js).2 0 G ∧ Stp wL G0 W G
section
variable {w : World} {A : Option Addr} {n c p : Nat} {b : List UInt8} {lc lp pb dict : Nat}
def KPackPost (w : World) (b : List UInt8) (lc lp pb dict p : Nat) (e : Ending) (w' : World) : Prop :=
  ∃ R cl r, e = .returned (.tuple #[.slice R (packN b lc lp pb dict p).length cl, .int .u8 ((r : Nat) : Int), .int .i64 0]) ∧ Sl w' R (packN b lc lp pb dict p).length (bv (packN b lc lp pb dict p)) ∧ (packN b lc lp pb dict p).length ≤ cl ∧ cl ≤ maxLen ∧ IsProp (dict : Int) r 0 ∧ Below w.heap.size w w'

set_option maxRecDepth 100000 in
set_option maxHeartbeats 16000000 in
theorem kpack_any (hset : SetOk lc lp pb dict) (h4 : lc + lp ≤ 4) (hp : 1 ≤ p) (hp2 : p ≤ 65536) (hS : Sl w A n (bv b)) (hn : n ≤ 65536) (hnc : n ≤ c) (hc : c ≤ maxLen) :
    Calls Try.prog 11 #[.slice A n c, .agg #[.int .i64 (lc : Int), .int .i64 (lp : Int), .int .i64 (pb : Int), .int .i64 (dict : Int)], .int .i64 (p : Int)] w (KPackPost w b lc lp pb dict p) := by
  have hm12 : may12 (lc : Int) (lp : Int) (pb : Int) (dict : Int) = true := by
    unfold may12
    rw [setOk_may hset, decide_eq_true (by omega)]
    rfl
  have KM := fun W => kmay_any (lc : Int) (lp : Int) (pb : Int) (dict : Int) W
  rw [hm12] at KM
  have KM := Lib.hid KM
  have KPR := Lib.hid (fun W => qprop_any (dict : Int) W)
  have KN := Lib.hid (fun W => cnew7_any (k := 0) hset (by omega) (Nat.zero_le _) W)
  have KC := Lib.hid (fun d W => chunk_in (A := A) (n := n) (c := c) hp d W)
  have g1 : ¬ (p : Int) < 1 := by omega
  have g2 : ¬ (p : Int) > 65536 := by omega
  have HIN := Lib.hid (And.intro hset (And.intro h4 (And.intro hp (And.intro hp2 (And.intro hS (And.intro hn (And.intro hnc hc)))))))
  have HB0 := Lib.hid (Below.refl w.heap.size w)
  clear hset h4 hp hp2 hS hn hnc hc hm12
  refine (callsIn_wide (n := 9)).1 ?_
  refine callsIn_of_wp_marks Try.func11 rfl trivial ?_ rfl
  simp only [Try.ntmps11, List.size_toArray, List.length_cons, List.length_nil, Nat.reduceAdd, Nat.reduceSub, Array.replicate_succ, Array.replicate_zero, List.push_toArray, List.append_toArray, List.nil_append, List.cons_append]
  have HBK := Lib.hid (Blk.fresh w 39 #[.int .i64 (lc : Int), .int .i64 (lp : Int), .int .i64 (pb : Int), .int .i64 (dict : Int)])
  gi_wp2_with (first
    | (refine ⟨trivial, ?_⟩; gi_at_call 14; refine (callsIn_wide.2 (KM.out _)).mono ?_; rintro e w2 ⟨rfl, hb2⟩; have hk2 := HBK.out.below hb2; have d3 : w2.cell? ⟨w.heap.size, 3, none⟩ = some (.int .i64 (dict : Int)) := hk2.cell 3; have HK2 := Lib.hid hk2; have HB2 := Lib.hid (below_gg ((Below.refl w.heap.size w).alloc (Nat.le_refl _) _) hb2 (Nat.le_refl _)); clear hb2 hk2)
    | (refine ⟨trivial, ?_⟩; gi_at_call 15; refine (callsIn_wide.2 (KPR.out _)).mono ?_; rintro e w3 ⟨r, c', rfl, hpr, hb3⟩; have hc0 := prop_has hpr HIN.out.1.2.2.2.2; subst hc0; have HPR := Lib.hid hpr; have hk3 := HK2.out.below hb3; have f0 : w3.cell? ⟨w.heap.size, 0, none⟩ = some (.int .i64 (lc : Int)) := hk3.cell 0; have f1 : w3.cell? ⟨w.heap.size, 1, none⟩ = some (.int .i64 (lp : Int)) := hk3.cell 1; have f2 : w3.cell? ⟨w.heap.size, 2, none⟩ = some (.int .i64 (pb : Int)) := hk3.cell 2; have f3 : w3.cell? ⟨w.heap.size, 3, none⟩ = some (.int .i64 (dict : Int)) := hk3.cell 3; have HK3 := Lib.hid hk3; have HB3 := Lib.hid (below_gg HB2.out hb3 (Nat.le_refl _)); clear hb3 hk3 d3 hpr HB2 HK2)
    | (refine ⟨trivial, ?_⟩; gi_at_call 16; refine (callsIn_wide.2 (KN.out _)).mono ?_; rintro e w4 ⟨K, rfl, hnl, hcw, hnew, ho4⟩; have hk4 := HK3.out.only ho4 (fun h => h); have y0 : w4.cell? ⟨w.heap.size, 0, none⟩ = some (.int .i64 (lc : Int)) := hk4.cell 0; have y1 : w4.cell? ⟨w.heap.size, 1, none⟩ = some (.int .i64 (lp : Int)) := hk4.cell 1; have y2 : w4.cell? ⟨w.heap.size, 2, none⟩ = some (.int .i64 (pb : Int)) := hk4.cell 2; have y3 : w4.cell? ⟨w.heap.size, 3, none⟩ = some (.int .i64 (dict : Int)) := hk4.cell 3; have HNW := Lib.hid (And.intro hnl (And.intro hcw hnew)); have HB4 := Lib.hid (below_gg HB3.out (ho4.below (Nat.le_refl _) (fun _ h => h.elim)) (Nat.le_refl _)); have HSZ := Lib.hid (And.intro HB3.out.size ho4.size); clear hnl hcw hnew ho4 hk4 f0 f1 f2 f3 HB3 HK3)
    | (refine ⟨trivial, ?_⟩; gi_at_call 17; refine (KC.out _ _).mono ?_; rintro e w6 ⟨rfl, rfl⟩; clear y0 y1 y2 y3)
    | fail)
  obtain ⟨hset, h4, hp, hp2, hS, hn, hnc, hc⟩ := HIN.out
  obtain ⟨hnl, hcw, hn1, hn2, hn3⟩ := HNW.out
  obtain ⟨Q, hQ⟩ : ∃ Q : Kq, Q = ⟨w4.heap.size, A, n, c, lc, lp, pb, dict⟩ := ⟨_, rfl⟩
  obtain ⟨s0, hs0⟩ : ∃ s0, s0 = freshS lc lp pb dict := ⟨_, rfl⟩
  have hbl : b.length = n := by rw [← bv_length]; exact hS.1
  have hlc : Q.lc = lc ∧ Q.lp = lp ∧ Q.pb = pb ∧ Q.dict = dict ∧ Q.A = A ∧ Q.n = n ∧ Q.c = c ∧ Q.kg = w4.heap.size := by rw [hQ]; exact ⟨rfl, rfl, rfl, rfl, rfl, rfl, rfl, rfl⟩
  obtain ⟨wL, hwL⟩ : ∃ wL, wL = (((w4.alloc (.cells #[.slice A n c, .int .i64 0, .int .i64 (lc : Int), .int .i64 (lp : Int), .int .i64 (pb : Int), .int .i64 (dict : Int), .pointer (some ⟨K.g, 0, none⟩), .int .i64 3, .slice none 0 0] 61)).alloc (.cells #[.pointer (some ⟨w4.heap.size, 0, none⟩)] 59)).alloc (.cells #[.slice A n c] 22)).alloc (.cells #[.int .i64 (p : Int)] 3) := ⟨_, rfl⟩
  have hsz : wL.heap.size = w4.heap.size + 4 := by rw [hwL]; simp
  have hoL : Only (fun _ => False) w4 wL := by rw [hwL]; exact ((((Only.refl _ w4).alloc _).alloc _).alloc _).alloc _
  have hbk : Blk wL Q.kg 61 (ckCells Q K 0 3 none 0 0) := by
    rw [hQ, hwL]
    exact ((((Blk.fresh w4 _ _).alloc _).alloc _).alloc _)
  have hbx : Blk wL (w4.heap.size + 1) 59 #[.pointer (some ⟨w4.heap.size, 0, none⟩)] := by
    rw [hwL]
    have := Blk.fresh (w4.alloc (.cells #[.slice A n c, .int .i64 0, .int .i64 (lc : Int), .int .i64 (lp : Int), .int .i64 (pb : Int), .int .i64 (dict : Int), .pointer (some ⟨K.g, 0, none⟩), .int .i64 3, .slice none 0 0] 61)) 59 #[.pointer (some ⟨w4.heap.size, 0, none⟩)]
    rw [World.size_alloc] at this
    exact (this.alloc _).alloc _
  have hb1 : Blk wL (w4.heap.size + 2) 22 #[.slice A n c] := by
    rw [hwL]
    have := Blk.fresh ((w4.alloc (.cells #[.slice A n c, .int .i64 0, .int .i64 (lc : Int), .int .i64 (lp : Int), .int .i64 (pb : Int), .int .i64 (dict : Int), .pointer (some ⟨K.g, 0, none⟩), .int .i64 3, .slice none 0 0] 61)).alloc (.cells #[.pointer (some ⟨w4.heap.size, 0, none⟩)] 59)) 22 #[.slice A n c]
    rw [World.size_alloc, World.size_alloc] at this
    exact this.alloc _
  have hb2 : Blk wL (w4.heap.size + 3) 3 #[.int .i64 (p : Int)] := by
    rw [hwL]
    have := Blk.fresh (((w4.alloc (.cells #[.slice A n c, .int .i64 0, .int .i64 (lc : Int), .int .i64 (lp : Int), .int .i64 (pb : Int), .int .i64 (dict : Int), .pointer (some ⟨K.g, 0, none⟩), .int .i64 3, .slice none 0 0] 61)).alloc (.cells #[.pointer (some ⟨w4.heap.size, 0, none⟩)] 59)).alloc (.cells #[.slice A n c] 22)) 3 #[.int .i64 (p : Int)]
    rw [World.size_alloc, World.size_alloc, World.size_alloc] at this
    exact this
  obtain ⟨o1, o2, o3, o4, o5⟩ := hcw.old
  have hst : Kst Q K wL none none 0 0 ⟨3, s0, []⟩ 0 none 0 := by
    have e : s0.2 = (⟨List.replicate (1847 + K.nl) 1024, En.new⟩ : Pm En) := by
      rw [hs0, hnl]
      rfl
    refine ⟨hbk, ?_, World.ownsRow_nil _ _ _ _, ?_, fun i hi => (nomatch hi), by rw [hnl, hlc.1, hlc.2.1]⟩
    · show Cw K wL none none 0 s0.1 0 s0.2
      rw [e, hs0]
      exact hcw.quiet hoL
    · rw [hlc.2.2.2.2.2.2.2]
      rintro ((e | e | e | e) | e)
      · omega
      · exact (nomatch e)
      · have e : w4.heap.size = K.g := e
        omega
      · have e : w4.heap.size = K.lb := e
        omega
      · rw [hs0] at e
        exact (nomatch e)
  obtain ⟨G0, hG0⟩ : ∃ G0, G0 = Kow Q K none (tb none s0.1.out.length 0) (tb none ([] : List UInt8).length 0) := ⟨_, rfl⟩
  have hg0 : ∀ i, G0 i → w.heap.size ≤ i ∧ i ≤ w4.heap.size := by
    intro i hi
    have hsz2 := HSZ.out
    rw [hG0] at hi
    rcases hi with ((e | e | e | e) | e) | e | e
    · omega
    · exact (nomatch e)
    · have e : i = K.g := e
      omega
    · have e : i = K.lb := e
      omega
    · rw [hs0] at e
      exact (nomatch e)
    · rw [hlc.2.2.2.2.2.2.2] at e
      omega
    · exact (nomatch e)
  have hkin : Kin Q b p wL G0 s0 [] wL := ⟨G0, ⟨K, none, none, 0, none, 0, hst, fun i => by rw [hG0]; exact Iff.rfl⟩, Stp.refl _ _⟩
  have hwB : Below w.heap.size w wL := HB4.out.trans (hoL.below HB4.out.size (fun _ h => h.elim))
  obtain ⟨q, o, hA⟩ : ∃ q o, 0 < n → A = some ⟨q, o, none⟩ := by
    by_cases h0 : 0 < n
    · obtain ⟨q, o, e, _⟩ := hS.2 h0
      exact ⟨q, o, fun _ => e⟩
    · exact ⟨0, 0, fun h => absurd h h0⟩
  have hbxc : wL.cell? ⟨w4.heap.size + 1, 0, none⟩ = some (.pointer (some ⟨w4.heap.size, 0, none⟩)) := hbx.cell 0
  have HKEEP := Lib.hid (And.intro hkin (And.intro hg0 (And.intro hwB (And.intro hsz (And.intro hlc (And.intro hbl (And.intro hs0 (And.intro hA hbxc))))))))
  have hstops := chunk_stops (d := 9 - 1) (B1 := w4.heap.size + 2) (B2 := w4.heap.size + 3) (q := q) (o := o) (n := n) (c := c) (p := p) (A := A) (w := wL) (by decide) hp hp2 (by omega) hA hnc hc (by omega) (by omega) (hb1.cell 0) (hb2.cell 0)
  have HX := Lib.hid hwL
  rw [← hwL]
  clear hkin hwB hbx hb1 hb2 hbk hst hG0 hg0 o1 o2 o3 o4 o5 hoL hbxc hnl hcw hn1 hn2 hn3 hQ
  refine wpIn_rangeFunc_ownG (F := Fence.wide) (n := 9) rfl (by decide) (gf := 28) (lb := #[.pointer (some ⟨w4.heap.size + 2, 0, none⟩), .pointer (some ⟨w4.heap.size + 3, 0, none⟩)]) rfl trivial (enters_of Try.func28 (by kernel_rfl) rfl) hstops (fun h k => ⟨k.1.trans h.1, k.2.trans h.2⟩) ?kb (Below.refl _ _) (fun _ => rfl)
    (fun pre W => Kin Q b p wL G0 s0 (pre.map (·.1)) W) (fun _ _ _ => False) ?own (fun _ _ _ _ _ hs _ _ => hs) HKEEP.out.1
    (fun x => { tmps := #[.slice A n c, .agg #[.int .i64 (lc : Int), .int .i64 (lp : Int), .int .i64 (pb : Int), .int .i64 (dict : Int)], .int .i64 (p : Int), undef, .pointer (some ⟨w.heap.size, 0, none⟩), undef, .slice none 0 0, .int .u8 0, .int .i64 0, .int .u8 (r : Int), .int .i64 0, .pointer (some ⟨K.g, 0, none⟩), .int .i64 0, .pointer (some ⟨w4.heap.size + 1, 0, none⟩), .slice (some ⟨q, o + x.1 * p, none⟩) (min p (n - x.1 * p)) (min p (n - x.1 * p)), .agg #[.int .i64 (lc : Int), .int .i64 (lp : Int), .int .i64 (pb : Int), .int .i64 (dict : Int)], .bool true, .bool false, .int .i64 (p : Int), .bool (decide ((p : Int) < 1)), .bool (decide ((p : Int) < 1)), .int .i64 (p : Int), .bool (decide (65536 < (p : Int))), .bool (decide ((p : Int) < 1) || decide (65536 < (p : Int))), .tuple #[.int .u8 (r : Int), .int .i64 0], .pointer (some ⟨w.heap.size, 3, none⟩), .int .i64 (dict : Int), .tuple #[.int .u8 (r : Int), .int .i64 0], .int .u8 (r : Int), .int .i64 0, .tuple #[.pointer (some ⟨K.g, 0, none⟩), .int .i64 0], .agg #[.int .i64 (lc : Int), .int .i64 (lp : Int), .int .i64 (pb : Int), .int .i64 (dict : Int)], .tuple #[.pointer (some ⟨K.g, 0, none⟩), .int .i64 0], .pointer (some ⟨K.g, 0, none⟩), .int .i64 0, .slice A n c, .agg #[.int .i64 (lc : Int), .int .i64 (lp : Int), .int .i64 (pb : Int), .int .i64 (dict : Int)], .pointer (some ⟨K.g, 0, none⟩), .agg #[.slice A n c, .int .i64 0, .int .i64 (lc : Int), .int .i64 (lp : Int), .int .i64 (pb : Int), .int .i64 (dict : Int), .pointer (some ⟨K.g, 0, none⟩), .int .i64 3, .slice none 0 0], .pointer (some ⟨w4.heap.size, 0, none⟩), .slice A n c, .int .i64 (p : Int), .func (.func 28) #[] #[.pointer (some ⟨w4.heap.size + 1 + 1, 0, none⟩), .pointer (some ⟨w4.heap.size + 1 + 1 + 1, 0, none⟩)], .slice (some ⟨q, o + x.1 * p, none⟩) (min p (n - x.1 * p)) (min p (n - x.1 * p)), undef, undef, undef, undef, undef, undef, undef, undef, undef, undef], defers := [] }) ?assign ?body ?done ?stop
  case kb =>
    intro W l o1 o2 hl h hc1 hc2
    have hsz := HKEEP.out.2.2.2.1
    have hO := only_grown (grownBy_putObj' W l o2)
    have hlt := (Array.getElem?_eq_some_iff.1 h).1
    exact ⟨hO.cell (p := ⟨w4.heap.size + 2, 0, none⟩) (by show w4.heap.size + 2 < _; omega) (fun e => by injection e with e; have e : l = w4.heap.size + 2 := e; omega), hO.cell (p := ⟨w4.heap.size + 3, 0, none⟩) (by show w4.heap.size + 3 < _; omega) (fun e => by injection e with e; have e : l = w4.heap.size + 3 := e; omega)⟩
  case own =>
    rintro pre W W' row ⟨G, hk, hs⟩ hg hr
    refine ⟨G, hk.grown hg (fun r e => (hr r e).2), hs.nw, hs.on.trans' (only_grown hg) (fun i hi => .inr (hr i hi).1)⟩
  case assign =>
    intro l x W K hK
    unfold encC
    gi_wp2
    exact hK
  case body =>
    rintro l pre x W ⟨G, hk, hs⟩ hlen
    obtain ⟨hkin, hg0, hwB, hsz, hlc, hbl, hs0, hA, hbxc⟩ := HKEEP.out
    obtain ⟨js, hjs⟩ : ∃ js, js = pre.map (·.1) := ⟨_, rfl⟩
    rw [← hjs] at hk
    have hjl : js.length < manyN n p := by rw [hjs, List.length_map]; exact hlen
    have hmul : manyN n p * p ≤ n + (p - 1) := many_mul
    have hml : manyN n p ≤ n + (p - 1) := many_le hp
    have hck : Ckw b Q.lc Q.lp Q.pb Q.dict p js.length (foldQ b (headB Q.lc Q.lp Q.pb) Q.dict p s0 js) := by
      rw [hs0, hlc.1, hlc.2.1, hlc.2.2.1, hlc.2.2.2.1]
      exact ckw_fold hset (by omega) js
    obtain ⟨a, ha⟩ : ∃ a, a = foldQ b (headB Q.lc Q.lp Q.pb) Q.dict p s0 js := ⟨_, rfl⟩
    rw [← ha] at hk hck
    obtain ⟨x, hx⟩ := x
    have hx2 : x * p < n := (many_lt hp).1 hx
    obtain rfl := hA (by omega)
    have hjm : js.length * p ≤ manyN n p * p := Nat.mul_le_mul_right p (by omega)
    have hout : a.2.out.length ≤ 90000000 := by
      have h1 := hck.out
      have h2 : js.length * (p + 6) = js.length * p + js.length * 6 := Nat.mul_add _ _ _
      omega
    have hat := hck.at_
    obtain ⟨ln, hln⟩ : ∃ ln, ln = min p (n - x * p) := ⟨_, rfl⟩
    have hapG : ∀ i, G i → w.heap.size ≤ i := fun i hi => by
      rcases hs.nw i hi with e | e
      · exact (hg0 i e).1
      · have := hwB.size
        omega
    have hSW : Sl W (some ⟨q, o, none⟩) n (bv b) := hS.below (hwB.trans (hs.on.below hwB.size (fun i hi => (hg0 i hi).1)))
    have hq0 : q < w.heap.size := by
      obtain ⟨b', o', e, hlt, _⟩ := hS.2 (by omega)
      injection e with e
      injection e with e
      omega
    have hap : Apt (some ⟨q, o, none⟩) G := fun q' o' e hg => by
      injection e with e
      injection e with e
      have := hapG _ hg
      omega
    have hap2 : Apt (some ⟨q, o + x * p, none⟩) G := fun q' o' e hg => by
      injection e with e
      injection e with e
      have := hapG _ hg
      omega
    have hsW : w.heap.size ≤ W.heap.size := Nat.le_trans hwB.size hs.on.size
    have hmin : min a.1 b.length = min a.1 Q.n := by rw [hbl, hlc.2.2.2.2.2.1]
    have hcmd := hck.cmd
    rw [hmin] at hcmd
    have KP := kpiece_any (c := ln) (B := some ⟨q, o + x * p, none⟩) (n := ln) (xs := cutB b p x) (b := b) (at_ := a.1) (how := a.2.how) (s := a.2.s) (out := a.2.out) (w := W) (G := G) (Q := Q) (m := 0) hk
      ⟨by rw [hlc.1, hlc.2.1, hlc.2.2.1, hlc.2.2.2.1]; exact hset, by rw [hlc.1, hlc.2.1]; exact h4, by rw [hlc.2.2.2.2.2.1]; exact hbl, by rw [hlc.2.2.2.2.2.1]; exact hn, by rw [hlc.2.2.2.2.2.1, hlc.2.2.2.2.2.2.1]; exact hnc, by rw [hlc.2.2.2.2.2.2.1]; exact hc, by omega, by omega⟩
      ⟨by omega, by omega⟩ (by omega) hck.how hcmd hck.set (by rw [hlc.2.2.2.2.1, hlc.2.2.2.2.2.1]; exact hSW) (by rw [hlc.2.2.2.2.1]; exact hap) hout (by rw [hln]; exact cutB_sl hSW hx2) hap2 (fun q' o' e => by injection e with e; injection e with e; omega)
    rw [hlc.2.2.2.2.2.2.2] at KP
    have KP := Lib.hid KP
    have hbox : ∀ i, w4.heap.size < i → i < wL.heap.size → ¬ G i := fun i h1 h2 hi => by
      rcases hs.nw i hi with e | e
      · have := (hg0 i e).2
        omega
      · omega
    have c13 : W.cell? ⟨w4.heap.size + 1, 0, none⟩ = some (.pointer (some ⟨w4.heap.size, 0, none⟩)) := (hs.on.cell (p := ⟨w4.heap.size + 1, 0, none⟩) (by show w4.heap.size + 1 < _; omega) (fun e => by have := (hg0 _ e).2; have : w4.heap.size + 1 ≤ w4.heap.size := this; omega)).trans hbxc
    have HEND := Lib.hid (show ∀ e w', OwnPost (fun w G => Kwn Q w (a.1 + ln) (pieceN b (headB Q.lc Q.lp Q.pb) Q.dict a.1 (cutB b p x) ⟨a.2.how, a.2.s, a.2.out⟩) 0 G) W G (.tuple #[]) e w' → e = .returned (.tuple #[]) ∧ KeepsFrom wL.heap.size W w' ∧ KpC (w4.heap.size + 2) (w4.heap.size + 3) W w' ∧ Kin Q b p wL G0 s0 ((pre ++ [(⟨x, hx⟩ : { j : Nat // j < manyN n p })]).map (fun y => y.1)) w' from fun e w' hp => by
      obtain ⟨rfl, G', hk', hn', ho'⟩ := hp
      have hlW := hs.on.size
      refine ⟨rfl, hk.keeps ho' _, ⟨ho'.cell (p := ⟨w4.heap.size + 2, 0, none⟩) (by show w4.heap.size + 2 < _; omega) (hbox _ (by show w4.heap.size < w4.heap.size + 2; omega) (by show w4.heap.size + 2 < _; omega)), ho'.cell (p := ⟨w4.heap.size + 3, 0, none⟩) (by show w4.heap.size + 3 < _; omega) (hbox _ (by show w4.heap.size < w4.heap.size + 3; omega) (by show w4.heap.size + 3 < _; omega))⟩, G', ?_, hs.trans ⟨hn', ho'⟩⟩
      rw [List.map_append, ← hjs, List.map_cons, List.map_nil, foldQ_snoc, ← ha]
      have hcl : (cutB b p x).length = ln := by rw [cutB_len, hbl, hln]
      unfold stepQ
      rw [hcl]
      exact hk')
    rw [← hln]
    clear hk hs hkin hg0 hwB hsz hlc hbl hs0 hA hbxc hjl hmul hml hck hx2 hjm hout hat hapG hSW hq0 hap hap2 hsW hmin hcmd hbox ha hjs hln hS hnc hc hn
    gi_wp2_with (first
      | (refine ⟨trivial, ?_⟩; gi_at_call 18; refine (CallsIn.inRound l (callsIn_wide.2 KP.out)).mono ?_; rintro e w' hp; obtain ⟨rfl, hz⟩ := HEND.out _ _ hp; have HZ := Lib.hid hz; clear hz hp)
      | fail)
    exact HZ.out
  case done =>
    rintro D ys W hD rfl ⟨G, hk, hs⟩ hK
    obtain ⟨hkin, hg0, hwB, hsz, hlc, hbl, hs0, hA, hbxc⟩ := HKEEP.out
    obtain ⟨i, hi, hz0, hz1, hz2⟩ := info_parts info_u8
    rw [ofN_val (Nat.le_refl _)] at hk
    have hml : manyN n p ≤ n + (p - 1) := many_le hp
    have hmul : manyN n p * p ≤ n + (p - 1) := many_mul
    have hck : Ckw b Q.lc Q.lp Q.pb Q.dict p (List.range (manyN n p)).length (foldQ b (headB Q.lc Q.lp Q.pb) Q.dict p s0 (List.range (manyN n p))) := by
      rw [hs0, hlc.1, hlc.2.1, hlc.2.2.1, hlc.2.2.2.1]
      exact ckw_fold hset (by omega) _
    have hpk : packN b lc lp pb dict p = (foldQ b (headB Q.lc Q.lp Q.pb) Q.dict p s0 (List.range (manyN n p))).2.out ++ [0] := by
      rw [hs0, hlc.1, hlc.2.1, hlc.2.2.1, hlc.2.2.2.1, ← hbl]
      rfl
    obtain ⟨a, ha⟩ : ∃ a, a = foldQ b (headB Q.lc Q.lp Q.pb) Q.dict p s0 (List.range (manyN n p)) := ⟨_, rfl⟩
    rw [← ha] at hk hck hpk
    obtain ⟨out, hou⟩ : ∃ out, out = a.2.out := ⟨_, rfl⟩
    have hout : out.length ≤ 90000000 := by
      have h1 := hck.out
      rw [List.length_range] at h1
      have h2 : manyN n p * (p + 6) = manyN n p * p + manyN n p * 6 := Nat.mul_add _ _ _
      rw [hou]
      omega
    have hWB : Below w.heap.size w W := hwB.trans (hs.on.below hwB.size (fun i hi => (hg0 i hi).1))
    obtain ⟨K', Ge, A1, c1, Ao, co, hkk, hG⟩ := hk
    have hown : W.ownsRow 0 5 1 (.slice Ao out.length co) out.length (bv out) := by rw [hou]; exact hkk.own
    have c8 : W.cell? ⟨w4.heap.size, 8, none⟩ = some (.slice Ao out.length co) := by
      have := hkk.blk.cell 8
      rw [hlc.2.2.2.2.2.2.2] at this
      rw [hou]
      exact this
    have c13 : W.cell? ⟨w4.heap.size + 1, 0, none⟩ = some (.pointer (some ⟨w4.heap.size, 0, none⟩)) := (hs.on.cell (p := ⟨w4.heap.size + 1, 0, none⟩) (by show w4.heap.size + 1 < _; omega) (fun e => by have := (hg0 _ e).2; have : w4.heap.size + 1 ≤ w4.heap.size := this; omega)).trans hbxc
    have hDne : (Value.slice Ao out.length co).ownBlock ≠ some D := fun e => by
      obtain ⟨o, ho, ht⟩ := own_isCells hown e
      rw [hK] at ho
      injection ho with ho
      subst ho
      exact (nomatch ht)
    have hOB : ∀ i, (Value.slice Ao out.length co).ownBlock = some i → w.heap.size ≤ i := fun i hi => by
      have hg : G i := (hG i).2 (.inr (.inr (by rw [← hou]; exact hi)))
      rcases hs.nw i hg with e | e
      · exact (hg0 i e).1
      · have := hwB.size
        omega
    have HFI := Lib.hid (And.intro hown (And.intro hDne (And.intro hOB (And.intro hWB (And.intro hout (And.intro hK hpk))))))
    have HOU := Lib.hid hou
    have HDW := Lib.hid (show w.heap.size ≤ D by have := hwB.size; omega)
    clear hs hkin hg0 hwB hsz hlc hbl hs0 hA hbxc hml hmul hck hpk ha hou hout hWB hkk hG hown hDne hOB hS hnc hc hn hD
    gi_wp2_with (first
      | (gi_at_builtin; refine wpListIn_append_own_at _ rfl (.tmp 50) (.tmp 51) 22 rfl 0 5 i _ 1 1 Try.underlying22 hi hz0 hz1 hz2 rfl (by decide) _ out.length (bv out) rfl (HFI.out.1.alloc _) ⟨W.heap.size, 0, none⟩ 1 1 [.int .u8 0] rfl rfl (fun j u hj => (sl_one W 5 (.int .u8 0)).news j u hj) (one_one _ _) (by have := HFI.out.2.2.2.2.1; unfold maxLen; omega) (by have := HFI.out.2.2.2.2.1; omega) (Nat.zero_le _) ?_; intro v' w9 hown' hgrow hnil hq'; obtain ⟨A9, c9, rfl, ho9⟩ := own_form hown'; have H9 := Lib.hid (And.intro ho9 hgrow); clear hown' hgrow hnil hq' ho9)
      | fail)
    obtain ⟨ho9, hgrow⟩ := H9.out
    obtain ⟨hown, hDne, hOB, hWB, hout, hKD, hpk⟩ := HFI.out
    have hDlt := (Array.getElem?_eq_some_iff.1 hKD).1
    have hK9 : w9.heap[D]? = some (.deferred (some [])) := (hgrow.block D (by simp; omega) (fun e => hDne e.symm)).trans ((Below.heap_alloc W _ D hDlt).trans hKD)
    have hB9 : Below w.heap.size w w9 := (hWB.alloc hWB.size _).grown hgrow (by have := hWB.size; simp; omega) hOB
    refine ⟨by simp, .inl ⟨_, _, rfl, run_takeDeferred hK9, ?_⟩⟩
    refine ⟨_, results_tmp3 rfl _ _ _, ?_⟩
    have hor := ownsRow_putObj ho9 (.deferred none) hK9 rfl
    have hfin : bv out ++ [Value.int .u8 0] = bv (out ++ [0]) := by rw [bv_append]; rfl
    have hpk2 : packN b lc lp pb dict p = out ++ [0] := by rw [hpk, HOU.out]
    have hlen : (packN b lc lp pb dict p).length = out.length + 1 := by rw [hpk2, List.length_append]; rfl
    rw [hfin, ← hpk2] at hor
    obtain ⟨_, hle, hcm, _⟩ := own_facts hor
    refine ⟨A9, c9, r, ?_, ?_, ?_, hcm, HPR.out, hB9.trans ((only_grown (grownBy_putObj' w9 D (.deferred none))).below (by have := hB9.size; exact this) (fun i e => by injection e with e; have := HDW.out; omega))⟩
    · rw [hlen]
      rfl
    · rw [hlen]
      exact Sl.of_own hor
    · rw [hlen]
      exact hle
  case stop =>
    rintro D c pre W hD _ h _
    exact h.elim
end
end Go.Proofs.Ytjganponepafpaa
