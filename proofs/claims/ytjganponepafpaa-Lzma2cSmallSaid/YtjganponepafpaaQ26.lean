/-
  LwPrpN, SrcPt, LwPrp, CkPut, CkPiece, CkOwn: put together.
-/
import Derived.Test.YtjganponepafpaaQ01
import Derived.Test.YtjganponepafpaaQ06
import Derived.Deep.QuietTactic
import Derived.BigQuiet
import Derived.IntWalk
import Derived.Lib.Walk
import Derived.Test.YtjganponepafpaaQ18
import Derived.Deep.RegionHeld3
import Derived.Test.YtjganponepafpaaQ20
import Derived.Deep.RegionLaw
import Derived.Deep.AppendLies
import Derived.Test.YtjganponepafpaaQ25
import Derived.RangeFuncWrites
set_option linter.unusedVariables false
set_option linter.unusedSimpArgs false
/-
  A setting's properties, as bytes.
-/
namespace Go.Proofs.Ytjganponepafpaa
open Go.RowKit

/-- a setting's properties -/
def propsOf (lc lp pb dict : Nat) : List UInt8 := [UInt8.ofNat (45 * pb + 9 * lp + lc), UInt8.ofNat (dict % 256), UInt8.ofNat (dict / 256 % 256), UInt8.ofNat (dict / 65536 % 256), UInt8.ofNat (dict / 16777216)]
def PropsIs (w : World) (ys : List UInt8) (x : Ending) (w' : World) : Prop :=
  ∃ A c, x = .returned (.slice A ys.length c) ∧ Sl w' A ys.length (bv ys) ∧ Below w.heap.size w w'

end Go.Proofs.Ytjganponepafpaa

/-
  Numbers that are put (cut out of SrcCur).
-/
namespace Go.Proofs.Ytjganponepafpaa
open Go.RowKit

set_option maxHeartbeats 400000 in
theorem isSize_any (n : Int) (w : World) :
    Calls Try.prog 79 #[.int .i64 n] w fun e w' => e = .returned (.bool (decide (n = 1 ∨ n = 2 ∨ n = 4 ∨ n = 8))) ∧ w = w' := by
  go_enter Try.func79, Try.ntmps79
  go_wp2
  all_goals
    go_ret
    exact ⟨ret_bool (by first | (simp [*]; done) | (rw [Bool.eq_iff_iff]; simp [*])), rfl⟩

set_option maxHeartbeats 400000 in
theorem withRoom_any {A : Option Addr} {n c m : Nat} {x : Int} {bs : List UInt8} {w : World} (hS : Sl w A n (bv bs)) (hm : n ≤ 1000000000) (hx : x = (m : Int)) (hr : m ≤ 1000000000) :
    Calls Try.prog 78 #[.slice A n c, .int .i64 x] w fun e w' =>
      ∃ A' c', e = .returned (.slice A' n c') ∧ w'.ownsRow w.heap.size 5 1 (.slice A' n c') n (bv bs) ∧ Below w.heap.size w w' := by
  subst hx
  obtain ⟨i, hi, hz0, hz1, hz2⟩ := info_parts info_u8
  go_enter Try.func78, Try.ntmps78
  go_wp2_with (at_make; refine wpList_make_own _ rfl _ _ 22 rfl w.heap.size 5 i _ 1 Try.underlying22 hi hz0 hz1 _ _ _ (n + m) rfl rfl (Int.natCast_add n m).symm ?b1 ?b2 ?b3 ?_)
  case b1 => rw [hz2]; omega
  case b2 => unfold maxLen; omega
  case b3 => omega
  intro w1 ho hg
  have HO := Lib.hid ho
  have HG := Lib.hid hg
  have HS1 := Lib.hid (hS.below (only_none hg))
  clear ho hg hS
  go_wp2_with (at_builtin; refine wpList_app _ rfl (.tmp 9) (.tmp 10) 22 rfl w.heap.size 5 i _ 1 Try.underlying22 hi hz0 hz1 hz2 rfl _ 0 [] rfl HO.out A n c (bv bs) rfl HS1.out (bv_one bs) (by omega) (by omega) HG.out.size ?_)
  intro A' c' w2 ho hg
  have HO2 := Lib.hid ho
  have HG2 := Lib.hid hg
  clear ho hg
  go_wp2
  go_ret
  have ho := HO2.out
  simp only [Nat.zero_add, List.nil_append] at ho ⊢
  exact ⟨A', c', rfl, ho, (only_none HG.out).trans (below_of_only HG2.out (Nat.le_refl _) HG.out.size)⟩

set_option maxHeartbeats 400000 in
theorem putLeast_any {A : Option Addr} {n c base size v : Nat} {x : Int} {bs : List UInt8} {w : World} (hO : w.ownsRow base 5 1 (.slice A n c) n (bv bs)) (hb : base ≤ w.heap.size) (hm : n ≤ 1000000000) (hx : x = (size : Int)) (hs : size ≤ 8) (hv : v < 18446744073709551616) :
    Calls Try.prog 80 #[.slice A n c, .int .i64 x, .int .u64 (v : Int)] w fun e w' =>
      ∃ A' c', e = .returned (.slice A' (n + size) c') ∧ w'.ownsRow base 5 1 (.slice A' (n + size) c') (n + size) (bv (bs ++ leBytes size v)) ∧ Below base w w' := by
  subst hx
  obtain ⟨i, hi, hz0, hz1, hz2⟩ := info_parts info_u8
  have HO := Lib.hid hO
  clear hO
  go_enter Try.func80, Try.ntmps80
  go_wp2
  go_loopw [0, 9] (fun s i wr => ∃ (k : Nat) (A' : Option Addr) (c' : Nat), k ≤ size ∧ i = .int .i64 k ∧ s = .slice A' (n + k) c' ∧ wr.ownsRow base 5 1 (.slice A' (n + k) c') (n + k) (bv (bs ++ leBytes k v)) ∧ Below base w wr) (fun _ i _ => size - (intOf i).toNat)
  case atStart => exact ⟨0, A, c, Nat.zero_le _, rfl, rfl, by simpa [leBytes] using HO.out, Below.refl _ _⟩
  case round =>
    obtain ⟨k, A', c', hk, rfl, rfl, ho, hbw⟩ := hrel
    have HO1 := Lib.hid ho
    have HB := Lib.hid hbw
    have hsz : base ≤ wr.heap.size := Nat.le_trans hb hbw.size
    clear ho hbw HO
    by_cases hlt : k < size
    · have hi8 : (8 * (k : Int)) ≤ 64 := by omega
      go_wp2_with (at_builtin; refine wpList_app _ rfl (.tmp 12) (.tmp 18) 22 rfl base 5 i _ 1 Try.underlying22 hi hz0 hz1 hz2 rfl _ (n + k) _ rfl (HO1.out.alloc _) _ 1 1 _ rfl (sl_one _ _ _) (one_one _ _) (by omega) (by omega) (by simp; omega) ?_)
      intro A2 c2 w2 ho hg
      have hb2 : Below base w w2 := (HB.out.alloc hsz _).grown hg (by simp; omega) (fun k e => (HO1.out.lt k e).1)
      have HO2 := Lib.hid ho
      have HB2 := Lib.hid hb2
      clear ho hg hb2
      go_wp2
      go_roundw
      case rel =>
        refine ⟨k + 1, A2, c2, by omega, by go_num, rfl, ?_, HB2.out⟩
        have ho := HO2.out
        rw [put_byte] at ho
        rw [leBytes_succ, ← List.append_assoc, bv_append]
        exact ho
      case measure => simp [intOf]; omega
    · obtain rfl : k = size := by omega
      go_wp2
      go_ret
      exact ⟨A', c', rfl, HO1.out, HB.out⟩
/-- a number of a size as bytes -/
def putM (size : Int) (v : Nat) : List UInt8 := if size = 1 ∨ size = 2 ∨ size = 4 ∨ size = 8 then leBytes size.toNat v else []

set_option maxHeartbeats 1000000 in
theorem put_any {A : Option Addr} {n c v : Nat} {x : Int} {bs : List UInt8} {w : World} (hS : Sl w A n (bv bs)) (hm : n ≤ 100000000) (hv : v < 18446744073709551616) :
    Calls Try.prog 58 #[.slice A n c, .int .i64 x, .int .u64 (v : Int)] w fun e w' =>
      ∃ A' c', e = .returned (.slice A' (n + (putM x v).length) c') ∧ w'.ownsRow w.heap.size 5 1 (.slice A' (n + (putM x v).length) c') (n + (putM x v).length) (bv (bs ++ putM x v)) ∧ Below w.heap.size w w' := by
  have HS := Lib.hid hS
  clear hS
  have hz := fun w => isSize_any x w
  by_cases hs : x = 1 ∨ x = 2 ∨ x = 4 ∨ x = 8
  · obtain ⟨size, rfl⟩ := Int.eq_ofNat_of_zero_le (show 0 ≤ x by omega)
    rw [decide_eq_true hs] at hz
    have hp : putM (size : Int) v = leBytes size v := by simp [putM, hs]
    rw [hp, leBytes_length]
    have h8 : size ≤ 8 := by omega
    have HZ := Lib.hid hz
    clear hz hs hp
    go_enter Try.func58, Try.ntmps58
    go_wp2_with fail
    refine (withRoom_any (m := 8) HS.out (by omega) rfl (by omega)).mono ?_
    rintro e w1 ⟨A1, c1, rfl, ho, hb⟩
    have HO := Lib.hid ho
    have HB := Lib.hid hb
    clear ho hb
    go_wp2_with fail
    refine (HZ.out _).mono ?_
    rintro e w2 ⟨rfl, rfl⟩
    go_wp2_with fail
    refine (putLeast_any (size := size) HO.out HB.out.size (by omega) rfl h8 hv).mono ?_
    rintro e w2 ⟨A2, c2, rfl, ho, hb⟩
    have HO2 := Lib.hid ho
    have HB2 := Lib.hid (HB.out.trans hb)
    clear ho hb
    go_wp2
    go_ret
    exact ⟨A2, c2, rfl, HO2.out, HB2.out⟩
  · rw [decide_eq_false hs] at hz
    have hp : putM x v = [] := by simp [putM, hs]
    rw [hp]
    have HZ := Lib.hid hz
    clear hz hs hp
    go_enter Try.func58, Try.ntmps58
    go_wp2_with fail
    refine (withRoom_any (m := 8) HS.out (by omega) rfl (by omega)).mono ?_
    rintro e w1 ⟨A1, c1, rfl, ho, hb⟩
    have HO := Lib.hid ho
    have HB := Lib.hid hb
    clear ho hb
    go_wp2_with fail
    refine (HZ.out _).mono ?_
    rintro e w2 ⟨rfl, rfl⟩
    go_wp2
    go_ret
    exact ⟨A1, c1, rfl, by simpa using HO.out, HB.out⟩
end Go.Proofs.Ytjganponepafpaa

/-
  The program's settings: properties put.
-/
namespace Go.Proofs.Ytjganponepafpaa
open Go.RowKit

theorem below_gg {w0 w1 w2 : World} {B : Nat} (h : Below B w0 w1) (hb : Below w1.heap.size w1 w2) (hB : B ≤ w0.heap.size) : Below B w0 w2 :=
  h.trans ⟨hb.os, hb.tape, hb.output, hb.size, fun i hi => hb.block i (by have := h.size; omega)⟩
section
variable {w : World} {lc lp pb dict : Nat}
theorem put_props {first dict : Nat} (hf : first < 256) (hd : dict < 4294967296) : [] ++ putM ((1 : Nat) : Int) first ++ putM ((4 : Nat) : Int) dict = [UInt8.ofNat first, UInt8.ofNat (dict % 256), UInt8.ofNat (dict / 256 % 256), UInt8.ofNat (dict / 65536 % 256), UInt8.ofNat (dict / 16777216)] := by
  have e1 : putM ((1 : Nat) : Int) first = leBytes 1 first := by simp [putM]
  have e4 : putM ((4 : Nat) : Int) dict = leBytes 4 dict := by simp [putM]
  rw [e1, e4]
  simp only [leBytes, List.range_succ, List.range_zero, List.nil_append, List.map_cons, List.map_nil, List.cons_append, Nat.pow_zero, Nat.div_one, Nat.reducePow]
  rw [Nat.mod_eq_of_lt hf, Nat.mod_eq_of_lt (show dict / 16777216 < 256 by omega)]

set_option maxRecDepth 100000 in
set_option maxHeartbeats 4000000 in
theorem pprops_any (h : SetOk lc lp pb dict) (w : World) : Calls Try.prog 44 #[.agg #[.int .i64 (lc : Int), .int .i64 (lp : Int), .int .i64 (pb : Int), .int .i64 (dict : Int)]] w (PropsIs w (propsOf lc lp pb dict)) := by
  obtain ⟨w1, hw1⟩ : ∃ w1, w1 = w.alloc (.cells #[.int .i64 (lc : Int), .int .i64 (lp : Int), .int .i64 (pb : Int), .int .i64 (dict : Int)] 39) := ⟨_, rfl⟩
  have hb1 : Below w.heap.size w w1 := by rw [hw1]; exact (Below.refl _ _).alloc (Nat.le_refl _) _
  have HBk : Blk w1 w.heap.size 39 #[.int .i64 (lc : Int), .int .i64 (lp : Int), .int .i64 (pb : Int), .int .i64 (dict : Int)] := by rw [hw1]; exact Blk.fresh w _ _
  have KM := pmay_any (lc : Int) (lp : Int) (pb : Int) (dict : Int) w1
  rw [setOk_may h] at KM
  have KM := Lib.hid KM
  obtain ⟨h1, h2, h3, h4, h5⟩ := h
  obtain ⟨first, hfirst⟩ : ∃ f, f = 45 * pb + 9 * lp + lc := ⟨_, rfl⟩
  have hpo : propsOf lc lp pb dict = [] ++ putM ((1 : Nat) : Int) first ++ putM ((4 : Nat) : Int) dict := by
    rw [put_props (by omega) h5, hfirst]
    rfl
  rw [hpo]
  have e1 : IntKind.i64.wrap ((pb : Int) * 5) = (pb : Int) * 5 := IntWalk.i64_in _ (by omega)
  have e2 : IntKind.i64.wrap ((pb : Int) * 5 + (lp : Int)) = (pb : Int) * 5 + (lp : Int) := IntWalk.i64_in _ (by omega)
  have e3 : IntKind.i64.wrap (((pb : Int) * 5 + (lp : Int)) * 9) = ((pb : Int) * 5 + (lp : Int)) * 9 := IntWalk.i64_in _ (by omega)
  have e4 : IntKind.i64.wrap (((pb : Int) * 5 + (lp : Int)) * 9 + (lc : Int)) = (first : Int) := by rw [show ((pb : Int) * 5 + (lp : Int)) * 9 + (lc : Int) = (first : Int) by omega]; exact IntWalk.i64_in _ (by omega)
  have e5 : IntKind.u64.wrap (first : Int) = (first : Int) := u64_in _ (by omega)
  have e6 : IntKind.u64.wrap (dict : Int) = (dict : Int) := u64_in _ (by omega)
  have hf1 : first < 18446744073709551616 := by omega
  have hd1 : dict < 18446744073709551616 := by omega
  have HNUM := Lib.hid (And.intro hf1 hd1)
  obtain ⟨y1, hy1⟩ : ∃ y, y = [] ++ putM ((1 : Nat) : Int) first := ⟨_, rfl⟩
  obtain ⟨y2, hy2⟩ : ∃ y, y = y1 ++ putM ((4 : Nat) : Int) dict := ⟨_, rfl⟩
  rw [← hy1, ← hy2]
  obtain ⟨n1, hn1⟩ : ∃ n, n = y1.length := ⟨_, rfl⟩
  obtain ⟨n2, hn2⟩ : ∃ n, n = y2.length := ⟨_, rfl⟩
  have hl1 : n1 = 1 := by rw [hn1, hy1]; simp [putM, leBytes]
  have KP : ∀ W : World, Calls Try.prog 58 #[.slice none 0 0, .int .i64 1, .int .u64 (first : Int)] W fun e w' => ∃ A' c', e = .returned (.slice A' n1 c') ∧ Sl w' A' n1 (bv y1) ∧ Below W.heap.size W w' := by
    intro W
    refine (put_any (w := W) (A := none) (n := 0) (c := 0) (v := first) (x := ((1 : Nat) : Int)) (bs := []) Sl.nil (by omega) HNUM.out.1).mono ?_
    rintro e w' ⟨A', c', rfl, ho, hb⟩
    have e1 : 0 + (putM ((1 : Nat) : Int) first).length = n1 := by rw [hn1, hy1]; simp
    rw [e1, ← hy1] at ho
    rw [e1]
    exact ⟨A', c', rfl, Sl.of_own ho, hb⟩
  have KQ : ∀ (W : World) (A : Option Addr) (c : Nat), Sl W A n1 (bv y1) → Calls Try.prog 58 #[.slice A n1 c, .int .i64 4, .int .u64 (dict : Int)] W fun e w' => ∃ A' c', e = .returned (.slice A' n2 c') ∧ Sl w' A' n2 (bv y2) ∧ Below W.heap.size W w' := by
    intro W A c hS
    refine (put_any (w := W) (A := A) (n := n1) (c := c) (v := dict) (x := ((4 : Nat) : Int)) (bs := y1) hS (by omega) HNUM.out.2).mono ?_
    rintro e w' ⟨A', c', rfl, ho, hb⟩
    have e1 : n1 + (putM ((4 : Nat) : Int) dict).length = n2 := by rw [hn2, hy2, List.length_append, hn1]
    rw [e1, ← hy2] at ho
    rw [e1]
    exact ⟨A', c', rfl, Sl.of_own ho, hb⟩
  have KP := Lib.hid KP
  have KQ := Lib.hid KQ
  have HN2 := Lib.hid hn2
  clear hy1 hy2 hn1 hn2 hl1
  have c0 : w1.cell? ⟨w.heap.size, 0, none⟩ = some (.int .i64 (lc : Int)) := HBk.cell 0
  have c1 : w1.cell? ⟨w.heap.size, 1, none⟩ = some (.int .i64 (lp : Int)) := HBk.cell 1
  have c2 : w1.cell? ⟨w.heap.size, 2, none⟩ = some (.int .i64 (pb : Int)) := HBk.cell 2
  have c3 : w1.cell? ⟨w.heap.size, 3, none⟩ = some (.int .i64 (dict : Int)) := HBk.cell 3
  have HW1 := Lib.hid hw1
  have HB1 := Lib.hid hb1
  have HBK := Lib.hid HBk
  clear hw1 hb1 HBk h1 h2 h3 h4 h5 hf1 hd1 hpo hfirst
  go_enter Try.func44, Try.ntmps44
  go_upto_region 1 with fail
  rw [← HW1.out]
  clear HW1
  generalize hB : w.heap.size = B at *
  go_wp2_with fail
  refine KM.out.mono ?_
  rintro e w2 ⟨rfl, hb2⟩
  have HB2 := Lib.hid (below_gg HB1.out hb2 (Nat.le_of_eq hB.symm))
  have hk2 := HBK.out.below hb2
  have HK2 := Lib.hid hk2
  have d0 : w2.cell? ⟨B, 0, none⟩ = some (.int .i64 (lc : Int)) := hk2.cell 0
  have d1 : w2.cell? ⟨B, 1, none⟩ = some (.int .i64 (lp : Int)) := hk2.cell 1
  have d2 : w2.cell? ⟨B, 2, none⟩ = some (.int .i64 (pb : Int)) := hk2.cell 2
  have d3 : w2.cell? ⟨B, 3, none⟩ = some (.int .i64 (dict : Int)) := hk2.cell 3
  clear hb2 hk2 KM c0 c1 c2 c3 HB1 HBK
  have HS := Lib.hid (fun (W : World) (hW : Only (fun _ => False) w2 W) => (show W.cell? ⟨B, 3, none⟩ = some (.int .i64 (dict : Int)) from (HK2.out.only hW (fun h => h)).cell 3))
  go_wp2_with fail
  go_region_held3 (fun w' => w'.cell? ⟨B, 3, none⟩ = some (.int .i64 (dict : Int)))
    (first | assumption | go_keep | exact HS.out _ HO3.out | exact HS.out _ HO4.out)
    (first
      | (go_at_call 58; ((with_reducible refine (KP.out _).mono ?_); rintro e w3 ⟨A3, c3, rfl, hS3, hb3⟩; have HO3 := Lib.hid (show Only (fun _ => False) w2 w3 from ((Only.refl (fun _ => False) w2).drew).trans (Only.of_below hb3)); have HS3 := Lib.hid hS3; clear hb3 hS3))
      | (go_at_call 58; ((with_reducible refine (KQ.out _ _ _ HS3.out).mono ?_); rintro e w4 ⟨A4, c4, rfl, hS4, hb4⟩; have HO4 := Lib.hid (show Only (fun _ => False) w2 w4 from HO3.out.trans (Only.of_below hb4)); have HS4 := Lib.hid hS4; clear hb4 hS4)))
  go_wp2_with fail
  go_ret
  refine ⟨A4, c4, by rw [← HN2.out]; rfl, by rw [← HN2.out]; exact HS4.out, ?_⟩
  rw [hB]
  exact HB2.out.trans ⟨HO4.out.os, HO4.out.tape, HO4.out.output, HO4.out.size, fun i hi => HO4.out.block i (by have := HB2.out.size; omega) (fun h => h)⟩

end
end Go.Proofs.Ytjganponepafpaa

/-
  The coder of LZMA2: a packed chunk.
-/
namespace Go.Proofs.Ytjganponepafpaa
open Go.RowKit

theorem how_byte {how : Nat} (h : how ≤ 3) : IntKind.u8.wrap (128 + (how : Int) * 32) = ((UInt8.ofNat (128 + 32 * how)).toNat : Int) := by
  have : IntKind.u8.wrap (128 + (how : Int) * 32) = (128 + (how : Int) * 32) % 256 := by simp [IntKind.wrap, IntKind.signed, IntKind.bits]
  rw [this, UInt8.toNat_ofNat']
  omega
section
variable {Q : Kq} {w : World} {F m how : Nat} {s : Lzs × Pm En} {out : List UInt8} {k : Ckn} {G : Nat → Prop}
/-- what a drawn region needs to put one byte -/
theorem Kst.one {K : Koc} {Ge : Option Nat} {A : Option Addr} {c : Nat} {Ao : Option Addr} {co : Nat} {w1 w3 : World} {q c2 : Nat} {x : UInt8} (h : Kst Q K w Ge A c F k m Ao co)
    (hG : ∀ i, G i ↔ Kow Q K Ge (tb A k.s.1.out.length c) (tb Ao k.out.length co) i) (h1 : Only (fun _ => False) w w1)
    (ho : w3.ownsRow 0 5 1 (.slice (some ⟨q, 0, none⟩) (k.out.length + 1) c2) (k.out.length + 1) (bv k.out ++ [.int .u8 (x.toNat : Int)])) (hg : w1.grownBy w3 (Value.slice Ao k.out.length co).ownBlock)
    (hq : (Value.slice Ao k.out.length co).ownBlock = some q ∨ q = w1.heap.size) :
    (w3.cell? ⟨Q.kg, 8, none⟩ = some (.slice Ao k.out.length co) ∧ w3.frozen? ⟨Q.kg, 8, none⟩ = false) ∧
    OwnPost (fun w G => Kwn Q w F ⟨k.how, k.s, k.out ++ [x]⟩ m G) w G (.tuple #[]) (.returned (.tuple #[])) (w3.setCell ⟨Q.kg, 8, none⟩ (.slice (some ⟨q, 0, none⟩) (k.out.length + 1) c2)) :=
  h.puts hG (xs := [x]) rfl h1 ho hg (hq.imp (fun h => h.symm) (fun h => congrArg some h))

theorem pprops5 {lc lp pb dict : Nat} (h : SetOk lc lp pb dict) (w : World) : Calls Try.prog 44 #[.agg #[.int .i64 (lc : Int), .int .i64 (lp : Int), .int .i64 (pb : Int), .int .i64 (dict : Int)]] w fun e w' =>
    ∃ b o c, e = .returned (.slice (some ⟨b, o, none⟩) 5 c) ∧ w'.cell? ⟨b, o, none⟩ = some (.int .u8 ((UInt8.ofNat (45 * pb + 9 * lp + lc)).toNat : Int)) ∧ Below w.heap.size w w' := by
  refine (pprops_any h w).mono ?_
  rintro e w1 ⟨A, c, rfl, hS, hb⟩
  obtain ⟨b, o, rfl, hlt, hc⟩ := hS.2 (show 0 < (propsOf lc lp pb dict).length from Nat.succ_pos 4)
  exact ⟨b, o, c, rfl, hc 0 (show 0 < (propsOf lc lp pb dict).length from Nat.succ_pos 4), hb⟩
set_option maxRecDepth 100000 in
set_option maxHeartbeats 16000000 in
theorem kpacked_any {B : Option Addr} {n l c : Nat} {st : List UInt8} {p0 : UInt8} (hp0 : p0 = UInt8.ofNat (45 * Q.pb + 9 * Q.lp + Q.lc)) (h : Kwn Q w F ⟨how, s, out⟩ m G) (hh : how ≤ 3) (hq : SetOk Q.lc Q.lp Q.pb Q.dict) (hS : Sl w B l (bv st)) (ha : Apt B G) (hn : 1 ≤ n) (hn2 : n ≤ 65536) (hl : 1 ≤ l) (hl2 : l ≤ 65536) (ho : out.length ≤ 90000000) :
    Calls Try.prog 30 #[.pointer (some ⟨Q.kg, 0, none⟩), .int .i64 (n : Int), .slice B l c] w (OwnPost (fun w G => Kwn Q w F ⟨0, s, out ++ packedB how p0 n st⟩ m G) w G (.tuple #[])) := by
  obtain ⟨i, hi, hz0, hz1, hz2⟩ := info_parts info_u8
  have hxl : st.length = l := by rw [← bv_length]; exact hS.1
  have HS := Lib.hid (And.intro hS ha)
  have HN := Lib.hid (And.intro hn (And.intro hn2 (And.intro hl (And.intro hl2 (And.intro ho hxl)))))
  have HQ := Lib.hid hq
  have HP0 := Lib.hid hp0
  clear hp0
  have hc7 := (h.hows 0).1
  have c7 : w.cell? ⟨Q.kg, 7, none⟩ = some (.int .i64 (how : Int)) := hc7
  obtain ⟨K, Ge, A, cc, Ao, co, hs, hG⟩ := h
  have c8 : w.cell? ⟨Q.kg, 8, none⟩ = some (.slice Ao out.length co) := hs.blk.cell 8
  have HT := Lib.hid (And.intro hs hG)
  have e1 : IntKind.i64.wrap ((how : Int) * 32) = (how : Int) * 32 := IntWalk.i64_in _ (by omega)
  have e2 : IntKind.i64.wrap (128 + (how : Int) * 32) = 128 + (how : Int) * 32 := IntWalk.i64_in _ (by omega)
  obtain ⟨x, hx⟩ : ∃ x, x = UInt8.ofNat (128 + 32 * how) := ⟨_, rfl⟩
  have e3 : IntKind.u8.wrap (128 + (how : Int) * 32) = (x.toNat : Int) := by rw [hx]; exact how_byte hh
  have HX := Lib.hid hx
  have HH := Lib.hid hh
  have HOW := Lib.hid (fun (W : World) (hW : Only (fun _ => False) w W) => (hs.only hW (fun _ _ h => h)).own)
  have HNW := Lib.hid (fun (u : Value) => (sl_one w 5 u).news)
  have c8a : ∀ (o : Obj), (w.alloc o).cell? ⟨Q.kg, 8, none⟩ = some (.slice Ao out.length co) := fun o => (hs.only ((Only.refl (fun _ => False) w).alloc o) (fun _ _ h => h)).blk.cell 8
  have c7a : ∀ (o : Obj), (w.alloc o).cell? ⟨Q.kg, 7, none⟩ = some (.int .i64 (how : Int)) := fun o => (hs.only ((Only.refl (fun _ => False) w).alloc o) (fun _ _ h => h)).blk.cell 7
  have HPU := Lib.hid (fun (w1 w3 : World) (q c2 : Nat) (h1 : Only (fun _ => False) w w1) => Kst.one (w1 := w1) (w3 := w3) (q := q) (c2 := c2) (x := x) hs hG h1)
  have HOL := Lib.hid (show out.length ≤ 90000000 from ho)
  clear hS ha hn hn2 hl hl2 ho hxl hq hs hG hh hc7 hx
  go_enter Try.func30, Try.ntmps30
  go_wp2_with fail
  go_region_law (first
    | (refine step_append_lies _ rfl (.tmp 10) (.tmp 18) 22 rfl 0 5 i _ 1 1 Try.underlying22 hi hz0 hz1 hz2 rfl (by omega) _ out.length (bv out) rfl (HOW.out _ (((Only.refl (fun _ => False) w).alloc _).drew)) _ 1 1 [.int .u8 (x.toNat : Int)] rfl rfl (fun j u hj => HNW.out _ j u hj) (one_one _ _) (by omega) (by have := HOL.out; unfold maxLen; omega) (by have := HOL.out; omega) (Nat.zero_le _) _ rfl ?_; intro q' c' w3 hod hgd hqd hql3; obtain ⟨⟨d8, f8⟩, hp⟩ := HPU.out _ w3 q' c' (((Only.refl (fun _ => False) w).alloc _).drew) hod hgd hqd; have HP := Lib.hid hp; clear hod hgd hqd hp))
  all_goals
    have HWG := Lib.hid (show ∃ G1, Kwn Q (w3.setCell ⟨Q.kg, 8, none⟩ (.slice (some ⟨q', 0, none⟩) (out.length + 1) c')) F ⟨how, s, out ++ [x]⟩ m G1 ∧ Stp w G (w3.setCell ⟨Q.kg, 8, none⟩ (.slice (some ⟨q', 0, none⟩) (out.length + 1) c')) G1 from by obtain ⟨_, G1, k1, n1, o1⟩ := HP.out; exact ⟨G1, k1, n1, o1⟩)
    clear HP HPU HOW HNW c7 c8 c7a c8a e1 e2 e3 d8 f8 HT hql3
    generalize w3.setCell ⟨Q.kg, 8, none⟩ (.slice (some ⟨q', 0, none⟩) (out.length + 1) c') = w4 at *
    obtain ⟨G4, k4, s4⟩ := HWG.out
    have HK4 := Lib.hid k4
    have HS4 := Lib.hid s4
    clear HWG k4 s4
    have HKC := Lib.hid (kcount_any (n := n) HK4.out HN.out.1 HN.out.2.1 (by have := HN.out; simp; omega))
    go_wp2_with fail
    refine HKC.out.mono ?_
    rintro e w5 hp5
    obtain ⟨rfl, G5, k5, n5, o5⟩ := HS4.out.own hp5
    have HK5 := Lib.hid k5
    have HS5 := Lib.hid (Stp.mk n5 o5)
    clear hp5 k5 n5 o5 HK4 HS4 HKC
    have HKC := Lib.hid (kcount_any (n := l) HK5.out HN.out.2.2.1 HN.out.2.2.2.1 (by have := HN.out; simp [cntB]; omega))
    go_wp2_with fail
    refine HKC.out.mono ?_
    rintro e w6 hp6
    obtain ⟨rfl, G6, k6, n6, o6⟩ := HS5.out.own hp6
    obtain ⟨D, hD⟩ : ∃ D, D = ((out ++ [x]) ++ cntB n) ++ cntB l := ⟨_, rfl⟩
    have k6 : Kwn Q w6 F ⟨how, s, D⟩ m G6 := by rw [hD]; exact k6
    have HDL := Lib.hid (show D.length = out.length + 5 by rw [hD]; simp [cntB])
    have HD := Lib.hid hD
    have HK6 := Lib.hid k6
    have HS6 := Lib.hid (Stp.mk n6 o6)
    have hc7 := (k6.hows 0).1
    have c7 : w6.cell? ⟨Q.kg, 7, none⟩ = some (.int .i64 (how : Int)) := hc7
    clear hp6 k6 n6 o6 HK5 HS5 HKC hD hc7
    by_cases h2 : 2 ≤ how
    · have g2 : (how : Int) ≥ 2 := by omega
      obtain ⟨K, Ge, A, cc, Ao, co, hs, hG⟩ := HK6.out
      have c8 : w6.cell? ⟨Q.kg, 8, none⟩ = some (.slice Ao D.length co) := hs.blk.cell 8
      have b2 : w6.cell? ⟨Q.kg, 2, none⟩ = some (.int .i64 (Q.lc : Int)) := hs.blk.cell 2
      have b3 : w6.cell? ⟨Q.kg, 3, none⟩ = some (.int .i64 (Q.lp : Int)) := hs.blk.cell 3
      have b4 : w6.cell? ⟨Q.kg, 4, none⟩ = some (.int .i64 (Q.pb : Int)) := hs.blk.cell 4
      have b5 : w6.cell? ⟨Q.kg, 5, none⟩ = some (.int .i64 (Q.dict : Int)) := hs.blk.cell 5
      have HT := Lib.hid (And.intro hs hG)
      obtain ⟨y, hy⟩ : ∃ y, y = UInt8.ofNat (45 * Q.pb + 9 * Q.lp + Q.lc) := ⟨_, rfl⟩
      have HY := Lib.hid (show p0 = y by rw [hy]; exact HP0.out)
      have KPR := Lib.hid (fun W => pprops5 HQ.out W)
      rw [← hy] at KPR
      have HQT := Lib.hid (fun (W : World) (hW : Only (fun _ => False) w6 W) => hs.only hW (fun _ _ h => h))
      have HPU := Lib.hid (fun (w1 w3 : World) (q c2 : Nat) (h1 : Only (fun _ => False) w6 w1) => Kst.one (w1 := w1) (w3 := w3) (q := q) (c2 := c2) (x := y) hs hG h1)
      clear hs hG hy
      go_wp2_with fail
      go_region_law (first
        | (go_simp; go_at_call 44; refine (KPR.out _).mono ?_; rintro e wa ⟨bp, op, cp, rfl, hcp, hbp⟩; have hoa : Only (fun _ => False) w6 wa := (by first | exact Only.of_below hbp | exact (Only.of_below hbp).of_drew | exact (Only.of_below hbp).of_drewN); have HOA := Lib.hid hoa; have c8b : wa.cell? ⟨Q.kg, 8, none⟩ = some (.slice Ao D.length co) := (HQT.out wa hoa).blk.cell 8; have c8c : ∀ (o : Obj), (wa.alloc o).cell? ⟨Q.kg, 8, none⟩ = some (.slice Ao D.length co) := (fun o => (HQT.out _ (hoa.alloc o)).blk.cell 8); have HNW := Lib.hid (fun (u : Value) => (sl_one wa 5 u).news); clear hbp hoa)
        | (refine step_append_lies _ rfl (.tmp 38) (.tmp 46) 22 rfl 0 5 i _ 1 1 Try.underlying22 hi hz0 hz1 hz2 rfl (by omega) _ D.length (bv D) rfl (HQT.out _ (by first | exact HOA.out.alloc _ | exact ((HOA.out.alloc _).drew) | exact (HOA.out.drewN _).alloc _ | exact (HOA.out.alloc _).drewN _ | exact (HOA.out.drew).alloc _)).own _ 1 1 [.int .u8 (y.toNat : Int)] rfl rfl (fun j u hj => HNW.out _ j u hj) (one_one _ _) (by omega) (by have := HOL.out; have := HDL.out; unfold maxLen; omega) (by have := HOL.out; have := HDL.out; omega) (Nat.zero_le _) _ rfl ?_; intro q' c' w3 hod hgd hqd hql3; obtain ⟨⟨d8, f8⟩, hp⟩ := HPU.out _ w3 q' c' (by first | exact HOA.out.alloc _ | exact ((HOA.out.alloc _).drew) | exact (HOA.out.drewN _).alloc _ | exact (HOA.out.alloc _).drewN _ | exact (HOA.out.drew).alloc _) hod hgd hqd; have HP := Lib.hid hp; clear hod hgd hqd hp))
      all_goals
        obtain ⟨E, hE⟩ : ∃ E, E = D ++ [y] := ⟨_, rfl⟩
        have HWG := Lib.hid (show ∃ G1, Kwn Q (w3.setCell ⟨Q.kg, 8, none⟩ (.slice (some ⟨q', 0, none⟩) (D.length + 1) c')) F ⟨how, s, E⟩ m G1 ∧ Stp w G (w3.setCell ⟨Q.kg, 8, none⟩ (.slice (some ⟨q', 0, none⟩) (D.length + 1) c')) G1 from by obtain ⟨_, G1, k1, n1, o1⟩ := HP.out; exact ⟨G1, by rw [hE]; exact k1, HS6.out.trans ⟨n1, o1⟩⟩)
        have HEL := Lib.hid (show E.length ≤ out.length + 6 by rw [hE, List.length_append, HDL.out]; exact Nat.le_refl _)
        have HE := Lib.hid (show out ++ packedB how p0 n st = E ++ st by
          rw [hE, HD.out, HX.out, ← HY.out]
          unfold packedB
          rw [if_pos h2, HN.out.2.2.2.2.2]
          simp only [List.append_assoc])
        clear HP HPU HQT c8 c8b c8c c7 b2 b3 b4 b5 d8 f8 HT hql3 HK6 HS6 HOA HNW KPR hcp hE
        generalize w3.setCell ⟨Q.kg, 8, none⟩ (.slice (some ⟨q', 0, none⟩) (D.length + 1) c') = w8 at *
        obtain ⟨G8, k8, s8⟩ := HWG.out
        have HK8 := Lib.hid k8
        have HS8 := Lib.hid s8
        clear HWG k8 s8
        obtain ⟨K, Ge, A, cc, Ao, co, hs, hG⟩ := HK8.out
        have c8 : w8.cell? ⟨Q.kg, 8, none⟩ = some (.slice Ao E.length co) := hs.blk.cell 8
        have HT := Lib.hid (And.intro hs hG)
        have HSL := Lib.hid (HS8.out.sl HS.out.1 HS.out.2)
        clear hs hG
        go_wp2_with (first
          | (at_builtin; refine wpList_appO _ rfl (.tmp 54) (.tmp 55) 22 rfl 0 5 i _ 1 Try.underlying22 hi hz0 hz1 hz2 rfl _ E.length _ rfl HT.out.1.own _ l _ (bv st) rfl HSL.out (bv_one _) (by have := HN.out; have := HEL.out; omega) (by decide) (Nat.zero_le _) ?_)
          | fail)
        intro A9 c9 w9 ho9 hg9 hv9
        obtain ⟨⟨d8, f8⟩, hp⟩ := HT.out.1.puts HT.out.2 (xs := st) (n := l) HN.out.2.2.2.2.2 (Only.refl _ w8) ho9 hg9 hv9
        obtain ⟨_, G10, k10, n10, o10⟩ := HS8.out.own hp
        have k10 : Kwn Q (w9.setCell ⟨Q.kg, 8, none⟩ (.slice A9 (E.length + l) c9)) F ⟨how, s, E ++ st⟩ m G10 := k10
        rw [← HE.out] at k10
        have HK10 := Lib.hid (And.intro k10 (Stp.mk n10 o10))
        clear ho9 hg9 hv9 hp c8 HT HSL HK8 HS8 k10 n10 o10
        go_upto_region 6 with fail
        clear d8 f8
        generalize w9.setCell ⟨Q.kg, 8, none⟩ (.slice A9 (E.length + l) c9) = w10 at *
        obtain ⟨c7, f7, k7, s7⟩ := HK10.out.1.hows 0
        have HP := Lib.hid (show OwnPost (fun w G => Kwn Q w F ⟨0, s, out ++ packedB how p0 n st⟩ m G) w G (.tuple #[]) (.returned (.tuple #[])) (w10.setCell ⟨Q.kg, 7, none⟩ (.int .i64 0)) from by obtain ⟨a, b⟩ := HK10.out.2.trans s7; exact ⟨rfl, G10, k7, a, b⟩)
        clear k7 s7
        have c7 : w10.cell? ⟨Q.kg, 7, none⟩ = some (.int .i64 (how : Int)) := c7
        go_wp2_with fail
        first | go_end0 | refine bodyPost_ret (results_none rfl _ _ _) rfl ?_
        exact HP.out
    · have g2 : ¬ (how : Int) ≥ 2 := by omega
      obtain ⟨E, hE⟩ : ∃ E, E = D := ⟨_, rfl⟩
      rw [← hE] at HK6
      have HEL := Lib.hid (show E.length ≤ out.length + 6 by rw [hE, HDL.out]; omega)
      have HE := Lib.hid (show out ++ packedB how p0 n st = E ++ st by
        rw [hE, HD.out, HX.out]
        unfold packedB
        rw [if_neg h2, HN.out.2.2.2.2.2]
        simp only [List.append_assoc, List.append_nil, List.nil_append])
      have HK8 := HK6
      have HS8 := HS6
      clear HK6 HS6 hE
      go_upto_region 5 with fail
      clear c7
      generalize w6 = w8 at *
      generalize G6 = G8 at *
      obtain ⟨K, Ge, A, cc, Ao, co, hs, hG⟩ := HK8.out
      have c8 : w8.cell? ⟨Q.kg, 8, none⟩ = some (.slice Ao E.length co) := hs.blk.cell 8
      have HT := Lib.hid (And.intro hs hG)
      have HSL := Lib.hid (HS8.out.sl HS.out.1 HS.out.2)
      clear hs hG
      go_wp2_with (first
        | (at_builtin; refine wpList_appO _ rfl (.tmp 54) (.tmp 55) 22 rfl 0 5 i _ 1 Try.underlying22 hi hz0 hz1 hz2 rfl _ E.length _ rfl HT.out.1.own _ l _ (bv st) rfl HSL.out (bv_one _) (by have := HN.out; have := HEL.out; omega) (by decide) (Nat.zero_le _) ?_)
        | fail)
      intro A9 c9 w9 ho9 hg9 hv9
      obtain ⟨⟨d8, f8⟩, hp⟩ := HT.out.1.puts HT.out.2 (xs := st) (n := l) HN.out.2.2.2.2.2 (Only.refl _ w8) ho9 hg9 hv9
      obtain ⟨_, G10, k10, n10, o10⟩ := HS8.out.own hp
      have k10 : Kwn Q (w9.setCell ⟨Q.kg, 8, none⟩ (.slice A9 (E.length + l) c9)) F ⟨how, s, E ++ st⟩ m G10 := k10
      rw [← HE.out] at k10
      have HK10 := Lib.hid (And.intro k10 (Stp.mk n10 o10))
      clear ho9 hg9 hv9 hp c8 HT HSL HK8 HS8 k10 n10 o10
      go_upto_region 6 with fail
      clear d8 f8
      generalize w9.setCell ⟨Q.kg, 8, none⟩ (.slice A9 (E.length + l) c9) = w10 at *
      obtain ⟨c7, f7, k7, s7⟩ := HK10.out.1.hows 0
      have HP := Lib.hid (show OwnPost (fun w G => Kwn Q w F ⟨0, s, out ++ packedB how p0 n st⟩ m G) w G (.tuple #[]) (.returned (.tuple #[])) (w10.setCell ⟨Q.kg, 7, none⟩ (.int .i64 0)) from by obtain ⟨a, b⟩ := HK10.out.2.trans s7; exact ⟨rfl, G10, k7, a, b⟩)
      clear k7 s7
      have c7 : w10.cell? ⟨Q.kg, 7, none⟩ = some (.int .i64 (how : Int)) := c7
      go_wp2_with fail
      first | go_end0 | refine bodyPost_ret (results_none rfl _ _ _) rfl ?_
      exact HP.out
end
end Go.Proofs.Ytjganponepafpaa

/-
  The coder of LZMA2: a piece.
-/
namespace Go.Proofs.Ytjganponepafpaa
open Go.RowKit

theorem Apt.stp {w w' : World} {B : Option Addr} {G G' : Nat → Prop} (h : Apt B G) (hlt : ∀ q o, B = some ⟨q, o, none⟩ → q < w.heap.size) (hs : Stp w G w' G') : Apt B G' := fun q o e hg => by
  rcases hs.nw q hg with e2 | e2
  · exact h q o e e2
  · have := hlt q o e
    omega

section
variable {Q : Kq} {w : World} {F T m how at_ : Nat} {s : Lzs × Pm En} {out : List UInt8} {G : Nat → Prop} {b : List UInt8}
set_option maxRecDepth 100000 in
set_option maxHeartbeats 4000000 in
theorem kpiece_any {B : Option Addr} {n c : Nat} {xs : List UInt8} (h : Kwn Q w at_ ⟨how, s, out⟩ m G) (hq : StrIn Q b (min at_ Q.n) (min (at_ + n) Q.n)) (hn1 : 1 ≤ n ∧ n ≤ 65536) (hat : at_ + n ≤ 1000000000) (hh : how ≤ 3)
    (hc : Cmd b Q.dict (1847 + 768 * 2 ^ (Q.lc + Q.lp)) (min at_ Q.n) s) (hs : s.1.lc = Q.lc ∧ s.1.lp = Q.lp ∧ s.1.pb = Q.pb) (hS : Sl w Q.A Q.n (bv b)) (ha : Apt Q.A G) (ho : out.length ≤ 90000000)
    (hB : Sl w B n (bv xs)) (hb : Apt B G) (hlt : ∀ q o, B = some ⟨q, o, none⟩ → q < w.heap.size) :
    Calls Try.prog 18 #[.pointer (some ⟨Q.kg, 0, none⟩), .slice B n c] w (OwnPost (fun w G => Kwn Q w (at_ + n) (pieceN b (headB Q.lc Q.lp Q.pb) Q.dict at_ xs ⟨how, s, out⟩) 0 G) w G (.tuple #[])) := by
  obtain ⟨F, hF⟩ : ∃ F, F = min at_ Q.n := ⟨_, rfl⟩
  obtain ⟨T, hT⟩ : ∃ T, T = min (at_ + n) Q.n := ⟨_, rfl⟩
  obtain ⟨p0, hp0⟩ : ∃ p0, p0 = headB Q.lc Q.lp Q.pb := ⟨_, rfl⟩
  have hxl : xs.length = n := by rw [← bv_length]; exact hB.1
  rw [← hF] at hc
  rw [← hF, ← hT] at hq
  have KS := Lib.hid (kstream_any h hq ⟨hF, hT, hat⟩ hc hs hS ha)
  obtain ⟨s2, hs2⟩ : ∃ s2, s2 = strS b Q.dict F T how s := ⟨_, rfl⟩
  have hfive : 5 ≤ s2.2.x.l := by
    rw [hs2]
    exact (str_all (hc.pre (how := how)) hq.ft (by have := hq.tn; have := hq.len; omega) (by have := hq.len; have := hq.most; omega) _ rfl).2.2.2.1
  rw [← hs2] at KS
  have hpn : pieceN b (headB Q.lc Q.lp Q.pb) Q.dict at_ xs ⟨how, s, out⟩ = if s2.2.x.l < n then ⟨0, finS s2, out ++ packedB how p0 n (strB s2)⟩ else ⟨nextH how, finS s2, out ++ plainB how xs⟩ := by
    rw [hs2, hF, hT, hp0, ← hq.len]
    unfold pieceN
    rw [hxl]
  rw [hpn]
  have HB := Lib.hid (And.intro hB (And.intro hb hlt))
  have HQ := Lib.hid (And.intro (show p0 = UInt8.ofNat (45 * Q.pb + 9 * Q.lp + Q.lc) from hp0) (And.intro hq (And.intro hn1.1 (And.intro hh ho))))
  have hn65 : n ≤ 65536 := hn1.2
  obtain ⟨l, hl⟩ : ∃ l, l = s2.2.x.l := ⟨_, rfl⟩
  have HL := Lib.hid hl
  rw [← hl] at hfive ⊢
  have HF5 := Lib.hid (And.intro hfive hn65)
  obtain ⟨st, hst⟩ : ∃ st, st = strB s2 := ⟨_, rfl⟩
  rw [← hst]
  have KS := Lib.hid (show Calls Try.prog 29 #[.pointer (some ⟨Q.kg, 0, none⟩), .int .i64 (n : Int)] w fun x w' => ∃ B c G', x = .returned (.slice B l c) ∧ Sl w' B l (bv st) ∧ Apt B G' ∧ Kwn Q w' (at_ + n) ⟨how, finS s2, out⟩ 0 G' ∧ Stp w G w' G' from KS.out.mono fun x w' h => by rw [hl, hst]; exact h)
  clear h hp0 hq hn1 hh hat hF hT hxl hc hs hS ha ho hB hb hlt hs2 hpn hl hst hfive hn65
  go_enter Try.func18, Try.ntmps18
  go_wp2_with fail
  refine KS.out.mono ?_
  rintro x w1 ⟨B1, c1, G1, rfl, hsl, hap, hk1, hs1⟩
  have HK1 := Lib.hid hk1
  have HS1 := Lib.hid hs1
  have HT1 := Lib.hid (And.intro hsl hap)
  have HP1 := Lib.hid (And.intro (hs1.sl HB.out.1 HB.out.2.1) (HB.out.2.1.stp HB.out.2.2 hs1))
  clear hsl hap hk1 hs1 KS
  by_cases hlt : l < n
  · have g1 : (l : Int) < (n : Int) := by omega
    have KP := Lib.hid (kpacked_any (n := n) (c := c1) HQ.out.1 HK1.out HQ.out.2.2.2.1 HQ.out.2.1.set HT1.out.1 HT1.out.2 HQ.out.2.2.1 HF5.out.2 (by have := HF5.out.1; omega) (by have := HF5.out.2; omega) HQ.out.2.2.2.2)
    go_wp2_with fail
    refine KP.out.mono ?_
    rintro x w2 hp
    have HP := Lib.hid (show OwnPost (fun w G => Kwn Q w (at_ + n) (if l < n then ⟨0, finS s2, out ++ packedB how p0 n st⟩ else ⟨nextH how, finS s2, out ++ plainB how xs⟩) 0 G) w G (.tuple #[]) x w2 from by rw [if_pos hlt]; exact HS1.out.own hp)
    obtain ⟨rfl, _⟩ := hp
    clear KP
    go_wp2_with fail
    first | go_end0 | refine bodyPost_ret (results_none rfl _ _ _) rfl ?_
    have h9 := HP.out
    rw [if_pos hlt] at h9
    exact h9
  · have g1 : ¬ (l : Int) < (n : Int) := by omega
    have KP := Lib.hid (kplain_any (c := c) HK1.out HQ.out.2.2.2.1 HP1.out.1 HP1.out.2 HQ.out.2.2.1 HF5.out.2 HQ.out.2.2.2.2)
    go_wp2_with fail
    refine KP.out.mono ?_
    rintro x w2 hp
    have HP := Lib.hid (show OwnPost (fun w G => Kwn Q w (at_ + n) (if l < n then ⟨0, finS s2, out ++ packedB how p0 n st⟩ else ⟨nextH how, finS s2, out ++ plainB how xs⟩) 0 G) w G (.tuple #[]) x w2 from by rw [if_neg hlt]; exact HS1.out.own hp)
    obtain ⟨rfl, _⟩ := hp
    clear KP
    go_wp2_with fail
    first | go_end0 | refine bodyPost_ret (results_none rfl _ _ _) rfl ?_
    have h9 := HP.out
    rw [if_neg hlt] at h9
    exact h9
end
end Go.Proofs.Ytjganponepafpaa

/-
  The coder of LZMA2: its blocks hold cells; so it stands through a loop over an iterator.
-/
namespace Go.Proofs.Ytjganponepafpaa
open Go.RowKit

theorem own_isCells {w : World} {base : Nat} {e : TypeId} {A : Option Addr} {n c : Nat} {xs : List Value} (h : w.ownsRow base e 1 (.slice A n c) n xs) {i : Nat} (hi : (Value.slice A n c).ownBlock = some i) : ∃ o, w.heap[i]? = some o ∧ o.isCells = true := by
  rcases h.2 with ⟨hv, _⟩ | ⟨g', cap, cur, hv, hb', hh, r⟩
  · rw [hv] at hi
    exact (nomatch hi)
  · rw [hv] at hi
    have hi : some g' = some i := hi
    injection hi with hi
    subst hi
    exact ⟨_, hh, rfl⟩
section
variable {Q : Kq} {K : Koc} {w w' : World} {Ge : Option Nat} {A : Option Addr} {c F m : Nat} {k : Ckn} {Ao : Option Addr} {co : Nat} {G : Nat → Prop}
theorem Kst.cells (h : Kst Q K w Ge A c F k m Ao co) {i : Nat} (hi : Kow Q K Ge (tb A k.s.1.out.length c) (tb Ao k.out.length co) i) : ∃ o, w.heap[i]? = some o ∧ o.isCells = true := by
  have hp := h.cw.mch.pn
  have hr := h.cw.mch.row
  obtain ⟨e, hP, _⟩ := hp
  obtain ⟨A1, m1, hB, hO, hE, hn⟩ := hP
  rcases hi with ((e | e | e | e) | e) | e | e
  · subst e
    exact ⟨_, hB, rfl⟩
  · exact own_isCells hO (hE.trans e)
  · have e : i = K.g := e
    subst e
    obtain ⟨cs, hb, _⟩ := hr.1
    exact ⟨_, hb, rfl⟩
  · have e : i = K.lb := e
    subst e
    exact own_isCells hr.2.1 rfl
  · exact own_isCells h.cw.told e
  · subst e
    exact ⟨_, h.blk, rfl⟩
  · exact own_isCells h.own e
theorem Kwn.cells (h : Kwn Q w F k m G) {i : Nat} (hi : G i) : ∃ o, w.heap[i]? = some o ∧ o.isCells = true := by
  obtain ⟨K, Ge, A, c, Ao, co, hs, hG⟩ := h
  exact hs.cells ((hG i).1 hi)
theorem only_grown {row : Option Nat} (hg : w.grownBy w' row) : Only (fun i => row = some i) w w' := ⟨hg.os, hg.tape, hg.output, hg.size, fun i hi hn => hg.block i hi fun e => hn e.symm⟩
/-- blocks that are no cells may turn -/
theorem Kwn.grown {row : Option Nat} (h : Kwn Q w F k m G) (hg : w.grownBy w' row) (hr : ∀ r, row = some r → ∃ o : Obj, w.heap[r]? = some o ∧ o.isCells = false) : Kwn Q w' F k m G :=
  h.only (only_grown hg) fun i hi e => by
    obtain ⟨o, ho, hf⟩ := hr i e
    obtain ⟨o', ho', ht⟩ := h.cells hi
    rw [ho] at ho'
    injection ho' with ho'
    subst ho'
    rw [hf] at ht
    exact (nomatch ht)
theorem Kwn.keeps (h : Kwn Q w F k m G) (hO : Only G w w') (B : Nat) : KeepsFrom B w w' :=
  ⟨hO.size, fun i o hB hi ho => (hO.block i (Array.getElem?_eq_some_iff.1 hi).1 fun hg => by
    obtain ⟨o', ho', ht⟩ := h.cells hg
    rw [hi] at ho'
    injection ho' with ho'
    subst ho'
    rw [ho] at ht
    exact (nomatch ht)).trans hi⟩
end
end Go.Proofs.Ytjganponepafpaa
