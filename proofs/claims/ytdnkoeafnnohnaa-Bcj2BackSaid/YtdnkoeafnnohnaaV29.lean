/-
  B2Awk, B2BackW: put together.
-/
import Derived.Test.YtdnkoeafnnohnaaV05
import Derived.Test.YtdnkoeafnnohnaaV25
import Derived.Test.YtdnkoeafnnohnaaV28
import Derived.Test.YtdnkoeafnnohnaaV06
set_option linter.unusedVariables false
set_option linter.unusedSimpArgs false
/-
  The beginning of the laws of stage 15.
-/
namespace Go.Proofs.Ytdnkoeafnnohnaa
set_option linter.unusedVariables false
set_option linter.unusedSimpArgs false
open Go.RowKit

theorem b2code_holds {w : World} {A : Option Addr} {c : Nat} {b : List UInt8} (hS : Sl w A b.length (bv b)) (hc : b.length ≤ c) (hn : b.length ≤ 16384) :
    Calls Try.prog 13 #[.slice A b.length c] w (fun x w' => ∃ A' c' l, x = .returned (.agg (fourA A' c' l)) ∧ Below w.heap.size w w' ∧ FourOk w' A' c' l ∧ Holds b l) :=
  (b2code_any hS hc hn).mono fun x w' h => by
    obtain ⟨A', c', l, h1, h2, h3, h4⟩ := h
    exact ⟨A', c', l, h1, h2, h3, h4⟩
theorem b2dec_ans {w : World} {A : Nat → Option Addr} {c : Nat → Nat} {l : Nat → List UInt8} {size : Int} {ans : Option (List UInt8)} (hF : FourOk w A c l) (hsz : size < 9223372036854775808) (hans : ansD l size.toNat = ans) :
    Calls Try.prog 9 #[.agg (fourA A c l), .int .i64 size] w (RdPost w ans) :=
  b2decode_any hF hsz (by rw [← hans]; rfl)
theorem FourOk.below {w w' : World} {A : Nat → Option Addr} {c : Nat → Nat} {l : Nat → List UInt8} (h : FourOk w A c l) (hb : Below w.heap.size w w') : FourOk w' A c l :=
  ⟨fun i hi => (h.sl i hi).below hb, h.cap, h.len⟩
theorem lit5 (w : World) (a b c d f : UInt8) : Sl (w.alloc (.cells #[.int .u8 (a.toNat : Int), .int .u8 (b.toNat : Int), .int .u8 (c.toNat : Int), .int .u8 (d.toNat : Int), .int .u8 (f.toNat : Int)] 5)) (some ⟨w.heap.size, 0, none⟩) 5 (bv [a, b, c, d, f]) :=
  sl_lit w 5 #[.int .u8 (a.toNat : Int), .int .u8 (b.toNat : Int), .int .u8 (c.toNat : Int), .int .u8 (d.toNat : Int), .int .u8 (f.toNat : Int)] (by simp)
theorem lit4 (w : World) (a b c d : UInt8) : Sl (w.alloc (.cells #[.int .u8 (a.toNat : Int), .int .u8 (b.toNat : Int), .int .u8 (c.toNat : Int), .int .u8 (d.toNat : Int)] 5)) (some ⟨w.heap.size, 0, none⟩) 4 (bv [a, b, c, d]) :=
  sl_lit w 5 #[.int .u8 (a.toNat : Int), .int .u8 (b.toNat : Int), .int .u8 (c.toNat : Int), .int .u8 (d.toNat : Int)] (by simp)
theorem lit1 (w : World) (a : UInt8) : Sl (w.alloc (.cells #[.int .u8 (a.toNat : Int)] 5)) (some ⟨w.heap.size, 0, none⟩) 1 (bv [a]) :=
  sl_lit w 5 #[.int .u8 (a.toNat : Int)] (by simp)

theorem Sl.drewC {w : World} {A : Option Addr} {n : Nat} {xs : List Value} (h : Sl w A n xs) : Sl w.drew A n xs := h
theorem below_drewC {B : Nat} {a w : World} (h : Below B a w) : Below B a w.drew := ⟨h.os, h.tape, h.output, h.size, h.block⟩
theorem Blk.rest {w w' : World} {g : Nat} {t : TypeId} {cs : Array Value} (h : Blk w g t cs) (o : Obj) (n : Nat) (hw : ((w.alloc o).drew).drewN n = w') : Blk w' g t cs := by
  subst hw
  exact h.below (below_drewN (below_drewC ((Below.refl _ _).alloc (Nat.le_refl _) _)) n)
set_option maxRecDepth 100000 in
set_option maxHeartbeats 8000000 in
theorem awake15_any (w : World) : Calls Try.prog 8 #[] w fun e w' => e = .returned (.bool true) ∧ Below w.heap.size w w' := by
  have KC := Lib.hid (b2code_holds (b := [232, 251, 255, 255, 255]) (c := 5) (lit5 w 232 251 255 255 255) (by decide) (by decide))
  have HB0 := Lib.hid ((Below.refl w.heap.size w).alloc (Nat.le_refl _) (.cells #[.int .u8 232, .int .u8 251, .int .u8 255, .int .u8 255, .int .u8 255] 5))
  have hmk : ∀ W : World, (Instr.makeSlice 22 (.int .i64 4) (.int .i64 4)).run Try.prog W = .ok (.slice (some ⟨W.heap.size, 0, none⟩) 4 4) (W.alloc (.cells #[.int .u8 0, .int .u8 0, .int .u8 0, .int .u8 0] 5)) := fun _ => by kernel_rfl
  go_enter Try.func8, Try.ntmps8
  go_wp2_with fail
  refine KC.out.mono ?_
  rintro e w1 ⟨A', c', l, rfl, hb1, hF, hH⟩
  have HB1 := Lib.hid (HB0.out.trans (hb1.mono HB0.out.size))
  obtain ⟨a0, a1, a3⟩ := holds_awk hH
  have HN := Lib.hid (And.intro a0 (And.intro a1 a3))
  have HH := Lib.hid (And.intro hF hH)
  obtain ⟨v1, hv1⟩ : ∃ v1, v1 = w1.alloc (.cells (fourA A' c' l) 24) := ⟨_, rfl⟩
  have hbv : Below w1.heap.size w1 v1 := by rw [hv1]; exact (Below.refl _ _).alloc (Nat.le_refl _) _
  have hB1 : Blk v1 w1.heap.size 24 (fourA A' c' l) := by rw [hv1]; exact Blk.fresh _ _ _
  have hs1 : w1.heap.size < v1.heap.size := hB1.lt
  have HV := Lib.hid (And.intro hbv hB1)
  have x0 : v1.cell? ⟨w1.heap.size, 0, none⟩ = some (.slice (A' 0) (l 0).length (c' 0)) := hB1.cell 0
  have x1 : v1.cell? ⟨w1.heap.size, 1, none⟩ = some (.slice (A' 1) (l 1).length (c' 1)) := hB1.cell 1
  have x2 : v1.cell? ⟨w1.heap.size, 2, none⟩ = some (.slice (A' 2) (l 2).length (c' 2)) := hB1.cell 2
  have x3 : v1.cell? ⟨w1.heap.size, 3, none⟩ = some (.slice (A' 3) (l 3).length (c' 3)) := hB1.cell 3
  unfold fourA at hv1
  have HW := Lib.hid hv1
  have KD := Lib.hid (b2dec_ans (size := 5) (ans := some [232, 251, 255, 255, 255]) (hF.below hbv) (by decide) (holds_back hH (by decide)))
  unfold fourA at KD
  clear hb1 hF hH a0 a1 a3 HB0 KC hbv hB1 hv1
  unfold fourA
  go_upto_region 2 with fail
  rw [← HW.out]
  clear HW
  go_wp2_with fail
  refine KD.out.mono ?_
  rintro e w2 ⟨hb2, hh⟩
  rcases hh with ⟨hn, _⟩ | ⟨out, O, co, ho, rfl, hO⟩
  · cases hn
  injection ho with ho
  subst ho
  obtain ⟨a0, a1, a3⟩ := HN.out
  have hB2 := HV.out.2.below hb2
  have y0 : w2.cell? ⟨w1.heap.size, 0, none⟩ = some (.slice (A' 0) 1 (c' 0)) := (hB2.cell 0).trans (by show some (Value.slice (A' 0) (l 0).length (c' 0)) = _; rw [a0]; rfl)
  have y1 : w2.cell? ⟨w1.heap.size, 1, none⟩ = some (.slice (A' 1) 4 (c' 1)) := (hB2.cell 1).trans (by show some (Value.slice (A' 1) (l 1).length (c' 1)) = _; rw [a1]; rfl)
  have y3 : w2.cell? ⟨w1.heap.size, 3, none⟩ = some (.slice (A' 3) 5 (c' 3)) := (hB2.cell 3).trans (by show some (Value.slice (A' 3) (l 3).length (c' 3)) = _; rw [a3])
  have hF2 := (HH.out.1.below HV.out.1).below (hb2.mono (Nat.le_refl _))
  have s0 := hF2.sl 0 (by decide)
  have s1 := hF2.sl 1 (by decide)
  rw [a0] at s0
  rw [a1] at s1
  have hBel : Below w.heap.size w w2 := HB1.out.trans ((HV.out.1.trans (hb2.mono (Nat.le_of_lt hs1))).mono HB1.out.size)
  have HF := Lib.hid (And.intro hBel (Nat.lt_of_lt_of_le (Nat.lt_of_le_of_lt HB1.out.size hs1) hb2.size))
  have HY := Lib.hid (show ∀ W, Below w2.heap.size w2 W → W.cell? ⟨w1.heap.size, 0, none⟩ = some (.slice (A' 0) 1 (c' 0)) ∧ W.cell? ⟨w1.heap.size, 1, none⟩ = some (.slice (A' 1) 4 (c' 1)) ∧ W.cell? ⟨w1.heap.size, 3, none⟩ = some (.slice (A' 3) 5 (c' 3)) from fun W hW => by
    have h := hB2.below hW
    exact ⟨(h.cell 0).trans ((hB2.cell 0).symm.trans y0), (h.cell 1).trans ((hB2.cell 1).symm.trans y1), (h.cell 3).trans ((hB2.cell 3).symm.trans y3)⟩)
  have hBs := fun (W : World) (xs : List UInt8) (A B : Option Addr) (n ca cb : Nat) (hA : Sl w2 A n (bv xs)) (hW : Below w2.heap.size w2 W) (hB : Sl W B n (bv xs)) (hn : n ≤ 1000000000) =>
    (show Calls Try.prog 11 #[.slice A n ca, .slice B n cb] W (fun e w' => e = .returned (.bool true) ∧ Below w2.heap.size w2 w') from
      (bytesSame_any (hA.below hW) hB hn).mono fun e w' h => by
        obtain ⟨h1, d, rfl⟩ := h
        exact ⟨h1, below_drewN hW d⟩)
  have KB1 := Lib.hid (fun W B (hW : Below w2.heap.size w2 W) (hB : Sl W B 1 (bv [232])) => hBs W [232] (A' 0) B 1 (c' 0) 1 s0 hW hB (by decide))
  have KB2 := Lib.hid (fun W B (hW : Below w2.heap.size w2 W) (hB : Sl W B 4 (bv [0, 0, 0, 0])) => hBs W [0, 0, 0, 0] (A' 1) B 4 (c' 1) 4 s1 hW hB (by decide))
  have KB3 := Lib.hid (fun W B (hW : Below w2.heap.size w2 W) (hB : Sl W B 5 (bv [232, 251, 255, 255, 255])) => hBs W [232, 251, 255, 255, 255] O B 5 co 5 hO hW hB (by decide))
  have KL1 := Lib.hid (fun W => (show Sl (W.alloc (.cells #[.int .u8 232] 5)).drew (some ⟨W.heap.size, 0, none⟩) 1 (bv [232]) from (lit1 W 232).drewC))
  have KL2 := Lib.hid (fun W => (show Sl (W.alloc (.cells #[.int .u8 0, .int .u8 0, .int .u8 0, .int .u8 0] 5)) (some ⟨W.heap.size, 0, none⟩) 4 (bv [0, 0, 0, 0]) from lit4 W 0 0 0 0))
  have KL3 := Lib.hid (fun W => (show Sl (W.alloc (.cells #[.int .u8 232, .int .u8 251, .int .u8 255, .int .u8 255, .int .u8 255] 5)) (some ⟨W.heap.size, 0, none⟩) 5 (bv [232, 251, 255, 255, 255]) from lit5 W 232 251 255 255 255))
  have HB2 := Lib.hid (fun o => below_drewC ((Below.refl w2.heap.size w2).alloc (Nat.le_refl _) o))
  clear hBs
  clear hB2 hF2 s0 s1 hO a0 a1 a3 hBel KD x0 x1 x2 x3
  go_wp2_with fail
  go_region_held3 (fun W => W.cell? ⟨w1.heap.size, 0, none⟩ = some (.slice (A' 0) 1 (c' 0)) ∧ W.cell? ⟨w1.heap.size, 1, none⟩ = some (.slice (A' 1) 4 (c' 1)) ∧ W.cell? ⟨w1.heap.size, 3, none⟩ = some (.slice (A' 3) 5 (c' 3)))
    (first | assumption | go_keep | exact ⟨y0, y1, y3⟩ | exact z3 | exact z4 | exact z5 | trivial)
    (first
    | (go_at_call 11; refine (KB1.out _ _ (HB2.out _) (KL1.out _)).mono ?_; rintro e w3 ⟨rfl, hb3⟩; have z3 := HY.out w3 hb3; have HB3 := Lib.hid (fun o => hb3.alloc hb3.size o); have HBE := Lib.hid hb3; clear hb3 HB2 KB1 KL1)
    | (go_at_call 11; refine (KB2.out _ _ (HB3.out _) (KL2.out _)).mono ?_; rintro e w4 ⟨rfl, hb4⟩; have z4 := HY.out w4 hb4; have HB4 := Lib.hid (fun o => hb4.alloc hb4.size o); clear HBE; have HBE := Lib.hid hb4; clear hb4 HB3 KB2 KL2)
    | (go_at_call 11; refine (KB3.out _ _ (HB4.out _) (KL3.out _)).mono ?_; rintro e w5 ⟨rfl, hb5⟩; have z5 := HY.out w5 hb5; clear HBE; have HBE := Lib.hid hb5; clear hb5 HB4 KB3 KL3)
    | fail)
  go_wp2_with fail
  go_ret
  exact ⟨rfl, HF.out.1.trans (HBE.out.mono HF.out.1.size)⟩
end Go.Proofs.Ytdnkoeafnnohnaa

/-
  The law Bcj2Back: its walk.
-/
namespace Go.Proofs.Ytdnkoeafnnohnaa
set_option linter.unusedVariables false
set_option linter.unusedSimpArgs false
open Go.RowKit

set_option maxRecDepth 100000 in
set_option maxHeartbeats 8000000 in
theorem bcj2Back_walk {A : Option Addr} {n c m : Nat} {bs : List UInt8} {w : World} (hS : Sl w A n (bv bs)) (hnc : n ≤ c) (hc : c ≤ maxLen) (hm : m < 2 ^ 8) :
    Calls Try.prog 5 #[.slice A n c, .int .u8 (m : Int)] w fun e w' => e = .returned (.bool true) ∧ Below w.heap.size w w' := by
  unfold maxLen at hc
  have hl : bs.length = n := by rw [← bv_length]; exact hS.1
  subst hl
  have HS := Lib.hid hS
  have HC := Lib.hid (And.intro hnc hc)
  have KA := Lib.hid (awake15_any w)
  by_cases h1 : (bs.length : Int) > 16384
  · clear hS hnc hc
    go_enter Try.func5, Try.ntmps5
    go_wp2_with fail
    refine KA.out.mono ?_
    rintro e w1 ⟨rfl, hb⟩
    have HB := Lib.hid hb
    clear hb
    go_wp2_with fail
    go_ret
    exact ⟨rfl, HB.out⟩
  · have HD := Lib.hid (And.intro (show bs.length ≤ 16384 by omega) hm)
    have b1 : (0 : Int) ≤ (bs.length : Int) := by omega
    have b2 : (bs.length : Int) ≤ 16384 := by omega
    have b3 : (0 : Int) ≤ (m : Int) := by omega
    have b4 : (m : Int) ≤ 255 := by omega
    clear hS hnc hc hm
    go_enter Try.func5, Try.ntmps5
    go_wp2_with fail
    refine KA.out.mono ?_
    rintro e w1 ⟨rfl, hb⟩
    have HB := Lib.hid hb
    clear hb KA
    go_wp2_with fail
    refine (b2code_holds (HS.out.below HB.out) HC.out.1 HD.out.1).mono ?_
    rintro e w2 ⟨A', c', l, rfl, hb2, hF, hH⟩
    have HB2 := Lib.hid (HB.out.trans (hb2.mono HB.out.size))
    have HH := Lib.hid (And.intro hF hH)
    obtain ⟨v2, hv2⟩ : ∃ v2, v2 = w2.alloc (.cells (fourA A' c' l) 24) := ⟨_, rfl⟩
    have hbv : Below w2.heap.size w2 v2 := by rw [hv2]; exact (Below.refl _ _).alloc (Nat.le_refl _) _
    have hB1 : Blk v2 w2.heap.size 24 (fourA A' c' l) := by rw [hv2]; exact Blk.fresh _ _ _
    have hBv : Below w.heap.size w v2 := HB2.out.trans (hbv.mono HB2.out.size)
    have hF2 := hF.below hbv
    have HXS := Lib.hid (show ∀ W, Below v2.heap.size v2 W → W.cell? ⟨w2.heap.size, 0, none⟩ = some (.slice (A' 0) (l 0).length (c' 0)) ∧ W.cell? ⟨w2.heap.size, 1, none⟩ = some (.slice (A' 1) (l 1).length (c' 1)) ∧
        W.cell? ⟨w2.heap.size, 2, none⟩ = some (.slice (A' 2) (l 2).length (c' 2)) ∧ W.cell? ⟨w2.heap.size, 3, none⟩ = some (.slice (A' 3) (l 3).length (c' 3)) from fun W hW => by
      have h := hB1.below hW
      exact ⟨h.cell 0, h.cell 1, h.cell 2, h.cell 3⟩)
    obtain ⟨x0, x1, x2, x3⟩ := HXS.out v2 (Below.refl _ _)
    have HV := Lib.hid (And.intro hF2 hBv)
    have KD1 := Lib.hid (b2dec_ans (size := (bs.length : Int)) (ans := some bs) hF2 (by omega) (by rw [show ((bs.length : Int)).toNat = bs.length by omega]; exact holds_back hH HD.out.1))
    unfold fourA at hv2 KD1
    have HW := Lib.hid hv2
    have hlen := holds_len hH
    clear hb2 hF hH hbv hB1 hv2 HB hBv hF2
    unfold fourA
    go_upto_region 6 with fail
    rw [← HW.out]
    clear HW
    go_wp2_with fail
    refine KD1.out.mono ?_
    rintro e w3 ⟨hb3, hh⟩
    rcases hh with ⟨hn, _⟩ | ⟨out, O, co, ho, rfl, hO⟩
    · cases hn
    injection ho with ho
    subst ho
    clear KD1 x0 x1 x2 x3
    obtain ⟨x0, x1, x2, x3⟩ := HXS.out w3 hb3
    have HV3 := Lib.hid (And.intro (HV.out.2.trans (hb3.mono HV.out.2.size)) (And.intro hb3 hO))
    clear hb3 hO
    go_wp2_with fail
    refine (bytesSame_any HV3.out.2.2 (HS.out.below HV3.out.1) (by have := HD.out.1; omega)).mono ?_
    rintro e w4 ⟨rfl, d4, rfl⟩
    have y0 : (w3.drewN d4).cell? ⟨w2.heap.size, 0, none⟩ = some (.slice (A' 0) (l 0).length (c' 0)) := x0
    have y1 : (w3.drewN d4).cell? ⟨w2.heap.size, 1, none⟩ = some (.slice (A' 1) (l 1).length (c' 1)) := x1
    have y2 : (w3.drewN d4).cell? ⟨w2.heap.size, 2, none⟩ = some (.slice (A' 2) (l 2).length (c' 2)) := x2
    have y3 : (w3.drewN d4).cell? ⟨w2.heap.size, 3, none⟩ = some (.slice (A' 3) (l 3).length (c' 3)) := x3
    have HV4 := Lib.hid (And.intro (below_drewN HV3.out.1 d4) (below_drewN HV3.out.2.1 d4))
    have hsum : ((l 0).length : Int) + ((l 1).length : Int) + ((l 2).length : Int) = (bs.length : Int) := by omega
    have z0 : (0 : Int) ≤ ((l 0).length : Int) := by omega
    have z1 : (0 : Int) ≤ ((l 1).length : Int) := by omega
    have z2 : (0 : Int) ≤ ((l 2).length : Int) := by omega
    clear x0 x1 x2 x3 HV3 hlen
    generalize w3.drewN d4 = w4 at *
    go_wp2_with fail
    have KD2 := b2dec_ans (A := A') (c := c') (size := (bs.length : Int) + 1 + (m : Int)) (ans := none) (HV.out.1.below (HV4.out.2)) (by omega) (holds_other HH.out.2 (by omega))
    unfold fourA at KD2
    refine KD2.mono ?_
    rintro e w5 ⟨hb5, hh⟩
    rcases hh with ⟨_, rfl⟩ | ⟨out, O2, co2, ho, _, _⟩
    case' inr => cases ho
    clear KD2 y0 y1 y2 y3
    have HV5 := Lib.hid (And.intro (HV4.out.1.trans (hb5.mono HV4.out.1.size)) (HV4.out.2.trans (hb5.mono HV4.out.2.size)))
    obtain ⟨y0, y1, y2, y3⟩ := HXS.out w5 HV5.out.2
    clear hb5 HV4
    go_wp2_with fail
    obtain ⟨an, han⟩ : ∃ an, an = ansD l ((bs.length : Int) - 1 - (m : Int)).toNat := ⟨_, rfl⟩
    have KD3 := b2dec_ans (A := A') (c := c') (size := (bs.length : Int) - 1 - (m : Int)) (ans := an) (HV.out.1.below (HV5.out.2)) (by omega) han.symm
    unfold fourA at KD3
    refine KD3.mono ?_
    rintro e w6 ⟨hb6, hh⟩
    have HV6 := Lib.hid (HV5.out.1.trans (hb6.mono HV5.out.1.size))
    clear KD3 hb6 HV5 y0 y1 y2 y3
    rcases hh with ⟨_, rfl⟩ | ⟨out, O2, co2, ho, rfl, _⟩
    · clear han
      go_wp2_with fail
      go_ret
      exact ⟨rfl, HV6.out⟩
    · have hz : bs.length = 0 := by
        rcases Nat.eq_zero_or_pos bs.length with h | h
        · exact h
        · rw [han, holds_other HH.out.2 (by omega)] at ho
          cases ho
      have hzi : (bs.length : Int) = 0 := by omega
      clear han ho
      go_wp2_with fail
      go_ret
      exact ⟨rfl, HV6.out⟩
end Go.Proofs.Ytdnkoeafnnohnaa
