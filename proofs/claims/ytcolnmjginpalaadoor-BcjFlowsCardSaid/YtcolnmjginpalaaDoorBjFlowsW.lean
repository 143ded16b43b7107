/-
  The law BcjFlows, walked.
-/
import Derived.Test.YtcolnmjginpalaaDoorBjWake
import Derived.Test.YtcolnmjginpalaaDoorBjRfs
import Derived.Test.YtcolnmjginpalaaDoorBjTell
import Derived.Test.YtcolnmjginpalaaDoorSrcLeft
namespace Go.Proofs.YtcolnmjginpalaaDoor
set_option linter.unusedVariables false
set_option linter.unusedSimpArgs false
open Go.RowKit

set_option maxRecDepth 100000 in
set_option maxHeartbeats 2000000 in
theorem bnew_any {w : World} {f lo : Nat} {b : List UInt8} (hF : Feed w f lo b 0) (hT : Tabs w) (h2 : 2 ≤ lo) :
    Calls Tryd.prog 15 #[fdV f] w fun e w' => ∃ g cs, e = .returned (.pointer (some ⟨g, 0, none⟩)) ∧ BF w' g f lo b 0 0 (-1) 0 0 (fdV f) cs [] [] ∧ w.heap.size ≤ g ∧ Below w.heap.size w w' := by
  have KB := Lib.hid (begin_any false w)
  unfold fdV
  have HF := Lib.hid hF
  have HT := Lib.hid (And.intro hT h2)
  clear hF hT h2
  go_enter Tryd.func15, Tryd.ntmps15
  go_wp2_with fail
  refine KB.out.mono ?_
  rintro e w1 ⟨rfl, hb⟩
  have HB := Lib.hid hb
  clear hb KB
  go_wp2_with fail
  go_ret
  have hb1 : Below w.heap.size w (w1.alloc (.cells #[.iface 27 (.pointer (some ⟨f, 0, none⟩)), .bool false, .int .i64 0, .int .i64 (-1), .int .i64 0, .int .u8 0, .int .u8 0, .int .u8 0, .int .u8 0, .int .u8 0, .int .i64 0, .int .i64 0] 49)) := HB.out.alloc HB.out.size _
  refine ⟨w1.heap.size, _, rfl, ⟨Blk.fresh w1 _ _, ⟨rfl, rfl, rfl, rfl, rfl, rfl, fun j hj => absurd hj (Nat.not_lt_zero j), rfl, rfl, Nat.zero_le _⟩, Nat.le_refl _, aged_start, rfl, rfl, fun j hj => absurd hj (Nat.not_lt_zero j), Nat.le_refl _, .inl rfl, ?_, ?_, HT.out.2, HF.out.lo, HT.out.1.below hb1⟩, HB.out.size, hb1⟩
  · exact HF.out.only (Only.of_below (S := fun _ => False) hb1) (fun _ h => absurd h id)
  · have := HF.out.lt
    have := HB.out.size
    omega
theorem flows_left {n D j : Nat} (hD : D ≤ j + 5) (hn : n ≤ 1000000) (hj : j < n) (hDn : D ≤ n) : wrap64 ((n : Int) - ((n : Int) - (D : Int))) = (D : Int) ∧ wrap64 ((j : Int) + 6) = (j : Int) + 6 ∧ ¬ (D : Int) > (j : Int) + 6 ∧ wrap64 ((j : Int) + 1) = (j : Int) + 1 := by
  refine ⟨?_, IntWalk.wrap64_in _ (by omega), by omega, IntWalk.wrap64_in _ (by omega)⟩
  rw [show (n : Int) - ((n : Int) - (D : Int)) = (D : Int) by omega]
  exact IntWalk.wrap64_in _ (by omega)
theorem flows_meas {n j : Nat} (h : j < n) : n - (intOf (Value.int .i64 ((j : Int) + 1))).toNat < n - (intOf (Value.int .i64 (j : Int))).toNat := by
  simp [intOf]
  omega
theorem flows_one {j : Nat} (h : j ≤ 100) : wrap64 ((j : Int) + 1) = (j : Int) + 1 := IntWalk.wrap64_in _ (by omega)
set_option maxRecDepth 100000 in
set_option maxHeartbeats 8000000 in
theorem bcjFlows_walk {A : Option Addr} {n c : Nat} {bs : List UInt8} {w : World} (hS : Sl w A n (bv bs)) (hnc : n ≤ c) (hc : c ≤ maxLen) (hT : Tabs w) :
    Calls Tryd.prog 5 #[.slice A n c] w fun e w' => e = .returned (.bool true) ∧ Below w.heap.size w w' := by
  unfold maxLen at hc
  have hbl : bs.length = n := by rw [← bv_length]; exact hS.1
  have HS := Lib.hid hS
  have HT := Lib.hid hT
  have KA := Lib.hid (awake14_any hT)
  by_cases h1 : (n : Int) > 16384
  · clear hS hnc hc hT hbl
    go_enter Tryd.func5, Tryd.ntmps5
    go_wp2_with fail
    refine KA.out.mono ?_
    rintro e w1 ⟨rfl, hb⟩
    have HB := Lib.hid hb
    clear hb
    go_wp2_with fail
    go_ret
    exact ⟨rfl, HB.out⟩
  have HN := Lib.hid (And.intro (show n ≤ 1000000 by omega) hbl)
  clear hS hnc hc hT hbl
  go_enter Tryd.func5, Tryd.ntmps5
  go_wp2_with fail
  refine KA.out.mono ?_
  rintro e w1 ⟨rfl, hb⟩
  have HB := Lib.hid hb
  clear hb KA
  go_wp2_with fail
  refine (newFeed_any (c := c) (HS.out.below HB.out) (by have := HN.out; omega)).mono ?_
  rintro e w2 ⟨f, rfl, hf, hF, b2⟩
  have HB2 := Lib.hid (HB.out.trans (b2.mono HB.out.size))
  have KN := bnew_any hF (HT.out.below HB2.out) (by have := HT.out.size; have := HB.out.size; omega)
  unfold fdV at KN
  have KN := Lib.hid KN
  have HW := Lib.hid (And.intro HB.out.size (And.intro hf hF.lt))
  clear hF b2 hf
  go_wp2_with fail
  refine KN.out.mono ?_
  rintro e w3 ⟨g, cs3, rfl, hX, hg, b3⟩
  have HX3 := Lib.hid hX
  have HB3 := Lib.hid (HB2.out.trans (b3.mono HB2.out.size))
  have HG := Lib.hid (And.intro (show w.heap.size ≤ f by have := HW.out; omega) (show f < g by have := HW.out; omega))
  have hg3 : g < w3.heap.size := hX.blk.lt
  have HG3 := Lib.hid hg3
  clear hX hg b3 HB2 KN hg3
  go_wp2_with fail
  refine (rDec_any (cp := c) (HS.out.below HB3.out) HN.out.1).mono ?_
  rintro e w4 ⟨A4, c4, rfl, h4, h4b, b4⟩
  have HB4 := Lib.hid (HB3.out.trans (b4.mono HB3.out.size))
  have HX4 := Lib.hid (show BF w4 g f w1.heap.size bs 0 0 (-1) 0 0 (fdV f) cs3 [] [] from ⟨HX3.out.blk.below b4, HX3.out.c, HX3.out.ti, HX3.out.ag, HX3.out.dl, HX3.out.is, HX3.out.wt_is, HX3.out.ile, HX3.out.src, HX3.out.feed.only (Only.of_below (S := fun _ => False) b4) (fun _ h => absurd h id), HX3.out.fg, HX3.out.two, HX3.out.lof, HX3.out.tabs.below b4⟩)
  have H4 := Lib.hid h4
  have H4B := Lib.hid (show 0 < n → ∀ b o, A4 = some ⟨b, o, none⟩ → ¬ own2 f g b from fun _ b o e h => by
    have := h4b b o e
    have := HG.out
    have := HG3.out
    rcases h with h | h <;> omega)
  have HZ4 := Lib.hid b4.size
  clear h4 h4b b4 HX3 HB3
  go_wp2_with fail
  go_loopw [6] (fun v wr => ∃ (j i a : Nat) (l m : Int) (v0 : Value) (cs : Array Value) (wt dn : List UInt8), j ≤ n ∧ v = .int .i64 (j : Int) ∧ BF wr g f w1.heap.size bs j i l m a v0 cs wt dn ∧ Only (own2 f g) w4 wr) (fun v _ => n - (intOf v).toNat)
  case atStart => exact ⟨0, 0, 0, -1, 0, _, cs3, [], [], Nat.zero_le _, rfl, HX4.out, Only.refl _ _⟩
  case round =>
    clear HX4
    obtain ⟨j, i, a, l, m, v0, cs, wt, dn, hj, rfl, hX, hO⟩ := hrel
    have HO := Lib.hid hO
    by_cases hlt : j < n
    · have K := Lib.hid (bnext_any hX (show j < bs.length by have := HN.out; omega) (by have := HN.out; omega))
      have i0 : (0 : Int) ≤ (j : Int) := by omega
      have i1 : (j : Int) < (n : Int) := by omega
      have HLT := Lib.hid hlt
      clear hX hO hlt hj
      go_wp2_with fail
      refine K.out.mono ?_
      rintro e w5 ⟨rfl, i5, a5, l5, m5, v5, cs5, wt5, dn5, h5, hw5, o5⟩
      have HO5 := Lib.hid (HO.out.trans o5)
      have hs := H4.out.only HO5.out H4B.out
      obtain ⟨ba, oa, rfl, hba, hca⟩ := hs.2 (by have := HLT.out; omega)
      have k1 : w5.cell? ⟨ba, oa + j, none⟩ = some (.int .u8 (((gN false 0 0 bs).getD j 0).toNat : Int)) := by rw [hca j HLT.out, bv_get _ _ (by rw [gN_length]; have := HN.out; have := HLT.out; omega)]
      have KL := feedLeft_any h5.feed
      have hle := h5.le
      obtain ⟨D, hD⟩ : ∃ D, D = j + 1 + wt5.length := ⟨_, rfl⟩
      rw [HN.out.2, ← hD] at KL
      have HFL := Lib.hid (flows_left (n := n) (D := D) (j := j) (by omega) HN.out.1 HLT.out (by have := HN.out; omega))
      have KL := Lib.hid KL
      have HX5 := Lib.hid h5
      have vv : ((((gN false 0 0 bs).getD j 0).toNat : Int) != (((gN false 0 0 bs).getD j 0).toNat : Int)) = false := by simp
      generalize (gN false 0 0 bs).getD j 0 = y at *
      have q1 := HFL.out.1
      have q2 := HFL.out.2.1
      have q3 := HFL.out.2.2.1
      have q4 := HFL.out.2.2.2
      clear h5 hw5 o5 hs hba hca K hle hD
      go_wp2_with fail
      refine KL.out.mono ?_
      rintro e w6 ⟨rfl, d6, rfl⟩
      go_wp2_with fail
      have HX6 := Lib.hid (show BF (w5.drewN d6) g f w1.heap.size bs (j + 1) i5 l5 m5 a5 v5 cs5 wt5 dn5 from ⟨HX5.out.blk, HX5.out.c, HX5.out.ti, HX5.out.ag, HX5.out.dl, HX5.out.is, HX5.out.wt_is, HX5.out.ile, HX5.out.src, HX5.out.feed, HX5.out.fg, HX5.out.two, HX5.out.lof, HX5.out.tabs.drewN d6⟩)
      go_roundw
      case rel => exact ⟨j + 1, i5, a5, l5, m5, v5, cs5, wt5, dn5, HLT.out, by first | go_num | (rw [HFL.out.2.2.2]; go_num), HX6.out, HO5.out.drewN d6⟩
      case measure => first | exact flows_meas HLT.out | (rw [HFL.out.2.2.2]; exact flows_meas HLT.out)
    · obtain rfl : j = n := by omega
      have hti := hX.ti
      have hile := hX.ile
      have hle := hX.le
      obtain rfl : i = j := by have := HN.out; omega
      have HX := Lib.hid hX
      clear hX hO hlt hj hti hile hle
      go_wp2_with fail
      go_loopw [9] (fun v w5 => ∃ (t a : Nat) (l m : Int) (v0 : Value) (cs : Array Value) (wt dn : List UInt8), t ≤ 3 ∧ v = .int .i64 (t : Int) ∧ BF w5 g f w1.heap.size bs i i l m a v0 cs wt dn ∧ Only (own2 f g) w4 w5) (fun v _ => 3 - (intOf v).toNat)
      case atStart => exact ⟨0, a, l, m, v0, cs, wt, dn, Nat.zero_le _, rfl, HX.out, HO.out⟩
      case round =>
        clear HX HO
        obtain ⟨t, a, l, m, v0, cs, wt, dn, ht, rfl, hX, hO⟩ := hrel
        have HO := Lib.hid hO
        by_cases hlt : t < 3
        · have K := Lib.hid (bnext_end hX (by have := HN.out; omega))
          have i1 : (t : Int) < 3 := by omega
          have HLT := Lib.hid hlt
          have HE := Lib.hid (flows_one (j := t) (by omega))
          have q4 := HE.out
          clear hX hO hlt ht
          go_wp2_with fail
          refine K.out.mono ?_
          rintro e w6 ⟨rfl, a6, l6, m6, v6, cs6, wt6, dn6, h6, o6⟩
          have HX6 := Lib.hid h6
          have HO6 := Lib.hid (HO.out.trans o6)
          clear h6 o6 K HO
          go_wp2_with fail
          go_roundw
          case rel => exact ⟨t + 1, a6, l6, m6, v6, cs6, wt6, dn6, HLT.out, by first | go_num | (rw [HE.out]; go_num), HX6.out, HO6.out⟩
          case measure => first | exact flows_meas HLT.out | (rw [HE.out]; exact flows_meas HLT.out)
        · have i1 : ¬ (t : Int) < 3 := by omega
          have hB : Below w.heap.size w wr := HB4.out.trans (hO.below (Nat.le_trans HB4.out.size (Nat.le_refl _)) (fun k hk => by have := HG.out; rcases hk with hk | hk <;> omega))
          have HB5 := Lib.hid hB
          clear hX hO hlt ht hB HO
          go_wp2_with fail
          go_ret
          exact ⟨rfl, HB5.out⟩
end Go.Proofs.YtcolnmjginpalaaDoor
