/-
  The law DeltaFlows: its walk.
-/
import Derived.Test.YtnmihkimkbiakaaDlFil
namespace Go.Proofs.Ytnmihkimkbiakaa
set_option linter.unusedVariables false
set_option linter.unusedSimpArgs false
open Go.RowKit

theorem feed_at {w w' : World} {g lo k : Nat} {bs : List UInt8} (h : Feed w g lo bs k) (hb : Below w.heap.size w w') : Feed w' g lo bs k := h.only (Only.of_below (S := fun _ => False) hb) (fun _ h => absurd h id)
theorem w_nat {t : Nat} (h : t ≤ 1000) : wrap64 (t : Int) = (t : Int) := IntWalk.wrap64_in _ (by omega)
theorem w_next {t r : Nat} (h : r = t + 1) (ht : t ≤ 1000) : wrap64 (1 + (t : Int)) = (r : Int) := by
  rw [show 1 + (t : Int) = (r : Int) by omega]
  exact IntWalk.wrap64_in _ (by omega)
set_option maxRecDepth 100000 in
set_option maxHeartbeats 8000000 in
theorem deltaFlows_walk {A : Option Addr} {n c m o : Nat} {bs : List UInt8} {w : World} (hS : Sl w A n (bv bs)) (hnc : n ≤ c) (hc : c ≤ maxLen) (hm : m < 2 ^ 8) (ho : o < 2 ^ 8) :
    Calls Try.prog 5 #[.slice A n c, .int .u8 (m : Int), .int .u8 (o : Int)] w fun e w' => e = .returned (.bool true) ∧ Below w.heap.size w w' := by
  unfold maxLen at hc
  have HS := Lib.hid hS
  have KA := Lib.hid (awake13_any w)
  have hbl : bs.length = n := by rw [← bv_length]; exact hS.1
  by_cases h1 : (n : Int) > 16384
  · clear hS hnc hc hm ho
    go_enter Try.func5, Try.ntmps5
    go_wp2_with fail
    refine KA.out.mono ?_
    rintro e w1 ⟨rfl, hb⟩
    have HB := Lib.hid hb
    clear hb
    go_wp2_with fail
    go_ret
    exact ⟨rfl, HB.out⟩
  obtain ⟨d, hd⟩ : ∃ d : Nat, d = m + 1 := ⟨_, rfl⟩
  have hmay : mayD (d : Int) = true := decide_eq_true (by omega)
  obtain ⟨t, ht⟩ : ∃ t, t = o % 5 := ⟨_, rfl⟩
  obtain ⟨r, hr⟩ : ∃ r, r = t + 1 := ⟨_, rfl⟩
  have HD := Lib.hid (And.intro hmay (And.intro (show 0 < d by omega) (And.intro hbl (show n ≤ 16384 by omega))))
  have HR := Lib.hid (show r ≤ 5 by omega)
  have HRT := Lib.hid hr
  have HN9 := Lib.hid (show n ≤ 1000000000 by omega)
  have e0 : wrap64 (m : Int) = (m : Int) := IntWalk.wrap64_in _ (by omega)
  have e1 : wrap64 ((m : Int) + 1) = (d : Int) := by rw [IntWalk.wrap64_in _ (by omega)]; omega
  have HE := Lib.hid (And.intro e0 e1)
  clear e0 e1
  have f0 : ((o : Int) % 5) = (t : Int) := by omega
  have f1 : (o : Int).tmod 5 = (t : Int) := by rw [Int.tmod_eq_emod_of_nonneg (by omega)]; exact f0
  have ht5 : t ≤ 1000 := by omega
  have f2 : wrap64 (t : Int) = (t : Int) := w_nat ht5
  have f3 : wrap64 (1 + (t : Int)) = (r : Int) := w_next hr ht5
  have HF := Lib.hid (And.intro f0 (And.intro f1 (And.intro f2 f3)))
  clear hS hnc hc hm ho hbl hd hmay hr f0 f1 f2 f3 ht ht5
  go_enter Try.func5, Try.ntmps5
  go_wp2_with fail
  refine KA.out.mono ?_
  rintro e w1 ⟨rfl, hb⟩
  have HB := Lib.hid hb
  have e0 := HE.out.1
  have e1 := HE.out.2
  clear hb KA
  go_wp2_with fail
  refine (newFeed_any (c := c) (HS.out.below HB.out) HN9.out).mono ?_
  rintro e w2 ⟨f, rfl, hf, hF, b2⟩
  have HB2 := Lib.hid (HB.out.trans (b2.mono HB.out.size))
  have HF2 := Lib.hid hF
  have HW := Lib.hid (And.intro HB.out.size hf)
  have KN := dnew_any (w := w2) (f := f) HD.out.1
  unfold fdV at KN
  have KN := Lib.hid KN
  clear hF b2 hf HB
  go_wp2_with fail
  clear e0 e1
  refine KN.out.mono ?_
  rintro e w3 ⟨rfl, cs3, h3, h30, h3r, b3⟩
  have hfg := HF2.out.lt
  have HX3 := Lib.hid (show Fil w3 w2.heap.size f w1.heap.size d bs (decN d bs) 0 cs3 from ⟨h3, h30, h3r _, feed_at HF2.out b3, hfg⟩)
  have HB3 := Lib.hid (HB2.out.trans (b3.mono HB2.out.size))
  obtain ⟨g, hg⟩ : ∃ g, g = w2.heap.size := ⟨_, rfl⟩
  have HG := Lib.hid (And.intro (show w.heap.size ≤ f by have := HW.out; omega) (And.intro (show f < g by omega) (show g < w3.heap.size by rw [hg]; exact h3.lt)))
  rw [← hg] at HX3
  rw [← hg]
  have K4 := Lib.hid (rdecode_any (c := c) (d := d) (HS.out.below HB3.out) (by have := HD.out; omega) HD.out.1)
  clear h3 h30 h3r b3 hfg hg HB2 HF2 HW KN
  go_wp2_with fail
  refine K4.out.mono ?_
  rintro e w4 ⟨A4, c4, rfl, h4, h4b, b4⟩
  have HB4 := Lib.hid (HB3.out.trans (b4.mono HB3.out.size))
  have HX4 := Lib.hid (show Fil w4 g f w1.heap.size d bs (decN d bs) 0 cs3 from ⟨HX3.out.b.below b4, HX3.out.c0, HX3.out.ring, feed_at HX3.out.feed b4, HX3.out.lt⟩)
  have H4 := Lib.hid h4
  have H4B := Lib.hid (show 0 < n → ∀ b o, A4 = some ⟨b, o, none⟩ → ¬ own2 f g b from fun _ b o e h => by
    have := h4b b o e
    have := HG.out
    rcases h with h | h <;> omega)
  clear h4 h4b b4 K4 HX3 HB3
  go_wp2_with fail
  go_loopw [12] (fun v wr => ∃ (j : Nat) (cs : Array Value), j ≤ n ∧ v = .int .i64 (j : Int) ∧ Fil wr g f w1.heap.size d bs (decN d bs) j cs ∧ Only (own2 f g) w4 wr) (fun v _ => n - (intOf v).toNat)
  case atStart => exact ⟨0, cs3, Nat.zero_le _, rfl, HX4.out, Only.refl _ _⟩
  case round =>
    clear HX4
    obtain ⟨j, cs, hj, rfl, hX, hO⟩ := hrel
    have HX := Lib.hid hX
    have HO := Lib.hid hO
    by_cases hlt : j < n
    · have K := Lib.hid (filNext_more hX (show j < bs.length by have := HD.out; omega) rfl)
      have i0 : (0 : Int) ≤ (j : Int) := by omega
      have i1 : (j : Int) < (n : Int) := by omega
      have e1 : wrap64 ((j : Int) + 1) = (j : Int) + 1 := IntWalk.wrap64_in _ (by have := HD.out; omega)
      have HLT := Lib.hid hlt
      have HE1 := Lib.hid e1
      clear hX hO hlt hj e1
      go_wp2_with fail
      refine K.out.mono ?_
      rintro e w5 ⟨rfl, cs5, h5, o5⟩
      have HX5 := Lib.hid h5
      have HO5 := Lib.hid (HO.out.trans o5)
      have hs := H4.out.only HO5.out H4B.out
      obtain ⟨ba, oa, rfl, hba, hca⟩ := hs.2 (by have := HLT.out; omega)
      have k1 : w5.cell? ⟨ba, oa + j, none⟩ = some (.int .u8 (((decN d bs).getD j 0).toNat : Int)) := by rw [hca j HLT.out, bv_get _ _ (by rw [decN_len]; have := HD.out; have := HLT.out; omega)]
      have e1 := HE1.out
      generalize (decN d bs).getD j 0 = y at *
      clear h5 o5 hs hba hca K
      go_wp2_with fail
      go_roundw
      case rel => exact ⟨j + 1, cs5, HLT.out, by go_num, HX5.out, HO5.out⟩
      case measure => first | exact meas_step HLT.out | (rw [e1]; exact meas_step HLT.out)
    · obtain rfl : j = n := by omega
      have hbl := HD.out.2.2.1
      have HX := Lib.hid (show Fil wr g f w1.heap.size d bs (decN d bs) bs.length cs by rw [hbl]; exact hX)
      clear hX hO hlt hj hbl
      go_wp2_with fail
      go_loopw [15] (fun v w5 => ∃ (i : Nat) (cs5 : Array Value), i ≤ r ∧ v = .int .i64 (i : Int) ∧ (i = 0 → Fil w5 g f w1.heap.size d bs (decN d bs) bs.length cs5) ∧ (1 ≤ i → Blk w5 g 51 cs5 ∧ cs5[0]? = some .nilIface) ∧ Only (own2 f g) w4 w5) (fun v _ => r - (intOf v).toNat)
      case atStart => exact ⟨0, cs, Nat.zero_le _, rfl, fun _ => HX.out, fun h => absurd h (by decide), HO.out⟩
      case round =>
        clear HX HO
        obtain ⟨i, cs5, hi, rfl, hi0, hi1, hO⟩ := hrel
        have HO := Lib.hid hO
        by_cases hlt : i < r
        · have K : Calls Try.prog 19 #[.pointer (some ⟨g, 0, none⟩)] wr fun e w' => e = .returned (.tuple #[.int .u8 0, .bool false]) ∧ ∃ cs', Blk w' g 51 cs' ∧ cs'[0]? = some .nilIface ∧ Only (own2 f g) wr w' := by
            rcases Nat.eq_zero_or_pos i with h0 | h0
            · refine (filNext_end (hi0 h0)).mono ?_
              rintro e w' ⟨rfl, a1, a2⟩
              exact ⟨rfl, _, a1, by rw [Array.getElem?_setIfInBounds, if_pos rfl, if_pos (by have := (hi0 h0).ring.size; omega)], a2⟩
            · refine (filNext_nil (hi1 h0).1 (hi1 h0).2).mono ?_
              rintro e w' ⟨rfl, rfl⟩
              exact ⟨rfl, _, (hi1 h0).1, (hi1 h0).2, Only.refl _ _⟩
          have K := Lib.hid K
          have i1 : (i : Int) < (r : Int) := by omega
          have i2 : (i : Int) < 1 + (t : Int) := by have := HRT.out; omega
          have e1 : wrap64 ((i : Int) + 1) = (i : Int) + 1 := IntWalk.wrap64_in _ (by have := HR.out; omega)
          have f0 := HF.out.1
          have f1 := HF.out.2.1
          have f2 := HF.out.2.2.1
          have f3 := HF.out.2.2.2
          have HLT := Lib.hid hlt
          clear hi0 hi1 hO hlt hi
          go_wp2_with fail
          refine K.out.mono ?_
          rintro e w6 ⟨rfl, cs6, h6, h60, o6⟩
          have HX6 := Lib.hid (And.intro h6 h60)
          have HO6 := Lib.hid (HO.out.trans o6)
          clear h6 h60 o6 K HO
          go_wp2_with fail
          go_roundw
          case rel => exact ⟨i + 1, cs6, HLT.out, by go_num, fun h => absurd h (Nat.succ_ne_zero i), fun _ => HX6.out, HO6.out⟩
          case measure => first | exact meas_step HLT.out | (rw [e1]; exact meas_step HLT.out)
        · obtain rfl : i = r := by omega
          have i1 : ¬ (i : Int) < (i : Int) := by omega
          have i2 : ¬ (i : Int) < 1 + (t : Int) := by have := HRT.out; omega
          have hB : Below w.heap.size w wr := HB4.out.trans (hO.below (Nat.le_trans HB4.out.size (Nat.le_refl _)) (fun k hk => by have := HG.out; rcases hk with hk | hk <;> omega))
          have HB5 := Lib.hid hB
          have f0 := HF.out.1
          have f1 := HF.out.2.1
          have f2 := HF.out.2.2.1
          have f3 := HF.out.2.2.2
          clear hi0 hi1 hO hlt hi hB HO
          go_wp2_with fail
          refine (newFeed_any (c := c) (HS.out.below HB5.out) HN9.out).mono ?_
          rintro e w6 ⟨f6, rfl, _, _, b6⟩
          have HB6 := Lib.hid (HB5.out.trans (b6.mono HB5.out.size))
          clear b6 HB5
          go_wp2_with fail
          refine (dnewBad_any (d := 0) (by decide)).mono ?_
          rintro e w7 ⟨rfl, rfl⟩
          go_wp2_with fail
          refine (newFeed_any (c := c) (HS.out.below HB6.out) HN9.out).mono ?_
          rintro e w7 ⟨f7, rfl, _, _, b7⟩
          have HB7 := Lib.hid (HB6.out.trans (b7.mono HB6.out.size))
          clear b7 HB6
          go_wp2_with fail
          refine (dnewBad_any (d := 257) (by decide)).mono ?_
          rintro e w8 ⟨rfl, rfl⟩
          go_wp2_with fail
          go_ret
          exact ⟨rfl, HB7.out⟩
end Go.Proofs.Ytnmihkimkbiakaa
