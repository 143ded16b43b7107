/-
  The law BcjStays, walked.
-/
import Derived.Test.YtcolnmjginpalaaDoorBjWake
namespace Go.Proofs.YtcolnmjginpalaaDoor
set_option linter.unusedVariables false
set_option linter.unusedSimpArgs false
open Go.RowKit

theorem stays_far {c : Bool} {b : List UInt8} {j s : Nat} (hs : 4 < s) (h : ∀ t, t < j → j < t + s → mkB (b.getD t 0) = false) : (gN c 0 0 b).getD j 0 = b.getD j 0 :=
  gN_stays c _ 0 0 b rfl j fun t h1 h2 => h t h1 (by omega)
theorem stays_next {b : List UInt8} {j s : Nat} (h : ∀ t, t < j → j < t + s → mkB (b.getD t 0) = false) (hm : mkB (b.getD j 0) = false) : ∀ t, t < j + 1 → j + 1 < t + (s + 1) → mkB (b.getD t 0) = false := fun t h1 h2 => by
  by_cases e : t = j
  · rw [e]; exact hm
  · exact h t (by omega) (by omega)
theorem stays_meas {n j : Nat} (h : j < n) : n - (intOf (Value.int .i64 ((j : Int) + 1))).toNat < n - (intOf (Value.int .i64 (j : Int))).toNat := by
  simp [intOf]
  omega
theorem mark_cases (y : UInt8) : (mkB y = true ∧ ((y.toNat : Int) == 232) = true) ∨ (mkB y = true ∧ ((y.toNat : Int) == 232) = false ∧ ((y.toNat : Int) == 233) = true) ∨ (mkB y = false ∧ ((y.toNat : Int) == 232) = false ∧ ((y.toNat : Int) == 233) = false) := by
  by_cases h1 : y.toNat = 232
  · refine .inl ⟨?_, by simp; omega⟩
    unfold mkB
    rw [show y = 232 from UInt8.toNat_inj.1 h1]
    rfl
  · by_cases h2 : y.toNat = 233
    · refine .inr (.inl ⟨?_, by simp; omega, by simp; omega⟩)
      unfold mkB
      rw [show y = 233 from UInt8.toNat_inj.1 h2]
      rfl
    · refine .inr (.inr ⟨?_, by simp; omega, by simp; omega⟩)
      unfold mkB
      rw [Bool.or_eq_false_iff, beq_eq_false_iff_ne, beq_eq_false_iff_ne]
      exact ⟨fun h => h1 (by rw [h]; rfl), fun h => h2 (by rw [h]; rfl)⟩
set_option maxRecDepth 100000 in
set_option maxHeartbeats 8000000 in
theorem bcjStays_walk {A : Option Addr} {n c : Nat} {bs : List UInt8} {w : World} (hS : Sl w A n (bv bs)) (hnc : n ≤ c) (hc : c ≤ maxLen) (hT : Tabs w) :
    Calls Tryd.prog 6 #[.slice A n c] w fun e w' => e = .returned (.bool true) ∧ Below w.heap.size w w' := by
  unfold maxLen at hc
  have hbl : bs.length = n := by rw [← bv_length]; exact hS.1
  have HS := Lib.hid hS
  have HT := Lib.hid hT
  have KA := Lib.hid (awake14_any hT)
  by_cases h1 : (n : Int) > 16384
  · clear hS hnc hc hT hbl
    go_enter Tryd.func6, Tryd.ntmps6
    go_wp2_with fail
    refine KA.out.mono ?_
    rintro e w1 ⟨rfl, hb⟩
    have HB := Lib.hid hb
    clear hb
    go_wp2_with fail
    go_ret
    exact ⟨rfl, HB.out⟩
  have HN := Lib.hid (And.intro (show n ≤ 1000000 by omega) hbl)
  clear hS hnc hc hT hbl
  go_enter Tryd.func6, Tryd.ntmps6
  go_wp2_with fail
  refine KA.out.mono ?_
  rintro e w1 ⟨rfl, hb⟩
  have HB := Lib.hid hb
  clear hb KA
  go_wp2_with fail
  refine (bDecode_any (cp := c) (HS.out.below HB.out) HN.out.1 (HT.out.below HB.out)).mono ?_
  rintro e w2 ⟨qx, rfl, h2, _, b2⟩
  have HX := Lib.hid h2
  have HB2 := Lib.hid (HB.out.trans (b2.mono HB.out.size))
  clear h2 b2 HB
  go_wp2_with fail
  refine (bCode_any (cp := c) (HS.out.below HB2.out) HN.out.1 (HT.out.below HB2.out)).mono ?_
  rintro e w3 ⟨qy, rfl, h3, _, b3⟩
  have HX := Lib.hid (HX.out.below b3)
  have HY := Lib.hid h3
  have HB3 := Lib.hid (HB2.out.trans (b3.mono HB2.out.size))
  have HS := Lib.hid (HS.out.below HB3.out)
  clear h3 b3 HB2
  go_wp2_with fail
  go_loopw [5, 6] (fun sv iv wr => ∃ j s k : Nat, j ≤ n ∧ s ≤ j + 9 ∧ iv = .int .i64 (j : Int) ∧ sv = .int .i64 (s : Int) ∧ Hid (∀ t, t < j → j < t + s → mkB (bs.getD t 0) = false) ∧ wr = w3.drewN k) (fun _ iv _ => n - (intOf iv).toNat)
  case atStart => exact ⟨0, 9, 0, Nat.zero_le _, Nat.le_refl _, rfl, rfl, Lib.hid (fun t h => absurd h (Nat.not_lt_zero t)), rfl⟩
  case round =>
    obtain ⟨j, s, k, hj, hsj, rfl, rfl, HM, rfl⟩ := hrel
    by_cases hlt : j < n
    · obtain ⟨ba, oa, rfl, hba, hca⟩ := HS.out.2 (by omega)
      have kb : w3.cell? ⟨ba, oa + j, none⟩ = some (.int .u8 ((bs.getD j 0).toNat : Int)) := by rw [hca j hlt, bv_get bs j (by have := HN.out; omega)]
      have kx : w3.cell? ⟨qx, j, none⟩ = some (.int .u8 (((gN false 0 0 bs).getD j 0).toNat : Int)) := by
        obtain ⟨b', o', e', _, hc'⟩ := HX.out.2 (by omega)
        injection e' with e'
        injection e' with e1 e2
        subst e1 e2
        have := hc' j hlt
        rw [Nat.zero_add] at this
        rw [this, bv_get _ j (by rw [gN_length]; have := HN.out; omega)]
      have ky : w3.cell? ⟨qy, j, none⟩ = some (.int .u8 (((gN true 0 0 bs).getD j 0).toNat : Int)) := by
        obtain ⟨b', o', e', _, hc'⟩ := HY.out.2 (by omega)
        injection e' with e'
        injection e' with e1 e2
        subst e1 e2
        have := hc' j hlt
        rw [Nat.zero_add] at this
        rw [this, bv_get _ j (by rw [gN_length]; have := HN.out; omega)]
      have HFX := Lib.hid (fun (h : 4 < s) => stays_far (c := false) h HM.out)
      have HFY := Lib.hid (fun (h : 4 < s) => stays_far (c := true) h HM.out)
      have HSX := Lib.hid (fun (h : n < 5) => show (gN false 0 0 bs).getD j 0 = bs.getD j 0 by rw [gN_short false bs 0 0 (by have := HN.out; omega)])
      have HNX := Lib.hid (fun hm => stays_next HM.out hm)
      have hmk := mark_cases (bs.getD j 0)
      have i0 : (0 : Int) ≤ (j : Int) := by omega
      have i1 : (j : Int) < (n : Int) := by omega
      have HLT := Lib.hid (And.intro hlt hsj)
      have HE := Lib.hid (And.intro (show wrap64 ((j : Int) + 1) = (j : Int) + 1 from IntWalk.wrap64_in _ (by have := HN.out; omega)) (show wrap64 ((s : Int) + 1) = (s : Int) + 1 from IntWalk.wrap64_in _ (by have := HN.out; omega)))
      generalize (gN false 0 0 bs).getD j 0 = x at *
      generalize (gN true 0 0 bs).getD j 0 = y at *
      clear hca hba hj hsj hlt
      obtain ⟨v, hv⟩ : ∃ v, bs.getD j 0 = v := ⟨_, rfl⟩
      rw [hv] at kb HFX HFY HSX HNX hmk
      clear hv
      by_cases h4 : 4 < s
      · have hxv : x = v := HFX.out h4
        have hyv : y = v := HFY.out h4
        rw [hxv] at kx
        rw [hyv] at ky
        clear hxv hyv HFX HFY HSX
        by_cases h5 : n < 5
        · as_aux_lemma =>
          have gs : (s : Int) > 4 := by omega
          have gs2 : decide ((4 : Int) < (s : Int)) = true := by simp; omega
          have gs3 : decide (4 < s) = true := by simp; omega
          have gn : (n : Int) < 5 := by omega
          have gn2 : decide ((n : Int) < 5) = true := by simp; omega
          have gn3 : decide (n < 5) = true := by simp; omega
          have vv : ((v.toNat : Int) != (v.toNat : Int)) = false := by simp
          clear h4 h5
          go_wp2_with fail
          go_quiet (fail)
          clear gs gs2 gs3 gn gn2 gn3 vv
          rcases hmk with ⟨m1, m2⟩ | ⟨m1, m2, m3⟩ | ⟨m1, m2, m3⟩
          · clear m1
            have e1 := HE.out.1
            have e2 := HE.out.2
            go_wp2_with fail
            go_roundw
            case rel => exact ⟨j + 1, 1, _, HLT.out.1, by omega, by first | go_num | (rw [HE.out.1]; go_num), rfl, Lib.hid (fun t h1 h2 => absurd h2 (by omega)), by first | rfl | exact World.drewN_drewN _ _ _⟩
            case measure => first | exact stays_meas HLT.out.1 | (rw [HE.out.1]; exact stays_meas HLT.out.1)
          · clear m1
            have e1 := HE.out.1
            have e2 := HE.out.2
            go_wp2_with fail
            go_roundw
            case rel => exact ⟨j + 1, 1, _, HLT.out.1, by omega, by first | go_num | (rw [HE.out.1]; go_num), rfl, Lib.hid (fun t h1 h2 => absurd h2 (by omega)), by first | rfl | exact World.drewN_drewN _ _ _⟩
            case measure => first | exact stays_meas HLT.out.1 | (rw [HE.out.1]; exact stays_meas HLT.out.1)
          · have HNM := Lib.hid (HNX.out m1)
            clear m1
            have e1 := HE.out.1
            have e2 := HE.out.2
            go_wp2_with fail
            go_roundw
            case rel => exact ⟨j + 1, s + 1, _, HLT.out.1, by have := HLT.out.2; omega, by first | go_num | (rw [HE.out.1]; go_num), by first | go_num | (rw [HE.out.2]; go_num), Lib.hid HNM.out, by first | rfl | exact World.drewN_drewN _ _ _⟩
            case measure => first | exact stays_meas HLT.out.1 | (rw [HE.out.1]; exact stays_meas HLT.out.1)
        · as_aux_lemma =>
          have gs : (s : Int) > 4 := by omega
          have gs2 : decide ((4 : Int) < (s : Int)) = true := by simp; omega
          have gs3 : decide (4 < s) = true := by simp; omega
          have gn : ¬ (n : Int) < 5 := by omega
          have gn2 : decide ((n : Int) < 5) = false := by simp; omega
          have gn3 : decide (n < 5) = false := by simp; omega
          have vv : ((v.toNat : Int) != (v.toNat : Int)) = false := by simp
          clear h4 h5
          go_wp2_with fail
          go_quiet (fail)
          clear gs gs2 gs3 gn gn2 gn3 vv
          rcases hmk with ⟨m1, m2⟩ | ⟨m1, m2, m3⟩ | ⟨m1, m2, m3⟩
          · clear m1
            have e1 := HE.out.1
            have e2 := HE.out.2
            go_wp2_with fail
            go_roundw
            case rel => exact ⟨j + 1, 1, _, HLT.out.1, by omega, by first | go_num | (rw [HE.out.1]; go_num), rfl, Lib.hid (fun t h1 h2 => absurd h2 (by omega)), by first | rfl | exact World.drewN_drewN _ _ _⟩
            case measure => first | exact stays_meas HLT.out.1 | (rw [HE.out.1]; exact stays_meas HLT.out.1)
          · clear m1
            have e1 := HE.out.1
            have e2 := HE.out.2
            go_wp2_with fail
            go_roundw
            case rel => exact ⟨j + 1, 1, _, HLT.out.1, by omega, by first | go_num | (rw [HE.out.1]; go_num), rfl, Lib.hid (fun t h1 h2 => absurd h2 (by omega)), by first | rfl | exact World.drewN_drewN _ _ _⟩
            case measure => first | exact stays_meas HLT.out.1 | (rw [HE.out.1]; exact stays_meas HLT.out.1)
          · have HNM := Lib.hid (HNX.out m1)
            clear m1
            have e1 := HE.out.1
            have e2 := HE.out.2
            go_wp2_with fail
            go_roundw
            case rel => exact ⟨j + 1, s + 1, _, HLT.out.1, by have := HLT.out.2; omega, by first | go_num | (rw [HE.out.1]; go_num), by first | go_num | (rw [HE.out.2]; go_num), Lib.hid HNM.out, by first | rfl | exact World.drewN_drewN _ _ _⟩
            case measure => first | exact stays_meas HLT.out.1 | (rw [HE.out.1]; exact stays_meas HLT.out.1)
      · by_cases h5 : n < 5
        · as_aux_lemma =>
          have hxv : x = v := HSX.out h5
          rw [hxv] at kx
          clear hxv HFX HFY HSX
          have gs : ¬ (s : Int) > 4 := by omega
          have gs2 : decide ((4 : Int) < (s : Int)) = false := by simp; omega
          have gs3 : decide (4 < s) = false := by simp; omega
          have gn : (n : Int) < 5 := by omega
          have gn2 : decide ((n : Int) < 5) = true := by simp; omega
          have gn3 : decide (n < 5) = true := by simp; omega
          have vv : ((v.toNat : Int) != (v.toNat : Int)) = false := by simp
          clear h4 h5
          go_wp2_with fail
          go_quiet (fail)
          clear gs gs2 gs3 gn gn2 gn3 vv
          rcases hmk with ⟨m1, m2⟩ | ⟨m1, m2, m3⟩ | ⟨m1, m2, m3⟩
          · clear m1
            have e1 := HE.out.1
            have e2 := HE.out.2
            go_wp2_with fail
            go_roundw
            case rel => exact ⟨j + 1, 1, _, HLT.out.1, by omega, by first | go_num | (rw [HE.out.1]; go_num), rfl, Lib.hid (fun t h1 h2 => absurd h2 (by omega)), by first | rfl | exact World.drewN_drewN _ _ _⟩
            case measure => first | exact stays_meas HLT.out.1 | (rw [HE.out.1]; exact stays_meas HLT.out.1)
          · clear m1
            have e1 := HE.out.1
            have e2 := HE.out.2
            go_wp2_with fail
            go_roundw
            case rel => exact ⟨j + 1, 1, _, HLT.out.1, by omega, by first | go_num | (rw [HE.out.1]; go_num), rfl, Lib.hid (fun t h1 h2 => absurd h2 (by omega)), by first | rfl | exact World.drewN_drewN _ _ _⟩
            case measure => first | exact stays_meas HLT.out.1 | (rw [HE.out.1]; exact stays_meas HLT.out.1)
          · have HNM := Lib.hid (HNX.out m1)
            clear m1
            have e1 := HE.out.1
            have e2 := HE.out.2
            go_wp2_with fail
            go_roundw
            case rel => exact ⟨j + 1, s + 1, _, HLT.out.1, by have := HLT.out.2; omega, by first | go_num | (rw [HE.out.1]; go_num), by first | go_num | (rw [HE.out.2]; go_num), Lib.hid HNM.out, by first | rfl | exact World.drewN_drewN _ _ _⟩
            case measure => first | exact stays_meas HLT.out.1 | (rw [HE.out.1]; exact stays_meas HLT.out.1)
        · as_aux_lemma =>
          clear HFX HFY HSX
          have gs : ¬ (s : Int) > 4 := by omega
          have gs2 : decide ((4 : Int) < (s : Int)) = false := by simp; omega
          have gs3 : decide (4 < s) = false := by simp; omega
          have gn : ¬ (n : Int) < 5 := by omega
          have gn2 : decide ((n : Int) < 5) = false := by simp; omega
          have gn3 : decide (n < 5) = false := by simp; omega
          have vv : ((v.toNat : Int) != (v.toNat : Int)) = false := by simp
          clear h4 h5
          go_wp2_with fail
          go_quiet (fail)
          clear gs gs2 gs3 gn gn2 gn3 vv
          rcases hmk with ⟨m1, m2⟩ | ⟨m1, m2, m3⟩ | ⟨m1, m2, m3⟩
          · clear m1
            have e1 := HE.out.1
            have e2 := HE.out.2
            go_wp2_with fail
            go_roundw
            case rel => exact ⟨j + 1, 1, _, HLT.out.1, by omega, by first | go_num | (rw [HE.out.1]; go_num), rfl, Lib.hid (fun t h1 h2 => absurd h2 (by omega)), by first | rfl | exact World.drewN_drewN _ _ _⟩
            case measure => first | exact stays_meas HLT.out.1 | (rw [HE.out.1]; exact stays_meas HLT.out.1)
          · clear m1
            have e1 := HE.out.1
            have e2 := HE.out.2
            go_wp2_with fail
            go_roundw
            case rel => exact ⟨j + 1, 1, _, HLT.out.1, by omega, by first | go_num | (rw [HE.out.1]; go_num), rfl, Lib.hid (fun t h1 h2 => absurd h2 (by omega)), by first | rfl | exact World.drewN_drewN _ _ _⟩
            case measure => first | exact stays_meas HLT.out.1 | (rw [HE.out.1]; exact stays_meas HLT.out.1)
          · have HNM := Lib.hid (HNX.out m1)
            clear m1
            have e1 := HE.out.1
            have e2 := HE.out.2
            go_wp2_with fail
            go_roundw
            case rel => exact ⟨j + 1, s + 1, _, HLT.out.1, by have := HLT.out.2; omega, by first | go_num | (rw [HE.out.1]; go_num), by first | go_num | (rw [HE.out.2]; go_num), Lib.hid HNM.out, by first | rfl | exact World.drewN_drewN _ _ _⟩
            case measure => first | exact stays_meas HLT.out.1 | (rw [HE.out.1]; exact stays_meas HLT.out.1)
    · obtain rfl : j = n := by omega
      have HK := Lib.hid (below_drewN HB3.out k)
      clear hj hsj hlt
      go_wp2_with fail
      go_ret
      exact ⟨rfl, HK.out⟩
end Go.Proofs.YtcolnmjginpalaaDoor
