/-
  The law PrcWithin, over what the program's decoder owes.
-/
import Derived.Test.YtkjhdpfomofggaaPrCon
import Derived.LoopTactic
namespace Go.Proofs.Ytkjhdpfomofggaa
open Go.RowKit

set_option maxRecDepth 100000 in
set_option maxHeartbeats 16000000 in
theorem prcWithin_walk {Pd : World → Nat → Nat → (Nat → Prop) → List UInt8 → Dc → Prop} (D : DecCon Pd) (Aw : AwakeCon) {A : Option Addr} {n c : Nat} {bs : List UInt8} {B : Option Addr} {m mc : Nat} {qs : Nat → Shr} {w : World} (hS : Sl w A n (bv bs)) (hn : n ≤ maxLen) (hB : Shrs w B m qs) (hqs : ∀ i, i < m → ShrLit (qs i)) (hm : m ≤ maxLen) :
    Calls Try.prog 6 #[.slice A n c, .slice B m mc] w fun e w' => e = .returned (.bool true) ∧ Below w.heap.size w w' := by
  unfold maxLen at hm hn
  have HSC := Lib.hid hB
  have HQS := Lib.hid hqs
  have HS := Lib.hid hS
  have hbl : bs.length = n := by rw [← bv_length]; exact hS.1
  have HBL := Lib.hid hbl
  clear hB hqs hS hbl
  by_cases hbig : n ≤ 65536
  · have hbig' : ¬ (n : Int) > 65536 := by omega
    have HBIG := Lib.hid (show bs.length ≤ 1000000000 by have := HBL.out; omega)
    clear hbig
    go_enter Try.func6, Try.ntmps6
    go_wp2_with fail
    refine (Aw w).mono ?_
    rintro e w1 ⟨rfl, hb⟩
    have HB1 := Lib.hid hb
    have HS1 := Lib.hid (HS.out.below hb)
    have hlo : w.heap.size ≤ w1.heap.size := hb.size
    clear hb
    go_wp2_with fail
    refine (newFeed_any HS1.out (by have := HBL.out; have := HBIG.out; omega)).mono ?_
    rintro e w3 ⟨f, rfl, hf, hF, hb⟩
    have HB3 := Lib.hid (below_trans HB1.out hb)
    have HF3 := Lib.hid hF
    clear hF hb HB1 HS1
    generalize w1.heap.size = lo at *
    go_wp2_with fail
    refine (D.new HF3.out HBIG.out).mono ?_
    rintro e w4 ⟨g, G0, rfl, hP, hG, hb⟩
    have HP4 := Lib.hid hP
    have HG4 := Lib.hid (show ∀ i, G0 i → w.heap.size ≤ i from fun i hi => Nat.le_trans hlo (hG i hi))
    have HB4 := Lib.hid (HB3.out.trans (hb.mono hlo))
    clear hP hG hb HF3 HB3
    go_wp2_with fail
    go_loopw [6] (fun i wr => ∃ (j : Nat) (G : Nat → Prop) (d : Dc), j ≤ m ∧ j ≤ 2000 ∧ i = .int .i64 (j : Int) ∧ Pd wr g f G bs d ∧ DcOk d ∧ (∀ x, G x → w.heap.size ≤ x) ∧ Below w.heap.size w wr) (fun i _ => m - (intOf i).toNat)
    case atStart => exact ⟨0, G0, _, by omega, by omega, rfl, HP4.out, dcOk_started _, HG4.out, HB4.out⟩
    case round =>
      clear HP4 HG4 HB4
      obtain ⟨j, G, d, hj, hj5, rfl, hP, hd, hG, hB⟩ := hrel
      have HP := Lib.hid hP
      have HD := Lib.hid hd
      have HG := Lib.hid hG
      have HB := Lib.hid hB
      clear hP hd hG hB
      by_cases hgo : j < m ∧ j < 2000
      · obtain ⟨hjm, hj2⟩ := hgo
        obtain ⟨bq, oq, rfl, hbl, c0, c1, c2, c3⟩ := HSC.out.cells HB.out hjm
        have hlit := HQS.out j hjm
        generalize hq : qs j = q at *
        obtain ⟨k, s, z, t⟩ := q
        dsimp only at c0 c1 c2 c3
        have HLIT := Lib.hid hlit
        clear hq hlit
        have i0 : (0 : Int) ≤ (j : Int) := by omega
        have i1 : (j : Int) < (m : Int) := by omega
        have i2 : (j : Int) < 2000 := by omega
        have hXA := Blk.fresh wr 33 #[.int .i64 k, .int .u32 s, .int .u32 z, .int .u32 t]
        have hOA := (Only.refl (fun _ => False) wr).alloc (.cells #[.int .i64 k, .int .u32 s, .int .u32 z, .int .u32 t] 33)
        have HPA := Lib.hid (D.only HP.out hOA (fun _ _ h => h))
        have HNA := Lib.hid (show ¬ G wr.heap.size from fun h => by have := D.old HP.out h; omega)
        have HBA := Lib.hid (HB.out.alloc (o := .cells #[.int .i64 k, .int .u32 s, .int .u32 z, .int .u32 t] 33) HB.out.size)
        have HXA := Lib.hid hXA
        clear hXA hOA HP HB
        go_wp2_with fail
        generalize wr.alloc (.cells #[.int .i64 k, .int .u32 s, .int .u32 z, .int .u32 t] 33) = wA at *
        generalize wr.heap.size = na at *
        refine (show Calls Try.prog 12 #[.agg #[.int .i64 k, .int .u32 s, .int .u32 z, .int .u32 t]] wA _ from share_any ⟨k, s, z, t⟩ HLIT.out wA).mono ?_
        rintro e w6 ⟨bb, rfl, hbb, hb6⟩
        have HB6 := Lib.hid (below_trans HBA.out hb6)
        have HP6 := Lib.hid (D.only HPA.out (Only.of_below (S := fun _ => False) hb6) (fun _ _ h => h))
        have hXA := HXA.out.below hb6
        have HX6 := Lib.hid hXA
        obtain ⟨x0, x1, x2, x3⟩ : w6.cell? ⟨na, 0, none⟩ = some (.int .i64 k) ∧ w6.cell? ⟨na, 1, none⟩ = some (.int .u32 s) ∧ w6.cell? ⟨na, 2, none⟩ = some (.int .u32 z) ∧ w6.cell? ⟨na, 3, none⟩ = some (.int .u32 t) := ⟨hXA.cell 0, hXA.cell 1, hXA.cell 2, hXA.cell 3⟩
        have HBB := Lib.hid hbb
        clear hb6 hbb hXA HBA HXA HPA c0 c1 c2 c3
        cases bb
        · go_wp2_with fail
          go_roundw
          case rel => exact ⟨j + 1, G, d, by omega, by omega, by go_num, HP6.out, HD.out, HG.out, HB6.out⟩
          case measure => simp [intOf]; omega
        · have hq := HBB.out.1 rfl
          have hN := rightN_of hq
          obtain ⟨_, ⟨s0, s1⟩, ⟨z0, z1⟩, ⟨t0, t1⟩⟩ := HLIT.out
          dsimp only at s0 s1 z0 z1 t0 t1 hN
          clear HBB HLIT
          obtain ⟨s, rfl⟩ := Int.eq_ofNat_of_zero_le s0
          obtain ⟨z, rfl⟩ := Int.eq_ofNat_of_zero_le z0
          obtain ⟨t, rfl⟩ := Int.eq_ofNat_of_zero_le t0
          rcases hq with ⟨rfl, _⟩ | ⟨rfl, _⟩
          · rcases hN with ⟨_, h1, h2, h3⟩ | ⟨h0, _⟩
            · have h2' : s + z ≤ t := h2
              have h1' : 1 ≤ z := h1
              have h3' : t ≤ 1048576 := h3
              have KP := Lib.hid (D.place (t := t) HP6.out HD.out (by omega) (by omega) HBIG.out)
              obtain ⟨m1, m2, m3⟩ := placeD_mid (t := t) HD.out (by omega) (by omega)
              obtain ⟨p, hp⟩ : ∃ p, p = (placeD d t).1 := ⟨_, rfl⟩
              obtain ⟨d1, hd1⟩ : ∃ d1, d1 = (placeD d t).2 := ⟨_, rfl⟩
              rw [← hp, ← hd1] at KP m2 m3
              rw [← hp] at m1
              have c1 : ¬ (p : Int) ≥ (t : Int) := by omega
              have HM2 := Lib.hid m2
              have HM1 := Lib.hid (show p < t ∧ t ≤ 1048576 from ⟨m1, h3'⟩)
              have HM3 := Lib.hid m3
              clear hp hd1 m1 m2 m3 h1 h2 h3 h1' h2' h3' s0 s1 z0 z1 t0 t1
              go_wp2_with fail
              refine KP.out.mono ?_
              rintro e w7 ⟨rfl, G7, hP7, hN7, hO7⟩
              have y3 : w7.cell? ⟨na, 3, none⟩ = some (.int .u32 (t : Int)) := (HX6.out.only hO7 HNA.out).cell 3
              have HP7 := Lib.hid hP7
              have HG7 := Lib.hid (con_new (Nat.le_refl _) HB6.out HG.out hN7)
              have HB7 := Lib.hid (con_below (Nat.le_refl _) HB6.out HG.out hO7)
              have KB := Lib.hid (D.bad hP7)
              clear hP7 hN7 hO7 HB6 HP6 HX6 KP x0 x1 x2 x3
              have TAKE := Lib.hid (fun (w8 : World) (h8 : Pd w8 g f G7 bs d1) => D.take (a := p) (z := 1) h8 HBIG.out (by have := HM1.out; omega) (by omega) (fun r k' s' he => by
                obtain ⟨a1, a2, a3, a4⟩ := HM2.out r k' s' he
                exact takeD_in a1 a2 a3 a4 (Nat.le_refl p) (Nat.lt_succ_self p) HM1.out.1))
              have HD8 := Lib.hid (takeD_ok HM2.out (Nat.le_refl p) (Nat.lt_succ_self p) (show p + 1 ≤ t from HM1.out.1))
              by_cases hnone : d1 = none
              · have hp0 := HM3.out hnone
                subst hp0
                rw [show d1.isNone = true by rw [hnone]; rfl] at KB
                clear hnone
                go_wp2_with fail
                refine KB.out.mono ?_
                rintro e w8 ⟨rfl, d8, hw8⟩
                have HP8 := Lib.hid (D.only HP7.out (show Only (fun _ => False) w7 w8 by rw [← hw8]; exact (Only.refl _ w7).drewN d8) (fun _ _ h => h))
                have HB8 := Lib.hid (show Below w.heap.size w w8 by rw [← hw8]; exact below_drewN HB7.out d8)
                have KT := Lib.hid (TAKE.out w8 HP8.out)
                clear hw8 HP7 HB7 TAKE KB y3
                go_wp2_with fail
                refine KT.out.mono ?_
                rintro e w9 ⟨rfl, G9, hP9, hN9, hO9⟩
                have HP9 := Lib.hid hP9
                have HG9 := Lib.hid (con_new (Nat.le_refl _) HB8.out HG7.out hN9)
                have HB9 := Lib.hid (con_below (Nat.le_refl _) HB8.out HG7.out hO9)
                clear hP9 hN9 hO9 HB8 HP8 KT
                go_wp2_with fail
                go_roundw
                case rel => exact ⟨j + 1, G9, _, by omega, by omega, by go_num, HP9.out, HD8.out, HG9.out, HB9.out⟩
                case measure => simp [intOf]; omega
              · rw [show d1.isNone = false by cases d1 with | none => exact absurd rfl hnone | some x => rfl] at KB
                clear hnone
                go_wp2_with fail
                refine KB.out.mono ?_
                rintro e w8 ⟨rfl, d8, hw8⟩
                have HP8 := Lib.hid (D.only HP7.out (show Only (fun _ => False) w7 w8 by rw [← hw8]; exact (Only.refl _ w7).drewN d8) (fun _ _ h => h))
                have HB8 := Lib.hid (show Below w.heap.size w w8 by rw [← hw8]; exact below_drewN HB7.out d8)
                have KT := Lib.hid (TAKE.out w8 HP8.out)
                clear hw8 HP7 HB7 TAKE KB y3
                go_wp2_with fail
                refine KT.out.mono ?_
                rintro e w9 ⟨rfl, G9, hP9, hN9, hO9⟩
                have HP9 := Lib.hid hP9
                have HG9 := Lib.hid (con_new (Nat.le_refl _) HB8.out HG7.out hN9)
                have HB9 := Lib.hid (con_below (Nat.le_refl _) HB8.out HG7.out hO9)
                clear hP9 hN9 hO9 HB8 HP8 KT
                go_wp2_with fail
                go_roundw
                case rel => exact ⟨j + 1, G9, _, by omega, by omega, by go_num, HP9.out, HD8.out, HG9.out, HB9.out⟩
                case measure => simp [intOf]; omega
            · cases h0
          · rcases hN with ⟨h0, _⟩ | ⟨_, h1, h2, h3, h4, h5⟩
            · cases h0
            · have h3' : t ≤ 16 := h3
              have KB := Lib.hid (D.bit (z := z) (t := t) HP6.out HD.out HBIG.out h3 h4 h5)
              obtain ⟨m1, m2⟩ := shareBit_ok (z := z) (t := t) HD.out h3 h4 h5
              obtain ⟨v, hv⟩ : ∃ v, v = (shareBit d z t).1 := ⟨_, rfl⟩
              obtain ⟨d1, hd1⟩ : ∃ d1, d1 = (shareBit d z t).2 := ⟨_, rfl⟩
              rw [← hv, ← hd1] at KB
              rw [← hv] at m1
              rw [← hd1] at m2
              have HM2 := Lib.hid m2
              have e5 : IntKind.i64.wrap (t : Int) = (t : Int) := IntWalk.i64_in _ (by omega)
              clear hv hd1 m2 h1 h2 h3 h4 h5 h3' s0 s1 z0 z1 t0 t1
              go_wp2_with fail
              refine KB.out.mono ?_
              rintro e w7 ⟨rfl, G7, hP7, hN7, hO7⟩
              have HP7 := Lib.hid hP7
              have HG7 := Lib.hid (con_new (Nat.le_refl _) HB6.out HG.out hN7)
              have HB7 := Lib.hid (con_below (Nat.le_refl _) HB6.out HG.out hO7)
              clear hP7 hN7 hO7 HB6 HP6 HX6 KB x0 x1 x2 x3
              rcases (show v = 0 ∨ v = 1 by omega) with rfl | rfl
              all_goals
                go_wp2_with fail
                go_roundw
                case rel => exact ⟨j + 1, G7, d1, by omega, by omega, by go_num, HP7.out, HM2.out, HG7.out, HB7.out⟩
                case measure => simp [intOf]; omega
      · by_cases hjm : j < m
        · obtain rfl : j = 2000 := by omega
          have i1 : ((2000 : Nat) : Int) < (m : Int) := by omega
          go_wp2_with fail
          go_ret
          exact ⟨rfl, HB.out⟩
        · obtain rfl : j = m := by omega
          clear hjm hgo
          go_wp2_with fail
          go_ret
          exact ⟨rfl, HB.out⟩
  · have hbig' : (n : Int) > 65536 := by omega
    go_enter Try.func6, Try.ntmps6
    go_wp2_with fail
    refine (Aw w).mono ?_
    rintro e w1 ⟨rfl, hb⟩
    go_wp2_with fail
    go_ret
    exact ⟨rfl, hb⟩
end Go.Proofs.Ytkjhdpfomofggaa
