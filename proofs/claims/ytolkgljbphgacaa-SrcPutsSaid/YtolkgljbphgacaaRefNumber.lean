/-
  The reference's shortest short number.
-/
import Derived.Test.YtolkgljbphgacaaRefPut
import Derived.Deep.Cut
namespace Go.Proofs.Ytolkgljbphgacaa
open Go.RowKit

theorem first_div : ∀ j : Fin 9, 256 / 2 ^ j.val = 2 ^ (8 - j.val) ∧ 128 / 2 ^ j.val = (if j.val ≤ 7 then 2 ^ (7 - j.val) else 0) := by decide +kernel
theorem lt_iff (v k : Nat) (hk : k ≤ 7) : v / 256 ^ k < 2 ^ (7 - k) ↔ v < 2 ^ (7 * k + 7) := by
  rw [Nat.div_lt_iff_lt_mul (Nat.pow_pos (by omega)), pow256, ← Nat.pow_add, show 7 - k + 8 * k = 7 * k + 7 by omega]

theorem fb_is (t y s : Nat) (h : t = 2 * s) (hs : s ≤ 128) (hy : y < s) : (((UInt8.ofNat (256 - t + y)).toNat : Nat) : Int) = 256 - (t : Int) + (y : Int) := by
  rw [UInt8.toNat_ofNat']
  omega
set_option maxHeartbeats 2000000 in
set_option maxRecDepth 100000 in
theorem refNumber_any {A : Option Addr} {n c v : Nat} {bs : List UInt8} {w : World} (hS : Sl w A n (bv bs)) (hm : n ≤ 10000000) (hv : v < 18446744073709551616) :
    Calls Try.prog 30 #[.slice A n c, .int .u64 (v : Int)] w fun e w' =>
      ∃ A' c', e = .returned (.slice A' (n + (shortBytes v).length) c') ∧ w'.ownsRow w.heap.size 5 1 (.slice A' (n + (shortBytes v).length) c') (n + (shortBytes v).length) (bv (bs ++ shortBytes v)) ∧ Below w.heap.size w w' := by
  obtain ⟨i, hi, hz0, hz1, hz2⟩ := info_parts info_u8
  have HS := Lib.hid hS
  have hq := fol_is v
  have hl : (shortBytes v).length = 1 + fol v := shortBytes_length v
  have hsb : shortBytes v = UInt8.ofNat (256 - 2 ^ (8 - fol v) + v / 256 ^ fol v) :: leBytes (fol v) v := rfl
  rw [hl]
  generalize shortBytes v = sb at hsb
  generalize fol v = q at hq hsb
  have hq8 := hq.le
  have HQ := Lib.hid hq
  have HSB := Lib.hid hsb
  clear hS hq hsb hl
  go_enter Try.func30, Try.ntmps30
  go_wp2_with (at_builtin; refine wpList_app _ rfl (.tmp 9) (.tmp 10) 22 rfl w.heap.size 5 i _ 1 Try.underlying22 hi hz0 hz1 hz2 rfl _ 0 [] rfl (own_empty w (Nat.le_refl _) _) A n c (bv bs) rfl (HS.out.alloc _) (bv_one bs) (by omega) (by omega) (by simp) ?_)
  intro A1 c1 w1 ho hg
  have HO := Lib.hid ho
  have HB := Lib.hid (((Below.refl w.heap.size w).alloc (Nat.le_refl _) _).grown hg (by simp) (fun k e => by simp [Value.ownBlock] at e; omega))
  clear ho hg
  go_wp2_with fail
  go_loop [6, 5] (fun k o => ∃ j : Nat, j ≤ q ∧ k = .int .i64 j ∧ o = .slice A1 n c1) (fun k _ => q - (intOf k).toNat)
  case atStart => exact ⟨0, by omega, rfl, rfl⟩
  case round =>
    obtain ⟨j, hj, rfl, rfl⟩ := hrel
    have HPW := Lib.hid (fun W (h : j < 8) => power_any (k := j) (w := W) h)
    have hd : (v : Int) / ((256 ^ j : Nat) : Int) = ((v / 256 ^ j : Nat) : Int) := (Int.natCast_ediv v (256 ^ j)).symm
    have hp0 : 0 < 256 ^ j := Nat.pow_pos (by omega)
    have hql : v / 256 ^ j ≤ v := Nat.div_le_self _ _
    have hpl : 256 ^ j ≤ 18446744073709551616 := pow_le_64 j (by omega)
    by_cases hlt : j < q
    · have hge := HQ.out.ge j hlt
      by_cases h7 : j < 7
      · have hc : ¬ v / 256 ^ j < 2 ^ (7 - j) := fun h => by have := (lt_iff v j (by omega)).1 h; omega
        have hs : (128 : Int) / 2 ^ j = ((2 ^ (7 - j) : Nat) : Int) := by
          have := (first_div ⟨j, by omega⟩).2
          simp only at this
          rw [if_pos (by omega)] at this
          rw [cast_pow2, ← this]; exact (Int.natCast_ediv 128 (2 ^ j)).symm
        have hsl : 2 ^ (7 - j) ≤ 128 := Nat.pow_le_pow_right (n := 2) (by omega) (show 7 - j ≤ 7 by omega)
        have hj7 : ((j : Int) == 7) = false := by simp; omega
        generalize 2 ^ (7 - j) = s at hc hs hsl
        generalize v / 256 ^ j = y at hd hql hc
        generalize 256 ^ j = p at hd hp0 HPW hpl
        clear hge
        have hPW := fun W => HPW.out W (by omega)
        have HPW2 := Lib.hid hPW
        clear hPW
        go_wp2_with (go_at_call 53; refine (HPW2.out _).mono ?_; rintro e w2 ⟨rfl, rfl⟩)
        go_round
        case rel => exact ⟨j + 1, by omega, by go_num, rfl⟩
        case measure => simp [intOf]; omega
      · have hj7 : ((j : Int) == 7) = true := by simp; omega
        have h8 : j < 8 := by omega
        have hv56 : ¬ (v : Int) < 72057594037927936 := by
          have e : j = 7 := by omega
          subst e
          have h : (2 : Nat) ^ (7 * 7 + 7) = 72057594037927936 := by decide
          omega
        clear hd hp0 hql hpl hge
        have hjl : ((j : Int) < 7) = False := by simp; omega
        have hvl : ((v : Int) < 72057594037927936) = False := by simp; omega
        clear hv56 HPW HQ
        go_upto_region 5 with fail
        iterate 10 go_step
        iterate 8 (with_reducible refine wpList_step (fun K hK => ?_); go_simp; with_reducible refine hK _ _ ?_; clear hK K)
        go_wp2_with fail
        go_round
        case rel => exact ⟨j + 1, by omega, by go_num, rfl⟩
        case measure => simp [intOf]; omega
    · obtain rfl : j = q := by omega
      have hj8 : j < 8 ∨ j = 8 := by omega
      clear hlt hd hp0 hql hpl
      by_cases h7 : j < 7
      · have hc : v / 256 ^ j < 2 ^ (7 - j) := (lt_iff v j (by omega)).2 (HQ.out.lt (by omega))
        have hd : (v : Int) / ((256 ^ j : Nat) : Int) = ((v / 256 ^ j : Nat) : Int) := (Int.natCast_ediv v (256 ^ j)).symm
        have hp0 : 0 < 256 ^ j := Nat.pow_pos (by omega)
        have hql : v / 256 ^ j ≤ v := Nat.div_le_self _ _
        have hpl : 256 ^ j ≤ 18446744073709551616 := pow_le_64 j (by omega)
        have hs : (128 : Int) / 2 ^ j = ((2 ^ (7 - j) : Nat) : Int) := by
          have := (first_div ⟨j, by omega⟩).2
          simp only at this
          rw [if_pos (by omega)] at this
          rw [cast_pow2, ← this]; exact (Int.natCast_ediv 128 (2 ^ j)).symm
        have ht : (256 : Int) / 2 ^ j = ((2 ^ (8 - j) : Nat) : Int) := by
          have := (first_div ⟨j, by omega⟩).1
          simp only at this
          rw [cast_pow2, ← this]; exact (Int.natCast_ediv 256 (2 ^ j)).symm
        have hsl : 2 ^ (7 - j) ≤ 128 := Nat.pow_le_pow_right (n := 2) (by omega) (show 7 - j ≤ 7 by omega)
        have htt : 2 ^ (8 - j) = 2 * 2 ^ (7 - j) := by rw [show 8 - j = (7 - j) + 1 by omega, Nat.pow_succ]; omega
        have hfb : (((UInt8.ofNat (256 - 2 ^ (8 - j) + v / 256 ^ j)).toNat : Nat) : Int) = 256 - ((2 ^ (8 - j) : Nat) : Int) + ((v / 256 ^ j : Nat) : Int) := by
          exact fb_is _ _ _ htt hsl hc
        have HFB := Lib.hid hfb
        clear hfb
        have HHT := Lib.hid htt
        clear htt
        have hPW := fun W => HPW.out W (by omega)
        have HPW2 := Lib.hid hPW
        clear hPW HPW
        generalize UInt8.ofNat (256 - 2 ^ (8 - j) + v / 256 ^ j) = fb at HSB HFB
        generalize 2 ^ (8 - j) = t at ht HFB HHT
        generalize 2 ^ (7 - j) = s at hc hs hsl HHT
        generalize v / 256 ^ j = y at hd hql hc HFB
        generalize 256 ^ j = p at hd hp0 HPW2 hpl
        have htl : t = 2 * s := HHT.out
        have htl2 : t ≤ 256 := by omega
        have hyt : 2 * y < t := by omega
        clear htl
        have HHT2 := HHT
        go_wp2_with fail
        refine (HPW2.out _).mono ?_
        rintro e w2 ⟨rfl, rfl⟩
        go_wp2_with fail
        refine (HPW2.out _).mono ?_
        rintro e w2 ⟨rfl, rfl⟩
        go_wp2_with (at_builtin; refine wpList_app _ rfl (.tmp 49) (.tmp 52) 22 rfl w.heap.size 5 i _ 1 Try.underlying22 hi hz0 hz1 hz2 rfl _ n _ rfl (HO.out.alloc _) _ 1 1 _ rfl (sl_one _ _ _) (one_one _ _) (by omega) (by omega) (by have := HB.out.size; simp; omega) ?_)
        intro A2 c2 w2 ho hg
        have HB2 := Lib.hid ((HB.out.alloc HB.out.size _).grown hg (by have := HB.out.size; simp; omega) (fun b e => (HO.out.lt b e).1))
        have HO2 : Hid (w2.ownsRow w.heap.size 5 1 (.slice A2 (n + 1) c2) (n + 1) (bv (bs ++ [fb]))) := by
          rw [bv_append]
          have e : bv [fb] = [.int .u8 (fb.toNat : Int)] := rfl
          rw [e, HFB.out]
          exact ho
        clear ho hg
        go_wp2_with fail
        go_loopw [8, 5] (fun i s wr => ∃ (k : Nat) (A2 : Option Addr) (c2 : Nat), k ≤ j ∧ i = .int .i64 k ∧ s = .slice A2 (n + 1 + k) c2 ∧ wr.ownsRow w.heap.size 5 1 (.slice A2 (n + 1 + k) c2) (n + 1 + k) (bv (bs ++ fb :: leBytes k v)) ∧ Below w.heap.size w wr) (fun i _ _ => j - (intOf i).toNat)
        case atStart => exact ⟨0, A2, c2, Nat.zero_le _, rfl, rfl, by simpa [leBytes] using HO2.out, HB2.out⟩
        case round =>
          clear HO HB HO2 HB2 HPW2
          obtain ⟨k, A2, c2, hk, rfl, rfl, ho, hb⟩ := hrel
          have HOr := Lib.hid ho
          have HBr := Lib.hid hb
          clear ho hb
          by_cases hlt : k < j
          · have HPW := Lib.hid (fun W => power_any (k := k) (w := W) (by omega))
            have hq : (v : Int) / ((256 ^ k : Nat) : Int) = ((v / 256 ^ k : Nat) : Int) := (Int.natCast_ediv v (256 ^ k)).symm
            have hp0 : 0 < 256 ^ k := Nat.pow_pos (by omega)
            have hql : v / 256 ^ k ≤ v := Nat.div_le_self _ _
            have hpl : 256 ^ k ≤ 18446744073709551616 := pow_le_64 k (by omega)
            have HN := Lib.hid (leBytes_succ k v)
            have hbyte : (((UInt8.ofNat (v / 256 ^ k % 256)).toNat : Nat) : Int) = ((v / 256 ^ k : Nat) : Int) % 256 := by
              rw [UInt8.toNat_ofNat']
              omega
            have HBY := Lib.hid hbyte
            clear hbyte
            generalize v / 256 ^ k = q at hq hql HN HBY
            generalize 256 ^ k = p at hq hp0 HPW hpl
            go_wp2_with fail
            refine (HPW.out _).mono ?_
            rintro e w2 ⟨rfl, rfl⟩
            go_wp2_with (at_builtin; refine wpList_app _ rfl (.tmp 59) (.tmp 66) 22 rfl w.heap.size 5 i _ 1 Try.underlying22 hi hz0 hz1 hz2 rfl _ (n + 1 + k) _ rfl (HOr.out.alloc _) _ 1 1 _ rfl (sl_one _ _ _) (one_one _ _) (by omega) (by omega) (by have := HBr.out.size; simp; omega) ?_)
            intro A3 c3 w3 ho hg
            have HB3 := Lib.hid ((HBr.out.alloc HBr.out.size _).grown hg (by have := HBr.out.size; simp; omega) (fun b e => (HOr.out.lt b e).1))
            have HO3 : Hid (w3.ownsRow w.heap.size 5 1 (.slice A3 (n + 1 + k + 1) c3) (n + 1 + k + 1) (bv (bs ++ fb :: leBytes (k + 1) v))) := by
              rw [HN.out, ← List.cons_append, ← List.append_assoc, bv_append]
              have e : bv [UInt8.ofNat (q % 256)] = [.int .u8 ((q : Int) % 256)] := by
                unfold bv
                rw [List.map_singleton, HBY.out]
              rw [e]
              exact ho
            clear ho hg
            go_wp2
            go_roundw
            case rel => exact ⟨k + 1, A3, c3, by omega, by go_num, rfl, HO3.out, HB3.out⟩
            case measure => simp [intOf]; omega
          · obtain rfl : k = j := by omega
            go_wp2
            go_ret
            rw [show n + (1 + k) = n + 1 + k by omega, HSB.out]
            exact ⟨A2, c2, rfl, HOr.out, HBr.out⟩
      · by_cases h77 : j = 7
        · subst h77
          have hv56 : ((v : Int) < 72057594037927936) = True := by
            have h : (2 : Nat) ^ (7 * 7 + 7) = 72057594037927936 := by decide
            have := HQ.out.lt (by omega)
            simp; omega
          have hvn : v / 256 ^ 7 = 0 := by
            have h : (2 : Nat) ^ (7 * 7 + 7) = 72057594037927936 := by decide
            have h2 : (256 : Nat) ^ 7 = 72057594037927936 := by decide
            have := HQ.out.lt (by omega)
            rw [h2]; omega
          have hfb : (((UInt8.ofNat (256 - 2 ^ (8 - 7) + v / 256 ^ 7)).toNat : Nat) : Int) = 254 := by
            rw [hvn]; decide
          have HFB := Lib.hid hfb
          clear hfb hvn HPW
          generalize UInt8.ofNat (256 - 2 ^ (8 - 7) + v / 256 ^ 7) = fb at HSB HFB
          have HPW2 : Hid True := Lib.hid trivial
          have hjl : (((7 : Nat) : Int) < 7) = False := by simp
          clear HQ h7 hj8 hj hq8
          go_upto_region 5 with fail
          iterate 10 go_step
          iterate 8 (with_reducible refine wpList_step (fun K hK => ?_); go_simp; with_reducible refine hK _ _ ?_; clear hK K)
          go_wp2_with (at_builtin; refine wpList_app _ rfl (.tmp 49) (.tmp 52) 22 rfl w.heap.size 5 i _ 1 Try.underlying22 hi hz0 hz1 hz2 rfl _ n _ rfl (HO.out.alloc _) _ 1 1 _ rfl (sl_one _ _ _) (one_one _ _) (by omega) (by omega) (by have := HB.out.size; simp; omega) ?_)
          intro A2 c2 w2 ho hg
          have HB2 := Lib.hid ((HB.out.alloc HB.out.size _).grown hg (by have := HB.out.size; simp; omega) (fun b e => (HO.out.lt b e).1))
          have HO2 : Hid (w2.ownsRow w.heap.size 5 1 (.slice A2 (n + 1) c2) (n + 1) (bv (bs ++ [fb]))) := by
            rw [bv_append]
            have e : bv [fb] = [.int .u8 (fb.toNat : Int)] := rfl
            rw [e, HFB.out]
            exact ho
          clear ho hg
          go_wp2_with fail
          go_loopw [8, 5] (fun i s wr => ∃ (k : Nat) (A2 : Option Addr) (c2 : Nat), k ≤ 7 ∧ i = .int .i64 k ∧ s = .slice A2 (n + 1 + k) c2 ∧ wr.ownsRow w.heap.size 5 1 (.slice A2 (n + 1 + k) c2) (n + 1 + k) (bv (bs ++ fb :: leBytes k v)) ∧ Below w.heap.size w wr) (fun i _ _ => 7 - (intOf i).toNat)
          case atStart => exact ⟨0, A2, c2, Nat.zero_le _, rfl, rfl, by simpa [leBytes] using HO2.out, HB2.out⟩
          case round =>
            clear HO HB HO2 HB2 HPW2
            obtain ⟨k, A2, c2, hk, rfl, rfl, ho, hb⟩ := hrel
            have HOr := Lib.hid ho
            have HBr := Lib.hid hb
            clear ho hb
            by_cases hlt : k < 7
            · have HPW := Lib.hid (fun W => power_any (k := k) (w := W) (by omega))
              have hq : (v : Int) / ((256 ^ k : Nat) : Int) = ((v / 256 ^ k : Nat) : Int) := (Int.natCast_ediv v (256 ^ k)).symm
              have hp0 : 0 < 256 ^ k := Nat.pow_pos (by omega)
              have hql : v / 256 ^ k ≤ v := Nat.div_le_self _ _
              have hpl : 256 ^ k ≤ 18446744073709551616 := pow_le_64 k (by omega)
              have HN := Lib.hid (leBytes_succ k v)
              have hbyte : (((UInt8.ofNat (v / 256 ^ k % 256)).toNat : Nat) : Int) = ((v / 256 ^ k : Nat) : Int) % 256 := by
                rw [UInt8.toNat_ofNat']
                omega
              have HBY := Lib.hid hbyte
              clear hbyte
              generalize v / 256 ^ k = q at hq hql HN HBY
              generalize 256 ^ k = p at hq hp0 HPW hpl
              go_wp2_with fail
              refine (HPW.out _).mono ?_
              rintro e w2 ⟨rfl, rfl⟩
              go_wp2_with (at_builtin; refine wpList_app _ rfl (.tmp 59) (.tmp 66) 22 rfl w.heap.size 5 i _ 1 Try.underlying22 hi hz0 hz1 hz2 rfl _ (n + 1 + k) _ rfl (HOr.out.alloc _) _ 1 1 _ rfl (sl_one _ _ _) (one_one _ _) (by omega) (by omega) (by have := HBr.out.size; simp; omega) ?_)
              intro A3 c3 w3 ho hg
              have HB3 := Lib.hid ((HBr.out.alloc HBr.out.size _).grown hg (by have := HBr.out.size; simp; omega) (fun b e => (HOr.out.lt b e).1))
              have HO3 : Hid (w3.ownsRow w.heap.size 5 1 (.slice A3 (n + 1 + k + 1) c3) (n + 1 + k + 1) (bv (bs ++ fb :: leBytes (k + 1) v))) := by
                rw [HN.out, ← List.cons_append, ← List.append_assoc, bv_append]
                have e : bv [UInt8.ofNat (q % 256)] = [.int .u8 ((q : Int) % 256)] := by
                  unfold bv
                  rw [List.map_singleton, HBY.out]
                rw [e]
                exact ho
              clear ho hg
              go_wp2
              go_roundw
              case rel => exact ⟨k + 1, A3, c3, by omega, by go_num, rfl, HO3.out, HB3.out⟩
              case measure => simp [intOf]; omega
            · obtain rfl : k = 7 := by omega
              go_wp2
              go_ret
              rw [show n + (1 + 7) = n + 1 + 7 by omega, HSB.out]
              exact ⟨A2, c2, rfl, HOr.out, HBr.out⟩
        · obtain rfl : j = 8 := by omega
          have hfb : (((UInt8.ofNat (256 - 2 ^ (8 - 8) + v / 256 ^ 8)).toNat : Nat) : Int) = 255 := by
            have h2 : v / 256 ^ 8 = 0 := Nat.div_eq_of_lt (by have : (256 : Nat) ^ 8 = 18446744073709551616 := by decide
                                                              omega)
            rw [h2]; decide
          have HFB := Lib.hid hfb
          clear hfb HPW
          generalize UInt8.ofNat (256 - 2 ^ (8 - 8) + v / 256 ^ 8) = fb at HSB HFB
          clear HQ h7 hj8 hj hq8 h77
          go_wp2_with (at_builtin; refine wpList_app _ rfl (.tmp 69) (.tmp 70) 22 rfl w.heap.size 5 i _ 1 Try.underlying22 hi hz0 hz1 hz2 rfl _ n _ rfl (HO.out.alloc _) _ 1 1 _ rfl (sl_one _ _ _) (one_one _ _) (by omega) (by omega) (by have := HB.out.size; simp; omega) ?_)
          intro A2 c2 w2 ho hg
          have HB2 := Lib.hid ((HB.out.alloc HB.out.size _).grown hg (by have := HB.out.size; simp; omega) (fun b e => (HO.out.lt b e).1))
          have HO2 : Hid (w2.ownsRow w.heap.size 5 1 (.slice A2 (n + 1) c2) (n + 1) (bv (bs ++ [fb]))) := by
            rw [bv_append]
            have e : bv [fb] = [.int .u8 (fb.toNat : Int)] := rfl
            rw [e, HFB.out]
            exact ho
          clear ho hg
          have hp8 : putM 8 v = leBytes 8 v := by simp [putM]
          have HP8 := Lib.hid hp8
          clear hp8
          go_wp2_with fail
          refine (refPut_any (x := 8) (Sl.of_own HO2.out) (by omega) hv).mono ?_
          rintro e w3 ⟨A3, c3, rfl, ho, hb⟩
          rw [HP8.out, leBytes_length] at ho
          rw [HP8.out, leBytes_length]
          have HO3 := Lib.hid (own_mono ho HB2.out.size)
          have HB3 := Lib.hid (HB2.out.trans (hb.mono HB2.out.size))
          clear ho hb
          go_wp2
          go_ret
          rw [show n + (1 + 8) = n + 1 + 8 by omega, HSB.out]
          refine ⟨A3, c3, rfl, ?_, HB3.out⟩
          have ho := HO3.out
          rw [List.append_assoc] at ho
          exact ho
end Go.Proofs.Ytolkgljbphgacaa
