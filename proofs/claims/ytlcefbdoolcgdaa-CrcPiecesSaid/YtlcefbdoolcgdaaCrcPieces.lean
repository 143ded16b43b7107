/-
  The law CrcPieces returns true for all bytes and all cuts, and leaves all that was there as it was. No condition.
-/
import Derived.Test.YtlcefbdoolcgdaaCrcAwake
import Derived.Test.YtlcefbdoolcgdaaOpen
import Derived.Deep.QuietTactic
import Derived.BigQuiet
import Derived.ProofKit
import Derived.OpenShut
import Derived.ShutString
import Derived.ChangeOld
import Derived.Below
namespace Go.Proofs.Ytlcefbdoolcgdaa.crcPieces
open Go.ChangeShapes Go.WideShapes Go.ChangeAt Go.RowKit
set_option linter.unusedVariables false

theorem own : ownKnob Try.prog.godebug = none := by kernel_rfl
theorem laidOut : laidOutB Try.prog = true := by kernel_rfl

theorem info_u8 : (Try.prog.info? 5).map (fun i => (i.zero, i.size, i.bytes)) = some (some (.int .u8 0), 1, 1) := by kernel_rfl

set_option maxRecDepth 100000 in
set_option maxHeartbeats 4000000 in
theorem walk {A B : Option Addr} {n c m d : Nat} {bs cs : List UInt8} {w : World} (hS : Sl w A n (bv bs)) (hnc : n ≤ c) (hc : c ≤ maxLen) (hT : Sl w B m (bv cs)) (hmd : m ≤ d) (hd : d ≤ maxLen) :
    Calls Try.prog 4 #[.slice A n c, .slice B m d] w fun e w' => e = .returned (.bool true) ∧ Below w.heap.size w w' := by
  unfold maxLen at hc hd
  obtain ⟨i, hi, hz0, hz1, hz2⟩ := info_parts info_u8
  have hbl : bs.length = n := by rw [← hS.1, bv_length]
  have hcl : cs.length = m := by rw [← hT.1, bv_length]
  have HL := Lib.hid hbl
  have HCL := Lib.hid hcl
  have HS := Lib.hid hS
  have HT := Lib.hid hT
  clear hS hbl hT hcl
  by_cases g1 : n ≤ 4096
  · have g3 : decide ((4096 : Int) < (n : Int)) = false := by simp; omega
    by_cases g2 : m ≤ 300
    · have g4 : decide ((300 : Int) < (m : Int)) = false := by simp; omega
      go_enter Try.func4, Try.ntmps4
      go_wp2_with (first
        | (go_at_call 8; refine (crcAwake_any _).mono ?_; rintro e w1 ⟨rfl, hb⟩; have HW := Lib.hid hb; clear hb)
        | (go_at_call 11; refine (new_any _).mono ?_; rintro e w2 ⟨g, cs0, rfl, hB, hC, hg, hb⟩; have HN := Lib.hid (show SumAt w2 g [] from ⟨cs0, 0, hB, by simpa [sumOf_nil] using hC⟩); have hgw : w.heap.size ≤ g := Nat.le_trans HW.out.size hg; have HW2 := Lib.hid (HW.out.trans (hb.mono HW.out.size)); clear hB hC hg hb))
      go_loopw [6, 7] (fun a i wr => ∃ k q : Nat, k ≤ n ∧ q ≤ m ∧ a = .int .i64 k ∧ i = .int .i64 q ∧ SumAt wr g (bs.take k) ∧ Below w.heap.size w wr) (fun _ i _ => m - (intOf i).toNat)
      case atStart => exact ⟨0, 0, Nat.zero_le _, Nat.zero_le _, rfl, rfl, HN.out, HW2.out⟩
      case round =>
        clear HN HW2
        obtain ⟨k, q, hk, hq, rfl, rfl, hsum, hbel⟩ := hrel
        have HN := Lib.hid hsum
        have HB := Lib.hid hbel
        have hlk : (bs.take k).length = k := by rw [List.length_take]; have := HL.out; omega
        have HLK := Lib.hid hlk
        clear hsum hbel hlk
        by_cases hin : q < m ∧ k < n
        · obtain ⟨hqm, hkn⟩ := hin
          have i1 : decide ((q : Int) < (m : Int)) = true := by simp; omega
          have i2 : decide ((k : Int) < (n : Int)) = true := by simp; omega
          obtain ⟨ab, ao, rfl, hab, hca⟩ := HS.out.2 (by omega)
          obtain ⟨bb, bo, rfl, hbb, hcb⟩ := HT.out.2 (by omega)
          have ccell : wr.cell? ⟨bb, bo + q, none⟩ = some (.int .u8 ((cs.getD q 0).toNat : Int)) := by rw [HB.out.cell hbb, hcb q hqm, bv_get _ _ (by have := HCL.out; omega)]
          have acell : wr.cell? ⟨ab, ao + k, none⟩ = some (.int .u8 ((bs.getD k 0).toNat : Int)) := by rw [HB.out.cell hab, hca k hkn, bv_get _ _ (by have := HL.out; omega)]
          have HTK := Lib.hid (take_snoc bs k (by have := HL.out; omega) 0)
          generalize bs.getD k 0 = bk at acell HTK
          have hxb := (cs.getD q 0).toNat_lt
          generalize (cs.getD q 0).toNat = x at ccell hxb
          obtain ⟨y, hy⟩ : ∃ y, n - k = y := ⟨_, rfl⟩
          have e0 : (n : Int) - (k : Int) = (y : Int) := by omega
          obtain ⟨z, hz⟩ : ∃ z, (if y < x then y else x) = z := ⟨_, rfl⟩
          have hzy : z ≤ y := by split at hz <;> omega
          have hzx : z ≤ x := by split at hz <;> omega
          have e1 : (if y < x then (y : Int) else (x : Int)) = (z : Int) := by rw [← hz]; split <;> rfl
          have e2 : (if (y : Int) < (x : Int) then (y : Int) else (x : Int)) = (z : Int) := by rw [← hz]; simp only [Int.ofNat_lt]; split <;> rfl
          clear hz hca hcb
          by_cases h1 : z = 1
          · subst h1
            go_wp2_with (go_at_call 12; refine (byte_any HN.out (by have := HLK.out; omega)).mono ?_; rintro e w3 ⟨rfl, hs3, hg3⟩; rw [← HTK.out] at hs3; have HS3 := Lib.hid hs3; have HB3 := Lib.hid (HB.out.trans (below_of_only hg3 hgw HB.out.size)); clear hs3 hg3)
            have hat : k + 1 ≤ n := by omega
            have e9 : (k : Int) + 1 = ((k + 1 : Nat) : Int) := by omega
            have hlen : (bs.take (k + 1)).length = k + 1 := by rw [List.length_take]; have := HL.out; omega
            generalize k + 1 = kz at hat e9 HS3 hlen
            have KV := Lib.hid (fun dd : Nat => sumValue_any (HS3.out.drewN dd))
            have KC := Lib.hid (fun dd : Nat => sumCount_any (HS3.out.drewN dd))
            have KR := Lib.hid (fun dd : Nat => refOf_any (c := c) (Sl.drewN (by have := (HS.out.below HB3.out).first (k := kz) hat; rwa [← bv_take] at this) dd) (by omega))
            have hle : ((bs.take kz).length : Int) = (kz : Int) := by rw [hlen]
            rw [hle] at KC
            clear hle hlen
            have e10 : (kz : Int) ≤ (c : Int) := by omega
            have e11 : (0 : Int) ≤ (kz : Int) := by omega
            generalize sumOf (bs.take kz) = ss at KV KR
            go_wp2_with fail
            go_quiet ((first
              | (go_at_call 14; exact quiet_same_at (KV.out _))
              | (go_at_call 15; exact quiet_same_at (KC.out _))
              | (go_at_call 10; exact quiet_same_at (KR.out _))))
            go_wp2
            go_roundw
            case rel => exact ⟨kz, q + 1, hat, by omega, by first | rfl | rw [e9], by go_num, HS3.out.drewN _, below_drewN HB3.out _⟩
            case measure => simp [intOf]; omega
          · have h1' : ((z : Int) == 1) = false := by simp; omega
            have hsl : Sl wr (some ⟨ab, ao + k, none⟩) z (bv ((bs.drop k).take z)) := by
              refine ⟨by rw [bv_length, List.length_take, List.length_drop]; have := HL.out; omega, fun _ => ⟨ab, ao + k, rfl, Nat.lt_of_lt_of_le hab HB.out.size, fun j hj => ?_⟩⟩
              obtain ⟨b', o', hA', _, hca⟩ := HS.out.2 (by omega)
              injection hA' with hA'
              injection hA' with hA1 hA2
              subst hA1
              subst hA2
              rw [Nat.add_assoc, HB.out.cell hab, hca (k + j) (by omega), bv_take, bv_drop, List.getElem?_take_of_lt hj, List.getElem?_drop]
            have HSL := Lib.hid hsl
            have e3 : (k : Int) + (z : Int) ≤ (c : Int) := by omega
            clear hsl
            go_wp2_with (at_builtin; (refine wpList_app _ rfl (.tmp 52) (.tmp 58) 22 rfl wr.heap.size 5 i _ 1 Try.underlying22 hi hz0 hz1 hz2 rfl _ 0 [] rfl (own_empty wr (Nat.le_refl _) _) _ (k + z - k) _ _ rfl (by rw [Nat.add_sub_cancel_left]; exact HSL.out.alloc _) (bv_one _) (by omega) (by omega) (by simp) ?_))
            intro A1 c1 w3 ho hg
            try rw [Nat.add_sub_cancel_left, Nat.zero_add] at ho
            have hb3 := ((Below.refl wr.heap.size wr).alloc (Nat.le_refl _) (.cells #[] 5)).grown hg (by simp) (fun k e => by simp [Value.ownBlock] at e; omega)
            have hgr : g < wr.heap.size := HN.out.lt
            have HN3 := Lib.hid (HN.out.below hb3)
            have HB3' := Lib.hid (HB.out.trans (hb3.mono HB.out.size))
            have HO := Lib.hid ho
            clear ho hg hb3
            go_wp2_with fail
            have hof := own_facts HO.out
            refine (add_any (c := c1) HN3.out (by have := HLK.out; omega) hof.1 (by omega) (fun _ b o e => by have := (hof.2.2.2 b o e).1; omega)).mono ?_
            clear hof
            rintro e w4 ⟨rfl, hs4, hg4⟩
            have ho4 := HO.out.kept hg4 (by
              by_cases hh : (Value.slice A1 z c1).ownBlock = some g
              · have := (HO.out.lt g hh).1
                omega
              · exact .inr hh)
            rw [show bs.take k ++ (bs.drop k).take z = bs.take (k + z) from (List.take_add).symm] at hs4
            have HO4 := Lib.hid ho4
            have HS4 := Lib.hid hs4
            have HB4 := Lib.hid (HB3'.out.trans (below_of_only hg4 hgw HB3'.out.size))
            clear hs4 hg4 ho4 HN3 HB3' HO
            go_wp2_with fail
            have hwr : w.heap.size ≤ wr.heap.size := HB.out.size
            generalize wr.heap.size = base at hwr hgr HO4
            go_loopw [10] (fun i wr => ∃ (j : Nat) (xs : List Value), j ≤ z ∧ i = .int .i64 j ∧ wr.ownsRow base 5 1 (.slice A1 z c1) z xs ∧ SumAt wr g (bs.take (k + z)) ∧ Below w.heap.size w wr) (fun i _ => z - (intOf i).toNat)
            case atStart => exact ⟨0, _, Nat.zero_le _, rfl, HO4.out, HS4.out, HB4.out⟩
            case round =>
              clear HO4 HS4 HB4
              obtain ⟨j, xs, hj, rfl, ho, hs, hb⟩ := hrel
              have HO := Lib.hid ho
              have HS3 := Lib.hid hs
              have HB3 := Lib.hid hb
              clear ho hs hb
              by_cases hlt : j < z
              · obtain ⟨gb, cap, hv, hgb, _⟩ := HO.out.form (by omega)
                simp only [Value.slice.injEq] at hv
                obtain ⟨rfl, -, rfl⟩ := hv
                have hfree := HO.out.frozenAt j
                obtain ⟨old, hold⟩ : ∃ u, wr.cell? ⟨gb, j, none⟩ = some u := by
                  rw [HO.out.cellAt j (by omega), List.getElem?_eq_getElem (by have := HO.out.1; omega)]
                  exact ⟨_, rfl⟩
                go_wp2
                go_roundw
                case rel => exact ⟨j + 1, _, by omega, by go_num, (HO.out.stored j _).1, HS3.out.far (by simp; omega) _, HB3.out.setCell (by simp; omega) _⟩
                case measure => simp [intOf]; omega
              · have hz : j = z := by omega
                clear HO
                have hat : k + z ≤ n := by omega
                have e9 : (k : Int) + (z : Int) = ((k + z : Nat) : Int) := by omega
                have hlen : (bs.take (k + z)).length = k + z := by rw [List.length_take]; have := HL.out; omega
                generalize k + z = kz at hat e9 HS3 hlen
                have KV := Lib.hid (fun dd : Nat => sumValue_any (HS3.out.drewN dd))
                have KC := Lib.hid (fun dd : Nat => sumCount_any (HS3.out.drewN dd))
                have KR := Lib.hid (fun dd : Nat => refOf_any (c := c) (Sl.drewN (by have := (HS.out.below HB3.out).first (k := kz) hat; rwa [← bv_take] at this) dd) (by omega))
                have hle : ((bs.take kz).length : Int) = (kz : Int) := by rw [hlen]
                rw [hle] at KC
                clear hle hlen
                have e10 : (kz : Int) ≤ (c : Int) := by omega
                have e11 : (0 : Int) ≤ (kz : Int) := by omega
                generalize sumOf (bs.take kz) = ss at KV KR
                go_wp2_with fail
                go_quiet ((first
                  | (go_at_call 14; exact quiet_same_at (KV.out _))
                  | (go_at_call 15; exact quiet_same_at (KC.out _))
                  | (go_at_call 10; exact quiet_same_at (KR.out _))))
                go_wp2
                go_roundw
                case rel => exact ⟨kz, q + 1, hat, by omega, by first | rfl | rw [e9], by go_num, HS3.out.drewN _, below_drewN HB3.out _⟩
                case measure => simp [intOf]; omega
        · by_cases hkn : k < n
          · have hqm : ¬ q < m := fun h => hin ⟨h, hkn⟩
            have i1 : decide ((q : Int) < (m : Int)) = false := by simp; omega
            have i0 : ((q : Int) < (m : Int)) = False := by simp; omega
            obtain ⟨ab, ao, rfl, hab, hca⟩ := HS.out.2 (by omega)
            have hsl : Sl wr (some ⟨ab, ao + k, none⟩) (n - k) (bv (bs.drop k)) := by
              refine ⟨by rw [bv_length, List.length_drop]; have := HL.out; omega, fun _ => ⟨ab, ao + k, rfl, Nat.lt_of_lt_of_le hab HB.out.size, fun j hj => ?_⟩⟩
              rw [Nat.add_assoc, HB.out.cell hab, hca (k + j) (by omega), bv_drop, List.getElem?_drop]
            have HSL := Lib.hid hsl
            have HSP := Lib.hid (List.take_append_drop k bs)
            have hck : ¬ c = k := by omega
            have hab2 : ab < g := by omega
            clear hsl hca
            go_wp2_with fail
            refine (add_any HN.out (by have := HLK.out; omega) HSL.out (by omega) (fun _ b o e => by injection e with e; injection e with e; omega)).mono ?_
            rintro e w4 ⟨rfl, hs4, hg4⟩
            rw [HSP.out] at hs4
            have HS4 := Lib.hid hs4
            have HB4 := Lib.hid (HB.out.trans (below_of_only hg4 hgw HB.out.size))
            clear hs4 hg4
            have hle : ((bs.length : Nat) : Int) = (n : Int) := by rw [HL.out]
            have hv := sumValue_any HS4.out
            have hr := refOf_any (c := c) (HS.out.below HB4.out) (by omega)
            have hn := sumCount_any HS4.out
            rw [hle] at hn
            have HV := Lib.hid hv
            have HR := Lib.hid hr
            have HC := Lib.hid hn
            clear hv hr hn hle
            generalize sumOf bs = ss at HV HR
            go_wp2_with (first
              | (go_at_call 14; refine HV.out.mono ?_; rintro e w5 ⟨rfl, rfl⟩)
              | (go_at_call 10; refine HR.out.mono ?_; rintro e w5 ⟨rfl, rfl⟩)
              | (go_at_call 15; refine HC.out.mono ?_; rintro e w5 ⟨rfl, rfl⟩))
            go_ret
            exact ⟨rfl, HB4.out⟩
          · obtain rfl : k = n := by omega
            have HSP : Hid (bs.take k ++ [] = bs) := Lib.hid (by rw [List.append_nil, List.take_of_length_le (by rw [HL.out]; omega)])
            have hnn : ∀ (X : Option Addr), Sl wr X 0 (bv []) := fun X => Sl.nil
            have HNN := Lib.hid hnn
            clear hnn
            have i2 : decide ((k : Int) < (k : Int)) = false := by simp
            by_cases hqm : q < m
            all_goals
              by_cases hck : c = k
              all_goals
                try subst hck
                go_wp2_with fail
                refine (add_any HN.out (by have := HLK.out; omega) (HNN.out _) (by omega) (fun h => absurd h (by omega))).mono ?_
                rintro e w4 ⟨rfl, hs4, hg4⟩
                rw [HSP.out] at hs4
                have HS4 := Lib.hid hs4
                have HB4 := Lib.hid (HB.out.trans (below_of_only hg4 hgw HB.out.size))
                clear hs4 hg4
                have hle := congrArg (Nat.cast : Nat → Int) HL.out
                have hv := sumValue_any HS4.out
                have hr := refOf_any (c := c) (HS.out.below HB4.out) (by omega)
                have hn := sumCount_any HS4.out
                rw [hle] at hn
                have HV := Lib.hid hv
                have HR := Lib.hid hr
                have HC := Lib.hid hn
                clear hv hr hn hle
                generalize sumOf bs = ss at HV HR
                go_wp2_with (first
                  | (go_at_call 14; refine HV.out.mono ?_; rintro e w5 ⟨rfl, rfl⟩)
                  | (go_at_call 10; refine HR.out.mono ?_; rintro e w5 ⟨rfl, rfl⟩)
                  | (go_at_call 15; refine HC.out.mono ?_; rintro e w5 ⟨rfl, rfl⟩))
                go_ret
                exact ⟨rfl, HB4.out⟩
    · have g4 : decide ((300 : Int) < (m : Int)) = true := by simp; omega
      go_enter Try.func4, Try.ntmps4
      go_wp2_with (go_at_call 8; refine (crcAwake_any _).mono ?_; rintro e w1 ⟨rfl, hb⟩; have HW := Lib.hid hb; clear hb)
      go_ret
      exact ⟨rfl, HW.out⟩
  · have g3 : decide ((4096 : Int) < (n : Int)) = true := by simp; omega
    go_enter Try.func4, Try.ntmps4
    go_wp2_with (go_at_call 8; refine (crcAwake_any _).mono ?_; rintro e w1 ⟨rfl, hb⟩; have HW := Lib.hid hb; clear hb)
    go_ret
    exact ⟨rfl, HW.out⟩
set_option maxRecDepth 100000 in
theorem lifted (os : Os) (started : os.Started) (H : Type) (enc : TypeId × Value → H) :
    ReturnsInHanded {} Try.checked os 4 .any (Rows.crcPiecesSpec.pre6 enc Try.prog Try.f4 Rows.crcPiecesRow.domain false) (Rows.crcPiecesSpec.post enc Try.prog Try.f4 false true false false) := by
  refine returnsInHanded_of_change (C := Try.checked) own started (by kernel_rfl) Try.func4
    (ChangeSpec.witness6 (enc := enc) (C := Try.checked) false ⟨#[], #[.slice none 0 0, .slice none 0 0], []⟩ 8 (by kernel_rfl) (by kernel_rfl) (by kernel_rfl) (by kernel_rfl)) ?_
  intro W base args ds gs before hval0 hW hcnd _
  have hval : ∀ (j : Nat) t v, Try.f4.params[j]? = some t → args[j]? = some v → Value.okWide Try.prog W .any base t v := hval0
  have hW' := hW
  obtain ⟨p, q, hA0, hV, rfl, hfz, hnd⟩ := hW
  have hA : DataW.TrodAll enc Try.prog W 0 (fun _ => true) true Try.f4.params.toList args.toList ds p := hA0
  rw [Try.params4] at hA hval
  obtain ⟨v0, vs0, d0, ds0, p0, q0, hargs, rfl, rfl, h0, r0⟩ := trodAll_cons hA
  obtain ⟨v1, vs1, d1, ds1, p1, q1, rfl, rfl, rfl, h1, r1⟩ := trodAll_cons r0
  obtain ⟨rfl, rfl, rfl⟩ := trodAll_nil r1
  obtain rfl : args = #[v0, v1] := by cases args; simp_all
  obtain ⟨rfl, rfl⟩ := trodVars_none hV
  obtain ⟨a0, len0, cap0, rfl⟩ := okWide_slice Try.underlying22 (hval 0 22 v0 rfl rfl)
  have k0 := h0
  have lt0 : ∀ x ∈ p0, x.block < W.heap.size := by obtain ⟨m, hm⟩ := k0; exact DataW.trod_lt m _ _ _ hm
  obtain ⟨bs0, w0, hl0, hm0⟩ := open_bytes Try.underlying22 Try.underlying5 (by kernel_rfl) h0
  obtain ⟨a1, len1, cap1, rfl⟩ := okWide_slice Try.underlying22 (hval 1 22 v1 rfl rfl)
  have k1 := h1
  have lt1 : ∀ x ∈ p1, x.block < W.heap.size := by obtain ⟨m, hm⟩ := k1; exact DataW.trod_lt m _ _ _ hm
  obtain ⟨bs1, w1, hl1, hm1⟩ := open_bytes Try.underlying22 Try.underlying5 (by kernel_rfl) h1
  clear hA0 hval0
  refine (walk w0 hl0 hm0 w1 hl1 hm1).mono fun e W' ⟨he, bel⟩ => ?_
  subst he
  exact ⟨_, rfl, _, _, _, [], _, [], hW', trodAll_mk1 (shut_bool Try.underlying4 _), (trodAll_cons_mk (Below.trod laidOut (by kernel_rfl) (of_decide_eq_true (by kernel_rfl)) k0 bel lt0) (trodAll_cons_mk (Below.trod laidOut (by kernel_rfl) (of_decide_eq_true (by kernel_rfl)) k1 bel lt1) trodAll_mk0)), rfl, bel.frame _, fun h => by cases h⟩

theorem proved : Rows.CrcPiecesSaid :=
  OpenClaim.holds_of_wide 4 Try.f4 rfl rfl rfl rfl rfl rfl rfl ⟨rfl, rfl, rfl, rfl, rfl⟩ rfl rfl rfl rfl rfl (by kernel_rfl) Try.func4 (by kernel_rfl)
    (of_decide_eq_true (by kernel_rfl)) (by unfold Func.isWrapper; first | (rw [if_pos (by decide +kernel)]; kernel_rfl) | (rw [if_neg (by decide +kernel)]; exact ⟨rfl, rfl⟩))
    (fun os started H enc _ => lifted os started H enc)
#print axioms proved
end Go.Proofs.Ytlcefbdoolcgdaa.crcPieces
