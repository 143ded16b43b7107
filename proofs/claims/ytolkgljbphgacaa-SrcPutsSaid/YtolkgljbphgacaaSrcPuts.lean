/-
  The law SrcPuts returns true for all bytes, numbers and rows of bits, and leaves all that was there as it was. No condition.
-/
import Derived.Test.YtolkgljbphgacaaAwake
import Derived.Test.YtolkgljbphgacaaRefNumber
import Derived.Test.YtolkgljbphgacaaRefTold
import Derived.Test.YtolkgljbphgacaaOpen
namespace Go.Proofs.Ytolkgljbphgacaa.srcPuts
open Go.ChangeShapes Go.WideShapes Go.ChangeAt Go.RowKit
set_option linter.unusedVariables false

theorem own : ownKnob Try.prog.godebug = none := by kernel_rfl
theorem laidOut : laidOutB Try.prog = true := by kernel_rfl

/-- What stays while the law runs. -/
structure Stay (w0 : World) (A R : Option Addr) (bs : List UInt8) (row : List Bool) (b o : Nat) (w : World) : Prop where
  given : Sl w A bs.length (bv bs)
  full : Sl w (some ⟨b, o, none⟩) bs.length (bv bs)
  all : Sl w (some ⟨b, o, none⟩) (bs.length + 3) (bv (bs ++ [1, 2, 3]))
  row : Sl w R row.length (fv row)
  below : Below w0.heap.size w0 w
theorem Stay.next {w0 w w' : World} {A R : Option Addr} {bs : List UInt8} {row : List Bool} {b o : Nat} (h : Stay w0 A R bs row b o w) (hb : Below w.heap.size w w') : Stay w0 A R bs row b o w' :=
  ⟨h.given.below hb, h.full.below hb, h.all.below hb, h.row.below hb, below_trans h.below hb⟩
theorem Stay.drewN {w0 w : World} {A R : Option Addr} {bs : List UInt8} {row : List Bool} {b o : Nat} (h : Stay w0 A R bs row b o w) (n : Nat) : Stay w0 A R bs row b o (w.drewN n) :=
  h.next (below_drewN (Below.refl _ _) n)
theorem same_any {A B : Option Addr} {n m c d : Nat} {xs : List UInt8} {w : World} (hA : Sl w A n (bv xs)) (hB : Sl w B m (bv xs)) (hn : n ≤ 1000000000) :
    Calls Try.prog 18 #[.slice A n c, .slice B m d] w fun e w' => e = .returned (.bool true) ∧ ∃ d, w.drewN d = w' := by
  have hl : n = m := by rw [← hA.1, ← hB.1]
  have h := bytes_any (c := c) (d := d) hA hB hn (by omega)
  rwa [decide_eq_true rfl] at h

set_option maxHeartbeats 2000000 in
theorem walk {A R : Option Addr} {n c l rc v : Nat} {bs : List UInt8} {row : List Bool} {w : World} (hA : Sl w A n (bv bs)) (hn : n ≤ maxLen) (hv : v < 18446744073709551616) (hR : Sl w R l (fv row)) (hl : l ≤ maxLen) :
    Calls Try.prog 4 #[.slice A n c, .int .u64 (v : Int), .slice R l rc] w fun e w' => e = .returned (.bool true) ∧ Below w.heap.size w w' := by
  unfold maxLen at hn hl
  obtain rfl : row.length = l := by rw [← hR.1, fv_length]
  obtain rfl : bs.length = n := by rw [← hA.1, bv_length]
  obtain ⟨i, hi, hz0, hz1, hz2⟩ := info_parts info_u8
  have HA := Lib.hid hA
  have HR := Lib.hid hR
  clear hA hR
  go_enter Try.func4, Try.ntmps4
  go_wp2_with fail
  refine (awake_any _).mono ?_
  rintro e w1 ⟨rfl, hb⟩
  have HB1 := Lib.hid hb
  clear hb
  by_cases hbig : bs.length ≤ 65536
  · by_cases hbig2 : row.length ≤ 65536
    · go_wp2_with (at_builtin; refine wpList_app _ rfl (.tmp 21) (.tmp 22) 22 rfl w1.heap.size 5 i _ 1 Try.underlying22 hi hz0 hz1 hz2 rfl _ 0 [] rfl (own_empty w1 (Nat.le_refl _) _) A bs.length c (bv bs) rfl ((HA.out.below HB1.out).alloc _) (bv_one bs) (by omega) (by omega) (by simp) ?_)
      intro A1 c1 w2 ho hg
      have HO := Lib.hid ho
      have HB := Lib.hid (((Below.refl w1.heap.size w1).alloc (Nat.le_refl _) _).grown hg (by simp) (fun k e => by simp [Value.ownBlock] at e; omega))
      clear ho hg
      go_wp2_with (at_builtin; refine wpList_app _ rfl (.tmp 23) (.tmp 24) 22 rfl w1.heap.size 5 i _ 1 Try.underlying22 hi hz0 hz1 hz2 rfl _ bs.length _ rfl (HO.out.alloc _) _ 3 3 _ rfl (sl_lit _ _ _ (by decide)) (by intro u hu; simp at hu; rcases hu with rfl | rfl | rfl <;> rfl) (by omega) (by omega) (by have := HB.out.size; simp; omega) ?_)
      intro A2 c2 w3 ho hg
      have hb3 := ((HB.out.alloc HB.out.size _).grown hg (by have := HB.out.size; simp; omega) (fun k e => (HO.out.lt k e).1))
      have hf := own_facts (show w3.ownsRow w1.heap.size 5 1 (.slice A2 (bs.length + 3) c2) (bs.length + 3) (bv (bs ++ [1, 2, 3])) by rw [bv_append]; exact ho)
      obtain ⟨b, o, rfl, -, -⟩ := hf.1.at_ (by omega)
      have hfull : Sl w3 (some ⟨b, o, none⟩) bs.length (bv bs) := by
        have := hf.1.first (k := bs.length) (by omega)
        rwa [bv_append, List.take_left' (bv_length bs)] at this
      have HST : Hid (Stay w A R bs row b o w3) := Lib.hid ⟨(HA.out.below HB1.out).below hb3, hfull, hf.1, (HR.out.below HB1.out).below hb3, below_trans HB1.out hb3⟩
      have hc2 := hf.2.1
      have hc3 := hf.2.2.1
      have hs9 : (shortBytes v).length ≤ 9 := by rw [shortBytes_length]; have := (fol_is v).le; omega
      have hL1 : rowLenN row.length ≤ 100000 := by unfold rowLenN; omega
      have hT1 : (toldBytes row).length ≤ 100001 := by unfold toldBytes; split <;> simp [rowBytes_length] <;> omega
      unfold maxLen at hc3
      clear ho hg hb3 hf hfull HA HR HB HO HB1
      go_wp2_with fail
      refine (putNumber_any (c := c2) HST.out.full (by omega) hv).mono ?_
      rintro e wa ⟨Aa, ca, rfl, ho, hb⟩
      have HT1 := Lib.hid (HST.out.next hb)
      have HX := Lib.hid (own_facts ho).1
      clear ho hb HST
      go_wp2_with fail
      refine (refNumber_any (c := c) HT1.out.given (by omega) hv).mono ?_
      rintro e wb ⟨Ab, cb, rfl, ho, hb⟩
      have HT2 := Lib.hid (HT1.out.next hb)
      have HX2 := Lib.hid (HX.out.below hb)
      have HY := Lib.hid (own_facts ho).1
      clear ho hb HT1 HX
      go_wp2_with fail
      refine (same_any HX2.out HY.out (by omega)).mono ?_
      rintro e wc ⟨rfl, d, rfl⟩
      have HST := Lib.hid (HT2.out.drewN d)
      clear HT2 HX2 HY
      generalize wb.drewN d = wc at HST
      go_wp2_with fail
      refine (putBits_any (c := c2) (rc := rc) HST.out.full (by omega) HST.out.row (by omega)).mono ?_
      rintro e wa ⟨Aa, ca, rfl, ho, hb⟩
      have HT1 := Lib.hid (HST.out.next hb)
      have HX := Lib.hid (own_facts ho).1
      clear ho hb HST
      go_wp2_with fail
      refine (refPutBits_any (c := c) (rc := rc) HT1.out.given (by omega) HT1.out.row (by omega)).mono ?_
      rintro e wb ⟨Ab, cb, rfl, ho, hb⟩
      have HT2 := Lib.hid (HT1.out.next hb)
      have HX2 := Lib.hid (HX.out.below hb)
      have HY := Lib.hid (own_facts ho).1
      clear ho hb HT1 HX
      go_wp2_with fail
      refine (same_any HX2.out HY.out (by omega)).mono ?_
      rintro e wc ⟨rfl, d, rfl⟩
      have HST := Lib.hid (HT2.out.drewN d)
      clear HT2 HX2 HY
      generalize wb.drewN d = wc at HST
      go_wp2_with fail
      refine (putTold_any (c := c2) (rc := rc) HST.out.full (by omega) HST.out.row (by omega)).mono ?_
      rintro e wa ⟨Aa, ca, rfl, ho, hb⟩
      have HT1 := Lib.hid (HST.out.next hb)
      have HX := Lib.hid (own_facts ho).1
      clear ho hb HST
      go_wp2_with fail
      refine (refPutTold_any (c := c) (rc := rc) HT1.out.given (by omega) HT1.out.row (by omega)).mono ?_
      rintro e wb ⟨Ab, cb, rfl, ho, hb⟩
      have HT2 := Lib.hid (HT1.out.next hb)
      have HX2 := Lib.hid (HX.out.below hb)
      have HY := Lib.hid (own_facts ho).1
      clear ho hb HT1 HX
      go_wp2_with fail
      refine (same_any HX2.out HY.out (by omega)).mono ?_
      rintro e wc ⟨rfl, d, rfl⟩
      have HST := Lib.hid (HT2.out.drewN d)
      clear HT2 HX2 HY
      generalize wb.drewN d = wc at HST
      go_wp2_with fail
      go_loopw [10, 9] (fun x r wr => ∃ k : Nat, k ≤ 10 ∧ x = .int .i64 k ∧ r = .bool true ∧ Stay w A R bs row b o wr) (fun x _ _ => 10 - (intOf x).toNat)
      case atStart => exact ⟨0, by omega, rfl, rfl, HST.out⟩
      case round =>
        clear HST
        obtain ⟨k, hk, rfl, rfl, hst⟩ := hrel
        have HST := Lib.hid hst
        clear hst
        by_cases h10 : k < 10
        · have hpl : (putM (k : Int) v).length ≤ 8 := by
            unfold putM
            split
            · rw [leBytes_length]; omega
            · simp
          go_wp2_with fail
          refine (put_any (c := c2) (x := (k : Int)) HST.out.full (by omega) hv).mono ?_
          rintro e wa ⟨Aa, ca, rfl, ho, hb⟩
          have HT1 := Lib.hid (HST.out.next hb)
          have HX := Lib.hid (own_facts ho).1
          clear ho hb HST
          go_wp2_with fail
          refine (refPut_any (c := c) (x := (k : Int)) HT1.out.given (by omega) hv).mono ?_
          rintro e wb ⟨Ab, cb, rfl, ho, hb⟩
          have HT2 := Lib.hid (HT1.out.next hb)
          have HX2 := Lib.hid (HX.out.below hb)
          have HY := Lib.hid (own_facts ho).1
          clear ho hb HT1 HX
          go_wp2_with fail
          refine (same_any HX2.out HY.out (by omega)).mono ?_
          rintro e wc ⟨rfl, d, rfl⟩
          have HST := Lib.hid (HT2.out.drewN d)
          clear HT2 HX2 HY
          generalize wb.drewN d = wc at HST
          go_wp2_with fail
          go_roundw
          case rel => exact ⟨k + 1, by omega, by go_num, rfl, HST.out⟩
          case measure => simp [intOf]; omega
        · obtain rfl : k = 10 := by omega
          have hc := (HST.out.all.2 (by omega))
          obtain ⟨b', o', e', -, hc⟩ := hc
          injection e' with e'
          injection e' with e1 e2
          subst e1 e2
          have g0 : wr.cell? ⟨b, o + bs.length, none⟩ = some (.int .u8 1) := by rw [hc _ (by omega), bv_append]; simp [bv]
          have g1 : wr.cell? ⟨b, o + (bs.length + 1), none⟩ = some (.int .u8 2) := by rw [hc _ (by omega), bv_append]; simp [bv]
          have g2 : wr.cell? ⟨b, o + (bs.length + 2), none⟩ = some (.int .u8 3) := by rw [hc _ (by omega), bv_append]; simp [bv]
          have HBL := Lib.hid HST.out.below
          clear hc HST
          go_wp2
          go_ret
          exact ⟨rfl, HBL.out⟩
    · go_wp2
      go_ret
      exact ⟨rfl, HB1.out⟩
  · go_wp2
    go_ret
    exact ⟨rfl, HB1.out⟩
set_option maxRecDepth 100000 in
theorem lifted (os : Os) (started : os.Started) (H : Type) (enc : TypeId × Value → H) :
    ReturnsInHanded {} Try.checked os 4 .any (Rows.srcPutsSpec.pre6 enc Try.prog Try.f4 Rows.srcPutsRow.domain false) (Rows.srcPutsSpec.post enc Try.prog Try.f4 false true false false) := by
  refine returnsInHanded_of_change (C := Try.checked) own started (by kernel_rfl) Try.func4
    (ChangeSpec.witness6 (enc := enc) (C := Try.checked) false ⟨#[], #[.slice none 0 0, .int .u64 0, .slice none 0 0], []⟩ 8 (by kernel_rfl) (by kernel_rfl) (by kernel_rfl) (by kernel_rfl)) ?_
  intro W base args ds gs before hval0 hW hcnd _
  have hval : ∀ (j : Nat) t v, Try.f4.params[j]? = some t → args[j]? = some v → Value.okWide Try.prog W .any base t v := hval0
  have hW' := hW
  obtain ⟨p, q, hA0, hV, rfl, hfz, hnd⟩ := hW
  have hA : DataW.TrodAll enc Try.prog W 0 (fun _ => true) true Try.f4.params.toList args.toList ds p := hA0
  rw [Try.params4] at hA hval
  obtain ⟨v0, vs0, d0, ds0, p0, q0, hargs, rfl, rfl, h0, r0⟩ := trodAll_cons hA
  obtain ⟨v1, vs1, d1, ds1, p1, q1, rfl, rfl, rfl, h1, r1⟩ := trodAll_cons r0
  obtain ⟨v2, vs2, d2, ds2, p2, q2, rfl, rfl, rfl, h2, r2⟩ := trodAll_cons r1
  obtain ⟨rfl, rfl, rfl⟩ := trodAll_nil r2
  obtain rfl : args = #[v0, v1, v2] := by cases args; simp_all
  obtain ⟨rfl, rfl⟩ := trodVars_none hV
  obtain ⟨a0, len0, cap0, rfl⟩ := okWide_slice Try.underlying22 (hval 0 22 v0 rfl rfl)
  have k0 := h0
  have lt0 : ∀ x ∈ p0, x.block < W.heap.size := by obtain ⟨m, hm⟩ := k0; exact DataW.trod_lt m _ _ _ hm
  obtain ⟨bs, w0, hl0, hm0⟩ := open_bytes Try.underlying22 Try.underlying5 (by kernel_rfl) h0
  obtain ⟨a1, rfl, rfl, rfl, w1⟩ := open_int Try.underlying33 (hval 1 33 v1 rfl rfl) h1
  obtain ⟨a2, len2, cap2, rfl⟩ := okWide_slice Try.underlying39 (hval 2 39 v2 rfl rfl)
  have k2 := h2
  have lt2 : ∀ x ∈ p2, x.block < W.heap.size := by obtain ⟨m, hm⟩ := k2; exact DataW.trod_lt m _ _ _ hm
  obtain ⟨row, w2, hl2, hm2⟩ := open_flags Try.underlying39 Try.underlying4 (by kernel_rfl) h2
  clear hA0 hval0
  have b1 := bounds_u64 w1
  obtain ⟨n1, rfl⟩ := Int.eq_ofNat_of_zero_le b1.1
  refine (walk w0 (by omega) (by omega) w2 (by omega)).mono fun e W' ⟨he, bel⟩ => ?_
  subst he
  exact ⟨_, rfl, _, _, _, [], _, [], hW', trodAll_mk1 (shut_bool Try.underlying4 _), (trodAll_cons_mk (Below.trod laidOut (by kernel_rfl) (of_decide_eq_true (by kernel_rfl)) k0 bel lt0) (trodAll_cons_mk (shut_int Try.underlying33 w1) (trodAll_cons_mk (Below.trod laidOut (by kernel_rfl) (of_decide_eq_true (by kernel_rfl)) k2 bel lt2) trodAll_mk0))), rfl, bel.frame _, fun h => by cases h⟩

theorem proved : Rows.SrcPutsSaid :=
  OpenClaim.holds_of_wide 4 Try.f4 rfl rfl rfl rfl rfl rfl rfl ⟨rfl, rfl, rfl, rfl, rfl⟩ rfl rfl rfl rfl rfl (by kernel_rfl) Try.func4 (by kernel_rfl)
    (of_decide_eq_true (by kernel_rfl)) (by unfold Func.isWrapper; first | (rw [if_pos (by decide +kernel)]; kernel_rfl) | (rw [if_neg (by decide +kernel)]; exact ⟨rfl, rfl⟩))
    (fun os started H enc _ => lifted os started H enc)
#print axioms proved
end Go.Proofs.Ytolkgljbphgacaa.srcPuts
