/-
  The law SrcTakes returns true for all bytes and every two numbers of 16 bits, and leaves all that was there as it was. No condition.
-/
import Derived.Test.YtolkgljbphgacaaAwake
import Derived.Test.YtolkgljbphgacaaTake
import Derived.Test.YtolkgljbphgacaaOpen
namespace Go.Proofs.Ytolkgljbphgacaa.srcTakes
open Go.ChangeShapes Go.WideShapes Go.ChangeAt Go.RowKit
set_option linter.unusedVariables false

theorem own : ownKnob Try.prog.godebug = none := by kernel_rfl
theorem laidOut : laidOutB Try.prog = true := by kernel_rfl

theorem left_start (bs : List UInt8) : leftOf bs 0 0 = bs := by simp [leftOf]
theorem fit_pure (bs : List UInt8) (n m : Nat) (h : n + m ≤ bs.length) :
    takeM bs 0 0 n = (bs.take n, n, 0) ∧ takeM bs n 0 m = ((bs.drop n).take m, n + m, 0) ∧ takeM bs 0 0 (n + m) = (bs.take (n + m), n + m, 0) := by
  refine ⟨?_, ?_, ?_⟩
  · simp [takeM, leftOf]; omega
  · simp [takeM, leftOf]; omega
  · simp [takeM, leftOf]; omega
theorem short_pure (bs : List UInt8) (n m : Nat) (h : bs.length < n + m) :
    leftOf bs (takeM bs (takeM bs 0 0 n).2.1 (takeM bs 0 0 n).2.2 m).2.1 (takeM bs (takeM bs 0 0 n).2.1 (takeM bs 0 0 n).2.2 m).2.2 = [] ∧ (takeM bs (takeM bs 0 0 n).2.1 (takeM bs 0 0 n).2.2 m).2.2 = 3 ∧
    takeM bs 0 0 (n + m) = ([], 0, 3) := by
  have h3 : takeM bs 0 0 (n + m) = ([], 0, 3) := by
    unfold takeM
    rw [left_start, if_neg (by omega)]
    simp [over]
  by_cases h1 : n ≤ bs.length
  · have e1 : takeM bs 0 0 n = (bs.take n, n, 0) := by simp [takeM, leftOf]; omega
    have e2 : takeM bs n 0 m = ([], n, 3) := by
      unfold takeM
      have : leftOf bs n 0 = bs.drop n := by simp [leftOf]
      rw [this, List.length_drop, if_neg (by omega)]
      simp [over]
    rw [e1]
    simp only
    rw [e2]
    exact ⟨by simp [leftOf], rfl, h3⟩
  · have e1 : takeM bs 0 0 n = ([], 0, 3) := by
      unfold takeM
      rw [left_start, if_neg (by omega)]
      simp [over]
    rw [e1]
    simp only
    have e2 : leftOf bs 0 3 = [] := by simp [leftOf]
    by_cases hm : m = 0
    · subst hm
      have : takeM bs 0 3 0 = ([], 0, 3) := by simp [takeM, e2]
      rw [this]
      exact ⟨e2, rfl, h3⟩
    · have : takeM bs 0 3 m = ([], 0, 3) := by
        unfold takeM
        rw [e2, if_neg (by simp; omega)]
        simp [over]
      rw [this]
      exact ⟨e2, rfl, h3⟩

theorem takeM_len (bs : List UInt8) (k : Nat) (code : Int) (n : Nat) : (takeM bs k code n).1.length ≤ bs.length := by
  unfold takeM
  split
  · have : (leftOf bs k code).length ≤ bs.length := by unfold leftOf; split <;> simp
    simp only [List.length_take]; omega
  · simp

theorem takes_pure {bs r1 r2 r3 : List UInt8} {n m k1 k2 k3 : Nat} {c1 c2 c3 : Int} (E1 : takeM bs 0 0 n = (r1, k1, c1)) (E2 : takeM bs k1 c1 m = (r2, k2, c2)) (E3 : takeM bs 0 0 (n + m) = (r3, k3, c3)) :
    (n + m ≤ bs.length → r1 ++ r2 = r3 ∧ r3 = bs.take (n + m) ∧ leftOf bs k2 c2 = leftOf bs k3 c3) ∧ (bs.length < n + m → r3 = [] ∧ leftOf bs k2 c2 = [] ∧ leftOf bs k3 c3 = [] ∧ c2 = c3) := by
  refine ⟨fun h => ?_, fun h => ?_⟩
  · obtain ⟨h1, h2, h3⟩ := fit_pure bs n m h
    rw [h1] at E1
    injection E1 with a1 E1
    injection E1 with a2 a3
    subst a1 a2 a3
    rw [h2] at E2
    injection E2 with b1 E2
    injection E2 with b2 b3
    rw [h3] at E3
    injection E3 with d1 E3
    injection E3 with d2 d3
    subst b1 b2 b3 d1 d2 d3
    exact ⟨List.take_add.symm, rfl, rfl⟩
  · obtain ⟨h1, h2, h3⟩ := short_pure bs n m h
    rw [E1] at h1 h2
    simp only at h1 h2
    rw [E2] at h1 h2
    rw [h3] at E3
    injection E3 with d1 E3
    injection E3 with d2 d3
    subst d1 d2 d3
    exact ⟨rfl, h1, by simp [leftOf], h2⟩

set_option maxHeartbeats 2000000 in
theorem walk {A : Option Addr} {l c : Nat} {bs : List UInt8} {n m : Nat} {w : World} (hS : Sl w A l (bv bs)) (hl : l ≤ maxLen) (hlc : l ≤ c) (hn : n < 65536) (hm : m < 65536) :
    Calls Try.prog 10 #[.slice A l c, .int .u16 (n : Int), .int .u16 (m : Int)] w fun e w' => e = .returned (.bool true) ∧ Below w.heap.size w w' := by
  unfold maxLen at hl
  obtain rfl : bs.length = l := by rw [← hS.1, bv_length]
  obtain ⟨i, hi, hz0, hz1, hz2⟩ := info_parts info_u8
  have HS := Lib.hid hS
  clear hS
  have en : IntKind.u64.wrap (n : Int) = (n : Int) := u64_in _ (by omega)
  have em : IntKind.u64.wrap (m : Int) = (m : Int) := u64_in _ (by omega)
  by_cases hbig : bs.length ≤ 65536
  · go_enter Try.func10, Try.ntmps10
    go_wp2_with fail
    refine (awake_any _).mono ?_
    rintro e w1 ⟨rfl, hb⟩
    have HB1 := Lib.hid hb
    clear hb
    go_wp2_with fail
    refine (new_any (HS.out.below HB1.out) (by omega)).mono ?_
    rintro e w2 ⟨gc, rfl, hgc, hc, hb⟩
    have HB2 := Lib.hid (below_trans HB1.out hb)
    have HC2 := Lib.hid hc.old
    have hgc0 : w.heap.size ≤ gc := by have := HB1.out.size; omega
    clear hc hb hgc
    go_wp2_with fail
    refine (new_any (HS.out.below HB2.out) (by omega)).mono ?_
    rintro e w3 ⟨gd, rfl, hgd, hd, hb⟩
    have HB3 := Lib.hid (below_trans HB2.out hb)
    have HC3 := Lib.hid (HC2.out.below hb)
    have HD3 := Lib.hid hd.old
    have hcd : gc < gd := by have := HC2.out.lt; omega
    have hd3 := HD3.out.lt
    have hc2 := HC2.out.lt
    have hz32 := hb.size
    clear hd hb
    rcases E1 : takeM bs 0 0 n with ⟨r1, k1, c1⟩
    rcases E2 : takeM bs k1 c1 m with ⟨r2, k2, c2⟩
    rcases E3 : takeM bs 0 0 (n + m) with ⟨r3, k3, c3⟩
    have L1 := takeM_len bs 0 0 n
    have L2 := takeM_len bs k1 c1 m
    have L3 := takeM_len bs 0 0 (n + m)
    rw [E1] at L1
    rw [E2] at L2
    rw [E3] at L3
    simp only at L1 L2 L3
    have hp := takes_pure E1 E2 E3
    have HP := Lib.hid hp
    have HE1 := Lib.hid E1
    have HE2 := Lib.hid E2
    have HE3 := Lib.hid E3
    clear E1 E2 E3 hp
    go_wp2_with fail
    have ht := take_any (n := n) (x := (n : Int)) (HC3.out.below ((Below.refl _ _).alloc (Nat.le_refl _) (.cells #[] 5))) (by omega) rfl
    rw [HE1.out] at ht
    refine ht.mono ?_
    clear ht
    rintro e w4 ⟨A1, d1, rfl, ho, hc, hg⟩
    have hg' : w3.grownBy w4 (some gc) := ⟨hg.os, hg.tape, hg.output, Nat.le_trans (by simp) hg.size, fun k hk hne => (hg.block k (by simp; omega) hne).trans (Below.heap_alloc _ _ _ hk)⟩
    have HO0 := Lib.hid ((own_empty w3 (Nat.le_refl _) 5).kept hg (.inr (by simp [Value.ownBlock]; omega)))
    have HG4 := Lib.hid hg'
    have HO4 := Lib.hid ho
    have HC4 := Lib.hid hc
    have HD4 := Lib.hid (HD3.out.grown hg' (fun k e => by injection e with e; subst e; exact ⟨by omega, by rintro ⟨h1, h2⟩; omega⟩))
    clear ho hc hg hg'
    have hz4 := HG4.out.size
    simp only at HO4
    go_wp2_with (at_builtin; refine wpList_app _ rfl (.tmp 20) (.tmp 24) 22 rfl w3.heap.size 5 i _ 1 Try.underlying22 hi hz0 hz1 hz2 rfl _ 0 [] rfl HO0.out A1 r1.length d1 (bv r1) rfl (own_facts HO4.out).1 (bv_one r1) (by omega) (by omega) hz4 ?_)
    intro A2 d2 w5 ho hg
    have hrow : ∀ k, (Value.slice (some ⟨w3.heap.size, 0, none⟩) 0 0).ownBlock = some k → w3.heap.size ≤ k := fun k e => by simp [Value.ownBlock] at e; omega
    have HC5 := Lib.hid (HC4.out.grown hg (fun k e => by have := hrow k e; exact ⟨by omega, by rintro ⟨h1, h2⟩; omega⟩))
    have HD5 := Lib.hid (HD4.out.grown hg (fun k e => by have := hrow k e; exact ⟨by omega, by rintro ⟨h1, h2⟩; omega⟩))
    have HB5 := Lib.hid ((HB3.out.trans (below_of_only HG4.out hgc0 HB3.out.size)).grown hg (Nat.le_trans HB3.out.size hz4) (fun k e => Nat.le_trans HB3.out.size (hrow k e)))
    have HO5 := Lib.hid ho
    have hz5 : w3.heap.size ≤ w5.heap.size := Nat.le_trans hz4 hg.size
    clear ho hg
    go_wp2_with fail
    have ht := take_any (n := m) (x := (m : Int)) HC5.out (by omega) rfl
    rw [HE2.out] at ht
    refine ht.mono ?_
    clear ht
    rintro e w6 ⟨A3, d3, rfl, ho, hc, hg⟩
    simp only at ho
    have HO6 := Lib.hid (HO5.out.kept hg (by
      rcases h : (Value.slice A2 r1.length d2).ownBlock with _ | k
      · exact .inl rfl
      · have := (HO5.out.lt k h).1
        exact .inr (fun e => by injection e with e; omega)))
    have HD6 := Lib.hid (HD5.out.grown hg (fun k e => by injection e with e; subst e; exact ⟨by omega, by rintro ⟨h1, h2⟩; omega⟩))
    have HS6 := Lib.hid (own_facts ho).1
    have HC6 := Lib.hid hc
    have HB6 := Lib.hid (HB5.out.trans (below_of_only hg hgc0 HB5.out.size))
    have hz6 : w3.heap.size ≤ w6.heap.size := Nat.le_trans hz5 hg.size
    clear ho hc hg
    go_wp2_with (at_builtin; refine wpList_app _ rfl (.tmp 25) (.tmp 29) 22 rfl w3.heap.size 5 i _ 1 Try.underlying22 hi hz0 hz1 hz2 rfl _ r1.length _ rfl HO6.out A3 r2.length d3 (bv r2) rfl HS6.out (bv_one r2) (by omega) (by omega) hz6 ?_)
    intro A4 d4 w7 ho hg
    have hrow6 : ∀ k, (Value.slice A2 r1.length d2).ownBlock = some k → w3.heap.size ≤ k := fun k e => (HO6.out.lt k e).1
    have HC7 := Lib.hid (HC6.out.grown hg (fun k e => by have := hrow6 k e; exact ⟨by omega, by rintro ⟨h1, h2⟩; omega⟩))
    have HD7 := Lib.hid (HD6.out.grown hg (fun k e => by have := hrow6 k e; exact ⟨by omega, by rintro ⟨h1, h2⟩; omega⟩))
    have HB7 := Lib.hid (HB6.out.grown hg (Nat.le_trans HB3.out.size hz6) (fun k e => Nat.le_trans HB3.out.size (hrow6 k e)))
    have hx7 := (own_facts ho).1
    have HX7 := Lib.hid (own_facts ho).2.2.2
    rw [← bv_append] at hx7
    have HS7 := Lib.hid hx7
    clear ho hg hx7
    go_wp2_with fail
    have ht := take_any (n := n + m) (x := (n : Int) + (m : Int)) HD7.out (by omega) (by omega)
    rw [HE3.out] at ht
    refine ht.mono ?_
    clear ht
    rintro e w8 ⟨A5, d5, rfl, ho, hd, hg⟩
    simp only at ho
    have HC8 := Lib.hid (HC7.out.grown hg (fun k e => by injection e with e; subst e; exact ⟨by omega, by rintro ⟨h1, h2⟩; omega⟩))
    have HX8 := Lib.hid (HS7.out.grown hg (fun _ b o e => by have := (HX7.out b o e).1; omega))
    have HB8 := Lib.hid (HB7.out.trans (below_of_only hg (by omega) HB7.out.size))
    have HY8 := Lib.hid (own_facts ho).1
    have HD8 := Lib.hid hd
    clear ho hd hg
    have HS8 := Lib.hid (HS.out.below HB8.out)
    simp only at HD8
    by_cases hfit : n + m ≤ bs.length
    · obtain ⟨p1, p2, p3⟩ := HP.out.1 hfit
      have hq1 := fun W h1 h2 => bytes_any (A := A4) (B := A5) (n := r1.length + r2.length) (m := r3.length) (c := d4) (d := d5) (xs := r1 ++ r2) (ys := r3) (w := W) h1 h2 (by omega) (by omega)
      rw [decide_eq_true p1] at hq1
      have hq2 := fun W h1 h2 => bytes_any (A := A5) (B := A) (n := r3.length) (m := n + m) (c := d5) (d := c) (xs := r3) (ys := bs.take (n + m)) (w := W) h1 h2 (by omega) (by omega)
      rw [decide_eq_true p2] at hq2
      have HQ1 := Lib.hid hq1
      have HQ2 := Lib.hid hq2
      have HL := Lib.hid p3
      have hF := HS8.out.first hfit
      rw [← bv_take] at hF
      have HF8 := Lib.hid hF
      clear hq1 hq2 hF p1 p2 p3
      go_wp2_with fail
      refine (HQ1.out _ HX8.out HY8.out).mono ?_
      rintro e w9 ⟨rfl, d9, rfl⟩
      go_wp2_with fail
      refine (HQ2.out _ (HY8.out.drewN _) (HF8.out.drewN _)).mono ?_
      rintro e w10 ⟨rfl, d10, rfl⟩
      go_wp2_with fail
      have hl1 := left_any (HC8.out.drewN (d9 + d10))
      rw [HL.out] at hl1
      have HL1 := Lib.hid hl1
      clear hl1
      refine HL1.out.mono ?_
      rintro e w11 ⟨rfl, d11, rfl⟩
      go_wp2_with fail
      refine (left_any (HD8.out.drewN _)).mono ?_
      rintro e w12 ⟨rfl, d12, rfl⟩
      go_wp2_with fail
      go_ret
      exact ⟨rfl, below_drewN HB8.out _⟩
    · obtain ⟨p1, p2, p3, p4⟩ := HP.out.2 (by omega)
      have HN1 := Lib.hid p1
      have HN2 := Lib.hid p2
      have HN3 := Lib.hid p3
      have HN4 := Lib.hid p4
      have hr3 : r3.length = 0 := by rw [p1]; rfl
      have hl1 := fun W (h : Cur 65 W gc (fun b => w1.heap.size ≤ b ∧ b < w2.heap.size) bs k2 c2) => left_any h
      rw [p2] at hl1
      have hl2 := fun W (h : Cur 65 W gd (fun b => w2.heap.size ≤ b ∧ b < w3.heap.size) bs k3 c3) => left_any h
      rw [p3] at hl2
      have hc1 : Cur 65 w8 gc (fun b => w1.heap.size ≤ b ∧ b < w2.heap.size) bs k2 c3 := by rw [← p4]; exact HC8.out
      have HL1 := Lib.hid hl1
      have HL2 := Lib.hid hl2
      have HC1 := Lib.hid hc1
      have HR3 := Lib.hid hr3
      clear p1 p2 p3 p4 hl1 hl2 hc1 hr3
      have hz : ((r3.length : Int) == 0) = true := by rw [HR3.out]; rfl
      go_wp2_with fail
      refine (HL1.out _ HC8.out).mono ?_
      rintro e w9 ⟨rfl, d9, rfl⟩
      go_wp2_with fail
      refine (HL2.out _ (HD8.out.drewN _)).mono ?_
      rintro e w10 ⟨rfl, d10, rfl⟩
      go_wp2_with fail
      refine (code_any (HC1.out.drewN _)).mono ?_
      rintro e w11 ⟨rfl, rfl⟩
      go_wp2_with fail
      refine (code_any (HD8.out.drewN _)).mono ?_
      rintro e w12 ⟨rfl, rfl⟩
      go_wp2_with fail
      go_ret
      exact ⟨rfl, below_drewN HB8.out _⟩
  · go_enter Try.func10, Try.ntmps10
    go_wp2_with (first
      | (go_at_call 11; refine (awake_any _).mono ?_; rintro e w1 ⟨rfl, hb⟩; have HB := Lib.hid hb; clear hb))
    go_ret
    exact ⟨rfl, HB.out⟩
set_option maxRecDepth 100000 in
theorem lifted (os : Os) (started : os.Started) (H : Type) (enc : TypeId × Value → H) :
    ReturnsInHanded {} Try.checked os 10 .any (Rows.srcTakesSpec.pre6 enc Try.prog Try.f10 Rows.srcTakesRow.domain false) (Rows.srcTakesSpec.post enc Try.prog Try.f10 false true false false) := by
  refine returnsInHanded_of_change (C := Try.checked) own started (by kernel_rfl) Try.func10
    (ChangeSpec.witness6 (enc := enc) (C := Try.checked) false ⟨#[], #[.slice none 0 0, .int .u16 0, .int .u16 0], []⟩ 8 (by kernel_rfl) (by kernel_rfl) (by kernel_rfl) (by kernel_rfl)) ?_
  intro W base args ds gs before hval0 hW hcnd _
  have hval : ∀ (j : Nat) t v, Try.f10.params[j]? = some t → args[j]? = some v → Value.okWide Try.prog W .any base t v := hval0
  have hW' := hW
  obtain ⟨p, q, hA0, hV, rfl, hfz, hnd⟩ := hW
  have hA : DataW.TrodAll enc Try.prog W 0 (fun _ => true) true Try.f10.params.toList args.toList ds p := hA0
  rw [Try.params10] at hA hval
  obtain ⟨v0, vs0, d0, ds0, p0, q0, hargs, rfl, rfl, h0, r0⟩ := trodAll_cons hA
  obtain ⟨v1, vs1, d1, ds1, p1, q1, rfl, rfl, rfl, h1, r1⟩ := trodAll_cons r0
  obtain ⟨v2, vs2, d2, ds2, p2, q2, rfl, rfl, rfl, h2, r2⟩ := trodAll_cons r1
  obtain ⟨rfl, rfl, rfl⟩ := trodAll_nil r2
  obtain rfl : args = #[v0, v1, v2] := by cases args; simp_all
  obtain ⟨rfl, rfl⟩ := trodVars_none hV
  obtain ⟨a0, len0, cap0, rfl⟩ := okWide_slice Try.underlying22 (hval 0 22 v0 rfl rfl)
  have k0 := h0
  have lt0 : ∀ x ∈ p0, x.block < W.heap.size := by obtain ⟨m, hm⟩ := k0; exact DataW.trod_lt m _ _ _ hm
  obtain ⟨bs, w0, hl0, hm0⟩ := open_bytes Try.underlying22 Try.underlying5 (by kernel_rfl) h0
  obtain ⟨a1, rfl, rfl, rfl, w1⟩ := open_int Try.underlying61 (hval 1 61 v1 rfl rfl) h1
  obtain ⟨a2, rfl, rfl, rfl, w2⟩ := open_int Try.underlying61 (hval 2 61 v2 rfl rfl) h2
  clear hA0 hval0
  have b1 := bounds_u16 w1
  have b2 := bounds_u16 w2
  obtain ⟨n1, rfl⟩ := Int.eq_ofNat_of_zero_le b1.1
  obtain ⟨n2, rfl⟩ := Int.eq_ofNat_of_zero_le b2.1
  refine (walk w0 (by omega) hl0 (by omega) (by omega)).mono fun e W' ⟨he, bel⟩ => ?_
  subst he
  exact ⟨_, rfl, _, _, _, [], _, [], hW', trodAll_mk1 (shut_bool Try.underlying4 _), (trodAll_cons_mk (Below.trod laidOut (by kernel_rfl) (of_decide_eq_true (by kernel_rfl)) k0 bel lt0) (trodAll_cons_mk (shut_int Try.underlying61 w1) (trodAll_cons_mk (shut_int Try.underlying61 w2) trodAll_mk0))), rfl, bel.frame _, fun h => by cases h⟩

theorem proved : Rows.SrcTakesSaid :=
  OpenClaim.holds_of_wide 10 Try.f10 rfl rfl rfl rfl rfl rfl rfl ⟨rfl, rfl, rfl, rfl, rfl⟩ rfl rfl rfl rfl rfl (by kernel_rfl) Try.func10 (by kernel_rfl)
    (of_decide_eq_true (by kernel_rfl)) (by unfold Func.isWrapper; first | (rw [if_pos (by decide +kernel)]; kernel_rfl) | (rw [if_neg (by decide +kernel)]; exact ⟨rfl, rfl⟩))
    (fun os started H enc _ => lifted os started H enc)
#print axioms proved
end Go.Proofs.Ytolkgljbphgacaa.srcTakes
