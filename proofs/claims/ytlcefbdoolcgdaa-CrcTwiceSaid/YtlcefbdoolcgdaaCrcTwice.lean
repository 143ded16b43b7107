/-
  The law CrcTwice returns true for every three rows of bytes, and leaves all that was there as it was. No condition.
-/
import Derived.Test.YtlcefbdoolcgdaaCrcAwake
import Derived.Test.YtlcefbdoolcgdaaOpen
import Derived.Deep.RegionHeld3
import Derived.StillTailTactics
import Derived.ProofKit
import Derived.OpenShut
import Derived.ShutString
import Derived.ChangeOld
import Derived.Below
namespace Go.Proofs.Ytlcefbdoolcgdaa.crcTwice
open Go.ChangeShapes Go.WideShapes Go.ChangeAt Go.RowKit
set_option linter.unusedVariables false

theorem own : ownKnob Try.prog.godebug = none := by kernel_rfl
theorem laidOut : laidOutB Try.prog = true := by kernel_rfl

theorem info_u8 : (Try.prog.info? 5).map (fun i => (i.zero, i.size, i.bytes)) = some (some (.int .u8 0), 1, 1) := by kernel_rfl

theorem min3_nat {P : Program} (ts : Array TypeId) (t : TypeId) (x y z k : Nat) (hk : k = min x (min y z)) : ∀ w, (Builtin.min_ ts t #[.int .i64 (x : Int), .int .i64 (y : Int), .int .i64 (z : Int)]).run P w = .ok (.int .i64 (k : Int)) w := by
  intro w
  have e : (if (z : Int) < (if (y : Int) < (x : Int) then (y : Int) else (x : Int)) then (z : Int) else (if (y : Int) < (x : Int) then (y : Int) else (x : Int))) = (k : Int) := by
    split <;> split at * <;> omega
  rw [← e]
  simp [Builtin.min_, Builtin.min2]

/-- three rows, byte by byte -/
def xor3 (a b c : List UInt8) : List UInt8 := (a.zip (b.zip c)).map fun p => p.1 ^^^ p.2.1 ^^^ p.2.2
theorem xor3_length (a b c : List UInt8) (k : Nat) (ha : a.length = k) (hb : b.length = k) (hc : c.length = k) : (xor3 a b c).length = k := by
  simp [xor3, ha, hb, hc]
theorem xor3_snoc (a b c : List UInt8) (x y z : UInt8) (hb : a.length = b.length) (hc : a.length = c.length) : xor3 (a ++ [x]) (b ++ [y]) (c ++ [z]) = xor3 a b c ++ [x ^^^ y ^^^ z] := by
  unfold xor3
  rw [List.zip_append (by omega), List.zip_append (by simp; omega), List.map_append]
  rfl
theorem xor3_set (xs ys zs : List UInt8) (j k : Nat) (h : j < k) (hx : k ≤ xs.length) (hy : k ≤ ys.length) (hz : k ≤ zs.length) :
    (bv (xor3 (xs.take j) (ys.take j) (zs.take j) ++ List.replicate (k - j) 0)).set j (.int .u8 (((xs.getD j 0).toNat ^^^ (ys.getD j 0).toNat ^^^ (zs.getD j 0).toNat : Nat) : Int)) =
      bv (xor3 (xs.take (j + 1)) (ys.take (j + 1)) (zs.take (j + 1)) ++ List.replicate (k - (j + 1)) 0) := by
  have l1 : (xs.take j).length = j := by rw [List.length_take]; omega
  have l2 : (ys.take j).length = j := by rw [List.length_take]; omega
  have l3 : (zs.take j).length = j := by rw [List.length_take]; omega
  rw [take_snoc xs j (by omega) 0, take_snoc ys j (by omega) 0, take_snoc zs j (by omega) 0, xor3_snoc _ _ _ _ _ _ (by omega) (by omega)]
  have hl := xor3_length _ _ _ j l1 l2 l3
  generalize xor3 (xs.take j) (ys.take j) (zs.take j) = r at hl
  obtain ⟨m, hm⟩ : ∃ m, k - j = m + 1 := ⟨k - j - 1, by omega⟩
  rw [show k - (j + 1) = m by omega, hm, List.replicate_succ, bv_append, List.set_append_right _ _ (by rw [bv_length]; omega), bv_length, hl, Nat.sub_self]
  simp [bv]

theorem madeBytes (n : Nat) : (madeCells #[Value.int .u8 0] n).toList = bv (List.replicate n 0) := by
  rw [toList_madeCells_one]
  simp [bv]

set_option maxRecDepth 100000 in
set_option maxHeartbeats 1600000 in
theorem walk {A B C : Option Addr} {n m l c d f : Nat} {xs ys zs : List UInt8} {w : World} (hA : Sl w A n (bv xs)) (hnc : n ≤ c) (hc : c ≤ maxLen) (hB : Sl w B m (bv ys)) (hmd : m ≤ d) (hd : d ≤ maxLen) (hC : Sl w C l (bv zs)) (hlf : l ≤ f) (hf : f ≤ maxLen) :
    Calls Try.prog 6 #[.slice A n c, .slice B m d, .slice C l f] w fun e w' => e = .returned (.bool true) ∧ Below w.heap.size w w' := by
  unfold maxLen at hc hd hf
  obtain ⟨i, hi, hz0, hz1, hz2⟩ := info_parts info_u8
  have hxl : xs.length = n := by rw [← hA.1, bv_length]
  have hyl : ys.length = m := by rw [← hB.1, bv_length]
  have hzl : zs.length = l := by rw [← hC.1, bv_length]
  have HXL := Lib.hid hxl
  have HYL := Lib.hid hyl
  have HZL := Lib.hid hzl
  have HA := Lib.hid hA
  have HB := Lib.hid hB
  have HC := Lib.hid hC
  obtain ⟨k, hk⟩ : ∃ k, k = min n (min m l) := ⟨_, rfl⟩
  have hmin := fun (w : World) => min3_nat (P := Try.prog) #[3, 3, 3] 3 n m l k hk w
  have hkn : k ≤ n := by omega
  have hkm : k ≤ m := by omega
  have hkl : k ≤ l := by omega
  clear hA hB hC hxl hyl hzl hk
  by_cases hbig : k ≤ 16384
  · go_enter Try.func6, Try.ntmps6
    go_wp2_with (first
      | (go_at_call 8; refine (crcAwake_any _).mono ?_; rintro e w1 ⟨rfl, hb⟩; have HW := Lib.hid hb; clear hb)
      | (at_make; refine wpList_make_full _ rfl _ _ 22 rfl w1.heap.size 5 i _ 1 Try.underlying22 hi hz0 hz1 _ _ _ _ k rfl rfl rfl rfl ?b1 ?b2 ?b3 ?_))
    case b1 => rw [hz2]; omega
    case b2 => unfold maxLen; omega
    case b3 => omega
    intro w2 ho hg
    rw [madeBytes] at ho
    have HO := Lib.hid ho
    have HG := Lib.hid (only_none hg)
    have HA1 := Lib.hid (HA.out.below HW.out)
    have HB1 := Lib.hid (HB.out.below HW.out)
    have HC1 := Lib.hid (HC.out.below HW.out)
    clear ho hg HA HB HC hmin
    go_wp2_with fail
    go_loopw [9] (fun i wr => ∃ j : Nat, j ≤ k ∧ i = .int .i64 j ∧ wr.ownsRow w1.heap.size 5 1 (.slice (some ⟨w1.heap.size, 0, none⟩) k k) k (bv (xor3 (xs.take j) (ys.take j) (zs.take j) ++ List.replicate (k - j) 0)) ∧ Below w1.heap.size w1 wr) (fun i _ => k - (intOf i).toNat)
    case atStart => exact ⟨0, Nat.zero_le _, rfl, by simpa [xor3] using HO.out, HG.out⟩
    case round =>
      clear HO HG
      obtain ⟨j, hj, rfl, ho, hb⟩ := hrel
      have HO := Lib.hid ho
      have HG := Lib.hid hb
      clear ho hb
      by_cases hlt : j < k
      · have hfree := HO.out.frozenAt j
        obtain ⟨ba, oa, rfl, hba, hca⟩ := HA1.out.2 (by omega)
        obtain ⟨bb, ob, rfl, hbb, hcb⟩ := HB1.out.2 (by omega)
        obtain ⟨bc, oc, rfl, hbc, hcc⟩ := HC1.out.2 (by omega)
        have ca : wr.cell? ⟨ba, oa + j, none⟩ = some (.int .u8 ((xs.getD j 0).toNat : Int)) := by rw [HG.out.cell hba, hca j (by omega), bv_get _ _ (by have := HXL.out; omega)]
        have cb : wr.cell? ⟨bb, ob + j, none⟩ = some (.int .u8 ((ys.getD j 0).toNat : Int)) := by rw [HG.out.cell hbb, hcb j (by omega), bv_get _ _ (by have := HYL.out; omega)]
        have cc : wr.cell? ⟨bc, oc + j, none⟩ = some (.int .u8 ((zs.getD j 0).toNat : Int)) := by rw [HG.out.cell hbc, hcc j (by omega), bv_get _ _ (by have := HZL.out; omega)]
        have hl2 : (bv (xor3 (xs.take j) (ys.take j) (zs.take j) ++ List.replicate (k - j) 0)).length = k := by
          rw [bv_length, List.length_append, xor3_length _ _ _ j (by rw [List.length_take]; have := HXL.out; omega) (by rw [List.length_take]; have := HYL.out; omega) (by rw [List.length_take]; have := HZL.out; omega), List.length_replicate]
          omega
        obtain ⟨old, hold⟩ : ∃ u, wr.cell? ⟨w1.heap.size, j, none⟩ = some u := by
          rw [HO.out.cellAt j (by omega), List.getElem?_eq_getElem (by omega)]
          exact ⟨_, rfl⟩
        have HN := Lib.hid (xor3_set xs ys zs j k hlt (by have := HXL.out; omega) (by have := HYL.out; omega) (by have := HZL.out; omega))
        have q1 := u8_xor_nat (xs.getD j 0).toNat (ys.getD j 0).toNat (xs.getD j 0).toNat_lt (ys.getD j 0).toNat_lt
        have q2 := u8_xor_nat ((xs.getD j 0).toNat ^^^ (ys.getD j 0).toNat) (zs.getD j 0).toNat (Nat.xor_lt_two_pow (n := 8) (xs.getD j 0).toNat_lt (ys.getD j 0).toNat_lt) (zs.getD j 0).toNat_lt
        generalize xs.getD j 0 = x at *
        generalize ys.getD j 0 = y at *
        generalize zs.getD j 0 = z at *
        generalize (x.toNat ^^^ y.toNat ^^^ z.toNat) = u at *
        generalize (x.toNat ^^^ y.toNat) = v at *
        have i1 : (j : Int) < (n : Int) := by omega
        have i2 : (j : Int) < (m : Int) := by omega
        have i3 : (j : Int) < (l : Int) := by omega
        have i4 : (j : Int) < (k : Int) := by omega
        have i0 : (0 : Int) ≤ (j : Int) := by omega
        clear hca hcb hcc hl2
        go_wp2_with fail
        go_still_tail 17, (by kernel_rfl)
        change wpList _ _ _ _ _ wr.drew
        go_wp2
        go_roundw
        case rel =>
          refine ⟨j + 1, by omega, by go_num, ?_, (HG.out.drew).setCell (by simp) _⟩
          have ho := (HO.out.drew.stored j (.int .u8 (u : Int))).1
          rw [HN.out] at ho
          exact ho
        case measure => simp [intOf]; omega
      · obtain rfl : j = k := by omega
        have hlx : (xs.take j).length = j := by rw [List.length_take]; have := HXL.out; omega
        have hly : (ys.take j).length = j := by rw [List.length_take]; have := HYL.out; omega
        have hlz : (zs.take j).length = j := by rw [List.length_take]; have := HZL.out; omega
        have ho := HO.out
        rw [Nat.sub_self, List.replicate_zero, List.append_nil] at ho
        have SX := Lib.hid (own_facts ho).1
        have SA := Lib.hid (HA1.out.first hkn)
        have SB := Lib.hid (HB1.out.first hkm)
        have SC := Lib.hid (HC1.out.first hkl)
        rw [← bv_take] at SA SB SC
        have e3 := sumOf_three (xs.take j) (ys.take j) (zs.take j) (by omega) (by omega)
        have l1 := sumOf_lt (xs.take j)
        have l2 := sumOf_lt (ys.take j)
        have l3 := sumOf_lt (zs.take j)
        have KX : ∀ W, Below wr.heap.size wr W → Calls Try.prog 9 #[.slice (some ⟨w1.heap.size, 0, none⟩) j j] W fun e w' => e = .returned (.int .u32 (sumOf (xor3 (xs.take j) (ys.take j) (zs.take j)) : Int)) ∧ Below wr.heap.size wr w' :=
          fun W h => (of_any (SX.out.below h) (by omega)).mono fun e w' ⟨he, hb⟩ => ⟨he, below_trans h hb⟩
        have KA : ∀ W, Below wr.heap.size wr W → Calls Try.prog 9 #[.slice A j c] W fun e w' => e = .returned (.int .u32 (sumOf (xs.take j) : Int)) ∧ Below wr.heap.size wr w' :=
          fun W h => (of_any ((SA.out.below HG.out).below h) (by omega)).mono fun e w' ⟨he, hb⟩ => ⟨he, below_trans h hb⟩
        have KB : ∀ W, Below wr.heap.size wr W → Calls Try.prog 9 #[.slice B j d] W fun e w' => e = .returned (.int .u32 (sumOf (ys.take j) : Int)) ∧ Below wr.heap.size wr w' :=
          fun W h => (of_any ((SB.out.below HG.out).below h) (by omega)).mono fun e w' ⟨he, hb⟩ => ⟨he, below_trans h hb⟩
        have KC : ∀ W, Below wr.heap.size wr W → Calls Try.prog 9 #[.slice C j f] W fun e w' => e = .returned (.int .u32 (sumOf (zs.take j) : Int)) ∧ Below wr.heap.size wr w' :=
          fun W h => (of_any ((SC.out.below HG.out).below h) (by omega)).mono fun e w' ⟨he, hb⟩ => ⟨he, below_trans h hb⟩
        change sumOf (xor3 (xs.take j) (ys.take j) (zs.take j)) = _ at e3
        rw [e3] at KX
        have q1 := xor_u32 (sumOf (xs.take j)) (sumOf (ys.take j)) l1 l2
        have q2 := xor_u32 (sumOf (xs.take j) ^^^ sumOf (ys.take j)) (sumOf (zs.take j)) (Nat.xor_lt_two_pow (n := 32) l1 l2) l3
        generalize (sumOf (xs.take j) ^^^ sumOf (ys.take j) ^^^ sumOf (zs.take j)) = u at KX q2
        generalize (sumOf (xs.take j) ^^^ sumOf (ys.take j)) = v at q1 q2
        generalize sumOf (xs.take j) = p at *
        generalize sumOf (ys.take j) = q at *
        generalize sumOf (zs.take j) = r at *
        have KXH := Lib.hid KX
        have KAH := Lib.hid KA
        have KBH := Lib.hid KB
        have KCH := Lib.hid KC
        have HW2 := Lib.hid (HW.out.trans (HG.out.mono HW.out.size))
        clear KX KA KB KC SX SA SB SC ho hlx hly hlz e3 l1 l2 l3 HO HA1 HB1 HC1 HXL HYL HZL
        have q3 : (j : Int) ≤ (c : Int) := by omega
        have q4 : (j : Int) ≤ (d : Int) := by omega
        have q5 : (j : Int) ≤ (f : Int) := by omega
        have q0 : (0 : Int) ≤ (j : Int) := by omega
        go_wp2_with fail
        have hw0 : Below wr.heap.size wr wr := Below.refl _ _
        go_region_held3 (fun w' => Below wr.heap.size wr w')
          (first | assumption | exact below_drewN (Below.refl _ _) _ | go_keep)
          (first
            | (go_at_call 9; (with_reducible refine (KXH.out _ (by assumption)).mono ?_); rintro e w5 ⟨rfl, hb5⟩)
            | (go_at_call 9; (with_reducible refine (KAH.out _ (by assumption)).mono ?_); rintro e w6 ⟨rfl, hb6⟩)
            | (go_at_call 9; (with_reducible refine (KBH.out _ (by assumption)).mono ?_); rintro e w7 ⟨rfl, hb7⟩)
            | (go_at_call 9; (with_reducible refine (KCH.out _ (by assumption)).mono ?_); rintro e w8 ⟨rfl, hb8⟩))
        go_wp2
        go_ret
        exact ⟨ret_bool (by simp), HW2.out.trans (Below.mono (by assumption) HW2.out.size)⟩
  · go_enter Try.func6, Try.ntmps6
    go_wp2_with (go_at_call 8; refine (crcAwake_any _).mono ?_; rintro e w1 ⟨rfl, hb⟩; have HW := Lib.hid hb; clear hb)
    go_ret
    exact ⟨rfl, HW.out⟩
set_option maxRecDepth 100000 in
theorem lifted (os : Os) (started : os.Started) (H : Type) (enc : TypeId × Value → H) :
    ReturnsInHanded {} Try.checked os 6 .any (Rows.crcTwiceSpec.pre6 enc Try.prog Try.f6 Rows.crcTwiceRow.domain false) (Rows.crcTwiceSpec.post enc Try.prog Try.f6 false true false false) := by
  refine returnsInHanded_of_change (C := Try.checked) own started (by kernel_rfl) Try.func6
    (ChangeSpec.witness6 (enc := enc) (C := Try.checked) false ⟨#[], #[.slice none 0 0, .slice none 0 0, .slice none 0 0], []⟩ 8 (by kernel_rfl) (by kernel_rfl) (by kernel_rfl) (by kernel_rfl)) ?_
  intro W base args ds gs before hval0 hW hcnd _
  have hval : ∀ (j : Nat) t v, Try.f6.params[j]? = some t → args[j]? = some v → Value.okWide Try.prog W .any base t v := hval0
  have hW' := hW
  obtain ⟨p, q, hA0, hV, rfl, hfz, hnd⟩ := hW
  have hA : DataW.TrodAll enc Try.prog W 0 (fun _ => true) true Try.f6.params.toList args.toList ds p := hA0
  rw [Try.params6] at hA hval
  obtain ⟨v0, vs0, d0, ds0, p0, q0, hargs, rfl, rfl, h0, r0⟩ := trodAll_cons hA
  obtain ⟨v1, vs1, d1, ds1, p1, q1, rfl, rfl, rfl, h1, r1⟩ := trodAll_cons r0
  obtain ⟨v2, vs2, d2, ds2, p2, q2, rfl, rfl, rfl, h2, r2⟩ := trodAll_cons r1
  obtain ⟨rfl, rfl, rfl⟩ := trodAll_nil r2
  obtain rfl : args = #[v0, v1, v2] := by cases args; simp_all
  obtain ⟨rfl, rfl⟩ := trodVars_none hV
  obtain ⟨a0, len0, cap0, rfl⟩ := okWide_slice Try.underlying22 (hval 0 22 v0 rfl rfl)
  have k0 := h0
  have lt0 : ∀ x ∈ p0, x.block < W.heap.size := by obtain ⟨m, hm⟩ := k0; exact DataW.trod_lt m _ _ _ hm
  obtain ⟨bs0, w0, hl0, hm0⟩ := open_bytes Try.underlying22 Try.underlying5 (by kernel_rfl) h0
  obtain ⟨a1, len1, cap1, rfl⟩ := okWide_slice Try.underlying22 (hval 1 22 v1 rfl rfl)
  have k1 := h1
  have lt1 : ∀ x ∈ p1, x.block < W.heap.size := by obtain ⟨m, hm⟩ := k1; exact DataW.trod_lt m _ _ _ hm
  obtain ⟨bs1, w1, hl1, hm1⟩ := open_bytes Try.underlying22 Try.underlying5 (by kernel_rfl) h1
  obtain ⟨a2, len2, cap2, rfl⟩ := okWide_slice Try.underlying22 (hval 2 22 v2 rfl rfl)
  have k2 := h2
  have lt2 : ∀ x ∈ p2, x.block < W.heap.size := by obtain ⟨m, hm⟩ := k2; exact DataW.trod_lt m _ _ _ hm
  obtain ⟨bs2, w2, hl2, hm2⟩ := open_bytes Try.underlying22 Try.underlying5 (by kernel_rfl) h2
  clear hA0 hval0
  refine (walk w0 hl0 hm0 w1 hl1 hm1 w2 hl2 hm2).mono fun e W' ⟨he, bel⟩ => ?_
  subst he
  exact ⟨_, rfl, _, _, _, [], _, [], hW', trodAll_mk1 (shut_bool Try.underlying4 _), (trodAll_cons_mk (Below.trod laidOut (by kernel_rfl) (of_decide_eq_true (by kernel_rfl)) k0 bel lt0) (trodAll_cons_mk (Below.trod laidOut (by kernel_rfl) (of_decide_eq_true (by kernel_rfl)) k1 bel lt1) (trodAll_cons_mk (Below.trod laidOut (by kernel_rfl) (of_decide_eq_true (by kernel_rfl)) k2 bel lt2) trodAll_mk0))), rfl, bel.frame _, fun h => by cases h⟩

theorem proved : Rows.CrcTwiceSaid :=
  OpenClaim.holds_of_wide 6 Try.f6 rfl rfl rfl rfl rfl rfl rfl ⟨rfl, rfl, rfl, rfl, rfl⟩ rfl rfl rfl rfl rfl (by kernel_rfl) Try.func6 (by kernel_rfl)
    (of_decide_eq_true (by kernel_rfl)) (by unfold Func.isWrapper; first | (rw [if_pos (by decide +kernel)]; kernel_rfl) | (rw [if_neg (by decide +kernel)]; exact ⟨rfl, rfl⟩))
    (fun os started H enc _ => lifted os started H enc)
#print axioms proved
end Go.Proofs.Ytlcefbdoolcgdaa.crcTwice
