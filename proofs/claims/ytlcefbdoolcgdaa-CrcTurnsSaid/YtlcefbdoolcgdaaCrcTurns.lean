/-
  The law CrcTurns returns true for all bytes and every turn, and leaves all that was there as it was. No condition.
-/
import Derived.Test.YtlcefbdoolcgdaaCrcAwake
import Derived.Test.YtlcefbdoolcgdaaTurnPure
import Derived.Test.YtlcefbdoolcgdaaOpen
import Derived.Lib.SmallJoins
import Derived.ProofKit
import Derived.OpenShut
import Derived.ShutString
import Derived.ChangeOld
import Derived.Below
namespace Go.Proofs.Ytlcefbdoolcgdaa.crcTurns
open Go.ChangeShapes Go.WideShapes Go.ChangeAt Go.RowKit
set_option linter.unusedVariables false

theorem own : ownKnob Try.prog.godebug = none := by kernel_rfl
theorem laidOut : laidOutB Try.prog = true := by kernel_rfl

theorem info_u8 : (Try.prog.info? 5).map (fun i => (i.zero, i.size, i.bytes)) = some (some (.int .u8 0), 1, 1) := by kernel_rfl

theorem turn_set (l : List UInt8) (k x j : Nat) :
    (bv (turned l k x j)).set (k + j) (.int .u8 ((((turned l k x j).getD (k + j) 0).toNat ^^^ x / 256 ^ j % 256 : Nat) : Int)) = bv (turned l k x (j + 1)) := by
  simp only [turned, bv, List.map_set, UInt8.toNat_xor, ofNat_mod]
theorem turn_byte (y x j : Nat) (hy : y < 256) : bits .xor .u8 (y : Int) ((x : Int) / 2 ^ (8 * j) % 256) = ((y ^^^ x / 256 ^ j % 256 : Nat) : Int) := by
  have e : (x : Int) / 2 ^ (8 * j) % 256 = ((x / 256 ^ j % 256 : Nat) : Int) := by
    rw [cast_pow2, ← pow256]
    omega
  rw [e]
  exact u8_xor_nat y _ hy (by omega)

set_option maxRecDepth 100000 in
set_option maxHeartbeats 1600000 in
theorem walk {A : Option Addr} {n c : Nat} {bs : List UInt8} {w : World} (hS : Sl w A n (bv bs)) (hn : n ≤ maxLen) {a b s : Nat} (ha : a < 65536) (hb : b < 4294967296) (hs : s < 256) :
    Calls Try.prog 5 #[.slice A n c, .agg #[.int .u16 (a : Int), .int .u32 (b : Int), .int .u8 (s : Int)]] w fun e w' => e = .returned (.bool true) ∧ Below w.heap.size w w' := by
  unfold maxLen at hn
  obtain ⟨i, hi, hz0, hz1, hz2⟩ := info_parts info_u8
  have hbl : bs.length = n := by rw [← hS.1, bv_length]
  have HL := Lib.hid hbl
  have HS := Lib.hid hS
  clear hS hbl
  have Bt := Lib.hid (Blk.fresh w 36 #[.int .u16 (a : Int), .int .u32 (b : Int), .int .u8 (s : Int)])
  have B0 : Hid (Below w.heap.size w (w.alloc (.cells #[.int .u16 (a : Int), .int .u32 (b : Int), .int .u8 (s : Int)] 36))) := Lib.hid ((Below.refl _ _).alloc (Nat.le_refl _) _)
  by_cases hg : n ≤ 16384 ∧ 5 ≤ n ∧ b ≠ 0
  · obtain ⟨g1, g2, g3⟩ := hg
    have g4 : ((b : Int) == 0) = false := by simp; omega
    have g5 : decide ((n : Int) < 5) = false := by simp; omega
    have g6 : decide ((16384 : Int) < (n : Int)) = false := by simp; omega
    have HT := fun (k : Nat) (h : k + 5 ≤ bs.length) => sumOf_turned bs k b (s % 8) h hb g3 (by omega)
    have hx := (halves_shift b (s % 8) hb g3 (by omega)).2.2
    have e2 : IntKind.u64.wrap ((b : Int) * 2 ^ (s % 8)) = ((b * 2 ^ (s % 8) : Nat) : Int) := by
      rw [cast_pow2, ← Int.natCast_mul, u64_in _ (by omega)]
    generalize b * 2 ^ (s % 8) = x at HT hx e2
    have hk : a % (n - 4) + 5 ≤ n := by have := Nat.mod_lt a (show n - 4 > 0 by omega); omega
    have e1 : (a : Int) % ((n : Int) - 4) = ((a % (n - 4) : Nat) : Int) := by
      rw [show ((n : Int) - 4) = ((n - 4 : Nat) : Int) by omega]
      rfl
    generalize a % (n - 4) = k at hk e1
    have HT := Lib.hid (HT k (by have := HL.out; omega))
    have HX := Lib.hid hx
    clear hx
    go_enter Try.func5, Try.ntmps5
    go_wp2_with (first
      | (go_at_call 8; refine (crcAwake_any _).mono ?_; rintro e w1 ⟨rfl, hb⟩; have HB := Lib.hid (B0.out.trans (hb.mono B0.out.size)); have c0 := (Bt.out.below hb).cell 0; have c1 := (Bt.out.below hb).cell 1; have c2 := (Bt.out.below hb).cell 2; clear hb)
      | (at_builtin; refine wpList_app _ rfl (.tmp 38) (.tmp 39) 22 rfl w1.heap.size 5 i _ 1 Try.underlying22 hi hz0 hz1 hz2 rfl _ 0 [] rfl (own_empty w1 (Nat.le_refl _) _) A n c (bv bs) rfl ((HS.out.below HB.out).alloc _) (bv_one bs) (by omega) (by omega) (by simp) ?_))
    intro A1 c1' w2 ho hg
    have HO := Lib.hid ho
    have HG := Lib.hid (((Below.refl w1.heap.size w1).alloc (Nat.le_refl _) _).grown hg (by simp) (fun k e => by simp [Value.ownBlock] at e; omega))
    clear ho hg c0 c1 c2 e1 e2
    go_wp2_with fail
    go_loopw [8] (fun i wr => ∃ j : Nat, j ≤ 5 ∧ i = .int .i64 j ∧ wr.ownsRow w1.heap.size 5 1 (.slice A1 n c1') n (bv (turned bs k x j)) ∧ Below w1.heap.size w1 wr) (fun i _ => 5 - (intOf i).toNat)
    case atStart => exact ⟨0, Nat.zero_le _, rfl, by simpa [turned] using HO.out, HG.out⟩
    case round =>
      clear HO HG
      obtain ⟨j, hj, rfl, ho, hb⟩ := hrel
      have HO := Lib.hid ho
      have HG := Lib.hid hb
      clear ho hb
      by_cases hlt : j < 5
      · obtain ⟨gb, cap, hv, hgb, _⟩ := HO.out.form (by omega)
        simp only [Value.slice.injEq] at hv
        obtain ⟨rfl, -, rfl⟩ := hv
        have hfree := HO.out.frozenAt (k + j)
        have hcell : wr.cell? ⟨gb, k + j, none⟩ = some (.int .u8 (((turned bs k x j).getD (k + j) 0).toNat : Int)) := by
          rw [HO.out.cellAt (k + j) (by omega), bv_get _ _ (by rw [turned_length]; have := HL.out; omega)]
        have HN := Lib.hid (turn_set bs k x j)
        have q1 := turn_byte ((turned bs k x j).getD (k + j) 0).toNat x j (UInt8.toNat_lt _)
        generalize (turned bs k x j).getD (k + j) 0 = y at hcell HN q1
        generalize (y.toNat ^^^ x / 256 ^ j % 256) = z at HN q1
        go_wp2
        go_roundw
        case rel =>
          refine ⟨j + 1, by omega, by go_num, ?_, HG.out.setCell (by simp; omega) _⟩
          have ho := (HO.out.stored (k + j) (.int .u8 (z : Int))).1
          rw [HN.out] at ho
          exact ho
        case measure => simp [intOf]; omega
      · obtain rfl : j = 5 := by omega
        have HWR := Lib.hid (HB.out.trans (HG.out.mono HB.out.size))
        go_wp2_with fail
        refine (of_any (own_facts HO.out).1 (by omega)).mono ?_
        rintro e w5 ⟨rfl, hb5⟩
        have HB5 := Lib.hid (HWR.out.trans (hb5.mono HWR.out.size))
        clear hb5
        go_wp2_with fail
        refine (of_any (HS.out.below HB5.out) (by omega)).mono ?_
        rintro e w6 ⟨rfl, hb6⟩
        have HB6 := Lib.hid (HB5.out.trans (hb6.mono HB5.out.size))
        clear hb6
        go_wp2_with fail
        go_ret
        exact ⟨ret_bool (by have := HT.out; simp; omega), HB6.out⟩
  · have hor : 16384 < n ∨ n < 5 ∨ b = 0 := by omega
    by_cases g1 : 16384 < n
    · have g6 : decide ((16384 : Int) < (n : Int)) = true := by simp; omega
      go_enter Try.func5, Try.ntmps5
      go_wp2_with (go_at_call 8; refine (crcAwake_any _).mono ?_; rintro e w1 ⟨rfl, hb⟩; have HB := Lib.hid (B0.out.trans (hb.mono B0.out.size)); clear hb)
      go_ret
      exact ⟨rfl, HB.out⟩
    · have g6 : decide ((16384 : Int) < (n : Int)) = false := by simp; omega
      by_cases g2 : n < 5
      · have g5 : decide ((n : Int) < 5) = true := by simp; omega
        go_enter Try.func5, Try.ntmps5
        go_wp2_with (go_at_call 8; refine (crcAwake_any _).mono ?_; rintro e w1 ⟨rfl, hb⟩; have HB := Lib.hid (B0.out.trans (hb.mono B0.out.size)); clear hb)
        go_ret
        exact ⟨rfl, HB.out⟩
      · have g5 : decide ((n : Int) < 5) = false := by simp; omega
        obtain rfl : b = 0 := by omega
        go_enter Try.func5, Try.ntmps5
        go_wp2_with (go_at_call 8; refine (crcAwake_any _).mono ?_; rintro e w1 ⟨rfl, hb⟩; have HB := Lib.hid (B0.out.trans (hb.mono B0.out.size)); have c1 := (Bt.out.below hb).cell 1; clear hb)
        go_ret
        exact ⟨rfl, HB.out⟩
set_option maxRecDepth 100000 in
theorem lifted (os : Os) (started : os.Started) (H : Type) (enc : TypeId × Value → H) :
    ReturnsInHanded {} Try.checked os 5 .any (Rows.crcTurnsSpec.pre6 enc Try.prog Try.f5 Rows.crcTurnsRow.domain false) (Rows.crcTurnsSpec.post enc Try.prog Try.f5 false true false false) := by
  refine returnsInHanded_of_change (C := Try.checked) own started (by kernel_rfl) Try.func5
    (ChangeSpec.witness6 (enc := enc) (C := Try.checked) false ⟨#[], #[.slice none 0 0, .agg #[.int .u16 0, .int .u32 0, .int .u8 0]], []⟩ 8 (by kernel_rfl) (by kernel_rfl) (by kernel_rfl) (by kernel_rfl)) ?_
  intro W base args ds gs before hval0 hW hcnd _
  have hval : ∀ (j : Nat) t v, Try.f5.params[j]? = some t → args[j]? = some v → Value.okWide Try.prog W .any base t v := hval0
  have hW' := hW
  obtain ⟨p, q, hA0, hV, rfl, hfz, hnd⟩ := hW
  have hA : DataW.TrodAll enc Try.prog W 0 (fun _ => true) true Try.f5.params.toList args.toList ds p := hA0
  rw [Try.params5] at hA hval
  obtain ⟨v0, vs0, d0, ds0, p0, q0, hargs, rfl, rfl, h0, r0⟩ := trodAll_cons hA
  obtain ⟨v1, vs1, d1, ds1, p1, q1, rfl, rfl, rfl, h1, r1⟩ := trodAll_cons r0
  obtain ⟨rfl, rfl, rfl⟩ := trodAll_nil r1
  obtain rfl : args = #[v0, v1] := by cases args; simp_all
  obtain ⟨rfl, rfl⟩ := trodVars_none hV
  obtain ⟨a0, len0, cap0, rfl⟩ := okWide_slice Try.underlying22 (hval 0 22 v0 rfl rfl)
  have k0 := h0
  have lt0 : ∀ x ∈ p0, x.block < W.heap.size := by obtain ⟨m, hm⟩ := k0; exact DataW.trod_lt m _ _ _ hm
  obtain ⟨bs0, w0, hl0, hm0⟩ := open_bytes Try.underlying22 Try.underlying5 (by kernel_rfl) h0
  have k1 := h1
  have lt1 : ∀ x ∈ p1, x.block < W.heap.size := by obtain ⟨m, hm⟩ := k1; exact DataW.trod_lt m _ _ _ hm
  obtain ⟨x1_0, x1_1, x1_2, y1_0, y1_1, y1_2, m1, rfl, rfl, rfl, hy1_0, hy1_1, hy1_2⟩ := Go.Joins.open_agg3 Try.underlying36 (by kernel_rfl) (by kernel_rfl) (hval 1 36 v1 rfl rfl) h1
  obtain ⟨z1_0, e1_0, rfl, w1_0⟩ := DataW.trod_int Try.underlying34 hy1_0
  simp only [List.cons.injEq, and_true] at e1_0
  subst e1_0
  obtain ⟨z1_1, e1_1, rfl, w1_1⟩ := DataW.trod_int Try.underlying24 hy1_1
  simp only [List.cons.injEq, and_true] at e1_1
  subst e1_1
  obtain ⟨z1_2, e1_2, rfl, w1_2⟩ := DataW.trod_int Try.underlying5 hy1_2
  simp only [List.cons.injEq, and_true] at e1_2
  subst e1_2
  clear hA0 hval0
  have b1_0 := bounds_u16 w1_0
  obtain ⟨n1_0, rfl⟩ := Int.eq_ofNat_of_zero_le b1_0.1
  have b1_1 := bounds_u32 w1_1
  obtain ⟨n1_1, rfl⟩ := Int.eq_ofNat_of_zero_le b1_1.1
  have b1_2 := bounds_u8 w1_2
  obtain ⟨n1_2, rfl⟩ := Int.eq_ofNat_of_zero_le b1_2.1
  refine (walk w0 (Nat.le_trans hl0 hm0) (by omega) (by omega) (by omega)).mono fun e W' ⟨he, bel⟩ => ?_
  subst he
  exact ⟨_, rfl, _, _, _, [], _, [], hW', trodAll_mk1 (shut_bool Try.underlying4 _), (trodAll_cons_mk (Below.trod laidOut (by kernel_rfl) (of_decide_eq_true (by kernel_rfl)) k0 bel lt0) (trodAll_cons_mk (Below.trod laidOut (by kernel_rfl) (of_decide_eq_true (by kernel_rfl)) k1 bel lt1) trodAll_mk0)), rfl, bel.frame _, fun h => by cases h⟩

theorem proved : Rows.CrcTurnsSaid :=
  OpenClaim.holds_of_wide 5 Try.f5 rfl rfl rfl rfl rfl rfl rfl ⟨rfl, rfl, rfl, rfl, rfl⟩ rfl rfl rfl rfl rfl (by kernel_rfl) Try.func5 (by kernel_rfl)
    (of_decide_eq_true (by kernel_rfl)) (by unfold Func.isWrapper; first | (rw [if_pos (by decide +kernel)]; kernel_rfl) | (rw [if_neg (by decide +kernel)]; exact ⟨rfl, rfl⟩))
    (fun os started H enc _ => lifted os started H enc)
#print axioms proved
end Go.Proofs.Ytlcefbdoolcgdaa.crcTurns
