/-
  The law SrcRows returns true for all rows of bits, and leaves all that was there as it was. No condition.
-/
import Derived.Test.YtolkgljbphgacaaAwake
import Derived.Test.YtolkgljbphgacaaPuts
import Derived.Test.YtolkgljbphgacaaOpen
namespace Go.Proofs.Ytolkgljbphgacaa.srcRows
open Go.ChangeShapes Go.WideShapes Go.ChangeAt Go.RowKit
set_option linter.unusedVariables false

theorem own : ownKnob Try.prog.godebug = none := by kernel_rfl
theorem laidOut : laidOutB Try.prog = true := by kernel_rfl

set_option maxHeartbeats 2000000 in
theorem walk {R : Option Addr} {l c : Nat} {row : List Bool} {w : World} (hR : Sl w R l (fv row)) (hl : l ≤ maxLen) (hlc : l ≤ c) :
    Calls Try.prog 9 #[.slice R l c] w fun e w' => e = .returned (.bool true) ∧ Below w.heap.size w w' := by
  unfold maxLen at hl
  obtain rfl : row.length = l := by rw [← hR.1, fv_length]
  have HR := Lib.hid hR
  clear hR
  by_cases hbig : row.length ≤ 16384
  · have hL1 : 8 * rowLenN row.length ≥ row.length := by unfold rowLenN; omega
    have hL2 : 8 * rowLenN row.length ≤ row.length + 7 := by unfold rowLenN; omega
    have HP := Lib.hid (fun W h => putBits_any (A := none) (R := R) (n := 0) (c := 0) (rc := c) (bs := []) (row := row) (w := W) Sl.nil (by omega) h (by omega))
    have hrb : rowBytes row = rowB (rowLenN row.length) row := rfl
    generalize rowLenN row.length = L at hL1 hL2 HP hrb
    have HRB := Lib.hid hrb
    clear hrb
    go_enter Try.func9, Try.ntmps9
    go_wp2_with fail
    refine (awake_any _).mono ?_
    rintro e w1 ⟨rfl, hb⟩
    have HB1 := Lib.hid hb
    clear hb
    go_wp2_with fail
    refine (HP.out _ (HR.out.below HB1.out)).mono ?_
    rintro e w2 ⟨A2, c2, rfl, ho, hb⟩
    have HB2 := Lib.hid (below_trans HB1.out hb)
    have hs := (own_facts ho).1
    rw [List.nil_append, HRB.out, Nat.zero_add] at hs
    have HS := Lib.hid hs
    have HR2 := Lib.hid (HR.out.below HB2.out)
    clear ho hb hs
    simp only [Nat.zero_add]
    go_wp2_with fail
    go_loop [4] (fun i => ∃ k : Nat, k ≤ 8 * L ∧ i = .int .i64 k) (fun i => 8 * L - (intOf i).toNat)
    case atStart => exact ⟨0, Nat.zero_le _, rfl⟩
    case round =>
      obtain ⟨k, hk, rfl⟩ := hrel
      by_cases hlt : k < 8 * L
      · have hkL : k / 8 < L := by omega
        obtain ⟨b, o, rfl, _, hc⟩ := HS.out.2 (by omega)
        have hcell : w2.cell? ⟨b, o + k / 8, none⟩ = some (.int .u8 (((rowB L row).getD (k / 8) 0).toNat : Int)) := by rw [hc (k / 8) hkL, bv_get _ _ (by rw [rowB_length]; omega)]
        have hbit := bitAt_row L row k hkL
        unfold bitAt at hbit
        generalize (rowB L row).getD (k / 8) 0 = x at hcell hbit
        obtain ⟨dd, y, d1, d2, d3, d4, d5, d6, d7⟩ := bit_test x.toNat (k % 8) x.toNat_lt (by omega)
        rw [hbit] at d6 d7
        have hpast : ¬ k < row.length → row.getD k false = false := fun h => getD_past row k (by omega)
        have HPAST := Lib.hid hpast
        clear hc hbit hpast
        have hx := x.toNat_lt
        by_cases hin : k < row.length
        · obtain ⟨rb, ro, rfl, _, hc⟩ := HR2.out.2 (by omega)
          have hrow : w2.cell? ⟨rb, ro + k, none⟩ = some (.bool (row.getD k false)) := by rw [hc k hin, fv_get _ _ hin]
          clear hc HPAST
          generalize row.getD k false = bit at hrow d6 d7
          go_wp2
          go_round
          case rel => exact ⟨k + 1, by omega, by go_num⟩
          case measure => simp [intOf]; omega
        · rw [HPAST.out hin] at d6 d7
          clear HPAST
          go_wp2
          go_round
          case rel => exact ⟨k + 1, by omega, by go_num⟩
          case measure => simp [intOf]; omega
      · go_wp2
        go_ret
        exact ⟨rfl, HB2.out⟩
  · go_enter Try.func9, Try.ntmps9
    go_wp2_with (first
      | (go_at_call 11; refine (awake_any _).mono ?_; rintro e w1 ⟨rfl, hb⟩; have HB := Lib.hid hb; clear hb))
    go_ret
    exact ⟨rfl, HB.out⟩
set_option maxRecDepth 100000 in
theorem lifted (os : Os) (started : os.Started) (H : Type) (enc : TypeId × Value → H) :
    ReturnsInHanded {} Try.checked os 9 .any (Rows.srcRowsSpec.pre6 enc Try.prog Try.f9 Rows.srcRowsRow.domain false) (Rows.srcRowsSpec.post enc Try.prog Try.f9 false true false false) := by
  refine returnsInHanded_of_change (C := Try.checked) own started (by kernel_rfl) Try.func9
    (ChangeSpec.witness6 (enc := enc) (C := Try.checked) false ⟨#[], #[.slice none 0 0], []⟩ 8 (by kernel_rfl) (by kernel_rfl) (by kernel_rfl) (by kernel_rfl)) ?_
  intro W base args ds gs before hval0 hW hcnd _
  have hval : ∀ (j : Nat) t v, Try.f9.params[j]? = some t → args[j]? = some v → Value.okWide Try.prog W .any base t v := hval0
  have hW' := hW
  obtain ⟨p, q, hA0, hV, rfl, hfz, hnd⟩ := hW
  have hA : DataW.TrodAll enc Try.prog W 0 (fun _ => true) true Try.f9.params.toList args.toList ds p := hA0
  rw [Try.params9] at hA hval
  obtain ⟨v0, vs0, d0, ds0, p0, q0, hargs, rfl, rfl, h0, r0⟩ := trodAll_cons hA
  obtain ⟨rfl, rfl, rfl⟩ := trodAll_nil r0
  obtain rfl : args = #[v0] := by cases args; simp_all
  obtain ⟨rfl, rfl⟩ := trodVars_none hV
  obtain ⟨a0, len0, cap0, rfl⟩ := okWide_slice Try.underlying39 (hval 0 39 v0 rfl rfl)
  have k0 := h0
  have lt0 : ∀ x ∈ p0, x.block < W.heap.size := by obtain ⟨m, hm⟩ := k0; exact DataW.trod_lt m _ _ _ hm
  obtain ⟨bs, w0, hl0, hm0⟩ := open_flags Try.underlying39 Try.underlying4 (by kernel_rfl) h0
  clear hA0 hval0
  refine (walk w0 (by omega) hl0).mono fun e W' ⟨he, bel⟩ => ?_
  subst he
  exact ⟨_, rfl, _, _, _, [], _, [], hW', trodAll_mk1 (shut_bool Try.underlying4 _), (trodAll_cons_mk (Below.trod laidOut (by kernel_rfl) (of_decide_eq_true (by kernel_rfl)) k0 bel lt0) trodAll_mk0), rfl, bel.frame _, fun h => by cases h⟩

theorem proved : Rows.SrcRowsSaid :=
  OpenClaim.holds_of_wide 9 Try.f9 rfl rfl rfl rfl rfl rfl rfl ⟨rfl, rfl, rfl, rfl, rfl⟩ rfl rfl rfl rfl rfl (by kernel_rfl) Try.func9 (by kernel_rfl)
    (of_decide_eq_true (by kernel_rfl)) (by unfold Func.isWrapper; first | (rw [if_pos (by decide +kernel)]; kernel_rfl) | (rw [if_neg (by decide +kernel)]; exact ⟨rfl, rfl⟩))
    (fun os started H enc _ => lifted os started H enc)
#print axioms proved
end Go.Proofs.Ytolkgljbphgacaa.srcRows
