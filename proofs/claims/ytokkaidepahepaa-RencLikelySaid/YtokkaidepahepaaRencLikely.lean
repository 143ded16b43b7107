/-
  The law RencLikely returns true for every number of bits, and leaves all that was there as it was. No condition.
-/
import Derived.Test.YtokkaidepahepaaPcAwake
import Derived.ProofKit
import Derived.OpenShut
import Derived.ShutString
import Derived.ChangeOld
import Derived.Below
namespace Go.Proofs.Ytokkaidepahepaa.rencLikely
open Go.ChangeShapes Go.WideShapes Go.ChangeAt Go.RowKit
set_option linter.unusedVariables false

theorem own : ownKnob Try.prog.godebug = none := by kernel_rfl
theorem laidOut : laidOutB Try.prog = true := by kernel_rfl

set_option maxRecDepth 100000 in
set_option maxHeartbeats 4000000 in
theorem walk {n : Nat} {w : World} (hn : n < 65536) :
    Calls Try.prog 6 #[.int .u16 (n : Int)] w fun e w' => e = .returned (.bool true) ∧ Below w.heap.size w w' := by
  obtain ⟨k, hk⟩ : ∃ k, k = n % 4000 := ⟨_, rfl⟩
  have hk4 : k < 4000 := by omega
  have e0 : IntKind.i64.wrap (n : Int) = (n : Int) := IntWalk.i64_in _ (by omega)
  have e1 : (n : Int).tmod 4000 = (k : Int) := by rw [Int.tmod_eq_emod_of_nonneg (by omega)]; omega
  have e2 : (n : Int) % 4000 = (k : Int) := by omega
  have HK := Lib.hid hk4
  have HSH := Lib.hid (likely_short hk4)
  clear hk hn hk4
  go_enter Try.func6, Try.ntmps6
  go_wp2_with fail
  refine (awake_any w).mono ?_
  rintro e w1 ⟨rfl, hb⟩
  have HB1 := Lib.hid hb
  have hsz1 := hb.size
  clear hb
  go_wp2_with fail
  refine (cnew_any w1).mono ?_
  rintro e w2 ⟨rfl, hw2⟩
  have HP2 := Lib.hid (show Pn w2 w1.heap.size none En.new by rw [hw2]; exact pn_fresh w1)
  have HB2 := Lib.hid (show Below w.heap.size w w2 from HB1.out.trans (by rw [hw2]; exact (Below.refl _ w1).alloc hsz1 _))
  clear hw2 HB1
  generalize w1.heap.size = g at *
  go_wp2_with fail
  refine (fresh_any (n := 1) (by omega) w2).mono ?_
  rintro e w3 ⟨rfl, hR, hb3⟩
  have hg1 := HP2.out.lt
  have HP3 := Lib.hid (HP2.out.only (Only.of_below (S := fun _ => False) hb3) (fun h => h) (fun _ _ h => h))
  have HR3 := Lib.hid hR
  have HB3 := Lib.hid (HB2.out.trans (hb3.mono (by omega)))
  clear hR hb3 HP2 HB2
  generalize w2.heap.size = b at *
  go_wp2_with fail
  go_loopw [6] (fun i wr => ∃ (j : Nat) (G : Option Nat), j ≤ k ∧ i = .int .i64 (j : Int) ∧ Pn wr g G (likely j).2 ∧ (∀ x, G = some x → b < x) ∧ Row wr b [(likely j).1] 1 ∧ Below w.heap.size w wr) (fun i _ => k - (intOf i).toNat)
  case atStart => exact ⟨0, none, by omega, rfl, HP3.out, fun _ h => by (cases h), HR3.out, HB3.out⟩
  case round =>
    clear HP3 HR3 HB3
    obtain ⟨j, G, hj, rfl, hP, hG, hR, hB⟩ := hrel
    have HP := Lib.hid hP
    have HG := Lib.hid hG
    have HR := Lib.hid hR
    have HB := Lib.hid hB
    have hok := likely_ok j
    have hlj := likely_short (k := j) (by have := HK.out; omega)
    have hll : (likely j).2.l ≤ 999999999 := by have := HK.out; omega
    clear hP hG hR hB
    by_cases hlt : j < k
    · have hlt' : (j : Int) < (k : Int) := by omega
      have ej : IntKind.i64.wrap ((j : Int) + 1) = (j : Int) + 1 := IntWalk.i64_in _ (by have := HK.out; omega)
      have KB := Lib.hid (pbit_any (i := 0) (bit := 0) HP.out hok.1 HR.out (by simp) hok.2 (by omega) (fun h => by have := HG.out b h; omega) (by omega) hll)
      have hrl := HR.out.lt
      have HRL := Lib.hid hrl
      clear hok hlj hll HP hrl HR
      go_wp2_with fail
      refine KB.out.mono ?_
      rintro e w4 ⟨rfl, G', hP4, hN4, hR4, hO4⟩
      have HP4 := Lib.hid (show Pn w4 g G' (likely (j + 1)).2 from hP4)
      have HR4 := Lib.hid (show Row w4 b [(likely (j + 1)).1] 1 from hR4)
      have HG4 := Lib.hid (show ∀ x, G' = some x → b < x from fun x hx => (hN4 x hx).elim (HG.out x) (fun h => by have := HRL.out; omega))
      have HB4 := Lib.hid (show Below w.heap.size w w4 from HB.out.trans (hO4.below (B := w.heap.size) HB.out.size (fun i hi => by
        rcases hi with hi | hi | hi
        · omega
        · have := HG.out i hi; omega
        · omega)))
      clear hP4 hN4 hR4 hO4 HB HG KB
      go_wp2_with fail
      go_roundw
      case rel => exact ⟨j + 1, G', by omega, by go_num, HP4.out, HG4.out, HR4.out, HB4.out⟩
      case measure => simp [intOf]; omega
    · obtain rfl : j = k := by omega
      have KC := Lib.hid (count_any HP.out (by omega))
      obtain ⟨q, hq⟩ : ∃ q : Nat, q = j / 40 := ⟨_, rfl⟩
      have f1 : (j : Int) / 40 = (q : Int) := by omega
      have f2 : (j : Int).tdiv 40 = (q : Int) := by rw [Int.tdiv_eq_ediv_of_nonneg (by omega)]; omega
      have f3 : IntKind.i64.wrap (q : Int) = (q : Int) := IntWalk.i64_in _ (by have := HK.out; omega)
      have f4 : IntKind.i64.wrap (12 + (q : Int)) = 12 + (q : Int) := IntWalk.i64_in _ (by have := HK.out; omega)
      have hle : ((likely j).2.l : Int) ≤ 12 + (q : Int) := by omega
      clear hok hlj hll hq hj hlt HSH HK
      generalize (likely j).2.l = l at *
      go_wp2_with fail
      refine KC.out.mono ?_
      rintro e w4 ⟨rfl, d, rfl⟩
      go_wp2_with fail
      go_ret
      exact ⟨by simp [hle], below_drewN HB.out d⟩

set_option maxRecDepth 100000 in
theorem lifted (os : Os) (started : os.Started) (H : Type) (enc : TypeId × Value → H) :
    ReturnsInHanded {} Try.checked os 6 .any (Rows.rencLikelySpec.pre6 enc Try.prog Try.f6 Rows.rencLikelyRow.domain false) (Rows.rencLikelySpec.post enc Try.prog Try.f6 false true false false) := by
  refine returnsInHanded_of_change (C := Try.checked) own started (by kernel_rfl) Try.func6
    (ChangeSpec.witness6 (enc := enc) (C := Try.checked) false ⟨#[], #[.int .u16 0], []⟩ 8 (by kernel_rfl) (by kernel_rfl) (by kernel_rfl) (by kernel_rfl)) ?_
  intro W base args ds gs before hval0 hW hcnd _
  have hval : ∀ (j : Nat) t v, Try.f6.params[j]? = some t → args[j]? = some v → Value.okWide Try.prog W .any base t v := hval0
  have hW' := hW
  obtain ⟨p, q, hA0, hV, rfl, hfz, hnd⟩ := hW
  have hA : DataW.TrodAll enc Try.prog W 0 (fun _ => true) true Try.f6.params.toList args.toList ds p := hA0
  rw [Try.params6] at hA hval
  obtain ⟨v0, vs0, d0, ds0, p0, q0, hargs, rfl, rfl, h0, r0⟩ := trodAll_cons hA
  obtain ⟨rfl, rfl, rfl⟩ := trodAll_nil r0
  obtain rfl : args = #[v0] := by cases args; simp_all
  obtain ⟨rfl, rfl⟩ := trodVars_none hV
  obtain ⟨a0, rfl, rfl, rfl, w0⟩ := open_int Try.underlying52 (hval 0 52 v0 rfl rfl) h0
  clear hA0 hval0
  have b0 := bounds_u16 w0
  obtain ⟨n0, rfl⟩ := Int.eq_ofNat_of_zero_le b0.1
  refine (walk (by omega)).mono fun e W' ⟨he, bel⟩ => ?_
  subst he
  exact ⟨_, rfl, _, _, _, [], _, [], hW', trodAll_mk1 (shut_bool Try.underlying4 _), (trodAll_cons_mk (shut_int Try.underlying52 w0) trodAll_mk0), rfl, bel.frame _, fun h => by cases h⟩

theorem proved : Rows.RencLikelySaid :=
  OpenClaim.holds_of_wide 6 Try.f6 rfl rfl rfl rfl rfl rfl rfl ⟨rfl, rfl, rfl, rfl, rfl⟩ rfl rfl rfl rfl rfl (by kernel_rfl) Try.func6 (by kernel_rfl)
    (of_decide_eq_true (by kernel_rfl)) (by unfold Func.isWrapper; first | (rw [if_pos (by decide +kernel)]; kernel_rfl) | (rw [if_neg (by decide +kernel)]; exact ⟨rfl, rfl⟩))
    (fun os started H enc _ => lifted os started H enc)
#print axioms proved
end Go.Proofs.Ytokkaidepahepaa.rencLikely
