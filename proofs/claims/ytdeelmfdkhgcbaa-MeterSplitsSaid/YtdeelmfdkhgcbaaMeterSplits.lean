/-
  The law MeterSplits returns true for every quota and every two numbers, and leaves all that was there as it was. No condition.
-/
import Derived.Test.YtdeelmfdkhgcbaaMtOpen
import Derived.ProofKit
import Derived.OpenShut
import Derived.ShutString
import Derived.ChangeOld
import Derived.Below
namespace Go.Proofs.Ytdeelmfdkhgcbaa.meterSplits
open Go.ChangeShapes Go.WideShapes Go.ChangeAt Go.RowKit
set_option linter.unusedVariables false

theorem own : ownKnob Try.prog.godebug = none := by kernel_rfl
theorem laidOut : laidOutB Try.prog = true := by kernel_rfl

theorem out_fits {g : Nat} {q : Quo} {s : Tel} {w : World} {n : Int} (h : MeterAt w 53 g q s) (hf : Fine q s) (hc : s.code = 0) (h0 : 0 ≤ n) (hn : n ≤ q.out - s.out) :
    Calls Try.prog 15 #[.pointer (some ⟨g, 0, none⟩), .int .i64 n] w fun e w' => e = .returned (.bool true) ∧ MeterAt w' 53 g q { s with out := s.out + n } ∧ w.grownBy w' (some g) := by
  refine (out_any h hf n).mono ?_
  rintro e w' ⟨rfl, hm, hg⟩
  have hm0 : max n 0 = n := by omega
  refine ⟨ret_bool (decide_eq_true ⟨hc, by omega⟩), ?_, hg⟩
  have e1 : wasOf s.code s.out q.out n = s.out + n := by unfold wasOf; rw [if_pos ⟨hc, by omega⟩, hm0]
  have e2 : codeOf s.code s.out q.out n 102 = s.code := by unfold codeOf; rw [if_neg (fun h => by have := h.2; omega)]
  unfold Tel.doOut at hm
  rwa [e1, e2] at hm
theorem out_over {g : Nat} {q : Quo} {s : Tel} {w : World} {n : Int} (h : MeterAt w 53 g q s) (hf : Fine q s) (hn : q.out - s.out < max n 0) :
    Calls Try.prog 15 #[.pointer (some ⟨g, 0, none⟩), .int .i64 n] w fun e w' => e = .returned (.bool false) ∧ MeterAt w' 53 g q (s.doOut q n) ∧ w.grownBy w' (some g) := by
  refine (out_any h hf n).mono ?_
  rintro e w' ⟨rfl, hm, hg⟩
  exact ⟨ret_bool (decide_eq_false fun h => by have := h.2; omega), hm, hg⟩
theorem fine_out {q : Quo} {s : Tel} {n : Int} (h : Fine q s) (h0 : 0 ≤ n) (hn : n ≤ q.out - s.out) : Fine q { s with out := s.out + n } := by
  cases h
  constructor <;> (try simp only []) <;> first | assumption | omega

set_option maxRecDepth 100000 in
set_option maxHeartbeats 2000000 in
theorem walk {q : Quo} {a b : Nat} {w : World} (hq : Lit64 q) (ha : a < 4294967296) (hb : b < 4294967296) :
    Calls Try.prog 7 #[.agg (qArr q), .int .u32 a, .int .u32 b] w fun e w' => e = .returned (.bool true) ∧ Below w.heap.size w w' := by
  have hf := Fine.new hq
  have HF := Lib.hid hf
  have HAW := Lib.hid (mawake_any (w.alloc (.cells (qArr q) 23)))
  have HN := Lib.hid (fun w => mnew_any q w)
  have e1 : IntKind.i64.wrap (a : Int) = a := IntWalk.i64_in _ (by omega)
  have e2 : IntKind.i64.wrap (b : Int) = b := IntWalk.i64_in _ (by omega)
  have e3 : IntKind.i64.wrap ((a : Int) + (b : Int)) = (a : Int) + (b : Int) := IntWalk.i64_in _ (by omega)
  clear hf hq
  unfold qArr at *
  go_enter Try.func7, Try.ntmps7
  go_wp2_with fail
  refine HAW.out.mono ?_
  rintro e w1 ⟨rfl, hb⟩
  have hq0 := quota_cells hb
  unfold qArr at hq0
  have c0 := hq0.cell 0
  have c1 := hq0.cell 1
  have c2 := hq0.cell 2
  have c3 := hq0.cell 3
  have c4 := hq0.cell 4
  simp at c0 c1 c2 c3 c4
  go_wp2_with fail
  refine (HN.out _).mono ?_
  rintro e w2 ⟨g, rfl, hm, hg, hb2⟩
  have HB2 := Lib.hid hb2
  have HM := Lib.hid hm
  have HG := Lib.hid hg
  have HQ2 := Lib.hid (hq0.below hb2)
  have HB1 := Lib.hid (((Below.refl w.heap.size w).alloc (Nat.le_refl _) _).trans (hb.mono (by simp)))
  clear c0 c1 c2 c3 c4 hq0 hb hb2 hm hg HAW
  have c0 := HQ2.out.cell 0
  have c1 := HQ2.out.cell 1
  have c2 := HQ2.out.cell 2
  have c3 := HQ2.out.cell 3
  have c4 := HQ2.out.cell 4
  simp at c0 c1 c2 c3 c4
  go_wp2_with fail
  refine (HN.out _).mono ?_
  rintro e w3 ⟨g', rfl, hm', hg', hb3⟩
  have HM1 := Lib.hid (HM.out.below hb3)
  have HM' := Lib.hid hm'
  have hne : g ≠ g' := by have := HM.out.lt; omega
  have HB := Lib.hid (HB1.out.trans ((HB2.out.mono HB1.out.size).trans (hb3.mono (Nat.le_trans HB1.out.size HB2.out.size))))
  have HG2 := Lib.hid (show w.heap.size ≤ g ∧ w.heap.size ≤ g' from ⟨Nat.le_trans HB1.out.size HG.out, Nat.le_trans HB1.out.size (Nat.le_trans HB2.out.size hg')⟩)
  clear hm' hg' hb3 c0 c1 c2 c3 c4 HQ2 HM HG HB1 HB2 HN
  have hQ := HF.out.o1
  have hQ2 := HF.out.o2
  by_cases hx : (a : Int) ≤ q.up.out
  · have HC1 := Lib.hid (out_fits (n := (a : Int)) HM1.out HF.out rfl (by omega) (by simp only [Tel.zero]; omega))
    have HF1 := Lib.hid (fine_out (n := (a : Int)) HF.out (by omega) (by simp only [Tel.zero]; omega))
    go_wp2_with fail
    refine HC1.out.mono ?_
    rintro e w4 ⟨rfl, hm4, hg4⟩
    have HM4 := Lib.hid hm4
    have HM4' := Lib.hid (HM'.out.grown hg4 (by intro h; injection h with h; exact hne h.symm))
    have HB4 := Lib.hid (HB.out.trans (below_of_only hg4 HG2.out.1 HB.out.size))
    clear hm4 hg4 HC1 HM1 HM'
    by_cases hy : (a : Int) + b ≤ q.up.out
    · have HC2 := Lib.hid (out_fits (n := (b : Int)) HM4.out HF1.out rfl (by omega) (by simp only [Tel.zero]; omega))
      have HC3 := Lib.hid (fun W (h : MeterAt W 53 g' q.up Tel.zero) => out_fits (n := (a : Int) + b) h HF.out rfl (by omega) (by simp only [Tel.zero]; omega))
      go_wp2_with fail
      refine HC2.out.mono ?_
      rintro e w5 ⟨rfl, hm5, hg5⟩
      have HM5 := Lib.hid hm5
      have HM5' := Lib.hid (HM4'.out.grown hg5 (by intro h; injection h with h; exact hne h.symm))
      have HB5 := Lib.hid (HB4.out.trans (below_of_only hg5 HG2.out.1 HB4.out.size))
      clear hm5 hg5 HC2 HM4 HM4'
      go_wp2_with fail
      refine (HC3.out _ HM5'.out).mono ?_
      rintro e w6 ⟨rfl, hm6, hg6⟩
      have HM6 := Lib.hid (HM5.out.grown hg6 (by intro h; injection h with h; exact hne h))
      have HM6' := Lib.hid hm6
      have HB6 := Lib.hid (HB5.out.trans (below_of_only hg6 HG2.out.2 HB5.out.size))
      clear hm6 hg6 HC3 HM5 HM5'
      go_wp2_with fail
      refine (used_any HM6.out).mono ?_
      rintro e w7 ⟨rfl, hb7⟩
      have HM7 := Lib.hid (HM6'.out.below hb7)
      have HB7 := Lib.hid (HB6.out.trans (hb7.mono HB6.out.size))
      clear hb7
      go_wp2_with fail
      refine (used_any HM7.out).mono ?_
      rintro e w8 ⟨rfl, hb8⟩
      have HB8 := Lib.hid (HB7.out.trans (hb8.mono HB7.out.size))
      clear hb8
      simp only [Tel.zero, Int.zero_add]
      unfold uArr
      go_wp2_with fail
      go_ret
      exact ⟨rfl, HB8.out⟩
    · have HC2 := Lib.hid (out_over (n := (b : Int)) HM4.out HF1.out (by simp only [Tel.zero]; omega))
      have HC3 := Lib.hid (fun W (h : MeterAt W 53 g' q.up Tel.zero) => out_over (n := (a : Int) + b) h HF.out (by simp only [Tel.zero]; omega))
      go_wp2_with fail
      refine HC2.out.mono ?_
      rintro e w5 ⟨rfl, hm5, hg5⟩
      have HM5' := Lib.hid (HM4'.out.grown hg5 (by intro h; injection h with h; exact hne h.symm))
      have HB5 := Lib.hid (HB4.out.trans (below_of_only hg5 HG2.out.1 HB4.out.size))
      clear hm5 hg5 HC2 HM4 HM4'
      go_wp2_with fail
      refine (HC3.out _ HM5'.out).mono ?_
      rintro e w6 ⟨rfl, hm6, hg6⟩
      have HB6 := Lib.hid (HB5.out.trans (below_of_only hg6 HG2.out.2 HB5.out.size))
      clear hm6 hg6 HC3 HM5'
      go_wp2_with fail
      go_ret
      exact ⟨rfl, HB6.out⟩
  · have HC1 := Lib.hid (out_over (n := (a : Int)) HM1.out HF.out (by simp only [Tel.zero]; omega))
    have HC3 := Lib.hid (fun W (h : MeterAt W 53 g' q.up Tel.zero) => out_over (n := (a : Int) + b) h HF.out (by simp only [Tel.zero]; omega))
    go_wp2_with fail
    refine HC1.out.mono ?_
    rintro e w4 ⟨rfl, hm4, hg4⟩
    have HM4' := Lib.hid (HM'.out.grown hg4 (by intro h; injection h with h; exact hne h.symm))
    have HB4 := Lib.hid (HB.out.trans (below_of_only hg4 HG2.out.1 HB.out.size))
    clear hm4 hg4 HC1 HM1 HM'
    go_wp2_with fail
    refine (HC3.out _ HM4'.out).mono ?_
    rintro e w6 ⟨rfl, hm6, hg6⟩
    have HB6 := Lib.hid (HB4.out.trans (below_of_only hg6 HG2.out.2 HB4.out.size))
    clear hm6 hg6 HC3 HM4'
    go_wp2_with fail
    go_ret
    exact ⟨rfl, HB6.out⟩
set_option maxRecDepth 100000 in
theorem lifted (os : Os) (started : os.Started) (H : Type) (enc : TypeId × Value → H) :
    ReturnsInHanded {} Try.checked os 7 .any (Rows.meterSplitsSpec.pre6 enc Try.prog Try.f7 Rows.meterSplitsRow.domain false) (Rows.meterSplitsSpec.post enc Try.prog Try.f7 false true false false) := by
  refine returnsInHanded_of_change (C := Try.checked) own started (by kernel_rfl) Try.func7
    (ChangeSpec.witness6 (enc := enc) (C := Try.checked) false ⟨#[], #[.agg #[.int .i64 0, .int .i64 0, .int .i64 0, .int .i64 0, .int .i64 0], .int .u32 0, .int .u32 0], []⟩ 8 (by kernel_rfl) (by kernel_rfl) (by kernel_rfl) (by kernel_rfl)) ?_
  intro W base args ds gs before hval0 hW hcnd _
  have hval : ∀ (j : Nat) t v, Try.f7.params[j]? = some t → args[j]? = some v → Value.okWide Try.prog W .any base t v := hval0
  have hW' := hW
  obtain ⟨p, q, hA0, hV, rfl, hfz, hnd⟩ := hW
  have hA : DataW.TrodAll enc Try.prog W 0 (fun _ => true) true Try.f7.params.toList args.toList ds p := hA0
  rw [Try.params7] at hA hval
  obtain ⟨v0, vs0, d0, ds0, p0, q0, hargs, rfl, rfl, h0, r0⟩ := trodAll_cons hA
  obtain ⟨v1, vs1, d1, ds1, p1, q1, rfl, rfl, rfl, h1, r1⟩ := trodAll_cons r0
  obtain ⟨v2, vs2, d2, ds2, p2, q2, rfl, rfl, rfl, h2, r2⟩ := trodAll_cons r1
  obtain ⟨rfl, rfl, rfl⟩ := trodAll_nil r2
  obtain rfl : args = #[v0, v1, v2] := by cases args; simp_all
  obtain ⟨rfl, rfl⟩ := trodVars_none hV
  have k0 := h0
  have lt0 : ∀ x ∈ p0, x.block < W.heap.size := by obtain ⟨m, hm⟩ := k0; exact DataW.trod_lt m _ _ _ hm
  obtain ⟨qt0, rfl, w0⟩ := open_quota Try.underlying23 (by kernel_rfl) Try.underlying3 (by kernel_rfl) ⟨rfl, rfl⟩ ⟨rfl, rfl⟩ ⟨rfl, rfl⟩ ⟨rfl, rfl⟩ ⟨rfl, rfl⟩ (hval 0 23 v0 rfl rfl) h0
  obtain ⟨a1, rfl, rfl, rfl, w1⟩ := open_int Try.underlying43 (hval 1 43 v1 rfl rfl) h1
  obtain ⟨a2, rfl, rfl, rfl, w2⟩ := open_int Try.underlying43 (hval 2 43 v2 rfl rfl) h2
  clear hA0 hval0
  have b1 := bounds_u32 w1
  obtain ⟨n1, rfl⟩ := Int.eq_ofNat_of_zero_le b1.1
  have b2 := bounds_u32 w2
  obtain ⟨n2, rfl⟩ := Int.eq_ofNat_of_zero_le b2.1
  refine (walk w0 (by omega) (by omega)).mono fun e W' ⟨he, bel⟩ => ?_
  subst he
  exact ⟨_, rfl, _, _, _, [], _, [], hW', trodAll_mk1 (shut_bool Try.underlying4 _), (trodAll_cons_mk (Below.trod laidOut (by kernel_rfl) (of_decide_eq_true (by kernel_rfl)) k0 bel lt0) (trodAll_cons_mk (shut_int Try.underlying43 w1) (trodAll_cons_mk (shut_int Try.underlying43 w2) trodAll_mk0))), rfl, bel.frame _, fun h => by cases h⟩

theorem proved : Rows.MeterSplitsSaid :=
  OpenClaim.holds_of_wide 7 Try.f7 rfl rfl rfl rfl rfl rfl rfl ⟨rfl, rfl, rfl, rfl, rfl⟩ rfl rfl rfl rfl rfl (by kernel_rfl) Try.func7 (by kernel_rfl)
    (of_decide_eq_true (by kernel_rfl)) (by unfold Func.isWrapper; first | (rw [if_pos (by decide +kernel)]; kernel_rfl) | (rw [if_neg (by decide +kernel)]; exact ⟨rfl, rfl⟩))
    (fun os started H enc _ => lifted os started H enc)
#print axioms proved
end Go.Proofs.Ytdeelmfdkhgcbaa.meterSplits
