/-
  The law MeterBounds returns true for every quota and every script, and leaves all that was there as it was. No condition.
-/
import Derived.Test.YtdeelmfdkhgcbaaMtOpen
import Derived.ProofKit
import Derived.OpenShut
import Derived.ShutString
import Derived.ChangeOld
import Derived.Below
namespace Go.Proofs.Ytdeelmfdkhgcbaa.meterBounds
open Go.ChangeShapes Go.WideShapes Go.ChangeAt Go.RowKit
set_option linter.unusedVariables false

theorem own : ownKnob Try.prog.godebug = none := by kernel_rfl
theorem laidOut : laidOutB Try.prog = true := by kernel_rfl

set_option maxRecDepth 100000 in
set_option maxHeartbeats 4000000 in
theorem walk {q : Quo} {B : Option Addr} {m mc : Nat} {qs : Nat → Int × Int} {w : World} (hq : Lit64 q) (hB : Script w B m qs)
    (hqs : ∀ i, i < m → (-9223372036854775808 ≤ (qs i).1 ∧ (qs i).1 ≤ 9223372036854775807) ∧ (-9223372036854775808 ≤ (qs i).2 ∧ (qs i).2 ≤ 9223372036854775807)) (hm : m ≤ maxLen) :
    Calls Try.prog 4 #[.agg (qArr q), .slice B m mc] w fun e w' => e = .returned (.bool true) ∧ Below w.heap.size w w' := by
  have HF := Lib.hid (Fine.new hq)
  have HSC := Lib.hid hB
  have HQS := Lib.hid hqs
  have HAW := Lib.hid (mawake_any (w.alloc (.cells (qArr q) 23)))
  have HN := Lib.hid (fun w => mnew_any q w)
  unfold maxLen at hm
  clear hq hB hqs
  unfold qArr at *
  go_enter Try.func4, Try.ntmps4
  go_wp2_with fail
  refine HAW.out.mono ?_
  rintro e w1 ⟨rfl, hb⟩
  have hq0 := quota_cells hb
  unfold qArr at hq0
  have c0 := hq0.cell 0
  have c1 := hq0.cell 1
  have c2 := hq0.cell 2
  have c3 := hq0.cell 3
  have c4 := hq0.cell 4
  simp at c0 c1 c2 c3 c4
  go_wp2_with fail
  refine (HN.out _).mono ?_
  rintro e w2 ⟨g, rfl, hm2, hg, hb2⟩
  have HM1 := Lib.hid hm2
  have HB1 := ((Below.refl w.heap.size w).alloc (Nat.le_refl _) (.cells #[.int .i64 q.mem, .int .i64 q.out, .int .i64 q.files, .int .i64 q.depth, .int .i64 q.steps] 23)).trans (hb.mono (by simp))
  have HB := Lib.hid (HB1.trans (hb2.mono HB1.size))
  have hgl : w.heap.size ≤ g := Nat.le_trans HB1.size hg
  have HQC := Lib.hid (hq0.below hb2)
  have hgq : w.heap.size ≠ g := by have := hq0.lt; omega
  have hM : q.up.mem = max q.mem 0 := rfl
  have hO : q.up.out = max q.out 0 := rfl
  have hFi : q.up.files = max q.files 0 := rfl
  have hD : q.up.depth = max q.depth 0 := rfl
  have hS : q.up.steps = max q.steps 0 := rfl
  clear c0 c1 c2 c3 c4 hq0 hb hb2 hm2 hg HAW HN HB1
  generalize q.up = Q at *
  have HQE := Lib.hid (And.intro hM (And.intro hO (And.intro hFi (And.intro hD hS))))
  clear hM hO hFi hD hS
  go_wp2_with fail
  go_loopw [6] (fun x wr => ∃ (j : Nat) (s : Tel), j ≤ m ∧ x = .int .i64 j ∧ MeterAt wr 53 g Q s ∧ Blk wr w.heap.size 23 #[.int .i64 q.mem, .int .i64 q.out, .int .i64 q.files, .int .i64 q.depth, .int .i64 q.steps] ∧ Fine Q s ∧ Below w.heap.size w wr) (fun x _ => m - (intOf x).toNat)
  case atStart => exact ⟨0, Tel.zero, Nat.zero_le _, rfl, HM1.out, HQC.out, HF.out, HB.out⟩
  case round =>
    clear HM1 HF HB HQC
    obtain ⟨j, s, hj, rfl, hm1, hqc, hf, hb⟩ := hrel
    have HM := Lib.hid hm1
    have HQC := Lib.hid hqc
    have HF := Lib.hid hf
    have HB := Lib.hid hb
    clear hm1 hf hb hqc
    by_cases hjm : j < m
    · by_cases hj2 : j < 300
      · obtain ⟨b, o, rfl, hbl, hc⟩ := HSC.out (by omega)
        have c0 : wr.cell? ⟨b, o + j * 2, none⟩ = some (.int .i64 (qs j).1) := (HB.out.cell hbl).trans (hc j hjm).1
        have c1 : wr.cell? ⟨b, o + j * 2 + 1, none⟩ = some (.int .i64 (qs j).2) := (HB.out.cell hbl).trans (hc j hjm).2
        have hn := (HQS.out j hjm).2.2
        generalize (qs j).1 = k at c0
        generalize (qs j).2 = n at c1 hn
        have HKA := Lib.hid (ask_any (k := k) (n := n) HM.out HF.out hn)
        have HF2 := Lib.hid (HF.out.next k n)
        generalize s.said Q k n = bb at HKA
        generalize s.next Q k n = s' at HKA HF2
        clear hc hn
        go_wp2_with fail
        refine HKA.out.mono ?_
        rintro e w4 ⟨rfl, hm4, hg4⟩
        have HM4 := Lib.hid hm4
        have HQ4 := Lib.hid (HQC.out.grown hg4 (by intro h; injection h with h; exact hgq h))
        have HB4 := Lib.hid (HB.out.trans (below_of_only hg4 hgl HB.out.size))
        clear hm4 hg4 c0 c1 HKA
        have U := used_any HM4.out
        unfold uArr at U
        have HU := Lib.hid U
        clear U
        go_wp2_with fail
        refine HU.out.mono ?_
        rintro e w5 ⟨rfl, hb5⟩
        have HM5 := Lib.hid (HM4.out.below hb5)
        have HQ5 := Lib.hid (HQ4.out.below hb5)
        have HB5 := Lib.hid (HB4.out.trans (hb5.mono HB4.out.size))
        have q0 := HQ5.out.cell 0
        have q1 := HQ5.out.cell 1
        have q2 := HQ5.out.cell 2
        have q3 := HQ5.out.cell 3
        have q4 := HQ5.out.cell 4
        simp at q0 q1 q2 q3 q4
        have hql : w.heap.size < w5.heap.size := HQ5.out.lt
        have hne : w.heap.size ≠ w5.heap.size := by omega
        clear hb5 HU
        obtain ⟨x1, x2, x3, x4, x5⟩ := HQE.out
        have f := HF2.out
        have l1 : ¬ s'.mem < 0 := by have := f.m0; omega
        have l2 : ¬ s'.mem > max 0 q.mem := by have := f.m1; have := f.m2; omega
        have l3 : ¬ s'.peak < s'.mem := by have := f.m1; omega
        have l4 : ¬ s'.peak > max 0 q.mem := by have := f.m2; omega
        have l5 : ¬ s'.out < 0 := by have := f.o0; omega
        have l6 : ¬ s'.out > max 0 q.out := by have := f.o1; omega
        have l7 : ¬ s'.files < 0 := by have := f.f0; omega
        have l8 : ¬ s'.files > max 0 q.files := by have := f.f1; omega
        have l9 : ¬ s'.depth < 0 := by have := f.d0; omega
        have l10 : ¬ s'.depth > max 0 q.depth := by have := f.d1; omega
        have l11 : ¬ s'.steps < 0 := by have := f.s0; omega
        have l12 : ¬ s'.steps > max 0 q.steps := by have := f.s1; omega
        clear f x1 x2 x3 x4 x5
        go_wp2_with fail
        go_roundw
        case rel => exact ⟨j + 1, s', by omega, by go_num, HM5.out.alloc _, HQ5.out.alloc _, HF2.out, HB5.out.alloc HB5.out.size _⟩
        case measure => simp [intOf]; omega
      · go_wp2_with fail
        go_ret
        exact ⟨rfl, HB.out⟩
    · go_wp2_with fail
      go_ret
      exact ⟨rfl, HB.out⟩
set_option maxRecDepth 100000 in
theorem lifted (os : Os) (started : os.Started) (H : Type) (enc : TypeId × Value → H) :
    ReturnsInHanded {} Try.checked os 4 .any (Rows.meterBoundsSpec.pre6 enc Try.prog Try.f4 Rows.meterBoundsRow.domain false) (Rows.meterBoundsSpec.post enc Try.prog Try.f4 false true false false) := by
  refine returnsInHanded_of_change (C := Try.checked) own started (by kernel_rfl) Try.func4
    (ChangeSpec.witness6 (enc := enc) (C := Try.checked) false ⟨#[], #[.agg #[.int .i64 0, .int .i64 0, .int .i64 0, .int .i64 0, .int .i64 0], .slice none 0 0], []⟩ 8 (by kernel_rfl) (by kernel_rfl) (by kernel_rfl) (by kernel_rfl)) ?_
  intro W base args ds gs before hval0 hW hcnd _
  have hval : ∀ (j : Nat) t v, Try.f4.params[j]? = some t → args[j]? = some v → Value.okWide Try.prog W .any base t v := hval0
  have hW' := hW
  obtain ⟨p, q, hA0, hV, rfl, hfz, hnd⟩ := hW
  have hA : DataW.TrodAll enc Try.prog W 0 (fun _ => true) true Try.f4.params.toList args.toList ds p := hA0
  rw [Try.params4] at hA hval
  obtain ⟨v0, vs0, d0, ds0, p0, q0, hargs, rfl, rfl, h0, r0⟩ := trodAll_cons hA
  obtain ⟨v1, vs1, d1, ds1, p1, q1, rfl, rfl, rfl, h1, r1⟩ := trodAll_cons r0
  obtain ⟨rfl, rfl, rfl⟩ := trodAll_nil r1
  obtain rfl : args = #[v0, v1] := by cases args; simp_all
  obtain ⟨rfl, rfl⟩ := trodVars_none hV
  have k0 := h0
  have lt0 : ∀ x ∈ p0, x.block < W.heap.size := by obtain ⟨m, hm⟩ := k0; exact DataW.trod_lt m _ _ _ hm
  obtain ⟨qt0, rfl, w0⟩ := open_quota Try.underlying23 (by kernel_rfl) Try.underlying3 (by kernel_rfl) ⟨rfl, rfl⟩ ⟨rfl, rfl⟩ ⟨rfl, rfl⟩ ⟨rfl, rfl⟩ ⟨rfl, rfl⟩ (hval 0 23 v0 rfl rfl) h0
  obtain ⟨a1, len1, cap1, rfl⟩ := okWide_slice Try.underlying24 (hval 1 24 v1 rfl rfl)
  have k1 := h1
  have lt1 : ∀ x ∈ p1, x.block < W.heap.size := by obtain ⟨m, hm⟩ := k1; exact DataW.trod_lt m _ _ _ hm
  obtain ⟨qs1, w1, hw1, hl1, hm1⟩ := open_script Try.underlying24 Try.underlying32 (by kernel_rfl) rfl rfl (by kernel_rfl) (by kernel_rfl) Try.underlying3 Try.underlying3 h1
  clear hA0 hval0
  refine (walk w0 w1 (fun i hi => ⟨bounds_i64 (hw1 i hi).1, bounds_i64 (hw1 i hi).2⟩) (Nat.le_trans hl1 hm1)).mono fun e W' ⟨he, bel⟩ => ?_
  subst he
  exact ⟨_, rfl, _, _, _, [], _, [], hW', trodAll_mk1 (shut_bool Try.underlying4 _), (trodAll_cons_mk (Below.trod laidOut (by kernel_rfl) (of_decide_eq_true (by kernel_rfl)) k0 bel lt0) (trodAll_cons_mk (Below.trod laidOut (by kernel_rfl) (of_decide_eq_true (by kernel_rfl)) k1 bel lt1) trodAll_mk0)), rfl, bel.frame _, fun h => by cases h⟩

theorem proved : Rows.MeterBoundsSaid :=
  OpenClaim.holds_of_wide 4 Try.f4 rfl rfl rfl rfl rfl rfl rfl ⟨rfl, rfl, rfl, rfl, rfl⟩ rfl rfl rfl rfl rfl (by kernel_rfl) Try.func4 (by kernel_rfl)
    (of_decide_eq_true (by kernel_rfl)) (by unfold Func.isWrapper; first | (rw [if_pos (by decide +kernel)]; kernel_rfl) | (rw [if_neg (by decide +kernel)]; exact ⟨rfl, rfl⟩))
    (fun os started H enc _ => lifted os started H enc)
#print axioms proved
end Go.Proofs.Ytdeelmfdkhgcbaa.meterBounds
