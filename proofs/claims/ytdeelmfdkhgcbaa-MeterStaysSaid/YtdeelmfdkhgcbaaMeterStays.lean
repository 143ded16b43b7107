/-
  The law MeterStays returns true for every quota and every script, and leaves all that was there as it was. No condition.
-/
import Derived.Test.YtdeelmfdkhgcbaaMtOpen
import Derived.ProofKit
import Derived.Deep.Cut
import Derived.OpenShut
import Derived.ShutString
import Derived.ChangeOld
import Derived.Below
namespace Go.Proofs.Ytdeelmfdkhgcbaa.meterStays
open Go.ChangeShapes Go.WideShapes Go.ChangeAt Go.RowKit
set_option linter.unusedVariables false

theorem own : ownKnob Try.prog.godebug = none := by kernel_rfl
theorem laidOut : laidOutB Try.prog = true := by kernel_rfl

theorem cell_far {a w : World} {g b o : Nat} {v : Value} (h : a.grownBy w (some g)) (hb : b < a.heap.size) (hne : b ≠ g) (hc : a.cell? ⟨b, o, none⟩ = some v) : w.cell? ⟨b, o, none⟩ = some v :=
  (World.cell?_of_block (h.block b hb (fun e => hne (by injection e)))).trans hc

theorem stays {q : Quo} {s : Tel} {k n : Int} (hf : Fine q s) (hc : s.code ≠ 0) :
    (s.next q k n).code = s.code ∧ (0 ≤ k → k < 5 → s.said q k n = false) ∧ (s.next q k n).mem ≤ s.mem ∧ (s.next q k n).out = s.out ∧ (s.next q k n).files = s.files ∧ (s.next q k n).depth ≤ s.depth ∧ (s.next q k n).steps = s.steps := by
  have h0 := hf.m0
  have hd := hf.d0
  have W : ∀ was most n : Int, wasOf s.code was most n = was := fun was most n => by unfold wasOf; rw [if_neg (fun h => hc h.1)]
  have C : ∀ was most n x : Int, codeOf s.code was most n x = s.code := fun was most n x => by unfold codeOf; rw [if_neg (fun h => hc h.1)]
  have F : ∀ was most n : Int, decide (fits s.code was most n) = false := fun was most n => decide_eq_false fun h => hc h.1
  unfold Tel.next Tel.said
  by_cases k0 : k = 0
  · simp only [if_pos k0, Tel.doMem, W, C, F]
    exact ⟨trivial, fun _ _ => trivial, Int.le_refl _, trivial, trivial, Int.le_refl _, trivial⟩
  simp only [if_neg k0]
  by_cases k1 : k = 1
  · simp only [if_pos k1, Tel.doOut, W, C, F]
    exact ⟨trivial, fun _ _ => trivial, Int.le_refl _, trivial, trivial, Int.le_refl _, trivial⟩
  simp only [if_neg k1]
  by_cases k2 : k = 2
  · simp only [if_pos k2, Tel.doFile, W, C, F]
    exact ⟨trivial, fun _ _ => trivial, Int.le_refl _, trivial, trivial, Int.le_refl _, trivial⟩
  simp only [if_neg k2]
  by_cases k3 : k = 3
  · simp only [if_pos k3, Tel.doDown, W, C, F]
    exact ⟨trivial, fun _ _ => trivial, Int.le_refl _, trivial, trivial, Int.le_refl _, trivial⟩
  simp only [if_neg k3]
  by_cases k4 : k = 4
  · simp only [if_pos k4, Tel.doStep, W, C, F]
    exact ⟨trivial, fun _ _ => trivial, Int.le_refl _, trivial, trivial, Int.le_refl _, trivial⟩
  simp only [if_neg k4]
  by_cases k5 : k = 5
  · simp only [if_pos k5, Tel.doFree]
    exact ⟨trivial, fun _ _ => by omega, by omega, trivial, trivial, Int.le_refl _, trivial⟩
  simp only [if_neg k5, Tel.doUp]
  exact ⟨trivial, fun _ _ => by omega, Int.le_refl _, trivial, trivial, by omega, trivial⟩

/-- What was used is kept in the law's own variable, and the round's is laid. -/
theorem stored {w w5 : World} {g U : Nat} {q : Quo} {s s' : Tel} {cs : Array Value} (hM : MeterAt w5 53 g q s')
    (hU : Blk w5 U 35 #[.int .i64 s.mem, .int .i64 s.peak, .int .i64 s.out, .int .i64 s.files, .int .i64 s.depth, .int .i64 s.steps]) (hne : U ≠ g) (hb : Below w.heap.size w w5) (hl : w.heap.size ≤ U) :
    MeterAt (((((((w5.setCell ⟨U, 0, none⟩ (.int .i64 s'.mem)).setCell ⟨U, 1, none⟩ (.int .i64 s'.peak)).setCell ⟨U, 2, none⟩ (.int .i64 s'.out)).setCell ⟨U, 3, none⟩ (.int .i64 s'.files)).setCell ⟨U, 4, none⟩ (.int .i64 s'.depth)).setCell ⟨U, 5, none⟩ (.int .i64 s'.steps)).alloc (.cells cs 35)) 53 g q s' ∧
    Blk (((((((w5.setCell ⟨U, 0, none⟩ (.int .i64 s'.mem)).setCell ⟨U, 1, none⟩ (.int .i64 s'.peak)).setCell ⟨U, 2, none⟩ (.int .i64 s'.out)).setCell ⟨U, 3, none⟩ (.int .i64 s'.files)).setCell ⟨U, 4, none⟩ (.int .i64 s'.depth)).setCell ⟨U, 5, none⟩ (.int .i64 s'.steps)).alloc (.cells cs 35)) U 35
      #[.int .i64 s'.mem, .int .i64 s'.peak, .int .i64 s'.out, .int .i64 s'.files, .int .i64 s'.depth, .int .i64 s'.steps] ∧
    Below w.heap.size w (((((((w5.setCell ⟨U, 0, none⟩ (.int .i64 s'.mem)).setCell ⟨U, 1, none⟩ (.int .i64 s'.peak)).setCell ⟨U, 2, none⟩ (.int .i64 s'.out)).setCell ⟨U, 3, none⟩ (.int .i64 s'.files)).setCell ⟨U, 4, none⟩ (.int .i64 s'.depth)).setCell ⟨U, 5, none⟩ (.int .i64 s'.steps)).alloc (.cells cs 35)) := by
  have hgu : g ≠ U := hne.symm
  refine ⟨?_, ?_, ?_⟩
  · exact Blk.alloc (Blk.far (Blk.far (Blk.far (Blk.far (Blk.far (Blk.far hM (p := ⟨U, 0, none⟩) hgu _) (p := ⟨U, 1, none⟩) hgu _) (p := ⟨U, 2, none⟩) hgu _) (p := ⟨U, 3, none⟩) hgu _) (p := ⟨U, 4, none⟩) hgu _) (p := ⟨U, 5, none⟩) hgu _) _
  · exact Blk.alloc ((((((hU.put 0 _).put 1 _).put 2 _).put 3 _).put 4 _).put 5 _) _
  · have h6 := (((((hb.setCell (p := ⟨U, 0, none⟩) hl (.int .i64 s'.mem)).setCell (p := ⟨U, 1, none⟩) hl (.int .i64 s'.peak)).setCell (p := ⟨U, 2, none⟩) hl (.int .i64 s'.out)).setCell (p := ⟨U, 3, none⟩) hl (.int .i64 s'.files)).setCell (p := ⟨U, 4, none⟩) hl (.int .i64 s'.depth)).setCell (p := ⟨U, 5, none⟩) hl (.int .i64 s'.steps)
    exact h6.alloc h6.size _

set_option maxRecDepth 100000 in
set_option maxHeartbeats 4000000 in
theorem walk {q : Quo} {B : Option Addr} {m mc : Nat} {qs : Nat → Int × Int} {w : World} (hq : Lit64 q) (hB : Script w B m qs)
    (hqs : ∀ i, i < m → (-9223372036854775808 ≤ (qs i).1 ∧ (qs i).1 ≤ 9223372036854775807) ∧ (-9223372036854775808 ≤ (qs i).2 ∧ (qs i).2 ≤ 9223372036854775807)) (hm : m ≤ maxLen) :
    Calls Try.prog 6 #[.agg (qArr q), .slice B m mc] w fun e w' => e = .returned (.bool true) ∧ Below w.heap.size w w' := by
  have HF := Lib.hid (Fine.new hq)
  have HSC := Lib.hid hB
  have HQS := Lib.hid hqs
  have HAW := Lib.hid (mawake_any (w.alloc (.cells (qArr q) 23)))
  have HN := Lib.hid (fun w => mnew_any q w)
  unfold maxLen at hm
  clear hq hB hqs
  unfold qArr at *
  go_enter Try.func6, Try.ntmps6
  go_wp2_with fail
  refine HAW.out.mono ?_
  rintro e w1 ⟨rfl, hb⟩
  have hq0 := quota_cells hb
  unfold qArr at hq0
  have c0 := hq0.cell 0
  have c1 := hq0.cell 1
  have c2 := hq0.cell 2
  have c3 := hq0.cell 3
  have c4 := hq0.cell 4
  simp at c0 c1 c2 c3 c4
  go_wp2_with fail
  refine (HN.out _).mono ?_
  rintro e w2 ⟨g, rfl, hm2, hg, hb2⟩
  have HM1 := Lib.hid hm2
  have HB1 := ((Below.refl w.heap.size w).alloc (Nat.le_refl _) (.cells #[.int .i64 q.mem, .int .i64 q.out, .int .i64 q.files, .int .i64 q.depth, .int .i64 q.steps] 23)).trans (hb.mono (by simp))
  have HB := Lib.hid (HB1.trans (hb2.mono HB1.size))
  have hgl : w.heap.size ≤ g := Nat.le_trans HB1.size hg
  clear c0 c1 c2 c3 c4 hq0 hb hb2 hm2 hg HAW HN HB1
  generalize q.up = Q at *
  go_wp2_with fail
  have HU0 := Lib.hid (Blk.fresh w2 35 (uArr Tel.zero))
  have HM1' := Lib.hid (HM1.out.alloc (.cells (uArr Tel.zero) 35))
  have HB' := Lib.hid (HB.out.alloc HB.out.size (.cells (uArr Tel.zero) 35))
  have hul : w.heap.size ≤ w2.heap.size := HB.out.size
  have hug : w2.heap.size ≠ g := by have := HM1.out.lt; omega
  unfold uArr at HU0 HM1' HB'
  clear HM1 HB
  generalize w2.heap.size = U at *
  go_loopw [6, 8, 9, 10] (fun c x y z wr => ∃ (j : Nat) (s : Tel), j ≤ m ∧ x = .int .i64 j ∧ c = .int .i64 s.code ∧ MeterAt wr 53 g Q s ∧ Blk wr U 35 #[.int .i64 s.mem, .int .i64 s.peak, .int .i64 s.out, .int .i64 s.files, .int .i64 s.depth, .int .i64 s.steps] ∧ Fine Q s ∧ Below w.heap.size w wr) (fun _ x _ _ _ => m - (intOf x).toNat)
  case atStart => exact ⟨0, Tel.zero, Nat.zero_le _, rfl, rfl, HM1'.out, HU0.out, HF.out, HB'.out⟩
  case round =>
    clear HM1' HF HB' HU0
    obtain ⟨j, s, hj, rfl, rfl, hm1, hu, hf, hb⟩ := hrel
    have HM := Lib.hid hm1
    have HUr := Lib.hid hu
    have HF := Lib.hid hf
    have HB := Lib.hid hb
    clear hm1 hf hb hu
    by_cases hgo : j < m ∧ j < 300
    · obtain ⟨hjm, hj2⟩ := hgo
      obtain ⟨b, o, rfl, hbl, hc⟩ := HSC.out (by omega)
      have c0 : wr.cell? ⟨b, o + j * 2, none⟩ = some (.int .i64 (qs j).1) := (HB.out.cell hbl).trans (hc j hjm).1
      have c1 : wr.cell? ⟨b, o + j * 2 + 1, none⟩ = some (.int .i64 (qs j).2) := (HB.out.cell hbl).trans (hc j hjm).2
      have hn := (HQS.out j hjm).2.2
      have hbg : b ≠ g := by omega
      have hbw : b < wr.heap.size := Nat.lt_of_lt_of_le hbl HB.out.size
      generalize (qs j).1 = k at c0
      generalize (qs j).2 = n at c1 hn
      have HKA := Lib.hid (ask_any (k := k) (n := n) HM.out HF.out hn)
      have HF2 := Lib.hid (HF.out.next k n)
      have HST := Lib.hid (fun h => stays (k := k) (n := n) HF.out h)
      generalize s.said Q k n = bb at HKA HST
      generalize s.next Q k n = s' at HKA HF2 HST
      obtain ⟨sm, sp, so, sf, sd, ss, sc'⟩ := s'
      clear hc hn
      go_wp2_with fail
      refine HKA.out.mono ?_
      rintro e w4 ⟨rfl, hm4, hg4⟩
      have a0 : w4.cell? ⟨b, o + j * 2, none⟩ = some (.int .i64 k) := cell_far hg4 hbw hbg c0
      have hbw4 : b < w4.heap.size := Nat.lt_of_lt_of_le hbw hg4.size
      have HM4 := Lib.hid hm4
      have HU4 := Lib.hid (HUr.out.grown hg4 (by intro h; injection h with h; exact hug h))
      have HB4 := Lib.hid (HB.out.trans (below_of_only hg4 hgl HB.out.size))
      clear hm4 hg4 c0 c1 HKA
      have V := used_any HM4.out
      simp only [uArr] at V
      have HV := Lib.hid V
      clear V
      go_wp2_with fail
      refine HV.out.mono ?_
      rintro e w5 ⟨rfl, hb5⟩
      have a5 : w5.cell? ⟨b, o + j * 2, none⟩ = some (.int .i64 k) := (hb5.cell (p := ⟨b, o + j * 2, none⟩) hbw4).trans a0
      have HM5 := Lib.hid (HM4.out.below hb5)
      have HU5 := Lib.hid (HU4.out.below hb5)
      have HB5 := Lib.hid (HB4.out.trans (hb5.mono HB4.out.size))
      have q0 := HU5.out.cell 0
      have q1 := HU5.out.cell 1
      have q2 := HU5.out.cell 2
      have q3 := HU5.out.cell 3
      have q4 := HU5.out.cell 4
      have q5 := HU5.out.cell 5
      simp at q0 q1 q2 q3 q4 q5
      have z0 : ∀ i, w5.frozen? ⟨U, i, none⟩ = false := HU5.out.free
      have hUl : U < w5.heap.size := HU5.out.lt
      have hne : U ≠ w5.heap.size := by omega
      have hbw5 : b < w5.heap.size := Nat.lt_of_lt_of_le hbw4 hb5.size
      have hbn : b ≠ w5.heap.size := by omega
      have HM6 := Lib.hid (fun o => mcode_any (HM5.out.alloc o))
      clear hb5 HV a0
      by_cases hz : s.code = 0
      · clear HST
        generalize s.code = sc at *
        subst hz
        go_upto_region 11 with fail
        iterate 10 go_step
        iterate 58 (with_reducible refine wpList_step (fun K hK => ?_); go_simp; (first | (with_reducible refine hK _ _ ?_) | (refine Eq.mpr (if_neg ?_) ?_; (· decide); with_reducible refine hK _ _ ?_)); clear hK K)
        go_wp2_with fail
        refine (HM6.out _).mono ?_
        rintro e w6 ⟨rfl, rfl⟩
        go_wp2_with fail
        go_roundw
        case rel =>
          obtain ⟨r1, r2, r3⟩ := stored (s' := ⟨sm, sp, so, sf, sd, ss, sc'⟩) (cs := #[.int .i64 sm, .int .i64 sp, .int .i64 so, .int .i64 sf, .int .i64 sd, .int .i64 ss]) HM5.out HU5.out hug HB5.out hul
          exact ⟨j + 1, _, by omega, by go_num, rfl, r1, r2, HF2.out, r3⟩
        case measure => simp [intOf]; omega
      · obtain ⟨e1, e2, e3, e4, e5, e6, e7⟩ := HST.out hz
        clear HST
        try dsimp only at e1
        try dsimp only at e3
        try dsimp only at e4
        try dsimp only at e5
        try dsimp only at e6
        try dsimp only at e7
        subst e1 e4 e5 e7
        have l1 : ¬ sm > s.mem := by omega
        have l2 : ¬ sd > s.depth := by omega
        clear e3 e6
        cases bb
        · clear e2
          go_wp2_with fail
          refine (HM6.out _).mono ?_
          rintro e w6 ⟨rfl, rfl⟩
          go_wp2_with fail
          refine (HM6.out _).mono ?_
          rintro e w6 ⟨rfl, rfl⟩
          go_wp2_with fail
          go_roundw
          case rel =>
            obtain ⟨r1, r2, r3⟩ := stored (s' := ⟨sm, sp, s.out, s.files, sd, s.steps, s.code⟩) (cs := #[.int .i64 sm, .int .i64 sp, .int .i64 s.out, .int .i64 s.files, .int .i64 sd, .int .i64 s.steps]) HM5.out HU5.out hug HB5.out hul
            exact ⟨j + 1, ⟨sm, sp, s.out, s.files, sd, s.steps, s.code⟩, by omega, by go_num, rfl, r1, r2, HF2.out, r3⟩
          case measure => simp [intOf]; omega
        · by_cases hk0 : 0 ≤ k
          · have hk5 : ¬ k < 5 := fun h => by cases e2 hk0 h
            clear e2
            go_wp2_with fail
            refine (HM6.out _).mono ?_
            rintro e w6 ⟨rfl, rfl⟩
            go_wp2_with fail
            refine (HM6.out _).mono ?_
            rintro e w6 ⟨rfl, rfl⟩
            go_wp2_with fail
            go_roundw
            case rel =>
              obtain ⟨r1, r2, r3⟩ := stored (s' := ⟨sm, sp, s.out, s.files, sd, s.steps, s.code⟩) (cs := #[.int .i64 sm, .int .i64 sp, .int .i64 s.out, .int .i64 s.files, .int .i64 sd, .int .i64 s.steps]) HM5.out HU5.out hug HB5.out hul
              exact ⟨j + 1, ⟨sm, sp, s.out, s.files, sd, s.steps, s.code⟩, by omega, by go_num, rfl, r1, r2, HF2.out, r3⟩
            case measure => simp [intOf]; omega
          · clear e2
            go_wp2_with fail
            refine (HM6.out _).mono ?_
            rintro e w6 ⟨rfl, rfl⟩
            go_wp2_with fail
            refine (HM6.out _).mono ?_
            rintro e w6 ⟨rfl, rfl⟩
            go_wp2_with fail
            go_roundw
            case rel =>
              obtain ⟨r1, r2, r3⟩ := stored (s' := ⟨sm, sp, s.out, s.files, sd, s.steps, s.code⟩) (cs := #[.int .i64 sm, .int .i64 sp, .int .i64 s.out, .int .i64 s.files, .int .i64 sd, .int .i64 s.steps]) HM5.out HU5.out hug HB5.out hul
              exact ⟨j + 1, ⟨sm, sp, s.out, s.files, sd, s.steps, s.code⟩, by omega, by go_num, rfl, r1, r2, HF2.out, r3⟩
            case measure => simp [intOf]; omega
    · have HCO := Lib.hid HF.out.c0
      by_cases hz : s.code = 0
      · by_cases hjm : j < m
        · have hj2 : ¬ j < 300 := fun h => hgo ⟨hjm, h⟩
          go_wp2_with fail
          go_ret
          exact ⟨rfl, HB.out⟩
        · go_wp2_with fail
          go_ret
          exact ⟨rfl, HB.out⟩
      · have hc1 : s.code ≥ 101 := by have := HCO.out; omega
        have hc2 : s.code ≤ 105 := by have := HCO.out; omega
        by_cases hjm : j < m
        · have hj2 : ¬ j < 300 := fun h => hgo ⟨hjm, h⟩
          go_wp2_with fail
          go_ret
          exact ⟨rfl, HB.out⟩
        · go_wp2_with fail
          go_ret
          exact ⟨rfl, HB.out⟩

set_option maxRecDepth 100000 in
theorem lifted (os : Os) (started : os.Started) (H : Type) (enc : TypeId × Value → H) :
    ReturnsInHanded {} Try.checked os 6 .any (Rows.meterStaysSpec.pre6 enc Try.prog Try.f6 Rows.meterStaysRow.domain false) (Rows.meterStaysSpec.post enc Try.prog Try.f6 false true false false) := by
  refine returnsInHanded_of_change (C := Try.checked) own started (by kernel_rfl) Try.func6
    (ChangeSpec.witness6 (enc := enc) (C := Try.checked) false ⟨#[], #[.agg #[.int .i64 0, .int .i64 0, .int .i64 0, .int .i64 0, .int .i64 0], .slice none 0 0], []⟩ 8 (by kernel_rfl) (by kernel_rfl) (by kernel_rfl) (by kernel_rfl)) ?_
  intro W base args ds gs before hval0 hW hcnd _
  have hval : ∀ (j : Nat) t v, Try.f6.params[j]? = some t → args[j]? = some v → Value.okWide Try.prog W .any base t v := hval0
  have hW' := hW
  obtain ⟨p, q, hA0, hV, rfl, hfz, hnd⟩ := hW
  have hA : DataW.TrodAll enc Try.prog W 0 (fun _ => true) true Try.f6.params.toList args.toList ds p := hA0
  rw [Try.params6] at hA hval
  obtain ⟨v0, vs0, d0, ds0, p0, q0, hargs, rfl, rfl, h0, r0⟩ := trodAll_cons hA
  obtain ⟨v1, vs1, d1, ds1, p1, q1, rfl, rfl, rfl, h1, r1⟩ := trodAll_cons r0
  obtain ⟨rfl, rfl, rfl⟩ := trodAll_nil r1
  obtain rfl : args = #[v0, v1] := by cases args; simp_all
  obtain ⟨rfl, rfl⟩ := trodVars_none hV
  have k0 := h0
  have lt0 : ∀ x ∈ p0, x.block < W.heap.size := by obtain ⟨m, hm⟩ := k0; exact DataW.trod_lt m _ _ _ hm
  obtain ⟨qt0, rfl, w0⟩ := open_quota Try.underlying23 (by kernel_rfl) Try.underlying3 (by kernel_rfl) ⟨rfl, rfl⟩ ⟨rfl, rfl⟩ ⟨rfl, rfl⟩ ⟨rfl, rfl⟩ ⟨rfl, rfl⟩ (hval 0 23 v0 rfl rfl) h0
  obtain ⟨a1, len1, cap1, rfl⟩ := okWide_slice Try.underlying24 (hval 1 24 v1 rfl rfl)
  have k1 := h1
  have lt1 : ∀ x ∈ p1, x.block < W.heap.size := by obtain ⟨m, hm⟩ := k1; exact DataW.trod_lt m _ _ _ hm
  obtain ⟨qs1, w1, hw1, hl1, hm1⟩ := open_script Try.underlying24 Try.underlying32 (by kernel_rfl) rfl rfl (by kernel_rfl) (by kernel_rfl) Try.underlying3 Try.underlying3 h1
  clear hA0 hval0
  refine (walk w0 w1 (fun i hi => ⟨bounds_i64 (hw1 i hi).1, bounds_i64 (hw1 i hi).2⟩) (Nat.le_trans hl1 hm1)).mono fun e W' ⟨he, bel⟩ => ?_
  subst he
  exact ⟨_, rfl, _, _, _, [], _, [], hW', trodAll_mk1 (shut_bool Try.underlying4 _), (trodAll_cons_mk (Below.trod laidOut (by kernel_rfl) (of_decide_eq_true (by kernel_rfl)) k0 bel lt0) (trodAll_cons_mk (Below.trod laidOut (by kernel_rfl) (of_decide_eq_true (by kernel_rfl)) k1 bel lt1) trodAll_mk0)), rfl, bel.frame _, fun h => by cases h⟩

theorem proved : Rows.MeterStaysSaid :=
  OpenClaim.holds_of_wide 6 Try.f6 rfl rfl rfl rfl rfl rfl rfl ⟨rfl, rfl, rfl, rfl, rfl⟩ rfl rfl rfl rfl rfl (by kernel_rfl) Try.func6 (by kernel_rfl)
    (of_decide_eq_true (by kernel_rfl)) (by unfold Func.isWrapper; first | (rw [if_pos (by decide +kernel)]; kernel_rfl) | (rw [if_neg (by decide +kernel)]; exact ⟨rfl, rfl⟩))
    (fun os started H enc _ => lifted os started H enc)
#print axioms proved
end Go.Proofs.Ytdeelmfdkhgcbaa.meterStays
