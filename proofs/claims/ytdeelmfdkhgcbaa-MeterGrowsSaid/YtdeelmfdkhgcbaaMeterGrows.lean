/-
  The law MeterGrows returns true for every two quotas and every script, and leaves all that was there as it was. No condition.
-/
import Derived.Test.YtdeelmfdkhgcbaaMtOpen
import Derived.ProofKit
import Derived.OpenShut
import Derived.ShutString
import Derived.ChangeOld
import Derived.Below
namespace Go.Proofs.Ytdeelmfdkhgcbaa.meterGrows
open Go.ChangeShapes Go.WideShapes Go.ChangeAt Go.RowKit
set_option linter.unusedVariables false

theorem own : ownKnob Try.prog.godebug = none := by kernel_rfl
theorem laidOut : laidOutB Try.prog = true := by kernel_rfl

theorem cell_far {a w : World} {g b o : Nat} {v : Value} (h : a.grownBy w (some g)) (hb : b < a.heap.size) (hne : b ≠ g) (hc : a.cell? ⟨b, o, none⟩ = some v) : w.cell? ⟨b, o, none⟩ = some v :=
  (World.cell?_of_block (h.block b hb (fun e => hne (by injection e)))).trans hc

/-- No number of the one is above the other's. -/
structure Within (q p : Quo) : Prop where
  m : q.mem ≤ p.mem
  o : q.out ≤ p.out
  f : q.files ≤ p.files
  d : q.depth ≤ p.depth
  s : q.steps ≤ p.steps

theorem use_grow {was mq mp n x : Int} (h : mq ≤ mp) (hx : x ≠ 0) :
    (codeOf 0 was mq n x ≠ 0 ∧ decide (fits 0 was mq n) = false) ∨ (codeOf 0 was mq n x = 0 ∧ wasOf 0 was mp n = wasOf 0 was mq n ∧ codeOf 0 was mp n x = 0 ∧ decide (fits 0 was mp n) = decide (fits 0 was mq n)) := by
  by_cases c : max n 0 ≤ mq - was
  · right
    have f1 : fits 0 was mq n := ⟨rfl, c⟩
    have f2 : fits 0 was mp n := ⟨rfl, by omega⟩
    refine ⟨?_, ?_, ?_, ?_⟩
    · unfold codeOf; rw [if_neg (by omega)]
    · unfold wasOf; rw [if_pos (show (0 : Int) = 0 ∧ max n 0 ≤ mp - was from ⟨rfl, by omega⟩), if_pos (show (0 : Int) = 0 ∧ max n 0 ≤ mq - was from ⟨rfl, c⟩)]
    · unfold codeOf; rw [if_neg (by omega)]
    · rw [decide_eq_true f1, decide_eq_true f2]
  · left
    refine ⟨?_, decide_eq_false fun h => c h.2⟩
    unfold codeOf
    rw [if_pos ⟨rfl, by omega⟩]
    exact hx

theorem next_grow {q p : Quo} {s : Tel} {k n : Int} (h : Within q p) (hc : s.code = 0) :
    ((s.next q k n).code ≠ 0 ∧ s.said q k n = false) ∨ ((s.next q k n).code = 0 ∧ s.next p k n = s.next q k n ∧ s.said p k n = s.said q k n) := by
  unfold Tel.next Tel.said
  by_cases k0 : k = 0
  · simp only [if_pos k0, Tel.doMem, hc]
    rcases use_grow (was := s.mem) (n := n) (x := 101) h.m (by decide) with c | ⟨c1, c2, c3, c4⟩
    · exact .inl c
    · exact .inr ⟨c1, by rw [c2, c3, c1], c4⟩
  simp only [if_neg k0]
  by_cases k1 : k = 1
  · simp only [if_pos k1, Tel.doOut, hc]
    rcases use_grow (was := s.out) (n := n) (x := 102) h.o (by decide) with c | ⟨c1, c2, c3, c4⟩
    · exact .inl c
    · exact .inr ⟨c1, by rw [c2, c3, c1], c4⟩
  simp only [if_neg k1]
  by_cases k2 : k = 2
  · simp only [if_pos k2, Tel.doFile, hc]
    rcases use_grow (was := s.files) (n := 1) (x := 103) h.f (by decide) with c | ⟨c1, c2, c3, c4⟩
    · exact .inl c
    · exact .inr ⟨c1, by rw [c2, c3, c1], c4⟩
  simp only [if_neg k2]
  by_cases k3 : k = 3
  · simp only [if_pos k3, Tel.doDown, hc]
    rcases use_grow (was := s.depth) (n := 1) (x := 104) h.d (by decide) with c | ⟨c1, c2, c3, c4⟩
    · exact .inl c
    · exact .inr ⟨c1, by rw [c2, c3, c1], c4⟩
  simp only [if_neg k3]
  by_cases k4 : k = 4
  · simp only [if_pos k4, Tel.doStep, hc]
    rcases use_grow (was := s.steps) (n := n) (x := 105) h.s (by decide) with c | ⟨c1, c2, c3, c4⟩
    · exact .inl c
    · exact .inr ⟨c1, by rw [c2, c3, c1], c4⟩
  simp only [if_neg k4]
  by_cases k5 : k = 5
  · simp only [if_pos k5]
    exact .inr ⟨hc, trivial, trivial⟩
  simp only [if_neg k5]
  exact .inr ⟨hc, trivial, trivial⟩

theorem fine_more {q p : Quo} {s : Tel} (h : Fine q s) (hw : Within q p) (hp : p.mem ≤ 9223372036854775807 ∧ p.out ≤ 9223372036854775807 ∧ p.files ≤ 9223372036854775807 ∧ p.depth ≤ 9223372036854775807 ∧ p.steps ≤ 9223372036854775807) : Fine p s := by
  obtain ⟨p1, p2, p3, p4, p5⟩ := hp
  obtain ⟨w1, w2, w3, w4, w5⟩ := hw
  cases h
  constructor <;> first | assumption | omega

/-- the greater of two quotas, number by number -/
def great (q p : Quo) : Quo := ⟨max q.mem p.mem, max q.out p.out, max q.files p.files, max q.depth p.depth, max q.steps p.steps⟩
theorem great_within (q p : Quo) : Within q.up (great q p).up := by
  constructor <;> simp only [Quo.up, great] <;> omega
theorem great_lit {q p : Quo} (hq : Lit64 q) (hp : Lit64 p) : Lit64 (great q p) := by
  obtain ⟨h1, h2, h3, h4, h5⟩ := hq
  obtain ⟨g1, g2, g3, g4, g5⟩ := hp
  constructor <;> simp only [great] <;> omega

set_option maxRecDepth 100000 in
set_option maxHeartbeats 4000000 in
theorem walk {q p : Quo} {B : Option Addr} {m mc : Nat} {qs : Nat → Int × Int} {w : World} (hq : Lit64 q) (hp : Lit64 p) (hB : Script w B m qs)
    (hqs : ∀ i, i < m → (-9223372036854775808 ≤ (qs i).1 ∧ (qs i).1 ≤ 9223372036854775807) ∧ (-9223372036854775808 ≤ (qs i).2 ∧ (qs i).2 ≤ 9223372036854775807)) (hm : m ≤ maxLen) :
    Calls Try.prog 5 #[.agg (qArr q), .agg (qArr p), .slice B m mc] w fun e w' => e = .returned (.bool true) ∧ Below w.heap.size w w' := by
  have HF := Lib.hid (Fine.new hq)
  have hgl := Fine.new (great_lit hq hp)
  have HP := Lib.hid (And.intro hgl.m3 (And.intro hgl.o2 (And.intro hgl.f2 (And.intro hgl.d2 hgl.s2))))
  have HW := Lib.hid (great_within q p)
  have HSC := Lib.hid hB
  have HQS := Lib.hid hqs
  have HAW := Lib.hid (mawake_any ((w.alloc (.cells (qArr q) 23)).alloc (.cells (qArr p) 23)))
  have HN := Lib.hid (fun w => mnew_any q w)
  have HN2 := Lib.hid (fun w => mnew_any (great q p) w)
  unfold maxLen at hm
  clear hq hp hB hqs hgl
  unfold qArr at *
  go_enter Try.func5, Try.ntmps5
  go_wp2_with fail
  refine HAW.out.mono ?_
  rintro e w1 ⟨rfl, hb⟩
  have hq0 : Blk w1 w.heap.size 23 #[.int .i64 q.mem, .int .i64 q.out, .int .i64 q.files, .int .i64 q.depth, .int .i64 q.steps] := ((Blk.fresh w _ _).alloc _).below hb
  have hp0 : Blk w1 (w.heap.size + 1) 23 #[.int .i64 p.mem, .int .i64 p.out, .int .i64 p.files, .int .i64 p.depth, .int .i64 p.steps] := by
    have := (Blk.fresh (w.alloc (.cells #[.int .i64 q.mem, .int .i64 q.out, .int .i64 q.files, .int .i64 q.depth, .int .i64 q.steps] 23)) 23 #[.int .i64 p.mem, .int .i64 p.out, .int .i64 p.files, .int .i64 p.depth, .int .i64 p.steps]).below hb
    simpa using this
  have c0 := hq0.cell 0
  have c1 := hq0.cell 1
  have c2 := hq0.cell 2
  have c3 := hq0.cell 3
  have c4 := hq0.cell 4
  have d0 := hp0.cell 0
  have d1 := hp0.cell 1
  have d2 := hp0.cell 2
  have d3 := hp0.cell 3
  have d4 := hp0.cell 4
  simp at c0 c1 c2 c3 c4 d0 d1 d2 d3 d4
  have hlt1 : w.heap.size < w1.heap.size := hq0.lt
  have hne1 : w.heap.size ≠ w1.heap.size := by omega
  have HB1 := Lib.hid ((((Below.refl w.heap.size w).alloc (Nat.le_refl _) (.cells #[.int .i64 q.mem, .int .i64 q.out, .int .i64 q.files, .int .i64 q.depth, .int .i64 q.steps] 23)).alloc (by simp) (.cells #[.int .i64 p.mem, .int .i64 p.out, .int .i64 p.files, .int .i64 p.depth, .int .i64 p.steps] 23)).trans (hb.mono (by simp; omega)))
  have HQ0 := Lib.hid hq0
  clear hb hq0 hp0 HAW
  go_wp2_with fail
  refine (HN.out _).mono ?_
  rintro e w2 ⟨g, rfl, hm2, hg, hb2⟩
  have HM := Lib.hid hm2
  have hw1 : w1.heap.size ≤ g := by have := hg; simp at this; omega
  have HB2 := Lib.hid (((HB1.out.alloc HB1.out.size (.cells (qArr (great q p)) 23))).trans (hb2.mono (by have := HB1.out.size; simp; omega)))
  have hp2 : Blk w2 w1.heap.size 23 (qArr (great q p)) := (Blk.fresh w1 23 (qArr (great q p))).below hb2
  have e0 := hp2.cell 0
  have e1 := hp2.cell 1
  have e2 := hp2.cell 2
  have e3 := hp2.cell 3
  have e4 := hp2.cell 4
  simp [qArr] at e0 e1 e2 e3 e4
  clear c0 c1 c2 c3 c4 d0 d1 d2 d3 d4 hp2 hm2 hb2
  go_wp2_with fail
  refine (HN2.out _).mono ?_
  rintro e w3 ⟨r, rfl, hr, hg', hb3⟩
  have HM1 := Lib.hid (HM.out.below hb3)
  have HR1 := Lib.hid hr
  have hne : g ≠ r := by have := HM.out.lt; omega
  have HB := Lib.hid (HB2.out.trans (hb3.mono HB2.out.size))
  have hgl : w.heap.size ≤ g := by omega
  have hrl : w.heap.size ≤ r := Nat.le_trans HB2.out.size hg'
  clear hr hg' hb3 e0 e1 e2 e3 e4 HM HB1 HB2 HN HN2 hg HQ0
  generalize q.up = Q at *
  generalize (great q p).up = P at *
  go_wp2_with fail
  go_loopw [10, 11, 12] (fun x y z wr => ∃ (j : Nat) (s : Tel), j ≤ m ∧ x = .int .i64 j ∧ MeterAt wr 53 g Q s ∧ MeterAt wr 53 r P s ∧ Fine Q s ∧ s.code = 0 ∧ Below w.heap.size w wr) (fun x _ _ _ => m - (intOf x).toNat)
  case atStart => exact ⟨0, Tel.zero, Nat.zero_le _, rfl, HM1.out, HR1.out, HF.out, rfl, HB.out⟩
  case round =>
    clear HM1 HR1 HF HB
    obtain ⟨j, s, hj, rfl, hm1, hr1, hf, hcode, hb⟩ := hrel
    have HM := Lib.hid hm1
    have HR := Lib.hid hr1
    have HF := Lib.hid hf
    have HFP := Lib.hid (fine_more hf HW.out HP.out)
    have HB := Lib.hid hb
    clear hm1 hr1 hf hb
    by_cases hjm : j < m
    · by_cases hj2 : j < 300
      · obtain ⟨b, o, rfl, hbl, hc⟩ := HSC.out (by omega)
        have c0 : wr.cell? ⟨b, o + j * 2, none⟩ = some (.int .i64 (qs j).1) := (HB.out.cell hbl).trans (hc j hjm).1
        have c1 : wr.cell? ⟨b, o + j * 2 + 1, none⟩ = some (.int .i64 (qs j).2) := (HB.out.cell hbl).trans (hc j hjm).2
        have hbg : b ≠ g := by omega
        have hbw : b < wr.heap.size := Nat.lt_of_lt_of_le hbl HB.out.size
        have hn := (HQS.out j hjm).2.2
        generalize (qs j).1 = k at c0
        generalize (qs j).2 = n at c1 hn
        have HKA := Lib.hid (ask_any (k := k) (n := n) HM.out HF.out hn)
        have HKR := Lib.hid (fun W (h : MeterAt W 53 r P s) => ask_any (k := k) (n := n) h HFP.out hn)
        have HF2 := Lib.hid (HF.out.next k n)
        have HG := Lib.hid (next_grow (k := k) (n := n) HW.out hcode)
        clear hc hn hcode
        go_wp2_with fail
        refine HKA.out.mono ?_
        rintro e w4 ⟨rfl, hm4, hg4⟩
        have a0 : w4.cell? ⟨b, o + j * 2, none⟩ = some (.int .i64 k) := cell_far hg4 hbw hbg c0
        have a1 : w4.cell? ⟨b, o + j * 2 + 1, none⟩ = some (.int .i64 n) := cell_far hg4 hbw hbg c1
        have HM4 := Lib.hid hm4
        have HR4 := Lib.hid (HR.out.grown hg4 (by intro h; injection h with h; exact hne h.symm))
        have HB4 := Lib.hid (HB.out.trans (below_of_only hg4 hgl HB.out.size))
        clear hm4 hg4 c0 c1 HKA
        go_wp2_with fail
        refine (HKR.out _ HR4.out).mono ?_
        rintro e w5 ⟨rfl, hm5, hg5⟩
        have HR5 := Lib.hid hm5
        have HM5 := Lib.hid (HM4.out.grown hg5 (by intro h; injection h with h; exact hne h))
        have HB5 := Lib.hid (HB4.out.trans (below_of_only hg5 hrl HB4.out.size))
        clear hm5 hg5 a0 a1 HKR
        have HC := Lib.hid (mcode_any HM5.out)
        rcases HG.out with ⟨g1, g2⟩ | ⟨g1, g2, g3⟩
        · generalize s.next Q k n = s1 at *
          rw [g2]
          go_wp2_with fail
          refine HC.out.mono ?_
          rintro e w6 ⟨rfl, rfl⟩
          go_wp2_with fail
          go_ret
          exact ⟨rfl, HB5.out⟩
        · have HR5' : Hid (MeterAt w5 53 r P (s.next Q k n)) := Lib.hid (by have := HR5.out; rwa [g2] at this)
          rw [g3]
          generalize s.said Q k n = bb
          clear g2 g3 HR5 HG
          generalize s.next Q k n = s1 at *
          rw [g1] at HC
          go_wp2_with fail
          refine HC.out.mono ?_
          rintro e w6 ⟨rfl, rfl⟩
          have U := used_any HM5.out
          unfold uArr at U
          have HU := Lib.hid U
          clear U
          go_wp2_with fail
          refine HU.out.mono ?_
          rintro e w6 ⟨rfl, hb6⟩
          have HM6 := Lib.hid (HM5.out.below hb6)
          have HR6 := Lib.hid (HR5'.out.below hb6)
          have HB6 := Lib.hid (HB5.out.trans (hb6.mono HB5.out.size))
          clear hb6
          have U := used_any HR6.out
          unfold uArr at U
          have HU2 := Lib.hid U
          clear U
          go_wp2_with fail
          refine HU2.out.mono ?_
          rintro e w7 ⟨rfl, hb7⟩
          have HM7 := Lib.hid (HM6.out.below hb7)
          have HR7 := Lib.hid (HR6.out.below hb7)
          have HB7 := Lib.hid (HB6.out.trans (hb7.mono HB6.out.size))
          clear hb7
          have C := mcode_any HR7.out
          rw [g1] at C
          have HC7 := Lib.hid C
          clear C
          go_wp2_with fail
          refine HC7.out.mono ?_
          rintro e w8 ⟨rfl, rfl⟩
          go_wp2_with fail
          go_roundw
          case rel => exact ⟨j + 1, s1, by omega, by go_num, HM7.out, HR7.out, HF2.out, g1, HB7.out⟩
          case measure => simp [intOf]; omega
      · go_wp2_with fail
        go_ret
        exact ⟨rfl, HB.out⟩
    · go_wp2_with fail
      go_ret
      exact ⟨rfl, HB.out⟩
set_option maxRecDepth 100000 in
theorem lifted (os : Os) (started : os.Started) (H : Type) (enc : TypeId × Value → H) :
    ReturnsInHanded {} Try.checked os 5 .any (Rows.meterGrowsSpec.pre6 enc Try.prog Try.f5 Rows.meterGrowsRow.domain false) (Rows.meterGrowsSpec.post enc Try.prog Try.f5 false true false false) := by
  refine returnsInHanded_of_change (C := Try.checked) own started (by kernel_rfl) Try.func5
    (ChangeSpec.witness6 (enc := enc) (C := Try.checked) false ⟨#[], #[.agg #[.int .i64 0, .int .i64 0, .int .i64 0, .int .i64 0, .int .i64 0], .agg #[.int .i64 0, .int .i64 0, .int .i64 0, .int .i64 0, .int .i64 0], .slice none 0 0], []⟩ 8 (by kernel_rfl) (by kernel_rfl) (by kernel_rfl) (by kernel_rfl)) ?_
  intro W base args ds gs before hval0 hW hcnd _
  have hval : ∀ (j : Nat) t v, Try.f5.params[j]? = some t → args[j]? = some v → Value.okWide Try.prog W .any base t v := hval0
  have hW' := hW
  obtain ⟨p, q, hA0, hV, rfl, hfz, hnd⟩ := hW
  have hA : DataW.TrodAll enc Try.prog W 0 (fun _ => true) true Try.f5.params.toList args.toList ds p := hA0
  rw [Try.params5] at hA hval
  obtain ⟨v0, vs0, d0, ds0, p0, q0, hargs, rfl, rfl, h0, r0⟩ := trodAll_cons hA
  obtain ⟨v1, vs1, d1, ds1, p1, q1, rfl, rfl, rfl, h1, r1⟩ := trodAll_cons r0
  obtain ⟨v2, vs2, d2, ds2, p2, q2, rfl, rfl, rfl, h2, r2⟩ := trodAll_cons r1
  obtain ⟨rfl, rfl, rfl⟩ := trodAll_nil r2
  obtain rfl : args = #[v0, v1, v2] := by cases args; simp_all
  obtain ⟨rfl, rfl⟩ := trodVars_none hV
  have k0 := h0
  have lt0 : ∀ x ∈ p0, x.block < W.heap.size := by obtain ⟨m, hm⟩ := k0; exact DataW.trod_lt m _ _ _ hm
  obtain ⟨qt0, rfl, w0⟩ := open_quota Try.underlying23 (by kernel_rfl) Try.underlying3 (by kernel_rfl) ⟨rfl, rfl⟩ ⟨rfl, rfl⟩ ⟨rfl, rfl⟩ ⟨rfl, rfl⟩ ⟨rfl, rfl⟩ (hval 0 23 v0 rfl rfl) h0
  have k1 := h1
  have lt1 : ∀ x ∈ p1, x.block < W.heap.size := by obtain ⟨m, hm⟩ := k1; exact DataW.trod_lt m _ _ _ hm
  obtain ⟨qt1, rfl, w1⟩ := open_quota Try.underlying23 (by kernel_rfl) Try.underlying3 (by kernel_rfl) ⟨rfl, rfl⟩ ⟨rfl, rfl⟩ ⟨rfl, rfl⟩ ⟨rfl, rfl⟩ ⟨rfl, rfl⟩ (hval 1 23 v1 rfl rfl) h1
  obtain ⟨a2, len2, cap2, rfl⟩ := okWide_slice Try.underlying24 (hval 2 24 v2 rfl rfl)
  have k2 := h2
  have lt2 : ∀ x ∈ p2, x.block < W.heap.size := by obtain ⟨m, hm⟩ := k2; exact DataW.trod_lt m _ _ _ hm
  obtain ⟨qs2, w2, hw2, hl2, hm2⟩ := open_script Try.underlying24 Try.underlying32 (by kernel_rfl) rfl rfl (by kernel_rfl) (by kernel_rfl) Try.underlying3 Try.underlying3 h2
  clear hA0 hval0
  refine (walk w0 w1 w2 (fun i hi => ⟨bounds_i64 (hw2 i hi).1, bounds_i64 (hw2 i hi).2⟩) (Nat.le_trans hl2 hm2)).mono fun e W' ⟨he, bel⟩ => ?_
  subst he
  exact ⟨_, rfl, _, _, _, [], _, [], hW', trodAll_mk1 (shut_bool Try.underlying4 _), (trodAll_cons_mk (Below.trod laidOut (by kernel_rfl) (of_decide_eq_true (by kernel_rfl)) k0 bel lt0) (trodAll_cons_mk (Below.trod laidOut (by kernel_rfl) (of_decide_eq_true (by kernel_rfl)) k1 bel lt1) (trodAll_cons_mk (Below.trod laidOut (by kernel_rfl) (of_decide_eq_true (by kernel_rfl)) k2 bel lt2) trodAll_mk0))), rfl, bel.frame _, fun h => by cases h⟩

theorem proved : Rows.MeterGrowsSaid :=
  OpenClaim.holds_of_wide 5 Try.f5 rfl rfl rfl rfl rfl rfl rfl ⟨rfl, rfl, rfl, rfl, rfl⟩ rfl rfl rfl rfl rfl (by kernel_rfl) Try.func5 (by kernel_rfl)
    (of_decide_eq_true (by kernel_rfl)) (by unfold Func.isWrapper; first | (rw [if_pos (by decide +kernel)]; kernel_rfl) | (rw [if_neg (by decide +kernel)]; exact ⟨rfl, rfl⟩))
    (fun os started H enc _ => lifted os started H enc)
#print axioms proved
end Go.Proofs.Ytdeelmfdkhgcbaa.meterGrows
