/-
  LwMemW: put together.
-/
import Derived.Test.YtjgdjobhhdhfjaaSa28
import Derived.Deep.CutBlock
import Derived.Deep.CutRange
set_option linter.unusedVariables false
set_option linter.unusedSimpArgs false
/-
  The law LzmaMem: its walk.
-/
namespace Go.Proofs.Ytjgdjobhhdhfjaa
open Go.RowKit

/-- a meter that has been free of it all -/
theorem free_two {W P : Int} (h1 : 1 ≤ W) (hP : 0 ≤ P) : (((⟨W + P, W + P, 0, 0, 0, 0, 0⟩ : Tel).doFree W).doFree P) = ⟨0, W + P, 0, 0, 0, 0, 0⟩ := by
  unfold Tel.doFree
  dsimp only
  have e : max (max (W + P - max W 0) 0 - max P 0) 0 = 0 := by omega
  rw [e]
theorem free_none (W : Int) : ((⟨0, W, 0, 0, 0, 0, 0⟩ : Tel).doFree 0) = ⟨0, W, 0, 0, 0, 0, 0⟩ := rfl

/-- New, where the memory isn't given -/
theorem short_new {w : World} {m lc lp pb dict : Nat} {mem size : Int} (h : SetOk lc lp pb dict) (hmem : -9223372036854775808 ≤ mem ∧ mem ≤ 9223372036854775807) (hM : MeterAt w 105 m (memQ mem).up Tel.zero) (h0 : -9223372036854775808 ≤ size) (h1 : size ≤ 1048576)
    (hs : mem < 2 * (probsN lc lp : Int) + max (min (dict : Int) size) 1) :
    Calls Try.prog 10 #[.agg #[.int .i64 (lc : Int), .int .i64 (lp : Int), .int .i64 (pb : Int), .int .i64 (dict : Int)], .int .i64 size, .pointer (some ⟨m, 0, none⟩)] w fun e w' =>
      e = .returned (.tuple #[.pointer none, .int .i64 101]) ∧ (∃ t, MeterAt w' 105 m (memQ mem).up t ∧ t.mem = 0) ∧ Only (fun i => i = m) w w' := by
  have hF : Fine (memQ mem).up Tel.zero := Fine.new (memQ_lit hmem)
  obtain ⟨W, hW⟩ : ∃ W, W = max (min (dict : Int) size) 1 := ⟨_, rfl⟩
  have hW1 : 1 ≤ W := by omega
  have hq0 : 0 ≤ (memQ mem).up.mem := by rw [memQ_up]; omega
  by_cases hf : W ≤ (memQ mem).up.mem
  · have hf2 : (memQ mem).up.mem < W + 2 * (probsN lc lp : Int) := by rw [memQ_up]; omega
    have hn := none_two (P := 2 * (probsN lc lp : Int)) hW1 (by omega) hf hf2
    refine (lshort_probs h hM hF h0 h1 (by rw [← hW]; exact (fit_one hW1).2 hf) (by rw [← hW, fit_two hW1 (by omega) hf]; omega)).mono ?_
    rintro e w' ⟨rfl, h2, h3⟩
    rw [← hW] at h2
    refine ⟨?_, ⟨_, h2, hn.2⟩, h3⟩
    rw [← hW, hn.1]
  · have hn := none_one (q := (memQ mem).up) hW1 hq0 (by omega)
    refine (lshort_window h hM hF (by rw [← hW, fit_one hW1]; omega)).mono ?_
    rintro e w' ⟨rfl, h2, h3⟩
    rw [← hW] at h2
    refine ⟨?_, ⟨_, h2, hn.2⟩, h3⟩
    rw [← hW, hn.1]

theorem full_new {w : World} {m lc lp pb dict : Nat} {mem size : Int} (h : SetOk lc lp pb dict) (h6 : lc + lp ≤ 6) (hmem : -9223372036854775808 ≤ mem ∧ mem ≤ 9223372036854775807) (hM : MeterAt w 105 m (memQ mem).up Tel.zero) (h0 : -9223372036854775808 ≤ size) (h1 : size ≤ 1048576)
    {W P : Int} (hW : W = max (min (dict : Int) size) 1) (hP : P = 2 * (probsN lc lp : Int)) (hs : P + W ≤ mem) :
    Calls Try.prog 10 #[.agg #[.int .i64 (lc : Int), .int .i64 (lp : Int), .int .i64 (pb : Int), .int .i64 (dict : Int)], .int .i64 size, .pointer (some ⟨m, 0, none⟩)] w fun e w' =>
      ∃ (K : Kon) (Gw : Nat → Prop), K.m = m ∧ K.room = P ∧ (K.sz : Int) = W ∧ e = .returned (.tuple #[.pointer (some ⟨K.g, 0, none⟩), .int .i64 0]) ∧ Un K w' Gw lc lp pb dict ∧ MeterAt w' 105 m (memQ mem).up ⟨W + P, W + P, 0, 0, 0, 0, 0⟩ ∧
        (w.heap.size ≤ K.g ∧ ∀ i, Gw i → w.heap.size ≤ i) ∧ Only (fun i => i = m) w w' := by
  have hF : Fine (memQ mem).up Tel.zero := Fine.new (memQ_lit hmem)
  have hW1 : 1 ≤ W := by omega
  have hP0 : 0 ≤ P := by omega
  have hq : (memQ mem).up.mem = max mem 0 := rfl
  refine (lnew_any h h6 hM hF h0 h1 (by rw [← hW]; exact (fit_one hW1).2 (by omega)) (by rw [← hW, ← hP]; exact (fit_two hW1 hP0 (by omega)).2 (by omega))).mono ?_
  rintro e w' ⟨K, Gw, k1, k2, k3, _, rfl, k5, k6, k7, k8⟩
  rw [← hW, ← hP, mem_two hW1 hP0 (by omega)] at k6
  refine ⟨K, Gw, k1, by rw [k2, hP], ?_, rfl, k5, k6, ⟨k7.1, k7.2.2⟩, k8⟩
  rw [k3, ← hW]
  omega

/-- a closed one -/
def Shut (w : World) (K : Kon) (q : Quo) (pk : Int) (B : Nat) : Prop :=
  ∃ (fs : List Value) (ps : List Nat) (G : Nat → Prop), LzAt w K.g fs ps ∧ (fs[5]? = some (.pointer none) ∧ fs[6]? = some (.pointer (some ⟨K.wg, 0, none⟩)) ∧ fs[7]? = some (.pointer (some ⟨K.m, 0, none⟩)) ∧ fs[8]? = some (.int .i64 0)) ∧
    Pwin w K.wg G K.m ⟨K.sz, [], true⟩ ∧ MeterAt w 105 K.m q ⟨0, pk, 0, 0, 0, 0, 0⟩ ∧ (¬ G K.m ∧ ¬ G K.g ∧ K.m ≠ K.g) ∧ (∀ i, G i → B ≤ i) ∧ B ≤ K.g ∧ B ≤ K.m ∧ B ≤ w.heap.size
theorem shut_fs {fs : List Value} (hl : fs.length = 19) {u6 u7 : Value} (h6 : fs[6]? = some u6) (h7 : fs[7]? = some u7) : (shutFs fs)[5]? = some (.pointer none) ∧ (shutFs fs)[6]? = some u6 ∧ (shutFs fs)[7]? = some u7 ∧ (shutFs fs)[8]? = some (.int .i64 0) := by
  unfold shutFs
  refine ⟨?_, ?_, ?_, ?_⟩
  · rw [List.getElem?_set_self (by simp [hl])]
  · rw [List.getElem?_set_ne (by decide), List.getElem?_set_ne (by decide), List.getElem?_set_ne (by decide), List.getElem?_set_ne (by decide)]; exact h6
  · rw [List.getElem?_set_ne (by decide), List.getElem?_set_ne (by decide), List.getElem?_set_ne (by decide), List.getElem?_set_ne (by decide)]; exact h7
  · rw [List.getElem?_set_ne (by decide), List.getElem?_set_ne (by decide), List.getElem?_set_ne (by decide), List.getElem?_set_self (by simp [hl])]
theorem close_one {w : World} {K : Kon} {Gw : Nat → Prop} {lc lp pb dict B : Nat} {q : Quo} {W P : Int} (h : Un K w Gw lc lp pb dict) (hr : K.room = P) (hz : (K.sz : Int) = W) (hW1 : 1 ≤ W) (hW2 : W ≤ 1048576) (hP0 : 0 ≤ P) (hP1 : P ≤ 1000000) (hM : MeterAt w 105 K.m q ⟨W + P, W + P, 0, 0, 0, 0, 0⟩)
    (hF : Fine q ⟨W + P, W + P, 0, 0, 0, 0, 0⟩) (hg : B ≤ K.g) (hm : B ≤ K.m) (hG : ∀ i, Gw i → B ≤ i) :
    Calls Try.prog 25 #[.pointer (some ⟨K.g, 0, none⟩)] w fun e w' => e = .returned (.tuple #[]) ∧ Shut w' K q (W + P) B ∧ Below B w w' := by
  have hD := h.row.1
  have hlt := hM.lt
  have hgt := hD.lt
  refine (lclose_any hD rfl rfl rfl (by rw [hr]; omega) h.win (by show K.sz ≤ _; omega) hM hF (fun e => (h.wd _ e).2.2.1 rfl) (fun e => (h.wd _ e).1 rfl) h.mg).1.mono ?_
  rintro e w' ⟨rfl, G', h1, h2, h3, h4, h5⟩
  have h3 : MeterAt w' 105 K.m q (((⟨W + P, W + P, 0, 0, 0, 0, 0⟩ : Tel).doFree (K.sz : Int)).doFree K.room) := h3
  rw [hr, hz, free_two hW1 hP0] at h3
  refine ⟨rfl, ⟨_, _, G', h1, shut_fs hD.len rfl rfl, h2, h3, ⟨?_, ?_, h.mg⟩, ?_, hg, hm, ?_⟩, h5.below (by omega) ?_⟩
  · intro e
    rcases h4 _ e with e | e
    · exact (h.wd _ e).2.2.1 rfl
    · omega
  · intro e
    rcases h4 _ e with e | e
    · exact (h.wd _ e).1 rfl
    · omega
  · intro i hi
    rcases h4 _ hi with e | e
    · exact hG _ e
    · omega
  · have := h5.size; omega
  · rintro i (e | e | e)
    · exact hG _ e
    · exact e ▸ hm
    · exact e ▸ hg
theorem close_two {w : World} {K : Kon} {B : Nat} {q : Quo} {pk : Int} (h : Shut w K q pk B) (hz : K.sz ≤ 1048576) (hF : Fine q ⟨0, pk, 0, 0, 0, 0, 0⟩) :
    Calls Try.prog 25 #[.pointer (some ⟨K.g, 0, none⟩)] w fun e w' => e = .returned (.tuple #[]) ∧ Shut w' K q pk B ∧ Below B w w' := by
  obtain ⟨fs, ps, G, hD, ⟨f5, f6, f7, f8⟩, hW, hM, ⟨g1, g2, g3⟩, hG, hg, hm, hB⟩ := h
  have hlt := hM.lt
  have hgt := hD.lt
  refine (lclose_any hD f6 f7 f8 (by omega) hW hz hM hF g1 g2 g3).1.mono ?_
  rintro e w' ⟨rfl, G', h1, h2, h3, h4, h5⟩
  have h3 : MeterAt w' 105 K.m q ((⟨0, pk, 0, 0, 0, 0, 0⟩ : Tel).doFree 0) := h3
  rw [free_none] at h3
  refine ⟨rfl, ⟨_, _, G', h1, shut_fs hD.len f6 f7, h2, h3, ⟨?_, ?_, g3⟩, ?_, hg, hm, ?_⟩, h5.below (by omega) ?_⟩
  · intro e
    rcases h4 _ e with e | e
    · exact g1 e
    · omega
  · intro e
    rcases h4 _ e with e | e
    · exact g2 e
    · omega
  · intro i hi
    rcases h4 _ hi with e | e
    · exact hG _ e
    · omega
  · have := h5.size; omega
  · rintro i (e | e | e)
    · exact hG _ e
    · exact e ▸ hm
    · exact e ▸ hg

theorem fine_pk {mem pk m : Int} (hmem : -9223372036854775808 ≤ mem ∧ mem ≤ 9223372036854775807) (h0 : 0 ≤ m) (h1 : m ≤ pk) (h2 : pk ≤ mem) : Fine (memQ mem).up ⟨m, pk, 0, 0, 0, 0, 0⟩ := by
  have hF : Fine (memQ mem).up Tel.zero := Fine.new (memQ_lit hmem)
  have hq : (memQ mem).up.mem = max mem 0 := rfl
  exact { hF with m0 := h0, m1 := h1, m2 := (by show pk ≤ _; rw [hq]; omega) }

theorem Un.quiet {K : Kon} {w w' : World} {Gw : Nat → Prop} {lc lp pb dict : Nat} (h : Un K w Gw lc lp pb dict) (hO : Only (fun _ => False) w w') : Un K w' Gw lc lp pb dict := h.only hO (fun h => h) (fun h => h) (fun _ _ h => h)
theorem used_is {w : World} {g : Nat} {q : Quo} {x1 x2 x3 x4 x5 x6 x7 : Int} (h : MeterAt w 105 g q ⟨x1, x2, x3, x4, x5, x6, x7⟩) :
    Calls Try.prog 24 #[.pointer (some ⟨g, 0, none⟩)] w fun e w' => e = .returned (.agg #[.int .i64 x1, .int .i64 x2, .int .i64 x3, .int .i64 x4, .int .i64 x5, .int .i64 x6]) ∧ Only (fun _ => False) w w' := (used_any h).mono fun _ _ ⟨h1, h2⟩ => ⟨h1, Only.of_below h2⟩
theorem Shut.quiet {w w' : World} {K : Kon} {q : Quo} {pk : Int} {B : Nat} (h : Shut w K q pk B) (hO : Only (fun _ => False) w w') : Shut w' K q pk B := by
  obtain ⟨fs, ps, G, h1, h2, h3, h4, h5, h6, h7, h8, h9⟩ := h
  exact ⟨fs, ps, G, h1.only hO (fun h => h), h2, h3.only hO (fun _ _ h => h), h4.only hO (fun h => h), h5, h6, h7, h8, Nat.le_trans h9 hO.size⟩

set_option maxRecDepth 100000 in
set_option maxHeartbeats 16000000 in
theorem lzmaMem_walk (C : UpCon) {a b cc d size mem : Int} {w : World} (hsz : -9223372036854775808 ≤ size ∧ size ≤ 9223372036854775807) (hmem : -9223372036854775808 ≤ mem ∧ mem ≤ 9223372036854775807) :
    Calls Try.prog 5 #[.agg #[.int .i64 a, .int .i64 b, .int .i64 cc, .int .i64 d], .int .i64 size, .int .i64 mem] w fun e w' => e = .returned (.bool true) ∧ Below w.heap.size w w' := by
  obtain ⟨w1, hw1⟩ : ∃ w1, w1 = w.alloc (.cells #[.int .i64 a, .int .i64 b, .int .i64 cc, .int .i64 d] 24) := ⟨_, rfl⟩
  have hb1 : Below w.heap.size w w1 := by rw [hw1]; exact (Below.refl _ _).alloc (Nat.le_refl _) _
  have HBk : Blk w1 w.heap.size 24 #[.int .i64 a, .int .i64 b, .int .i64 cc, .int .i64 d] := by rw [hw1]; exact Blk.fresh w _ _
  have HW1 := Lib.hid hw1
  have HB1 := Lib.hid hb1
  have HBK := Lib.hid HBk
  have KA := Lib.hid (awake8_any C w1)
  have HR := Lib.hid (And.intro hsz hmem)
  clear hw1 hb1 HBk hsz hmem
  have hfd0 : ∀ (x0 x1 x2 x3 x4 x5 : Int) (w : World), (Instr.field 50 (.agg #[.int .i64 x0, .int .i64 x1, .int .i64 x2, .int .i64 x3, .int .i64 x4, .int .i64 x5]) 0).run Try.prog w = .ok (.int .i64 x0) w := fun _ _ _ _ _ _ _ => by kernel_rfl
  have hfd1 : ∀ (x0 x1 x2 x3 x4 x5 : Int) (w : World), (Instr.field 50 (.agg #[.int .i64 x0, .int .i64 x1, .int .i64 x2, .int .i64 x3, .int .i64 x4, .int .i64 x5]) 1).run Try.prog w = .ok (.int .i64 x1) w := fun _ _ _ _ _ _ _ => by kernel_rfl
  go_enter Try.func5, Try.ntmps5
  go_upto_region 1 with fail
  rw [← HW1.out]
  clear HW1
  go_wp2_with fail
  refine KA.out.mono ?_
  rintro e w2 ⟨rfl, hb2⟩
  have HB2 := Lib.hid hb2
  have o0 : w2.cell? ⟨w.heap.size, 0, none⟩ = some (.int .i64 a) := (HBK.out.below hb2).cell 0
  have o1 : w2.cell? ⟨w.heap.size, 1, none⟩ = some (.int .i64 b) := (HBK.out.below hb2).cell 1
  have o2 : w2.cell? ⟨w.heap.size, 2, none⟩ = some (.int .i64 cc) := (HBK.out.below hb2).cell 2
  have o3 : w2.cell? ⟨w.heap.size, 3, none⟩ = some (.int .i64 d) := (HBK.out.below hb2).cell 3
  have HE2 := Lib.hid (below_go HB1.out hb2 (Nat.le_refl _))
  clear hb2 KA
  have KL := Lib.hid (light_any a b cc d w2)
  obtain ⟨lt, hlt⟩ : ∃ lt, lt = lightP a b cc d := ⟨_, rfl⟩
  rw [← hlt] at KL
  have HLT := Lib.hid hlt
  clear hlt
  cases lt with
  | false =>
    go_wp2_with fail
    refine KL.out.mono ?_
    rintro e w3 ⟨rfl, hb3⟩
    have HE3 := Lib.hid (below_go HE2.out hb3 (Nat.le_refl _))
    clear hb3 KL o0 o1 o2 o3
    go_wp2_with fail
    go_ret
    exact ⟨rfl, HE3.out⟩
  | true =>
    go_wp2_with fail
    refine KL.out.mono ?_
    rintro e w3 ⟨rfl, hb3⟩
    have HB3 := Lib.hid (below_go HB2.out hb3 (Nat.le_refl _))
    clear hb3 KL o0 o1 o2 o3 HE2 HB2
    have KQ := Lib.hid (show Calls Try.prog 23 #[.agg #[.int .i64 mem, .int .i64 0, .int .i64 0, .int .i64 0, .int .i64 0]] w3 fun e w' => ∃ g, e = .returned (.pointer (some ⟨g, 0, none⟩)) ∧ MeterAt w' 105 g (memQ mem).up Tel.zero ∧ w3.heap.size ≤ g ∧ Below w3.heap.size w3 w' from mnew_any (memQ mem) w3)
    go_wp2_with fail
    refine KQ.out.mono ?_
    rintro e w4 ⟨m, rfl, hM, hmg, hb4⟩
    have HB4 := Lib.hid (below_go HB3.out hb4 (Nat.le_refl _))
    have HM4 := Lib.hid hM
    have HMG := Lib.hid (show w1.heap.size ≤ m by have := HB3.out.size; omega)
    clear hM hmg hb4 KQ HB3
    obtain ⟨S, hS⟩ : ∃ S, S = min size 1048576 := ⟨_, rfl⟩
    have HSS := Lib.hid hS
    go_upto_if 22 with fail
    go_cut [1] from 21 to 22 (fun v wx => v = .int .i64 S ∧ wx = w4)
    case first =>
      by_cases hbig : size > 1048576
      · obtain rfl : S = 1048576 := by omega
        clear hS
        go_wp2_with fail
        go_meet
        exact ⟨rfl, rfl⟩
      · obtain rfl : S = size := by omega
        clear hS
        have hbig : ¬ S > 1048576 := hbig
        go_wp2_with fail
        go_meet
        exact ⟨rfl, rfl⟩
    case rest =>
      obtain ⟨rfl, rfl⟩ := hcut
      clear hS
      have HSB := Lib.hid (show -9223372036854775808 ≤ S ∧ S ≤ 1048576 by have := HSS.out; have := HR.out.1; omega)
      obtain ⟨q0, q1, q2, q3⟩ := (show wc.cell? ⟨w.heap.size, 0, none⟩ = some (.int .i64 a) ∧ wc.cell? ⟨w.heap.size, 1, none⟩ = some (.int .i64 b) ∧ wc.cell? ⟨w.heap.size, 2, none⟩ = some (.int .i64 cc) ∧ wc.cell? ⟨w.heap.size, 3, none⟩ = some (.int .i64 d) from ⟨(HBK.out.below HB4.out).cell 0, (HBK.out.below HB4.out).cell 1, (HBK.out.below HB4.out).cell 2, (HBK.out.below HB4.out).cell 3⟩)
      obtain ⟨mm, hmm⟩ : ∃ mm, mm = maySet a b cc d := ⟨_, rfl⟩
      have HMM := Lib.hid hmm
      clear hmm
      cases mm with
      | false =>
        have KN := Lib.hid (lnew_props (size := S) HMM.out.symm wc (.pointer (some ⟨m, 0, none⟩)))
        go_wp2_with fail
        refine KN.out.mono ?_
        rintro e w5 ⟨rfl, hb5⟩
        have HB5 := Lib.hid (below_go HB4.out hb5 (Nat.le_refl _))
        have HM5 := Lib.hid (HM4.out.below hb5)
        clear hb5 KN q0 q1 q2 q3
        have p0 : w5.cell? ⟨w.heap.size, 0, none⟩ = some (.int .i64 a) := (HBK.out.below HB5.out).cell 0
        have p1 : w5.cell? ⟨w.heap.size, 1, none⟩ = some (.int .i64 b) := (HBK.out.below HB5.out).cell 1
        have p2 : w5.cell? ⟨w.heap.size, 2, none⟩ = some (.int .i64 cc) := (HBK.out.below HB5.out).cell 2
        have p3 : w5.cell? ⟨w.heap.size, 3, none⟩ = some (.int .i64 d) := (HBK.out.below HB5.out).cell 3
        have KM := may_any a b cc d w5
        rw [← HMM.out] at KM
        have KM := Lib.hid KM
        go_wp2_with fail
        refine KM.out.mono ?_
        rintro e w6 ⟨rfl, hb6⟩
        have HB6 := Lib.hid (below_go HB5.out hb6 (Nat.le_refl _))
        have KU := Lib.hid (used_any (HM5.out.below hb6))
        unfold uArr Tel.zero at KU
        clear hb6 KM p0 p1 p2 p3 HB5 HM5
        go_wp2_with fail
        refine KU.out.mono ?_
        rintro e w7 ⟨rfl, hb7⟩
        have HE7 := Lib.hid (below_go HB1.out ((below_go HB6.out hb7 (Nat.le_refl _)).mono (Nat.le_refl _)) (Nat.le_refl _))
        clear hb7 KU HB6
        go_wp2_with fail
        go_ret
        exact ⟨rfl, HE7.out⟩
      | true =>
        obtain ⟨m1, m2, m3, m4, m5, m6, m7, m8⟩ := may_iff.1 HMM.out.symm
        have h5 : a + b ≤ 6 := by
          have := HLT.out
          unfold lightP at this
          rw [← HMM.out] at this
          exact of_decide_eq_true this.symm
        obtain ⟨lc, rfl⟩ := Int.eq_ofNat_of_zero_le m1
        obtain ⟨lp, rfl⟩ := Int.eq_ofNat_of_zero_le m3
        obtain ⟨pb, rfl⟩ := Int.eq_ofNat_of_zero_le m5
        obtain ⟨dict, rfl⟩ := Int.eq_ofNat_of_zero_le (show 0 ≤ d by omega)
        have HSET := Lib.hid (show SetOk lc lp pb dict ∧ lc + lp ≤ 6 from ⟨⟨by omega, by omega, by omega, by omega, by omega⟩, by omega⟩)
        obtain ⟨P, hP⟩ : ∃ P, P = 2 * (probsN lc lp : Int) := ⟨_, rfl⟩
        obtain ⟨Y, hY⟩ : ∃ Y, Y = min (dict : Int) S := ⟨_, rfl⟩
        obtain ⟨W, hW⟩ : ∃ W, W = max (min (dict : Int) S) 1 := ⟨_, rfl⟩
        have hpn : probsN lc lp ≤ 100000 := by
          have : 768 * 2 ^ (lc + lp) ≤ 768 * 2 ^ 6 := Nat.mul_le_mul_left 768 (Nat.pow_le_pow_right (by decide) (by omega))
          have e : probsN lc lp = 1847 + 768 * 2 ^ (lc + lp) := rfl
          omega
        have hpo : probsOf (lc : Int) (lp : Int) (pb : Int) (dict : Int) = (probsN lc lp : Int) := by
          unfold probsOf
          rw [← HMM.out, if_pos rfl]
          have e : ((lc : Int) + (lp : Int)).toNat = lc + lp := by omega
          rw [e]
          unfold probsN
          omega
        have e1 : IntKind.i64.wrap (2 * (probsN lc lp : Int)) = P := by rw [IntWalk.i64_in _ (by omega)]; exact hP.symm
        have e2 : min (dict : Int) S = Y := hY.symm
        have e3 : max 1 Y = W := by rw [hW, ← hY]; omega
        have HWB := Lib.hid (show 1 ≤ W ∧ W ≤ 1048576 ∧ 0 ≤ P ∧ P ≤ 200000 by have := HSB.out; omega)
        have HPW := Lib.hid (And.intro hP hW)
        have KR := fun W' => probs_any (lc : Int) (lp : Int) (pb : Int) (dict : Int) W'
        rw [hpo] at KR
        have KR := Lib.hid KR
        clear m1 m2 m3 m4 m5 m6 m7 m8 h5 hpn hpo hP hY hW
        obtain ⟨N, hN⟩ : ∃ N, N = P + W := ⟨_, rfl⟩
        have e4 : IntKind.i64.wrap (P + W) = N := by rw [hN]; exact IntWalk.i64_in _ (by have := HWB.out; omega)
        have HNN := Lib.hid hN
        by_cases hneed : N > mem
        · have KN := Lib.hid (short_new HSET.out.1 HR.out.2 HM4.out HSB.out.1 HSB.out.2 (by rw [← HPW.out.1, ← HPW.out.2]; omega))
          clear hN
          go_wp2_with fail
          refine KN.out.mono ?_
          rintro e w5 ⟨rfl, ⟨⟨x1, x2, x3, x4, x5, x6, x7⟩, hM5, ht5⟩, ho5⟩
          obtain rfl : x1 = 0 := ht5
          have HB5 := Lib.hid (HB4.out.trans (ho5.below HB4.out.size (by rintro i rfl; exact HMG.out)))
          have HM5 := Lib.hid hM5
          clear ho5 hM5 KN q0 q1 q2 q3
          have p0 : w5.cell? ⟨w.heap.size, 0, none⟩ = some (.int .i64 (lc : Int)) := (HBK.out.below HB5.out).cell 0
          have p1 : w5.cell? ⟨w.heap.size, 1, none⟩ = some (.int .i64 (lp : Int)) := (HBK.out.below HB5.out).cell 1
          have p2 : w5.cell? ⟨w.heap.size, 2, none⟩ = some (.int .i64 (pb : Int)) := (HBK.out.below HB5.out).cell 2
          have p3 : w5.cell? ⟨w.heap.size, 3, none⟩ = some (.int .i64 (dict : Int)) := (HBK.out.below HB5.out).cell 3
          have KM := may_any (lc : Int) (lp : Int) (pb : Int) (dict : Int) w5
          rw [← HMM.out] at KM
          have KM := Lib.hid KM
          go_wp2_with fail
          refine KM.out.mono ?_
          rintro e w6 ⟨rfl, hb6⟩
          have HB6 := Lib.hid (below_go HB5.out hb6 (Nat.le_refl _))
          have HM6 := Lib.hid (HM5.out.below hb6)
          clear hb6 KM p0 p1 p2 p3 HB5 HM5
          have q0 : w6.cell? ⟨w.heap.size, 0, none⟩ = some (.int .i64 (lc : Int)) := (HBK.out.below HB6.out).cell 0
          have q1 : w6.cell? ⟨w.heap.size, 1, none⟩ = some (.int .i64 (lp : Int)) := (HBK.out.below HB6.out).cell 1
          have q2 : w6.cell? ⟨w.heap.size, 2, none⟩ = some (.int .i64 (pb : Int)) := (HBK.out.below HB6.out).cell 2
          have q3 : w6.cell? ⟨w.heap.size, 3, none⟩ = some (.int .i64 (dict : Int)) := (HBK.out.below HB6.out).cell 3
          have HS := Lib.hid (fun (W' : World) (hb : Below w6.heap.size w6 W') => show W'.cell? ⟨w.heap.size, 0, none⟩ = some (.int .i64 (lc : Int)) ∧ W'.cell? ⟨w.heap.size, 1, none⟩ = some (.int .i64 (lp : Int)) ∧ W'.cell? ⟨w.heap.size, 2, none⟩ = some (.int .i64 (pb : Int)) ∧ W'.cell? ⟨w.heap.size, 3, none⟩ = some (.int .i64 (dict : Int)) from ⟨((HBK.out.below HB6.out).below hb).cell 0, ((HBK.out.below HB6.out).below hb).cell 1, ((HBK.out.below HB6.out).below hb).cell 2, ((HBK.out.below HB6.out).below hb).cell 3⟩)
          go_wp2_with fail
          go_region_held3 (fun W => W.cell? ⟨w.heap.size, 0, none⟩ = some (.int .i64 (lc : Int)) ∧ W.cell? ⟨w.heap.size, 1, none⟩ = some (.int .i64 (lp : Int)) ∧ W.cell? ⟨w.heap.size, 2, none⟩ = some (.int .i64 (pb : Int)) ∧ W.cell? ⟨w.heap.size, 3, none⟩ = some (.int .i64 (dict : Int))) (first | assumption | go_keep | exact ⟨q0, q1, q2, q3⟩) (first | (go_at_call 19; refine (KR.out _).mono ?_; rintro e w7 ⟨rfl, hb⟩; have HB7 := Lib.hid (show Below w6.heap.size w6 w7 from ⟨hb.os, hb.tape, hb.output, hb.size, hb.block⟩); have r := HS.out w7 HB7.out; clear hb))
          all_goals
            have HM7 := Lib.hid (HM6.out.below HB7.out)
            go_wp2_with fail
            refine (used_is (by first | exact HM7.out | exact HM7.out.drewN _)).mono ?_
            rintro e w8 ⟨rfl, ho8⟩
            have HE8 := Lib.hid (HB1.out.trans (((below_go HB6.out HB7.out (Nat.le_refl _)).trans ((show Only (fun _ => False) w7 w8 from ⟨ho8.os, ho8.tape, ho8.output, ho8.size, ho8.block⟩).below (by have := HB6.out.size; have := HB7.out.size; omega) (fun _ h => h.elim))).mono HB1.out.size))
            clear ho8
            go_wp2_with fail
            go_ret
            exact ⟨rfl, HE8.out⟩
        · have KN := Lib.hid (full_new HSET.out.1 HSET.out.2 HR.out.2 HM4.out HSB.out.1 HSB.out.2 HPW.out.2 HPW.out.1 (by omega))
          have hN2 : W + P = N := by omega
          rw [hN2] at KN
          have HNB := Lib.hid (show N ≤ mem ∧ W + P = N by omega)
          clear hN hN2
          go_wp2_with fail
          refine KN.out.mono ?_
          rintro e w5 ⟨K, Gw, hkm, hkr, hkz, rfl, hun, hM5, ⟨hkg, hgw⟩, ho5⟩
          subst hkm
          have HB5 := Lib.hid (HB4.out.trans (ho5.below HB4.out.size (by rintro i rfl; exact HMG.out)))
          have HM5 := Lib.hid hM5
          have HUN := Lib.hid hun
          have HK := Lib.hid (show K.room = P ∧ (K.sz : Int) = W ∧ w1.heap.size ≤ K.g ∧ ∀ i, Gw i → w1.heap.size ≤ i from ⟨hkr, hkz, Nat.le_trans HB4.out.size hkg, fun i hi => Nat.le_trans HB4.out.size (hgw i hi)⟩)
          clear ho5 hM5 hun hkr hkz hkg hgw KN q0 q1 q2 q3
          have p0 : w5.cell? ⟨w.heap.size, 0, none⟩ = some (.int .i64 (lc : Int)) := (HBK.out.below HB5.out).cell 0
          have p1 : w5.cell? ⟨w.heap.size, 1, none⟩ = some (.int .i64 (lp : Int)) := (HBK.out.below HB5.out).cell 1
          have p2 : w5.cell? ⟨w.heap.size, 2, none⟩ = some (.int .i64 (pb : Int)) := (HBK.out.below HB5.out).cell 2
          have p3 : w5.cell? ⟨w.heap.size, 3, none⟩ = some (.int .i64 (dict : Int)) := (HBK.out.below HB5.out).cell 3
          have KM := may_any (lc : Int) (lp : Int) (pb : Int) (dict : Int) w5
          rw [← HMM.out] at KM
          have KM := Lib.hid KM
          go_wp2_with fail
          refine KM.out.mono ?_
          rintro e w6 ⟨rfl, hb6⟩
          have HB6 := Lib.hid (below_go HB5.out hb6 (Nat.le_refl _))
          have HM6 := Lib.hid (HM5.out.below hb6)
          have HUN6 := Lib.hid (HUN.out.quiet (Only.of_below hb6))
          clear hb6 KM p0 p1 p2 p3 HB5 HM5 HUN
          have q0 : w6.cell? ⟨w.heap.size, 0, none⟩ = some (.int .i64 (lc : Int)) := (HBK.out.below HB6.out).cell 0
          have q1 : w6.cell? ⟨w.heap.size, 1, none⟩ = some (.int .i64 (lp : Int)) := (HBK.out.below HB6.out).cell 1
          have q2 : w6.cell? ⟨w.heap.size, 2, none⟩ = some (.int .i64 (pb : Int)) := (HBK.out.below HB6.out).cell 2
          have q3 : w6.cell? ⟨w.heap.size, 3, none⟩ = some (.int .i64 (dict : Int)) := (HBK.out.below HB6.out).cell 3
          have HS := Lib.hid (fun (W' : World) (hb : Below w6.heap.size w6 W') => show W'.cell? ⟨w.heap.size, 0, none⟩ = some (.int .i64 (lc : Int)) ∧ W'.cell? ⟨w.heap.size, 1, none⟩ = some (.int .i64 (lp : Int)) ∧ W'.cell? ⟨w.heap.size, 2, none⟩ = some (.int .i64 (pb : Int)) ∧ W'.cell? ⟨w.heap.size, 3, none⟩ = some (.int .i64 (dict : Int)) from ⟨((HBK.out.below HB6.out).below hb).cell 0, ((HBK.out.below HB6.out).below hb).cell 1, ((HBK.out.below HB6.out).below hb).cell 2, ((HBK.out.below HB6.out).below hb).cell 3⟩)
          go_wp2_with fail
          go_region_held3 (fun W => W.cell? ⟨w.heap.size, 0, none⟩ = some (.int .i64 (lc : Int)) ∧ W.cell? ⟨w.heap.size, 1, none⟩ = some (.int .i64 (lp : Int)) ∧ W.cell? ⟨w.heap.size, 2, none⟩ = some (.int .i64 (pb : Int)) ∧ W.cell? ⟨w.heap.size, 3, none⟩ = some (.int .i64 (dict : Int))) (first | assumption | go_keep | exact ⟨q0, q1, q2, q3⟩) (first | (go_at_call 19; refine (KR.out _).mono ?_; rintro e w7 ⟨rfl, hb⟩; have HB7 := Lib.hid (show Below w6.heap.size w6 w7 from ⟨hb.os, hb.tape, hb.output, hb.size, hb.block⟩); have r := HS.out w7 HB7.out; clear hb))
          all_goals
            have HM7 := Lib.hid (HM6.out.below HB7.out)
            have HUN7 := Lib.hid (HUN6.out.quiet (Only.of_below HB7.out))
            have HB67 := Lib.hid (below_go HB6.out HB7.out (Nat.le_refl _))
            clear HM6 HUN6 HB6 HB7 HS q0 q1 q2 q3 r
            go_wp2_with fail
            refine (used_is (by first | exact HM7.out | exact HM7.out.drewN _)).mono ?_
            rintro e w8 ⟨rfl, ho8⟩
            have HO8 := Lib.hid (show Only (fun _ => False) w7 w8 from ⟨ho8.os, ho8.tape, ho8.output, ho8.size, ho8.block⟩)
            have HUN8 := Lib.hid (HUN7.out.quiet HO8.out)
            have HM8 := Lib.hid (HM7.out.only HO8.out (fun h => h))
            have HB8 := Lib.hid (HB67.out.trans (HO8.out.below HB67.out.size (fun _ h => h.elim)))
            have KX := Lib.hid (idle_next HUN8.out.row.1 rfl)
            clear ho8 HO8 HUN7 HM7 HB67
            go_wp2_with fail
            refine KX.out.mono ?_
            rintro e w9 ⟨rfl, ho9⟩
            have HUN9 := Lib.hid (HUN8.out.quiet ho9)
            have HM9 := Lib.hid (HM8.out.only ho9 (fun h => h))
            have HB9 := Lib.hid (HB8.out.trans (ho9.below HB8.out.size (fun _ h => h.elim)))
            have HF1 := Lib.hid (fine_pk (pk := N) (m := N) HR.out.2 (by have := HNB.out; have := HWB.out; omega) (Int.le_refl _) HNB.out.1)
            have HF0 := Lib.hid (fine_pk (pk := N) (m := 0) HR.out.2 (Int.le_refl _) (by have := HNB.out; have := HWB.out; omega) HNB.out.1)
            have KC := close_one (B := w1.heap.size) (W := W) (P := P) HUN9.out HK.out.1 HK.out.2.1 HWB.out.1 HWB.out.2.1 HWB.out.2.2.1 (by have := HWB.out; omega) (by rw [HNB.out.2]; exact HM9.out) (by rw [HNB.out.2]; exact HF1.out) HK.out.2.2.1 HMG.out HK.out.2.2.2
            rw [HNB.out.2] at KC
            have KC := Lib.hid KC
            clear ho9 KX HUN8 HM8 HB8
            go_wp2_with fail
            refine KC.out.mono ?_
            rintro e wa ⟨rfl, hsa, hba⟩
            have HBa := Lib.hid (HB9.out.trans hba)
            have KD := Lib.hid (close_two hsa (by have := HK.out.2.1; have := HWB.out; omega) HF0.out)
            clear hsa hba KC HUN9 HM9 HB9
            go_wp2_with fail
            refine KD.out.mono ?_
            rintro e wb ⟨rfl, hsb, hbb⟩
            have HBb := Lib.hid (HBa.out.trans hbb)
            have HSb := Lib.hid hsb
            have HMb := Lib.hid (show MeterAt wb 105 K.m (memQ mem).up ⟨0, N, 0, 0, 0, 0, 0⟩ by obtain ⟨_, _, _, _, _, _, h, _⟩ := hsb; exact h)
            clear hsb hbb KD HBa
            go_wp2_with fail
            refine (used_is HMb.out).mono ?_
            rintro e wd ⟨rfl, hod⟩
            have HSd := Lib.hid (HSb.out.quiet hod)
            have HMd := Lib.hid (HMb.out.only hod (fun h => h))
            have HBd := Lib.hid (HBb.out.trans (hod.below HBb.out.size (fun _ h => h.elim)))
            clear hod HSb HMb HBb
            go_wp2_with fail
            refine (used_is HMd.out).mono ?_
            rintro e we ⟨rfl, hoe⟩
            have HSe := Lib.hid (HSd.out.quiet hoe)
            have HBe := Lib.hid (HBd.out.trans (hoe.below HBd.out.size (fun _ h => h.elim)))
            clear hoe HSd HMd HBd
            have KW := Lib.hid (show Calls Try.prog 26 #[.pointer (some ⟨K.g, 0, none⟩)] we fun e w' => e = .returned (.bool false) ∧ Only (fun _ => False) we w' by obtain ⟨_, _, _, h1, h2, _⟩ := HSe.out; exact idle_whole h1 h2.1)
            go_wp2_with fail
            refine KW.out.mono ?_
            rintro e wf ⟨rfl, hof⟩
            have HSf := Lib.hid (HSe.out.quiet hof)
            have HBf := Lib.hid (HBe.out.trans (hof.below HBe.out.size (fun _ h => h.elim)))
            clear hof HSe HBe KW
            have KY := Lib.hid (show Calls Try.prog 27 #[.pointer (some ⟨K.g, 0, none⟩)] wf fun e w' => e = .returned (.bool false) ∧ Only (fun i => i = K.g) wf w' by obtain ⟨_, _, _, h1, h2, _⟩ := HSf.out; exact idle_finish h1 h2.1)
            go_wp2_with fail
            refine KY.out.mono ?_
            rintro e wg ⟨rfl, hog⟩
            have HEg := Lib.hid (HB1.out.trans ((HBf.out.trans (hog.below HBf.out.size (by rintro i rfl; exact HK.out.2.2.1))).mono HB1.out.size))
            clear hog KY
            go_wp2_with fail
            go_ret
            exact ⟨rfl, HEg.out⟩
end Go.Proofs.Ytjgdjobhhdhfjaa
