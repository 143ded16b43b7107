/-
  CdWalk: put together.
-/
import Derived.Test.YtpdpbbmkicemdaaGreatMc14
import Derived.Test.YtpdpbbmkicemdaaGreatMc15
import Derived.Test.YtpdpbbmkicemdaaGreatMc21
set_option linter.unusedVariables false
set_option linter.unusedSimpArgs false
/-
  The law LzmaCoded: its walk.
-/
namespace Go.Proofs.YtpdpbbmkicemdaaGreat
open Go.RowKit

theorem info_pk : (Tryz.prog.info? 41).map (fun i => (i.zero, i.size, i.bytes)) = some (some (.agg #[.int .i64 0, .int .u8 0, .int .i64 0, .int .u32 0]), 4, 32) := by kernel_rfl
theorem pkV_one (q : Pq) : ∀ u ∈ pkV q, u.oneCell' = true := by simp [pkV, Value.oneCell']
theorem pk_news (w : World) (q : Pq) (t : TypeId) : ∀ j u, (pkV q)[j]? = some u → (w.alloc (.cells #[.int .i64 q.k, .int .u8 q.a, .int .i64 q.n, .int .u32 q.v] t)).cell? ((⟨w.heap.size, 0, none⟩ : Addr).add j) = some u :=
  World.news_of_block (cs := #[.int .i64 q.k, .int .u8 q.a, .int .i64 q.n, .int .u32 q.v]) (heap_alloc_new w _)
theorem own4_below {w w' : World} {base : Nat} {e : TypeId} {v : Value} {n : Nat} {xs : List Value} (h : w.ownsRow base e 4 v n xs) (hb : Below w.heap.size w w') : w'.ownsRow base e 4 v n xs :=
  h.kept (row := none) ⟨hb.os, hb.tape, hb.output, hb.size, fun k hk _ => hb.block k hk⟩ (by cases v.ownBlock <;> simp)
/-- a packet is put to a row of them -/
theorem pk_snoc {w : World} {base : Nat} {e : TypeId} {A : Option Addr} {c : Nat} {L : List Pq} {q : Pq} (h : w.ownsRow base e 4 (.slice A (L.length + 1) c) (L.length + 1) (L.flatMap pkV ++ pkV q)) :
    w.ownsRow base e 4 (.slice A (L ++ [q]).length c) (L ++ [q]).length ((L ++ [q]).flatMap pkV) := by
  have e1 : (L ++ [q]).length = L.length + 1 := by simp
  rw [e1]
  simpa using h
/-- what is coded -/
structure Plist (L : List Pq) : Prop where
  len : L.length ≤ 301
  lit : ∀ i, i < L.length → PqLit (L.getD i ⟨0, 0, 0, 0⟩)
  nend : ∀ i, i + 1 < L.length → (L.getD i ⟨0, 0, 0, 0⟩).k ≠ 7
theorem getD_mem {L : List Pq} {i : Nat} (h : i < L.length) (d : Pq) : L.getD i d ∈ L := by
  rw [List.getD_eq_getElem?_getD, List.getElem?_eq_getElem h]
  exact List.getElem_mem h
theorem plist_of {L : List Pq} (h : L.length ≤ 300) (hq : ∀ q ∈ L, PqLit q ∧ q.k ≠ 7) : Plist L :=
  ⟨by omega, fun i hi => (hq _ (getD_mem hi _)).1, fun i hi => (hq _ (getD_mem (by omega) _)).2⟩
theorem plist_end {L : List Pq} (h : L.length ≤ 300) (hq : ∀ q ∈ L, PqLit q ∧ q.k ≠ 7) : Plist (L ++ [⟨7, 0, 0, 0⟩]) := by
  refine ⟨by simp; omega, fun i hi => ?_, fun i hi => ?_⟩
  · have hm := getD_mem hi ⟨0, 0, 0, 0⟩
    rcases List.mem_append.1 hm with hm | hm
    · exact (hq _ hm).1
    · simp only [List.mem_singleton] at hm
      rw [hm]
      exact ⟨⟨by decide, by decide⟩, ⟨by decide, by decide⟩, ⟨by decide, by decide⟩, ⟨by decide, by decide⟩⟩
  · simp at hi
    rw [List.getD_eq_getElem?_getD, List.getElem?_append_left hi, ← List.getD_eq_getElem?_getD]
    exact (hq _ (getD_mem hi _)).2

set_option maxRecDepth 100000 in
set_option maxHeartbeats 16000000 in
theorem lzmaCoded_walk (C : UpCon) {a b cc d : Int} {B : Option Addr} {n c : Nat} {qs : Nat → Pq} {en : Bool} {w : World} (hP : Pkts w B n qs) (hq : ∀ i, i < n → PqLit (qs i)) (hL : n ≤ maxLen) :
    Calls Tryz.prog 4 #[.agg #[.int .i64 a, .int .i64 b, .int .i64 cc, .int .i64 d], .slice B n c, .bool en] w fun e w' => e = .returned (.bool true) ∧ Below w.heap.size w w' := by
  obtain ⟨w1, hw1⟩ : ∃ w1, w1 = w.alloc (.cells #[.int .i64 a, .int .i64 b, .int .i64 cc, .int .i64 d] 24) := ⟨_, rfl⟩
  have hb1 : Below w.heap.size w w1 := by rw [hw1]; exact (Below.refl _ _).alloc (Nat.le_refl _) _
  have HBk : Blk w1 w.heap.size 24 #[.int .i64 a, .int .i64 b, .int .i64 cc, .int .i64 d] := by rw [hw1]; exact Blk.fresh w _ _
  have HW1 := Lib.hid hw1
  have HB1 := Lib.hid hb1
  have HBK := Lib.hid HBk
  have KA := Lib.hid (awake8_any C w1)
  have HC := Lib.hid C
  have HP := Lib.hid hP
  have HQ := Lib.hid hq
  have HL := Lib.hid hL
  clear hw1 hb1 HBk hP hq hL
  go_enter Tryz.func4, Tryz.ntmps4
  go_upto_region 1 with fail
  rw [← HW1.out]
  clear HW1
  go_wp2_with fail
  refine KA.out.mono ?_
  rintro e w2 ⟨rfl, hb2⟩
  have HE2 := Lib.hid (below_go HB1.out hb2 (Nat.le_refl _))
  have HB2 := Lib.hid hb2
  have hk2 : Blk w2 w.heap.size 24 #[.int .i64 a, .int .i64 b, .int .i64 cc, .int .i64 d] := HBK.out.below hb2
  have o0 : w2.cell? ⟨w.heap.size, 0, none⟩ = some (.int .i64 a) := hk2.cell 0
  have o1 : w2.cell? ⟨w.heap.size, 1, none⟩ = some (.int .i64 b) := hk2.cell 1
  have o2 : w2.cell? ⟨w.heap.size, 2, none⟩ = some (.int .i64 cc) := hk2.cell 2
  have o3 : w2.cell? ⟨w.heap.size, 3, none⟩ = some (.int .i64 d) := hk2.cell 3
  have KM := Lib.hid (may_any a b cc d w2)
  obtain ⟨mm, hmm⟩ : ∃ mm, mm = maySet a b cc d := ⟨_, rfl⟩
  rw [← hmm] at KM
  have HMM := Lib.hid hmm
  clear hb2 hk2 KA hmm
  cases mm with
  | false =>
    go_wp2_with fail
    refine KM.out.mono ?_
    rintro e w3 ⟨rfl, hb3⟩
    have HE3 := Lib.hid (below_go HE2.out hb3 (Nat.le_refl _))
    clear hb3 KM o0 o1 o2 o3
    go_wp2_with fail
    go_ret
    exact ⟨rfl, HE3.out⟩
  | true =>
  go_wp2_with fail
  refine KM.out.mono ?_
  rintro e w3 ⟨rfl, hb3⟩
  have HE3 := Lib.hid (below_go HE2.out hb3 (Nat.le_refl _))
  have HB3 := Lib.hid (below_go HB2.out hb3 (Nat.le_refl _))
  have hk3 : Blk w3 w.heap.size 24 #[.int .i64 a, .int .i64 b, .int .i64 cc, .int .i64 d] := HBK.out.below HB3.out
  have p0 : w3.cell? ⟨w.heap.size, 0, none⟩ = some (.int .i64 a) := hk3.cell 0
  have p1 : w3.cell? ⟨w.heap.size, 1, none⟩ = some (.int .i64 b) := hk3.cell 1
  have p2 : w3.cell? ⟨w.heap.size, 2, none⟩ = some (.int .i64 cc) := hk3.cell 2
  have p3 : w3.cell? ⟨w.heap.size, 3, none⟩ = some (.int .i64 d) := hk3.cell 3
  have KL := Lib.hid (light_any a b cc d w3)
  obtain ⟨lt, hlt⟩ : ∃ lt, lt = lightP a b cc d := ⟨_, rfl⟩
  rw [← hlt] at KL
  have HLT := Lib.hid hlt
  clear hb3 hk3 KM o0 o1 o2 o3 HE2 HB2 hlt
  cases lt with
  | false =>
    go_wp2_with fail
    refine KL.out.mono ?_
    rintro e w4 ⟨rfl, hb4⟩
    have HE4 := Lib.hid (below_go HE3.out hb4 (Nat.le_refl _))
    clear hb4 KL p0 p1 p2 p3
    go_wp2_with fail
    go_ret
    exact ⟨rfl, HE4.out⟩
  | true =>
  go_wp2_with fail
  refine KL.out.mono ?_
  rintro e w4 ⟨rfl, hb4⟩
  have HE4 := Lib.hid (below_go HE3.out hb4 (Nat.le_refl _))
  have HB4 := Lib.hid (below_go HB3.out hb4 (Nat.le_refl _))
  clear hb4 KL p0 p1 p2 p3 HE3 HB3
  by_cases hn : (n : Int) > 300
  · go_wp2_with fail
    go_ret
    exact ⟨rfl, HE4.out⟩
  have HN := Lib.hid (show n ≤ 300 by omega)
  obtain ⟨m1, m2, m3, m4, m5, m6, m7, m8⟩ := may_iff.1 HMM.out.symm
  have h6 : a + b ≤ 6 := by
    have := HLT.out
    unfold lightP at this
    rw [← HMM.out] at this
    exact of_decide_eq_true this.symm
  obtain ⟨lc, rfl⟩ := Int.eq_ofNat_of_zero_le m1
  obtain ⟨lp, rfl⟩ := Int.eq_ofNat_of_zero_le m3
  obtain ⟨pb, rfl⟩ := Int.eq_ofNat_of_zero_le m5
  obtain ⟨dict, rfl⟩ := Int.eq_ofNat_of_zero_le (show 0 ≤ d by omega)
  have HSET := Lib.hid (show SetOk lc lp pb dict ∧ lc + lp ≤ 6 from ⟨⟨by omega, by omega, by omega, by omega, by omega⟩, by omega⟩)
  clear m1 m2 m3 m4 m5 m6 m7 m8 h6 HMM HLT
  go_wp2_with fail
  go_loopw [7, 8] (fun l i wr => ∃ (j : Nat) (L : List Pq) (A : Option Addr) (cp : Nat), j ≤ n ∧ i = .int .i64 (j : Int) ∧ l = .slice A L.length cp ∧ wr.ownsRow w4.heap.size 41 4 (.slice A L.length cp) L.length (L.flatMap pkV) ∧ L.length ≤ j ∧ (∀ q ∈ L, PqLit q ∧ q.k ≠ 7) ∧ Below w4.heap.size w4 wr) (fun _ i _ => n - (intOf i).toNat)
  case atStart => exact ⟨0, [], none, 0, Nat.zero_le _, rfl, rfl, ⟨rfl, .inl ⟨rfl, rfl⟩⟩, Nat.le_refl _, by simp, Below.refl _ _⟩
  case round =>
    obtain ⟨j, L, A, cp, hj, rfl, rfl, how, hlj, hlq, hbr⟩ := hrel
    have HOW := Lib.hid how
    have HBR := Lib.hid hbr
    have HLQ := Lib.hid hlq
    have HLJ := Lib.hid (And.intro hj hlj)
    have hbw : Below w.heap.size w wr := HE4.out.trans (hbr.mono HE4.out.size)
    by_cases hlt : j < n
    · have glt : (j : Int) < (n : Int) := by omega
      have j0 : (0 : Int) ≤ (j : Int) := by omega
      have ej : IntKind.i64.wrap ((j : Int) + 1) = (j : Int) + 1 := IntWalk.i64_in _ (by have := HN.out; omega)
      obtain ⟨b0, q0, rfl, _, hcl⟩ := (HP.out.below' hbw) (by omega)
      obtain ⟨l0, l1, l2, l3⟩ := hcl j hlt
      have HQL := Lib.hid (HQ.out j hlt)
      generalize qs j = q at *
      have HLTH := Lib.hid hlt
      clear how hlq hbr hj hlj hbw hcl hlt
      by_cases h7 : q.k = 7
      · have h7b : (q.k != 7) = false := by simp [h7]
        have HH7 := Lib.hid h7
        clear h7
        go_wp2_with fail
        go_roundw
        case rel => exact ⟨j + 1, L, A, cp, by have := HLTH.out; omega, by go_num, rfl, HOW.out, by have := HLJ.out; omega, HLQ.out, HBR.out⟩
        case measure => have := HLTH.out; simp [intOf]; omega
      · have h7b : (q.k != 7) = true := by simp [h7]
        have HH7 := Lib.hid h7
        obtain ⟨ip, hip, hpz, hps, hpb⟩ := info_parts info_pk
        clear h7
        go_wp2_with (at_builtin; refine wpList_app4 rfl (.tmp 44) (.tmp 49) 38 rfl w4.heap.size 41 ip _ 32 Tryz.underlying38 hip hpz hps hpb (by rfl) (.slice A L.length cp) L.length (L.flatMap pkV) rfl (own4_below HOW.out ((Below.refl _ _).alloc (Nat.le_refl _) _)) ⟨wr.heap.size, 0, none⟩ 1 1 (pkV q) rfl rfl (pk_news wr q _) (pkV_one q) (by have := HLJ.out; have := HN.out; unfold maxLen; omega) (by have := HLJ.out; have := HN.out; omega) (by have := HBR.out.size; simp; omega) ?_)
        intro A5 c5 w5 ho5 hg5
        have HB5 := Lib.hid ((HBR.out.alloc HBR.out.size _).grown hg5 (by have := HBR.out.size; simp; omega) (fun k e => (World.ownsRow.lt HOW.out k e).1))
        have HO5 := Lib.hid (pk_snoc ho5)
        clear ho5 hg5 l0 l1 l2 l3 hip hpz hps hpb
        go_wp2_with fail
        go_roundw
        case rel => exact ⟨j + 1, L ++ [q], A5, c5, by have := HLTH.out; omega, by go_num, by simp, HO5.out, by have := HLJ.out; simp; omega, fun q' hq' => by
          rcases List.mem_append.1 hq' with h | h
          · exact HLQ.out q' h
          · simp only [List.mem_singleton] at h
            rw [h]
            exact ⟨HQL.out, HH7.out⟩, HB5.out⟩
        case measure => have := HLTH.out; simp [intOf]; omega
    · obtain rfl : j = n := by omega
      have hirr : ¬ (j : Int) < (j : Int) := by omega
      clear how hlq hbr hj hlj hbw hlt hn
      go_upto_if 51 with fail
      go_cut [7] from 51 (fun v wx => ∃ (L' : List Pq) (A' : Option Addr) (c' : Nat), v = .slice A' L'.length c' ∧ wx.ownsRow w4.heap.size 41 4 (.slice A' L'.length c') L'.length (L'.flatMap pkV) ∧ Plist L' ∧ Below w4.heap.size w4 wx)
      case first =>
        cases en with
        | false =>
          go_wp2_with fail
          go_meet
          exact ⟨L, A, cp, rfl, HOW.out, plist_of (by have := HLJ.out; have := HN.out; omega) HLQ.out, HBR.out⟩
        | true =>
          obtain ⟨ip, hip, hpz, hps, hpb⟩ := info_parts info_pk
          go_wp2_with (at_builtin; refine wpList_app4 rfl (.tmp 52) (.tmp 54) 38 rfl w4.heap.size 41 ip _ 32 Tryz.underlying38 hip hpz hps hpb (by rfl) (.slice A L.length cp) L.length (L.flatMap pkV) rfl (own4_below HOW.out ((Below.refl _ _).alloc (Nat.le_refl _) _)) ⟨wr.heap.size, 0, none⟩ 1 1 (pkV ⟨7, 0, 0, 0⟩) rfl rfl (pk_news wr ⟨7, 0, 0, 0⟩ _) (pkV_one _) (by have := HLJ.out; have := HN.out; unfold maxLen; omega) (by have := HLJ.out; have := HN.out; omega) (by have := HBR.out.size; simp; omega) ?_)
          intro A5 c5 w5 ho5 hg5
          have HB5 := Lib.hid ((HBR.out.alloc HBR.out.size _).grown hg5 (by have := HBR.out.size; simp; omega) (fun k e => (World.ownsRow.lt HOW.out k e).1))
          have HO5 := Lib.hid (pk_snoc ho5)
          clear ho5 hg5 hip hpz hps hpb
          go_wp2_with fail
          go_meet
          exact ⟨L ++ [⟨7, 0, 0, 0⟩], A5, c5, by simp, HO5.out, plist_end (by have := HLJ.out; have := HN.out; omega) HLQ.out, HB5.out⟩
      case rest =>
        obtain ⟨L', A', c', rfl, hrow, hpl, hbc⟩ := hcut
        obtain ⟨_, hpk⟩ := pkts_row hrow
        have HEC := Lib.hid (HE4.out.trans (hbc.mono HE4.out.size))
        have HBC := Lib.hid (HB4.out.trans (hbc.mono HB4.out.size))
        have hkc : Blk wc w.heap.size 24 #[.int .i64 (lc : Int), .int .i64 (lp : Int), .int .i64 (pb : Int), .int .i64 (dict : Int)] := HBK.out.below HBC.out
        have o0 : wc.cell? ⟨w.heap.size, 0, none⟩ = some (.int .i64 (lc : Int)) := hkc.cell 0
        have o1 : wc.cell? ⟨w.heap.size, 1, none⟩ = some (.int .i64 (lp : Int)) := hkc.cell 1
        have o2 : wc.cell? ⟨w.heap.size, 2, none⟩ = some (.int .i64 (pb : Int)) := hkc.cell 2
        have o3 : wc.cell? ⟨w.heap.size, 3, none⟩ = some (.int .i64 (dict : Int)) := hkc.cell 3
        obtain ⟨X, hX⟩ : ∃ X, X = codeG 5000 (fun i => L'.getD i ⟨0, 0, 0, 0⟩) (freshS lc lp pb dict) L'.length := ⟨_, rfl⟩
        have kc := zcode_any (c := c') (most := 5000) HSET.out.1 hpk hpl.lit (by have := hpl.len; omega) ⟨by omega, by omega⟩
        have kc : Calls Tryz.prog 13 #[.agg #[.int .i64 (lc : Int), .int .i64 (lp : Int), .int .i64 (pb : Int), .int .i64 (dict : Int)], .slice A' L'.length c', .int .i64 5000] wc (CodePost wc X) := by rw [hX]; exact kc
        have KC := Lib.hid kc
        have HX := Lib.hid hX
        have HPL := Lib.hid hpl
        have HKC := Lib.hid hkc
        clear hrow hpl hbc hpk hkc kc hX HOW HBR HLQ HLJ HP HQ HL HBK HE4 HB4
        go_wp2_with fail
        refine KC.out.mono ?_
        rintro e w5 ⟨hb5, bs, A1, c1, A2, c2, rfl, hs1, hbe, hbl, hbc1, hs2⟩
        have hall := coded_all (most := 5000) HSET.out.1 HPL.out.lit HPL.out.nend HPL.out.len HX.out hbe hbl
        have HB5 := Lib.hid (below_go HEC.out hb5 (Nat.le_refl _))
        have hk5 : Blk w5 w.heap.size 24 #[.int .i64 (lc : Int), .int .i64 (lp : Int), .int .i64 (pb : Int), .int .i64 (dict : Int)] := by
          have : Blk wc w.heap.size 24 #[.int .i64 (lc : Int), .int .i64 (lp : Int), .int .i64 (pb : Int), .int .i64 (dict : Int)] := HKC.out
          exact this.below hb5
        clear HX HPL KC hbe hbl o0 o1 o2 o3 hb5
        generalize X.1.out = out at *
        obtain ⟨lo, hlo⟩ : ∃ lo, lo = out.length := ⟨_, rfl⟩
        obtain ⟨n1, hn1⟩ : ∃ n1, n1 = bs.length := ⟨_, rfl⟩
        obtain ⟨m1, hm1⟩ : ∃ m1, m1 = n1 - 1 := ⟨_, rfl⟩
        obtain ⟨hr1, hr2, hr3, hl5, hl6, hl7⟩ := hall
        rw [← hlo] at hr1 hr2 hr3 hs2 hl7 ⊢
        rw [← hn1] at hr3 hs1 hbc1 hl5 hl6 ⊢
        rw [← hm1] at hr3
        obtain ⟨b1, oa1, rfl, hb1lt, _⟩ := hs1.2 (by omega)
        have HNE : Hid (∀ (gm : Nat), w5.heap.size ≤ gm → b1 ≠ gm) := Lib.hid (fun gm h => by omega)
        have HS1 := Lib.hid hs1
        have HS2 := Lib.hid hs2
        have HR1 := Lib.hid hr1
        have HR2 := Lib.hid hr2
        have HR3 := Lib.hid hr3
        have HLN := Lib.hid (show n1 = bs.length ∧ lo = out.length ∧ m1 = n1 - 1 ∧ 5 ≤ n1 ∧ n1 ≤ 3000000 ∧ lo ≤ 100000 from ⟨hn1, hlo, hm1, hl5, hl6, hl7⟩)
        have HK5 := Lib.hid hk5
        have e1 : IntKind.i64.wrap ((n1 : Int) - 1) = (m1 : Int) := by rw [IntWalk.i64_in _ (by omega)]; omega
        have e2 : (0 : Int) ≤ (m1 : Int) := by omega
        have e3 : (m1 : Int) ≤ (c1 : Int) := by omega
        have e4 : m1 ≤ c1 := by omega
        have HE := Lib.hid (And.intro e1 (And.intro e2 (And.intro e3 e4)))
        clear e1 e2 e3 e4
        have HSL3 : Hid (Sl w5 (some ⟨b1, oa1, none⟩) m1 (bv (bs.take m1))) := Lib.hid (by rw [bv_take]; exact hs1.first (by omega))
        have HS5 := Lib.hid (fun (W : World) (hb : Below w5.heap.size w5 W) => show W.cell? ⟨w.heap.size, 0, none⟩ = some (.int .i64 (lc : Int)) ∧ W.cell? ⟨w.heap.size, 1, none⟩ = some (.int .i64 (lp : Int)) ∧ W.cell? ⟨w.heap.size, 2, none⟩ = some (.int .i64 (pb : Int)) ∧ W.cell? ⟨w.heap.size, 3, none⟩ = some (.int .i64 (dict : Int)) from ⟨(hk5.below hb).cell 0, (hk5.below hb).cell 1, (hk5.below hb).cell 2, (hk5.below hb).cell 3⟩)
        have q0 : w5.cell? ⟨w.heap.size, 0, none⟩ = some (.int .i64 (lc : Int)) := hk5.cell 0
        have q1 : w5.cell? ⟨w.heap.size, 1, none⟩ = some (.int .i64 (lp : Int)) := hk5.cell 1
        have q2 : w5.cell? ⟨w.heap.size, 2, none⟩ = some (.int .i64 (pb : Int)) := hk5.cell 2
        have q3 : w5.cell? ⟨w.heap.size, 3, none⟩ = some (.int .i64 (dict : Int)) := hk5.cell 3
        have KU1 := Lib.hid (fun (W : World) (gm : Nat) (hM : MeterAt W 75 gm muchQ Tel.zero) (hgm : w5.heap.size ≤ gm) (hb : Below w5.heap.size w5 W) => show Calls Tryz.prog 8 #[.slice (some ⟨b1, oa1, none⟩) n1 c1, .agg #[.int .i64 (lc : Int), .int .i64 (lp : Int), .int .i64 (pb : Int), .int .i64 (dict : Int)], .int .i64 (lo : Int), .pointer (some ⟨gm, 0, none⟩)] W fun x w' => Only (fun i => i = gm) W w' ∧ ∃ X cX, x = .returned (.tuple #[.slice X lo cX, .int .i64 0]) ∧ Sl w' X lo (bv out) from by have K := up_later HC.out (c := c1) (sz := (lo : Int)) HSET.out.2 HLN.out.1 (HS1.out.below hb) (fun _ q o e => by injection e with e; injection e with e; have := HNE.out gm hgm; omega) HR1.out.1 HR1.out.2 (by have := HLN.out; omega) (by omega) (by have := HLN.out; omega) hM; have e : ((some out).getD []).length = lo := HLN.out.2.1.symm; rw [e] at K; exact K)
        clear hs1 hs2 hr1 hr2 hr3 hl5 hl6 hl7 hn1 hlo hm1 hk5 hbc1 hb1lt
        go_wp2_with fail

        go_region_held3 (fun W => W.cell? ⟨w.heap.size, 0, none⟩ = some (.int .i64 (lc : Int)) ∧ W.cell? ⟨w.heap.size, 1, none⟩ = some (.int .i64 (lp : Int)) ∧ W.cell? ⟨w.heap.size, 2, none⟩ = some (.int .i64 (pb : Int)) ∧ W.cell? ⟨w.heap.size, 3, none⟩ = some (.int .i64 (dict : Int))) (first | assumption | go_keep | exact ⟨q0, q1, q2, q3⟩) (first | (go_at_call 7; refine (much_any _).mono ?_; rintro e w5a ⟨gm, rfl, hM, hgm, hb⟩; have HBa := Lib.hid (show Below w5.heap.size w5 w5a from ⟨hb.os, hb.tape, hb.output, hb.size, hb.block⟩); have HMa := Lib.hid hM; have HGM := Lib.hid (show w5.heap.size ≤ gm from hgm); have ra := HS5.out w5a HBa.out; clear hM hgm hb) | (go_at_call 8; refine (KU1.out _ gm (by first | exact HMa.out | exact HMa.out.drewN _) HGM.out (by first | exact HBa.out | exact below_drewN HBa.out _)).mono ?_; rintro e w5b ⟨hOb, X, cX, rfl, hSX⟩; have HOb := Lib.hid (show Only (fun i => i = gm) w5a w5b from ⟨hOb.os, hOb.tape, hOb.output, hOb.size, hOb.block⟩); have HSX := Lib.hid hSX; have rb := HS5.out w5b (HBa.out.trans (HOb.out.below HBa.out.size (by rintro i rfl; exact HGM.out))); clear hOb hSX))
        have HBb := Lib.hid (HBa.out.trans (HOb.out.below HBa.out.size (by rintro i rfl; exact HGM.out)))
        have HB7 := Lib.hid (below_go HB5.out HBb.out (Nat.le_refl _))
        have HK7 := Lib.hid (HK5.out.below HBb.out)
        have HS17 := Lib.hid (HS1.out.below HBb.out)
        have HSL37 := Lib.hid (HSL3.out.below HBb.out)
        have HSO := Lib.hid (HS2.out.below HBb.out)
        have HG7 := Lib.hid (show w5.heap.size ≤ w5b.heap.size from HBb.out.size)
        have HSX7 := Lib.hid HSX.out
        clear KU1 HOb HSX HMa HBa HBb HGM HS1 HS2 HSL3 HB5 HK5 HS5 ra rb q0 q1 q2 q3
        generalize w5b = w7 at *
        have HS7 := Lib.hid (fun (W : World) (hb : Below w7.heap.size w7 W) => show W.cell? ⟨w.heap.size, 0, none⟩ = some (.int .i64 (lc : Int)) ∧ W.cell? ⟨w.heap.size, 1, none⟩ = some (.int .i64 (lp : Int)) ∧ W.cell? ⟨w.heap.size, 2, none⟩ = some (.int .i64 (pb : Int)) ∧ W.cell? ⟨w.heap.size, 3, none⟩ = some (.int .i64 (dict : Int)) from ⟨(HK7.out.below hb).cell 0, (HK7.out.below hb).cell 1, (HK7.out.below hb).cell 2, (HK7.out.below hb).cell 3⟩)
        have q0 : w7.cell? ⟨w.heap.size, 0, none⟩ = some (.int .i64 (lc : Int)) := HK7.out.cell 0
        have q1 : w7.cell? ⟨w.heap.size, 1, none⟩ = some (.int .i64 (lp : Int)) := HK7.out.cell 1
        have q2 : w7.cell? ⟨w.heap.size, 2, none⟩ = some (.int .i64 (pb : Int)) := HK7.out.cell 2
        have q3 : w7.cell? ⟨w.heap.size, 3, none⟩ = some (.int .i64 (dict : Int)) := HK7.out.cell 3
        go_upto_region 15 with fail
        go_cut [13, 14] from 71 (fun v13 v14 wx => v14 = .int .i64 12 ∧ Below w7.heap.size w7 wx)
        case first =>
          have HR := Lib.hid (Rg.start' w7)
          have HN1 := Lib.hid HLN.out
          clear HSL37 HSO HE
          go_region_held3 (fun W => W.cell? ⟨w.heap.size, 0, none⟩ = some (.int .i64 (lc : Int)) ∧ W.cell? ⟨w.heap.size, 1, none⟩ = some (.int .i64 (lp : Int)) ∧ W.cell? ⟨w.heap.size, 2, none⟩ = some (.int .i64 (pb : Int)) ∧ W.cell? ⟨w.heap.size, 3, none⟩ = some (.int .i64 (dict : Int))) (first | assumption | exact HS7.out _ (HR.out).bel | exact HS7.out _ (HR.out.a1).bel | exact HS7.out _ (HR.out.b).bel | exact HS7.out _ (HR.out.ab').bel | exact HS7.out _ (HR.out.ba').bel | exact HS7.out _ ((HR.out).drewN _).bel | exact HS7.out _ ((HR.out.a1).drewN _).bel | exact HS7.out _ ((HR.out.b).drewN _).bel | exact HS7.out _ ((HR.out.ab').drewN _).bel | exact HS7.out _ ((HR.out.ba').drewN _).bel) (first
            | (go_at_call 7; refine (Rg.much (HR.out)).mono ?_; rintro e w8 ⟨gm, rfl, hR⟩; have r := HS7.out w8 hR.bel; clear HR; have HR := Lib.hid hR; clear hR)
            | (go_at_call 7; refine (Rg.much (HR.out.drewN _)).mono ?_; rintro e w8 ⟨gm, rfl, hR⟩; have r := HS7.out w8 hR.bel; clear HR; have HR := Lib.hid hR; clear hR)
            | (refine rg_app_old (a := _) rfl (.tmp 72) (.tmp 73) rfl (ad := ⟨b1, oa1, none⟩) (zs := bs) rfl rfl (HR.out) rfl (Sl.below HS17.out (Rg.bel (HR.out))) (by have := HN1.out; omega) (by have := HN1.out; omega) ?_; intro g1 cap1 w8 hR; have r := HS7.out w8 hR.bel; clear HR; have HR := Lib.hid hR; clear hR)
            | (refine rg_app_old (a := _) rfl (.tmp 72) (.tmp 73) rfl (ad := ⟨b1, oa1, none⟩) (zs := bs) rfl rfl (HR.out.a1) rfl (Sl.below HS17.out (Rg.bel (HR.out.a1))) (by have := HN1.out; omega) (by have := HN1.out; omega) ?_; intro g1 cap1 w8 hR; have r := HS7.out w8 hR.bel; clear HR; have HR := Lib.hid hR; clear hR)
            | (refine rg_app_old (a := _) rfl (.tmp 72) (.tmp 73) rfl (ad := ⟨b1, oa1, none⟩) (zs := bs) rfl rfl (HR.out.b) rfl (Sl.below HS17.out (Rg.bel (HR.out.b))) (by have := HN1.out; omega) (by have := HN1.out; omega) ?_; intro g1 cap1 w8 hR; have r := HS7.out w8 hR.bel; clear HR; have HR := Lib.hid hR; clear hR)
            | (refine rg_app_old (a := _) rfl (.tmp 72) (.tmp 73) rfl (ad := ⟨b1, oa1, none⟩) (zs := bs) rfl rfl (HR.out.ab') rfl (Sl.below HS17.out (Rg.bel (HR.out.ab'))) (by have := HN1.out; omega) (by have := HN1.out; omega) ?_; intro g1 cap1 w8 hR; have r := HS7.out w8 hR.bel; clear HR; have HR := Lib.hid hR; clear hR)
            | (refine rg_app_old (a := _) rfl (.tmp 72) (.tmp 73) rfl (ad := ⟨b1, oa1, none⟩) (zs := bs) rfl rfl (HR.out.ba') rfl (Sl.below HS17.out (Rg.bel (HR.out.ba'))) (by have := HN1.out; omega) (by have := HN1.out; omega) ?_; intro g1 cap1 w8 hR; have r := HS7.out w8 hR.bel; clear HR; have HR := Lib.hid hR; clear hR)
            | (refine rg_app_old (a := _) rfl (.tmp 72) (.tmp 73) rfl (ad := ⟨b1, oa1, none⟩) (zs := bs) rfl rfl ((HR.out).drewN _) rfl (Sl.below HS17.out (Rg.bel ((HR.out).drewN _))) (by have := HN1.out; omega) (by have := HN1.out; omega) ?_; intro g1 cap1 w8 hR; have r := HS7.out w8 hR.bel; clear HR; have HR := Lib.hid hR; clear hR)
            | (refine rg_app_old (a := _) rfl (.tmp 72) (.tmp 73) rfl (ad := ⟨b1, oa1, none⟩) (zs := bs) rfl rfl ((HR.out.a1).drewN _) rfl (Sl.below HS17.out (Rg.bel ((HR.out.a1).drewN _))) (by have := HN1.out; omega) (by have := HN1.out; omega) ?_; intro g1 cap1 w8 hR; have r := HS7.out w8 hR.bel; clear HR; have HR := Lib.hid hR; clear hR)
            | (refine rg_app_old (a := _) rfl (.tmp 72) (.tmp 73) rfl (ad := ⟨b1, oa1, none⟩) (zs := bs) rfl rfl ((HR.out.b).drewN _) rfl (Sl.below HS17.out (Rg.bel ((HR.out.b).drewN _))) (by have := HN1.out; omega) (by have := HN1.out; omega) ?_; intro g1 cap1 w8 hR; have r := HS7.out w8 hR.bel; clear HR; have HR := Lib.hid hR; clear hR)
            | (refine rg_app_old (a := _) rfl (.tmp 72) (.tmp 73) rfl (ad := ⟨b1, oa1, none⟩) (zs := bs) rfl rfl ((HR.out.ab').drewN _) rfl (Sl.below HS17.out (Rg.bel ((HR.out.ab').drewN _))) (by have := HN1.out; omega) (by have := HN1.out; omega) ?_; intro g1 cap1 w8 hR; have r := HS7.out w8 hR.bel; clear HR; have HR := Lib.hid hR; clear hR)
            | (refine rg_app_old (a := _) rfl (.tmp 72) (.tmp 73) rfl (ad := ⟨b1, oa1, none⟩) (zs := bs) rfl rfl ((HR.out.ba').drewN _) rfl (Sl.below HS17.out (Rg.bel ((HR.out.ba').drewN _))) (by have := HN1.out; omega) (by have := HN1.out; omega) ?_; intro g1 cap1 w8 hR; have r := HS7.out w8 hR.bel; clear HR; have HR := Lib.hid hR; clear hR)
            | (refine rg_app_old (a := _) rfl (.tmp 72) (.tmp 73) rfl (ad := ⟨b1, oa1, none⟩) (zs := bs) rfl rfl ((HR.out.drewN _).a1) rfl (Sl.below HS17.out (Rg.bel ((HR.out.drewN _).a1))) (by have := HN1.out; omega) (by have := HN1.out; omega) ?_; intro g1 cap1 w8 hR; have r := HS7.out w8 hR.bel; clear HR; have HR := Lib.hid hR; clear hR)
            | (refine rg_app_old (a := _) rfl (.tmp 72) (.tmp 73) rfl (ad := ⟨b1, oa1, none⟩) (zs := bs) rfl rfl ((HR.out.drewN _).b) rfl (Sl.below HS17.out (Rg.bel ((HR.out.drewN _).b))) (by have := HN1.out; omega) (by have := HN1.out; omega) ?_; intro g1 cap1 w8 hR; have r := HS7.out w8 hR.bel; clear HR; have HR := Lib.hid hR; clear hR)
            | (refine rg_app_old (a := _) rfl (.tmp 72) (.tmp 73) rfl (ad := ⟨b1, oa1, none⟩) (zs := bs) rfl rfl ((HR.out.drewN _).ab') rfl (Sl.below HS17.out (Rg.bel ((HR.out.drewN _).ab'))) (by have := HN1.out; omega) (by have := HN1.out; omega) ?_; intro g1 cap1 w8 hR; have r := HS7.out w8 hR.bel; clear HR; have HR := Lib.hid hR; clear hR)
            | (refine rg_app_old (a := _) rfl (.tmp 72) (.tmp 73) rfl (ad := ⟨b1, oa1, none⟩) (zs := bs) rfl rfl ((HR.out.drewN _).ba') rfl (Sl.below HS17.out (Rg.bel ((HR.out.drewN _).ba'))) (by have := HN1.out; omega) (by have := HN1.out; omega) ?_; intro g1 cap1 w8 hR; have r := HS7.out w8 hR.bel; clear HR; have HR := Lib.hid hR; clear hR)
            | (refine rg_app_old (a := _) rfl (.tmp 74) (.tmp 75) rfl (zs := [0]) rfl rfl (HR.out) (by have := HN1.out; simp; omega) (Rg.one (HR.out) _ rfl) (by decide) (by have := HN1.out; omega) ?_; intro g1 cap1 w8 hR; have r := HS7.out w8 hR.bel; clear HR; have HR := Lib.hid hR; clear hR)
            | (refine rg_app_old (a := _) rfl (.tmp 74) (.tmp 75) rfl (zs := [0]) rfl rfl (HR.out.a1) (by have := HN1.out; simp; omega) (Rg.one (HR.out.a1) _ rfl) (by decide) (by have := HN1.out; omega) ?_; intro g1 cap1 w8 hR; have r := HS7.out w8 hR.bel; clear HR; have HR := Lib.hid hR; clear hR)
            | (refine rg_app_old (a := _) rfl (.tmp 74) (.tmp 75) rfl (zs := [0]) rfl rfl (HR.out.b) (by have := HN1.out; simp; omega) (Rg.one (HR.out.b) _ rfl) (by decide) (by have := HN1.out; omega) ?_; intro g1 cap1 w8 hR; have r := HS7.out w8 hR.bel; clear HR; have HR := Lib.hid hR; clear hR)
            | (refine rg_app_old (a := _) rfl (.tmp 74) (.tmp 75) rfl (zs := [0]) rfl rfl (HR.out.ab') (by have := HN1.out; simp; omega) (Rg.one (HR.out.ab') _ rfl) (by decide) (by have := HN1.out; omega) ?_; intro g1 cap1 w8 hR; have r := HS7.out w8 hR.bel; clear HR; have HR := Lib.hid hR; clear hR)
            | (refine rg_app_old (a := _) rfl (.tmp 74) (.tmp 75) rfl (zs := [0]) rfl rfl (HR.out.ba') (by have := HN1.out; simp; omega) (Rg.one (HR.out.ba') _ rfl) (by decide) (by have := HN1.out; omega) ?_; intro g1 cap1 w8 hR; have r := HS7.out w8 hR.bel; clear HR; have HR := Lib.hid hR; clear hR)
            | (refine rg_app_old (a := _) rfl (.tmp 74) (.tmp 75) rfl (zs := [0]) rfl rfl ((HR.out).drewN _) (by have := HN1.out; simp; omega) (Rg.one ((HR.out).drewN _) _ rfl) (by decide) (by have := HN1.out; omega) ?_; intro g1 cap1 w8 hR; have r := HS7.out w8 hR.bel; clear HR; have HR := Lib.hid hR; clear hR)
            | (refine rg_app_old (a := _) rfl (.tmp 74) (.tmp 75) rfl (zs := [0]) rfl rfl ((HR.out.a1).drewN _) (by have := HN1.out; simp; omega) (Rg.one ((HR.out.a1).drewN _) _ rfl) (by decide) (by have := HN1.out; omega) ?_; intro g1 cap1 w8 hR; have r := HS7.out w8 hR.bel; clear HR; have HR := Lib.hid hR; clear hR)
            | (refine rg_app_old (a := _) rfl (.tmp 74) (.tmp 75) rfl (zs := [0]) rfl rfl ((HR.out.b).drewN _) (by have := HN1.out; simp; omega) (Rg.one ((HR.out.b).drewN _) _ rfl) (by decide) (by have := HN1.out; omega) ?_; intro g1 cap1 w8 hR; have r := HS7.out w8 hR.bel; clear HR; have HR := Lib.hid hR; clear hR)
            | (refine rg_app_old (a := _) rfl (.tmp 74) (.tmp 75) rfl (zs := [0]) rfl rfl ((HR.out.ab').drewN _) (by have := HN1.out; simp; omega) (Rg.one ((HR.out.ab').drewN _) _ rfl) (by decide) (by have := HN1.out; omega) ?_; intro g1 cap1 w8 hR; have r := HS7.out w8 hR.bel; clear HR; have HR := Lib.hid hR; clear hR)
            | (refine rg_app_old (a := _) rfl (.tmp 74) (.tmp 75) rfl (zs := [0]) rfl rfl ((HR.out.ba').drewN _) (by have := HN1.out; simp; omega) (Rg.one ((HR.out.ba').drewN _) _ rfl) (by decide) (by have := HN1.out; omega) ?_; intro g1 cap1 w8 hR; have r := HS7.out w8 hR.bel; clear HR; have HR := Lib.hid hR; clear hR)
            | (refine rg_app_old (a := _) rfl (.tmp 74) (.tmp 75) rfl (zs := [0]) rfl rfl ((HR.out.drewN _).a1) (by have := HN1.out; simp; omega) (Rg.one ((HR.out.drewN _).a1) _ rfl) (by decide) (by have := HN1.out; omega) ?_; intro g1 cap1 w8 hR; have r := HS7.out w8 hR.bel; clear HR; have HR := Lib.hid hR; clear hR)
            | (refine rg_app_old (a := _) rfl (.tmp 74) (.tmp 75) rfl (zs := [0]) rfl rfl ((HR.out.drewN _).b) (by have := HN1.out; simp; omega) (Rg.one ((HR.out.drewN _).b) _ rfl) (by decide) (by have := HN1.out; omega) ?_; intro g1 cap1 w8 hR; have r := HS7.out w8 hR.bel; clear HR; have HR := Lib.hid hR; clear hR)
            | (refine rg_app_old (a := _) rfl (.tmp 74) (.tmp 75) rfl (zs := [0]) rfl rfl ((HR.out.drewN _).ab') (by have := HN1.out; simp; omega) (Rg.one ((HR.out.drewN _).ab') _ rfl) (by decide) (by have := HN1.out; omega) ?_; intro g1 cap1 w8 hR; have r := HS7.out w8 hR.bel; clear HR; have HR := Lib.hid hR; clear hR)
            | (refine rg_app_old (a := _) rfl (.tmp 74) (.tmp 75) rfl (zs := [0]) rfl rfl ((HR.out.drewN _).ba') (by have := HN1.out; simp; omega) (Rg.one ((HR.out.drewN _).ba') _ rfl) (by decide) (by have := HN1.out; omega) ?_; intro g1 cap1 w8 hR; have r := HS7.out w8 hR.bel; clear HR; have HR := Lib.hid hR; clear hR)
            | (go_at_call 8; refine (Rg.up HC.out (HR.out) HSET.out.2 (by have := HN1.out; simp; omega) HR2.out.1 HR2.out.2 (by have := HN1.out; omega) (by omega) (by have := HN1.out; omega)).mono ?_; rintro e w9 ⟨hb9, X2, cX2, rfl⟩; have r := HS7.out w9 hb9; have HB9 := Lib.hid hb9; clear hb9)
            | (go_at_call 8; refine (Rg.up HC.out (HR.out.drewN _) HSET.out.2 (by have := HN1.out; simp; omega) HR2.out.1 HR2.out.2 (by have := HN1.out; omega) (by omega) (by have := HN1.out; omega)).mono ?_; rintro e w9 ⟨hb9, X2, cX2, rfl⟩; have r := HS7.out w9 hb9; have HB9 := Lib.hid hb9; clear hb9))
          all_goals
            go_wp2_with fail
            go_meet
            exact ⟨rfl, HB9.out⟩
        case rest =>
        obtain ⟨rfl, hbx⟩ := hcut
        generalize wc = w9 at *
        have HBX := Lib.hid hbx
        have HB9 := Lib.hid (below_go HB7.out hbx (Nat.le_refl _))
        have HK9 := Lib.hid (HK7.out.below hbx)
        have HSL39 := Lib.hid (HSL37.out.below hbx)
        have HSO9 := Lib.hid (HSO.out.below hbx)
        have HSX9 := Lib.hid (HSX7.out.below hbx)
        have HG9 := Lib.hid (show w5.heap.size ≤ w9.heap.size from Nat.le_trans HG7.out hbx.size)
        clear hbx HB7 HK7 HSL37 HSO HSX7 HS17 q0 q1 q2 q3 HS7
        obtain ⟨e1, e2, e3, e4⟩ := HE.out
        have HS9 := Lib.hid (fun (W : World) (hb : Below w9.heap.size w9 W) => show W.cell? ⟨w.heap.size, 0, none⟩ = some (.int .i64 (lc : Int)) ∧ W.cell? ⟨w.heap.size, 1, none⟩ = some (.int .i64 (lp : Int)) ∧ W.cell? ⟨w.heap.size, 2, none⟩ = some (.int .i64 (pb : Int)) ∧ W.cell? ⟨w.heap.size, 3, none⟩ = some (.int .i64 (dict : Int)) from ⟨(HK9.out.below hb).cell 0, (HK9.out.below hb).cell 1, (HK9.out.below hb).cell 2, (HK9.out.below hb).cell 3⟩)
        have q0 : w9.cell? ⟨w.heap.size, 0, none⟩ = some (.int .i64 (lc : Int)) := HK9.out.cell 0
        have q1 : w9.cell? ⟨w.heap.size, 1, none⟩ = some (.int .i64 (lp : Int)) := HK9.out.cell 1
        have q2 : w9.cell? ⟨w.heap.size, 2, none⟩ = some (.int .i64 (pb : Int)) := HK9.out.cell 2
        have q3 : w9.cell? ⟨w.heap.size, 3, none⟩ = some (.int .i64 (dict : Int)) := HK9.out.cell 3
        have KU3 := Lib.hid (fun (W : World) (gm : Nat) (hM : MeterAt W 75 gm muchQ Tel.zero) (hgm : w9.heap.size ≤ gm) (hb : Below w9.heap.size w9 W) => show Calls Tryz.prog 8 #[.slice (some ⟨b1, oa1, none⟩) m1 c1, .agg #[.int .i64 (lc : Int), .int .i64 (lp : Int), .int .i64 (pb : Int), .int .i64 (dict : Int)], .int .i64 (lo : Int), .pointer (some ⟨gm, 0, none⟩)] W fun x w' => Only (fun i => i = gm) W w' ∧ ∃ X cX, x = .returned (.tuple #[.slice X 0 cX, .int .i64 12]) ∧ Sl w' X 0 (bv []) from by have K := up_later HC.out (c := c1) (sz := (lo : Int)) (m := m1) (bs := bs.take m1) HSET.out.2 (by have := HLN.out; simp; omega) (HSL39.out.below hb) (fun _ q o e => by injection e with e; injection e with e; have := HNE.out gm (by have := HG9.out; omega); omega) HR3.out.1 HR3.out.2 (by have := HLN.out; omega) (by omega) (by have := HLN.out; omega) hM; exact K)
        go_upto_region 16 with fail

        go_region_held3 (fun W => W.cell? ⟨w.heap.size, 0, none⟩ = some (.int .i64 (lc : Int)) ∧ W.cell? ⟨w.heap.size, 1, none⟩ = some (.int .i64 (lp : Int)) ∧ W.cell? ⟨w.heap.size, 2, none⟩ = some (.int .i64 (pb : Int)) ∧ W.cell? ⟨w.heap.size, 3, none⟩ = some (.int .i64 (dict : Int))) (first | assumption | go_keep | exact ⟨q0, q1, q2, q3⟩) (first | (go_at_call 7; refine (much_any _).mono ?_; rintro e w9a ⟨gm, rfl, hM, hgm, hb⟩; have HBa := Lib.hid (show Below w9.heap.size w9 w9a from ⟨hb.os, hb.tape, hb.output, hb.size, hb.block⟩); have HMa := Lib.hid hM; have HGM := Lib.hid (show w9.heap.size ≤ gm from hgm); have ra := HS9.out w9a HBa.out; clear hM hgm hb) | (go_at_call 8; refine (KU3.out _ gm (by first | exact HMa.out | exact HMa.out.drewN _) HGM.out (by first | exact HBa.out | exact below_drewN HBa.out _)).mono ?_; rintro e w9b ⟨hOb, X, cX, rfl, hSX⟩; have HOb := Lib.hid (show Only (fun i => i = gm) w9a w9b from ⟨hOb.os, hOb.tape, hOb.output, hOb.size, hOb.block⟩); have HSX := Lib.hid hSX; have rb := HS9.out w9b (HBa.out.trans (HOb.out.below HBa.out.size (by rintro i rfl; exact HGM.out))); clear hOb hSX))
        have HBb := Lib.hid (HBa.out.trans (HOb.out.below HBa.out.size (by rintro i rfl; exact HGM.out)))
        have HB11 := Lib.hid (below_go HB9.out HBb.out (Nat.le_refl _))
        have KS := Lib.hid (fun ca cb => bytesSame_any (ca := ca) (cb := cb) (HSX9.out.below HBb.out) (HSO9.out.below HBb.out) (by have := HLN.out; omega))
        clear KU3 HOb HSX HMa HBa HBb HGM HSX9 HSO9 HSL39 HK9 HS9 HB9 ra rb q0 q1 q2 q3 e1 e2 e3 e4
        go_wp2_with fail
        refine (KS.out _ _).mono ?_
        rintro e w12 ⟨rfl, k12, rfl⟩
        clear KS
        go_wp2_with fail
        go_ret
        exact ⟨rfl, below_drewN HB11.out k12⟩
end Go.Proofs.YtpdpbbmkicemdaaGreat
