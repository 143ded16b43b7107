/-
  PsPkt, AppFour, CdList, PsFl: put together.
-/
import Derived.Test.YtjganponepafpaaQ23
import Derived.Test.YtjganponepafpaaQ01
import Derived.Deep.RegionLaw
import Derived.Test.YtjganponepafpaaQ04
set_option linter.unusedVariables false
set_option linter.unusedSimpArgs false
/-
  The program's finder: the packet at a place: the walk.
-/
namespace Go.Proofs.Ytjganponepafpaa
open Go.RowKit
section
variable {w : World} {g : Nat} {G : Nat → Prop} {A : Option Addr} {n c dict : Nat} {b : List UInt8} {s : Ps} {cnt : Nat}
theorem eld2_lt : (eld2 b dict n s).1 < 4 ∧ (eld2 b dict n s).2 ≤ 273 := by
  rw [eld2_is]
  have := eld_lt (b := b) (dict := dict) (e := n) (s := s)
  have := eld_le (b := b) (dict := dict) (e := n) (s := s)
  split
  · exact ⟨by omega, by omega⟩
  · exact ⟨by decide, by decide⟩
theorem worth_le {l : Nat} : (worth b dict n s l).2 ≤ 273 ∧ (0 < l → 0 < (worth b dict n s l).2 → (worth b dict n s l).1 < s.i) := by
  have := lon_le (b := b) (dict := dict) (e := n) (s := s)
  unfold worth
  split
  · refine ⟨by omega, fun _ h => ?_⟩
    have := lon_lt (b := b) (dict := dict) (e := n) (s := s) h
    omega
  · exact ⟨by decide, fun _ h => absurd h (by decide)⟩
set_option maxRecDepth 100000 in
set_option maxHeartbeats 16000000 in
theorem ppacket_any (h : Fd w g G A n c dict b s cnt) (hc : cnt ≤ s.i) (hi : s.i < n) :
    Calls Try.prog 12 #[.pointer (some ⟨g, 0, none⟩)] w (PktPost w g G A n c dict b s) := by
  obtain ⟨lv0, av0, hq0⟩ := h.fq
  have HB := Lib.hid (show n ≤ 1000000000 ∧ s.i < n ∧ s.Lit from ⟨hq0.n1, hi, hq0.lit⟩)
  obtain ⟨w1, hw1⟩ : ∃ w1, w1 = w.alloc (.cells #[.int .i64 0, .int .u8 0, .int .i64 0, .int .u32 0] 42) := ⟨_, rfl⟩
  have hpm : Pmid w w.heap.size g G A n c dict b s w1 := by rw [hw1]; exact Pmid.start h hc
  obtain ⟨q, hq⟩ : ∃ q, q = w.heap.size := ⟨_, rfl⟩
  rw [← hq] at hpm
  have HQ := Lib.hid hq
  have HPM := Lib.hid hpm
  obtain ⟨lv1, av1, hq1, _⟩ := hpm.turn
  have KE := Lib.hid (pelder_any hq1)
  have HST := Lib.hid (step_prog (b := b) (dict := dict) (e := n) (s := s))
  have heb := eld2_lt (b := b) (dict := dict) (n := n) (s := s)
  obtain ⟨a, ha⟩ : ∃ a, a = eld2 b dict n s := ⟨_, rfl⟩
  rw [← ha] at KE HST heb
  obtain ⟨a1, a2⟩ := a
  have HA := Lib.hid (show a1 < 4 ∧ a2 ≤ 273 from heb)
  have HW1 := Lib.hid hw1
  have hwl := worth_le (b := b) (dict := dict) (n := n) (s := s) (l := a2 + 2)
  obtain ⟨m, hm⟩ : ∃ m, m = worth b dict n s (a2 + 2) := ⟨_, rfl⟩
  have HM := Lib.hid hm
  have HST := Lib.hid (show stepF b dict n s = stepH (a1, a2) m (cpN b dict n s.i s.r0) (b.getD s.i 0) s by rw [hm]; exact HST.out)
  rw [← hm] at hwl
  obtain ⟨m1, m2⟩ := m
  have HWL := Lib.hid (show m2 ≤ 273 ∧ (0 < m2 → m1 < s.i) from ⟨hwl.1, hwl.2 (by omega)⟩)
  clear h hc hi hq0 hpm hq1 ha hw1 hq hwl hm heb
  go_enter Try.func12, Try.ntmps12
  go_upto_region 1 with fail
  rw [← HW1.out, ← HQ.out]
  clear HW1
  go_wp2_with fail
  refine KE.out.mono ?_
  rintro x w2 ⟨rfl, k1, rfl⟩
  have hpm := HPM.out.drewN k1
  clear HPM KE
  generalize w1.drewN k1 = w2 at *
  obtain ⟨G2, cnt2, hf2, hc2, hnext⟩ := hpm.post
  have KL := Lib.hid (plongest_any (l := a2 + 2) hf2 hc2 (by omega) (by have := HA.out; omega))
  rw [← HM.out] at KL
  have e1 : IntKind.i64.wrap ((a2 : Int) + 2) = ((a2 + 2 : Nat) : Int) := by rw [IntWalk.i64_in _ (by have := HA.out; omega)]; omega
  have e1' : wrap64 ((a2 : Int) + 2) = ((a2 + 2 : Nat) : Int) := by rw [IntWalk.wrap64_in _ (by have := HA.out; omega)]; omega
  have HNX := Lib.hid hnext
  clear hpm hf2 hc2 hnext HM
  go_wp2_with fail
  refine KL.out.mono ?_
  rintro x w3 ⟨rfl, hp3⟩
  have HPM := Lib.hid (HNX.out w3 hp3)
  clear hp3 KL HNX e1 e1'
  have HST0 := HST
  clear HST
  by_cases hb1 : 2 < m2
  · have HC := Lib.hid (show 2 < m2 ∨ (m2 = 2 ∧ m1 < 128) from .inl hb1)
    have i1 : (2 : Int) < (m2 : Int) := by omega
    clear hb1
    obtain ⟨lv, av, hfq, hturn⟩ := HPM.out.turn
    have KP := Lib.hid (ppush_any (d := m1) hfq.f)
    have HTN := Lib.hid (fun (w4 : World) (hO : Only (fun i => i = g) w3 w4) (hB : Blk w4 g 49 (fCells A n c dict (s.come m1) lv av)) => hturn w4 (s.come m1) hO hB rfl ⟨by show m1 < _; have := HWL.out; have := HB.out; omega, HB.out.2.2.r0, HB.out.2.2.r1, HB.out.2.2.r2⟩)
    have e2 : IntKind.u32.wrap (m1 : Int) = (m1 : Int) := by have := HWL.out; have := HB.out; simp [IntKind.wrap, IntKind.bits, IntKind.signed]; omega
    clear hfq hturn HPM
    go_wp2_with fail
    refine KP.out.mono ?_
    rintro x w4 ⟨rfl, hO4, hB4⟩
    have HP4 := Lib.hid (HTN.out w4 hO4 hB4)
    clear KP HTN hO4 hB4
    have HST := Lib.hid (HP4.out.store (.int .i64 1) (.int .u8 0) (.int .i64 (m2 : Int)) (.int .u32 (m1 : Int)))
    have hbk := HP4.out.blk
    have u0c : w4.cell? ⟨q, 0, none⟩ = some (.int .i64 0) := hbk.cell 0
    have u0f := hbk.free 0
    have u1c : w4.cell? ⟨q, 1, none⟩ = some (.int .u8 0) := hbk.cell 1
    have u1f := hbk.free 1
    have u2c : w4.cell? ⟨q, 2, none⟩ = some (.int .i64 0) := hbk.cell 2
    have u2f := hbk.free 2
    have u3c : w4.cell? ⟨q, 3, none⟩ = some (.int .u32 0) := hbk.cell 3
    have u3f := hbk.free 3
    clear hbk
    go_wp2_with fail
    obtain ⟨hfp, hk⟩ := HST.out
    generalize (((w4.setCell ⟨q, 0, none⟩ (.int .i64 1)).setCell ⟨q, 1, none⟩ (.int .u8 0)).setCell ⟨q, 2, none⟩ (.int .i64 (m2 : Int))).setCell ⟨q, 3, none⟩ (.int .u32 (m1 : Int)) = w7 at *
    have k0 : w7.cell? ⟨q, 0, none⟩ = some (.int .i64 1) := hk.cell 0
    have k1 : w7.cell? ⟨q, 1, none⟩ = some (.int .u8 0) := hk.cell 1
    have k2 : w7.cell? ⟨q, 2, none⟩ = some (.int .i64 (m2 : Int)) := hk.cell 2
    have k3 : w7.cell? ⟨q, 3, none⟩ = some (.int .u32 (m1 : Int)) := hk.cell 3
    refine bodyPost_ret (v := .tuple #[.agg #[.int .i64 1, .int .u8 0, .int .i64 (m2 : Int), .int .u32 (m1 : Int)], .int .i64 (m2 : Int)]) (by simp [results, Try.results12, go_sem, k0, k1, k2, k3]) rfl ⟨_, _, s.come m1, m2, (show stepF b dict n s = (⟨1, 0, (m2 : Int), (m1 : Int)⟩, s.push m2 m1) by rw [HST0.out]; unfold stepH; rw [if_pos HC.out]), rfl, by first | rfl | exact bring_i s a1, rfl, hfp⟩
  by_cases hb2 : m2 = 2
  · by_cases hb3 : m1 < 128
    · have HC := Lib.hid (show 2 < m2 ∨ (m2 = 2 ∧ m1 < 128) from .inr ⟨hb2, hb3⟩)
      have i1 : ¬ (2 : Int) < (m2 : Int) := by omega
      have i2 : ((m2 : Int) == 2) = true := by simp [hb2]
      have i3 : (m1 : Int) < 128 := by omega
      clear hb1 hb2 hb3
      obtain ⟨lv, av, hfq, hturn⟩ := HPM.out.turn
      have KP := Lib.hid (ppush_any (d := m1) hfq.f)
      have HTN := Lib.hid (fun (w4 : World) (hO : Only (fun i => i = g) w3 w4) (hB : Blk w4 g 49 (fCells A n c dict (s.come m1) lv av)) => hturn w4 (s.come m1) hO hB rfl ⟨by show m1 < _; have := HWL.out; have := HB.out; omega, HB.out.2.2.r0, HB.out.2.2.r1, HB.out.2.2.r2⟩)
      have e2 : IntKind.u32.wrap (m1 : Int) = (m1 : Int) := by have := HWL.out; have := HB.out; simp [IntKind.wrap, IntKind.bits, IntKind.signed]; omega
      clear hfq hturn HPM
      go_wp2_with fail
      refine KP.out.mono ?_
      rintro x w4 ⟨rfl, hO4, hB4⟩
      have HP4 := Lib.hid (HTN.out w4 hO4 hB4)
      clear KP HTN hO4 hB4
      have HST := Lib.hid (HP4.out.store (.int .i64 1) (.int .u8 0) (.int .i64 (m2 : Int)) (.int .u32 (m1 : Int)))
      have hbk := HP4.out.blk
      have u0c : w4.cell? ⟨q, 0, none⟩ = some (.int .i64 0) := hbk.cell 0
      have u0f := hbk.free 0
      have u1c : w4.cell? ⟨q, 1, none⟩ = some (.int .u8 0) := hbk.cell 1
      have u1f := hbk.free 1
      have u2c : w4.cell? ⟨q, 2, none⟩ = some (.int .i64 0) := hbk.cell 2
      have u2f := hbk.free 2
      have u3c : w4.cell? ⟨q, 3, none⟩ = some (.int .u32 0) := hbk.cell 3
      have u3f := hbk.free 3
      clear hbk
      go_wp2_with fail
      obtain ⟨hfp, hk⟩ := HST.out
      generalize (((w4.setCell ⟨q, 0, none⟩ (.int .i64 1)).setCell ⟨q, 1, none⟩ (.int .u8 0)).setCell ⟨q, 2, none⟩ (.int .i64 (m2 : Int))).setCell ⟨q, 3, none⟩ (.int .u32 (m1 : Int)) = w7 at *
      have k0 : w7.cell? ⟨q, 0, none⟩ = some (.int .i64 1) := hk.cell 0
      have k1 : w7.cell? ⟨q, 1, none⟩ = some (.int .u8 0) := hk.cell 1
      have k2 : w7.cell? ⟨q, 2, none⟩ = some (.int .i64 (m2 : Int)) := hk.cell 2
      have k3 : w7.cell? ⟨q, 3, none⟩ = some (.int .u32 (m1 : Int)) := hk.cell 3
      refine bodyPost_ret (v := .tuple #[.agg #[.int .i64 1, .int .u8 0, .int .i64 (m2 : Int), .int .u32 (m1 : Int)], .int .i64 (m2 : Int)]) (by simp [results, Try.results12, go_sem, k0, k1, k2, k3]) rfl ⟨_, _, s.come m1, m2, (show stepF b dict n s = (⟨1, 0, (m2 : Int), (m1 : Int)⟩, s.push m2 m1) by rw [HST0.out]; unfold stepH; rw [if_pos HC.out]), rfl, by first | rfl | exact bring_i s a1, rfl, hfp⟩
    · have HC := Lib.hid (show ¬ (2 < m2 ∨ (m2 = 2 ∧ m1 < 128)) by omega)
      have i1 : ¬ (2 : Int) < (m2 : Int) := by omega
      have i2 : ((m2 : Int) == 2) = true := by simp [hb2]
      have i3 : ¬ (m1 : Int) < 128 := by omega
      clear hb1 hb2 hb3
      by_cases hb4 : 0 < a2
      · have i4 : (0 : Int) < (a2 : Int) := by omega
        obtain ⟨lv, av, hfq, hturn⟩ := HPM.out.turn
        have KP := Lib.hid (praise_any (j := a1) HA.out.1 hfq.f)
        have HTN := Lib.hid (fun (w4 : World) (hO : Only (fun i => i = g) w3 w4) (hB : Blk w4 g 49 (fCells A n c dict (s.bring a1) lv av)) => hturn w4 (s.bring a1) hO hB (bring_i s a1) (bring_lit HB.out.2.2 a1))
        have e2 : IntKind.i64.wrap (2 + (a1 : Int)) = 2 + (a1 : Int) := IntWalk.i64_in _ (by have := HA.out; omega)
        have e2' : wrap64 (2 + (a1 : Int)) = 2 + (a1 : Int) := IntWalk.wrap64_in _ (by have := HA.out; omega)
        have HC4 := Lib.hid hb4
        clear hfq hturn HPM hb4
        go_wp2_with fail
        refine KP.out.mono ?_
        rintro x w4 ⟨rfl, hO4, hB4⟩
        have HP4 := Lib.hid (HTN.out w4 hO4 hB4)
        clear KP HTN hO4 hB4
        have HST := Lib.hid (HP4.out.store (.int .i64 (2 + (a1 : Int))) (.int .u8 0) (.int .i64 (a2 : Int)) (.int .u32 0))
        have hbk := HP4.out.blk
        have u0c : w4.cell? ⟨q, 0, none⟩ = some (.int .i64 0) := hbk.cell 0
        have u0f := hbk.free 0
        have u1c : w4.cell? ⟨q, 1, none⟩ = some (.int .u8 0) := hbk.cell 1
        have u1f := hbk.free 1
        have u2c : w4.cell? ⟨q, 2, none⟩ = some (.int .i64 0) := hbk.cell 2
        have u2f := hbk.free 2
        have u3c : w4.cell? ⟨q, 3, none⟩ = some (.int .u32 0) := hbk.cell 3
        have u3f := hbk.free 3
        clear hbk
        go_wp2_with fail
        obtain ⟨hfp, hk⟩ := HST.out
        generalize (((w4.setCell ⟨q, 0, none⟩ (.int .i64 (2 + (a1 : Int)))).setCell ⟨q, 1, none⟩ (.int .u8 0)).setCell ⟨q, 2, none⟩ (.int .i64 (a2 : Int))).setCell ⟨q, 3, none⟩ (.int .u32 0) = w7 at *
        have k0 : w7.cell? ⟨q, 0, none⟩ = some (.int .i64 (2 + (a1 : Int))) := hk.cell 0
        have k1 : w7.cell? ⟨q, 1, none⟩ = some (.int .u8 0) := hk.cell 1
        have k2 : w7.cell? ⟨q, 2, none⟩ = some (.int .i64 (a2 : Int)) := hk.cell 2
        have k3 : w7.cell? ⟨q, 3, none⟩ = some (.int .u32 0) := hk.cell 3
        refine bodyPost_ret (v := .tuple #[.agg #[.int .i64 (2 + (a1 : Int)), .int .u8 0, .int .i64 (a2 : Int), .int .u32 0], .int .i64 (a2 : Int)]) (by simp [results, Try.results12, go_sem, k0, k1, k2, k3]) rfl ⟨_, _, s.bring a1, a2, (show stepF b dict n s = (⟨2 + (a1 : Int), 0, (a2 : Int), 0⟩, s.raise a2 a1) by rw [HST0.out]; unfold stepH; rw [if_neg HC.out, if_pos (show 0 < a2 from HC4.out)]), (bring_raise s a2 a1), by first | rfl | exact bring_i s a1, rfl, hfp⟩
      · have i4 : ¬ (0 : Int) < (a2 : Int) := by omega
        obtain ⟨lv, av, hfq, _⟩ := HPM.out.turn
        have c3 := hfq.c3
        have e2 : IntKind.i64.wrap (s.r0 : Int) = (s.r0 : Int) := IntWalk.i64_in _ (by have := HB.out.2.2.r0; omega)
        have KC := Lib.hid (pcopied_any (d := s.r0) hfq HB.out.2.2.r0)
        obtain ⟨cp, hcp⟩ : ∃ cp, cp = cpN b dict n s.i s.r0 := ⟨_, rfl⟩
        rw [← hcp] at KC HST0
        have HC4 := Lib.hid hb4
        clear hfq hb4 hcp
        by_cases hb5 : 0 < cp
        · have i5 : (0 : Int) < (cp : Int) := by omega
          have HC5 := Lib.hid hb5
          clear hb5
          go_wp2_with fail
          refine KC.out.mono ?_
          rintro x w4 ⟨rfl, k4, rfl⟩
          have HP4 := Lib.hid (HPM.out.drewN k4)
          clear KC HPM c3
          generalize w3.drewN k4 = w4 at *
          have HST := Lib.hid (HP4.out.store (.int .i64 6) (.int .u8 0) (.int .i64 0) (.int .u32 0))
          have hbk := HP4.out.blk
          have u0c : w4.cell? ⟨q, 0, none⟩ = some (.int .i64 0) := hbk.cell 0
          have u0f := hbk.free 0
          have u1c : w4.cell? ⟨q, 1, none⟩ = some (.int .u8 0) := hbk.cell 1
          have u1f := hbk.free 1
          have u2c : w4.cell? ⟨q, 2, none⟩ = some (.int .i64 0) := hbk.cell 2
          have u2f := hbk.free 2
          have u3c : w4.cell? ⟨q, 3, none⟩ = some (.int .u32 0) := hbk.cell 3
          have u3f := hbk.free 3
          clear hbk
          go_wp2_with fail
          obtain ⟨hfp, hk⟩ := HST.out
          generalize (((w4.setCell ⟨q, 0, none⟩ (.int .i64 6)).setCell ⟨q, 1, none⟩ (.int .u8 0)).setCell ⟨q, 2, none⟩ (.int .i64 0)).setCell ⟨q, 3, none⟩ (.int .u32 0) = w7 at *
          have k0 : w7.cell? ⟨q, 0, none⟩ = some (.int .i64 6) := hk.cell 0
          have k1 : w7.cell? ⟨q, 1, none⟩ = some (.int .u8 0) := hk.cell 1
          have k2 : w7.cell? ⟨q, 2, none⟩ = some (.int .i64 0) := hk.cell 2
          have k3 : w7.cell? ⟨q, 3, none⟩ = some (.int .u32 0) := hk.cell 3
          refine bodyPost_ret (v := .tuple #[.agg #[.int .i64 6, .int .u8 0, .int .i64 0, .int .u32 0], .int .i64 (1 : Int)]) (by simp [results, Try.results12, go_sem, k0, k1, k2, k3]) rfl ⟨_, _, s, 1, (show stepF b dict n s = (⟨6, 0, 0, 0⟩, s.on) by rw [HST0.out]; unfold stepH; rw [if_neg HC.out, if_neg (show ¬ 0 < a2 from HC4.out), if_pos HC5.out]), rfl, by first | rfl | exact bring_i s a1, rfl, hfp⟩
        · have i5 : ¬ (0 : Int) < (cp : Int) := by omega
          have HC5 := Lib.hid hb5
          clear hb5
          go_wp2_with fail
          refine KC.out.mono ?_
          rintro x w4 ⟨rfl, k4, rfl⟩
          have HP4 := Lib.hid (HPM.out.drewN k4)
          clear KC HPM c3
          generalize w3.drewN k4 = w4 at *
          obtain ⟨lv, av, hfq, _⟩ := HP4.out.turn
          obtain ⟨ba, oa, rfl, hba, hca⟩ := hfq.sl.2 (by have := HB.out; omega)
          have hbl := hfq.len
          have k1' : w4.cell? ⟨ba, oa + s.i, none⟩ = some (.int .u8 ((b.getD s.i 0).toNat : Int)) := by rw [hca s.i HB.out.2.1, bv_get b _ (by have := HB.out; omega)]
          have c0 := hfq.c0
          have c1 := hfq.c1
          have b1 : (0 : Int) ≤ (s.i : Int) := by omega
          have b2 : (s.i : Int) < (n : Int) := by have := HB.out; omega
          generalize hy : b.getD s.i 0 = y at *
          have HY := Lib.hid hy
          clear hfq hca hba hbl hy
          have HST := Lib.hid (HP4.out.store (.int .i64 0) (.int .u8 (y.toNat : Int)) (.int .i64 0) (.int .u32 0))
          have hbk := HP4.out.blk
          have u0c : w4.cell? ⟨q, 0, none⟩ = some (.int .i64 0) := hbk.cell 0
          have u0f := hbk.free 0
          have u1c : w4.cell? ⟨q, 1, none⟩ = some (.int .u8 0) := hbk.cell 1
          have u1f := hbk.free 1
          have u2c : w4.cell? ⟨q, 2, none⟩ = some (.int .i64 0) := hbk.cell 2
          have u2f := hbk.free 2
          have u3c : w4.cell? ⟨q, 3, none⟩ = some (.int .u32 0) := hbk.cell 3
          have u3f := hbk.free 3
          clear hbk
          go_wp2_with fail
          go_region
          all_goals
            go_wp2_with fail
            obtain ⟨hfp, hk⟩ := HST.out
            generalize (((w4.setCell ⟨q, 0, none⟩ (.int .i64 0)).setCell ⟨q, 1, none⟩ (.int .u8 (y.toNat : Int))).setCell ⟨q, 2, none⟩ (.int .i64 0)).setCell ⟨q, 3, none⟩ (.int .u32 0) = w7 at *
            have k0 : w7.cell? ⟨q, 0, none⟩ = some (.int .i64 0) := hk.cell 0
            have k1 : w7.cell? ⟨q, 1, none⟩ = some (.int .u8 (y.toNat : Int)) := hk.cell 1
            have k2 : w7.cell? ⟨q, 2, none⟩ = some (.int .i64 0) := hk.cell 2
            have k3 : w7.cell? ⟨q, 3, none⟩ = some (.int .u32 0) := hk.cell 3
            refine bodyPost_ret (v := .tuple #[.agg #[.int .i64 0, .int .u8 (y.toNat : Int), .int .i64 0, .int .u32 0], .int .i64 (1 : Int)]) (by simp [results, Try.results12, go_sem, k0, k1, k2, k3]) rfl ⟨_, _, s, 1, (show stepF b dict n s = (⟨0, (y.toNat : Int), 0, 0⟩, s.on) by rw [HST0.out]; unfold stepH; rw [if_neg HC.out, if_neg (show ¬ 0 < a2 from HC4.out), if_neg HC5.out]), rfl, by first | rfl | exact bring_i s a1, rfl, hfp.drewN 1⟩
  · have HC := Lib.hid (show ¬ (2 < m2 ∨ (m2 = 2 ∧ m1 < 128)) by omega)
    have i1 : ¬ (2 : Int) < (m2 : Int) := by omega
    have i2 : ((m2 : Int) == 2) = false := by simp; omega
    clear hb1 hb2
    by_cases hb4 : 0 < a2
    · have i4 : (0 : Int) < (a2 : Int) := by omega
      obtain ⟨lv, av, hfq, hturn⟩ := HPM.out.turn
      have KP := Lib.hid (praise_any (j := a1) HA.out.1 hfq.f)
      have HTN := Lib.hid (fun (w4 : World) (hO : Only (fun i => i = g) w3 w4) (hB : Blk w4 g 49 (fCells A n c dict (s.bring a1) lv av)) => hturn w4 (s.bring a1) hO hB (bring_i s a1) (bring_lit HB.out.2.2 a1))
      have e2 : IntKind.i64.wrap (2 + (a1 : Int)) = 2 + (a1 : Int) := IntWalk.i64_in _ (by have := HA.out; omega)
      have e2' : wrap64 (2 + (a1 : Int)) = 2 + (a1 : Int) := IntWalk.wrap64_in _ (by have := HA.out; omega)
      have HC4 := Lib.hid hb4
      clear hfq hturn HPM hb4
      go_wp2_with fail
      refine KP.out.mono ?_
      rintro x w4 ⟨rfl, hO4, hB4⟩
      have HP4 := Lib.hid (HTN.out w4 hO4 hB4)
      clear KP HTN hO4 hB4
      have HST := Lib.hid (HP4.out.store (.int .i64 (2 + (a1 : Int))) (.int .u8 0) (.int .i64 (a2 : Int)) (.int .u32 0))
      have hbk := HP4.out.blk
      have u0c : w4.cell? ⟨q, 0, none⟩ = some (.int .i64 0) := hbk.cell 0
      have u0f := hbk.free 0
      have u1c : w4.cell? ⟨q, 1, none⟩ = some (.int .u8 0) := hbk.cell 1
      have u1f := hbk.free 1
      have u2c : w4.cell? ⟨q, 2, none⟩ = some (.int .i64 0) := hbk.cell 2
      have u2f := hbk.free 2
      have u3c : w4.cell? ⟨q, 3, none⟩ = some (.int .u32 0) := hbk.cell 3
      have u3f := hbk.free 3
      clear hbk
      go_wp2_with fail
      obtain ⟨hfp, hk⟩ := HST.out
      generalize (((w4.setCell ⟨q, 0, none⟩ (.int .i64 (2 + (a1 : Int)))).setCell ⟨q, 1, none⟩ (.int .u8 0)).setCell ⟨q, 2, none⟩ (.int .i64 (a2 : Int))).setCell ⟨q, 3, none⟩ (.int .u32 0) = w7 at *
      have k0 : w7.cell? ⟨q, 0, none⟩ = some (.int .i64 (2 + (a1 : Int))) := hk.cell 0
      have k1 : w7.cell? ⟨q, 1, none⟩ = some (.int .u8 0) := hk.cell 1
      have k2 : w7.cell? ⟨q, 2, none⟩ = some (.int .i64 (a2 : Int)) := hk.cell 2
      have k3 : w7.cell? ⟨q, 3, none⟩ = some (.int .u32 0) := hk.cell 3
      refine bodyPost_ret (v := .tuple #[.agg #[.int .i64 (2 + (a1 : Int)), .int .u8 0, .int .i64 (a2 : Int), .int .u32 0], .int .i64 (a2 : Int)]) (by simp [results, Try.results12, go_sem, k0, k1, k2, k3]) rfl ⟨_, _, s.bring a1, a2, (show stepF b dict n s = (⟨2 + (a1 : Int), 0, (a2 : Int), 0⟩, s.raise a2 a1) by rw [HST0.out]; unfold stepH; rw [if_neg HC.out, if_pos (show 0 < a2 from HC4.out)]), (bring_raise s a2 a1), by first | rfl | exact bring_i s a1, rfl, hfp⟩
    · have i4 : ¬ (0 : Int) < (a2 : Int) := by omega
      obtain ⟨lv, av, hfq, _⟩ := HPM.out.turn
      have c3 := hfq.c3
      have e2 : IntKind.i64.wrap (s.r0 : Int) = (s.r0 : Int) := IntWalk.i64_in _ (by have := HB.out.2.2.r0; omega)
      have KC := Lib.hid (pcopied_any (d := s.r0) hfq HB.out.2.2.r0)
      obtain ⟨cp, hcp⟩ : ∃ cp, cp = cpN b dict n s.i s.r0 := ⟨_, rfl⟩
      rw [← hcp] at KC HST0
      have HC4 := Lib.hid hb4
      clear hfq hb4 hcp
      by_cases hb5 : 0 < cp
      · have i5 : (0 : Int) < (cp : Int) := by omega
        have HC5 := Lib.hid hb5
        clear hb5
        go_wp2_with fail
        refine KC.out.mono ?_
        rintro x w4 ⟨rfl, k4, rfl⟩
        have HP4 := Lib.hid (HPM.out.drewN k4)
        clear KC HPM c3
        generalize w3.drewN k4 = w4 at *
        have HST := Lib.hid (HP4.out.store (.int .i64 6) (.int .u8 0) (.int .i64 0) (.int .u32 0))
        have hbk := HP4.out.blk
        have u0c : w4.cell? ⟨q, 0, none⟩ = some (.int .i64 0) := hbk.cell 0
        have u0f := hbk.free 0
        have u1c : w4.cell? ⟨q, 1, none⟩ = some (.int .u8 0) := hbk.cell 1
        have u1f := hbk.free 1
        have u2c : w4.cell? ⟨q, 2, none⟩ = some (.int .i64 0) := hbk.cell 2
        have u2f := hbk.free 2
        have u3c : w4.cell? ⟨q, 3, none⟩ = some (.int .u32 0) := hbk.cell 3
        have u3f := hbk.free 3
        clear hbk
        go_wp2_with fail
        obtain ⟨hfp, hk⟩ := HST.out
        generalize (((w4.setCell ⟨q, 0, none⟩ (.int .i64 6)).setCell ⟨q, 1, none⟩ (.int .u8 0)).setCell ⟨q, 2, none⟩ (.int .i64 0)).setCell ⟨q, 3, none⟩ (.int .u32 0) = w7 at *
        have k0 : w7.cell? ⟨q, 0, none⟩ = some (.int .i64 6) := hk.cell 0
        have k1 : w7.cell? ⟨q, 1, none⟩ = some (.int .u8 0) := hk.cell 1
        have k2 : w7.cell? ⟨q, 2, none⟩ = some (.int .i64 0) := hk.cell 2
        have k3 : w7.cell? ⟨q, 3, none⟩ = some (.int .u32 0) := hk.cell 3
        refine bodyPost_ret (v := .tuple #[.agg #[.int .i64 6, .int .u8 0, .int .i64 0, .int .u32 0], .int .i64 (1 : Int)]) (by simp [results, Try.results12, go_sem, k0, k1, k2, k3]) rfl ⟨_, _, s, 1, (show stepF b dict n s = (⟨6, 0, 0, 0⟩, s.on) by rw [HST0.out]; unfold stepH; rw [if_neg HC.out, if_neg (show ¬ 0 < a2 from HC4.out), if_pos HC5.out]), rfl, by first | rfl | exact bring_i s a1, rfl, hfp⟩
      · have i5 : ¬ (0 : Int) < (cp : Int) := by omega
        have HC5 := Lib.hid hb5
        clear hb5
        go_wp2_with fail
        refine KC.out.mono ?_
        rintro x w4 ⟨rfl, k4, rfl⟩
        have HP4 := Lib.hid (HPM.out.drewN k4)
        clear KC HPM c3
        generalize w3.drewN k4 = w4 at *
        obtain ⟨lv, av, hfq, _⟩ := HP4.out.turn
        obtain ⟨ba, oa, rfl, hba, hca⟩ := hfq.sl.2 (by have := HB.out; omega)
        have hbl := hfq.len
        have k1' : w4.cell? ⟨ba, oa + s.i, none⟩ = some (.int .u8 ((b.getD s.i 0).toNat : Int)) := by rw [hca s.i HB.out.2.1, bv_get b _ (by have := HB.out; omega)]
        have c0 := hfq.c0
        have c1 := hfq.c1
        have b1 : (0 : Int) ≤ (s.i : Int) := by omega
        have b2 : (s.i : Int) < (n : Int) := by have := HB.out; omega
        generalize hy : b.getD s.i 0 = y at *
        have HY := Lib.hid hy
        clear hfq hca hba hbl hy
        have HST := Lib.hid (HP4.out.store (.int .i64 0) (.int .u8 (y.toNat : Int)) (.int .i64 0) (.int .u32 0))
        have hbk := HP4.out.blk
        have u0c : w4.cell? ⟨q, 0, none⟩ = some (.int .i64 0) := hbk.cell 0
        have u0f := hbk.free 0
        have u1c : w4.cell? ⟨q, 1, none⟩ = some (.int .u8 0) := hbk.cell 1
        have u1f := hbk.free 1
        have u2c : w4.cell? ⟨q, 2, none⟩ = some (.int .i64 0) := hbk.cell 2
        have u2f := hbk.free 2
        have u3c : w4.cell? ⟨q, 3, none⟩ = some (.int .u32 0) := hbk.cell 3
        have u3f := hbk.free 3
        clear hbk
        go_wp2_with fail
        go_region
        all_goals
          go_wp2_with fail
          obtain ⟨hfp, hk⟩ := HST.out
          generalize (((w4.setCell ⟨q, 0, none⟩ (.int .i64 0)).setCell ⟨q, 1, none⟩ (.int .u8 (y.toNat : Int))).setCell ⟨q, 2, none⟩ (.int .i64 0)).setCell ⟨q, 3, none⟩ (.int .u32 0) = w7 at *
          have k0 : w7.cell? ⟨q, 0, none⟩ = some (.int .i64 0) := hk.cell 0
          have k1 : w7.cell? ⟨q, 1, none⟩ = some (.int .u8 (y.toNat : Int)) := hk.cell 1
          have k2 : w7.cell? ⟨q, 2, none⟩ = some (.int .i64 0) := hk.cell 2
          have k3 : w7.cell? ⟨q, 3, none⟩ = some (.int .u32 0) := hk.cell 3
          refine bodyPost_ret (v := .tuple #[.agg #[.int .i64 0, .int .u8 (y.toNat : Int), .int .i64 0, .int .u32 0], .int .i64 (1 : Int)]) (by simp [results, Try.results12, go_sem, k0, k1, k2, k3]) rfl ⟨_, _, s, 1, (show stepF b dict n s = (⟨0, (y.toNat : Int), 0, 0⟩, s.on) by rw [HST0.out]; unfold stepH; rw [if_neg HC.out, if_neg (show ¬ 0 < a2 from HC4.out), if_neg HC5.out]), rfl, by first | rfl | exact bring_i s a1, rfl, hfp.drewN 1⟩
end
end Go.Proofs.Ytjganponepafpaa

/-
  One struct of four cells is appended onto a row of the call's own.
-/
namespace Go.Proofs.Ytjganponepafpaa
open Go.RowKit

section
variable {P : Program} {w : World}
end
end Go.Proofs.Ytjganponepafpaa

/-
  A row of packets of the call's own, as a list.
-/
namespace Go.Proofs.Ytjganponepafpaa
open Go.RowKit

def pkV (q : Pq) : List Value := [.int .i64 q.k, .int .u8 q.a, .int .i64 q.n, .int .u32 q.v]
theorem pkV_len : ∀ (L : List Pq), (L.flatMap pkV).length = L.length * 4
  | [] => rfl
  | q :: L => by rw [List.flatMap_cons, List.length_append, pkV_len L]; show 4 + _ = (L.length + 1) * 4; omega
theorem pkV_get : ∀ (L : List Pq) (i k : Nat), i < L.length → k < 4 → (L.flatMap pkV)[i * 4 + k]? = (pkV (L.getD i ⟨0, 0, 0, 0⟩))[k]?
  | q :: L, 0, k, _, hk => by
    rw [List.flatMap_cons, Nat.zero_mul, Nat.zero_add, List.getElem?_append_left (by show k < 4; exact hk)]
    rfl
  | q :: L, i + 1, k, hi, hk => by
    rw [List.flatMap_cons, List.getElem?_append_right (by show 4 ≤ _; omega), show (i + 1) * 4 + k - (pkV q).length = i * 4 + k by show (i + 1) * 4 + k - 4 = _; omega, pkV_get L i k (by simp at hi; omega) hk]
    rfl
theorem pkts_row {w : World} {base : Nat} {e : TypeId} {A : Option Addr} {n c : Nat} {L : List Pq} (h : w.ownsRow base e 4 (.slice A n c) n (L.flatMap pkV)) : L.length = n ∧ Pkts w A n (fun i => L.getD i ⟨0, 0, 0, 0⟩) := by
  have hl : L.length = n := by
    have := h.1
    rw [pkV_len] at this
    omega
  refine ⟨hl, fun hn => ?_⟩
  rcases h.2 with ⟨_, h0⟩ | ⟨g, cap, cur, hv, _, hh, _, _, _, ht⟩
  · omega
  · injection hv with e1 _ _
    refine ⟨g, 0, e1, (Array.getElem?_eq_some_iff.1 hh).1, fun i hi => ?_⟩
    have key : ∀ k, k < 4 → w.cell? ⟨g, 0 + i * 4 + k, none⟩ = (pkV (L.getD i ⟨0, 0, 0, 0⟩))[k]? := by
      intro k hk
      have hb : i * 4 + k < n * 4 := by omega
      have h1 := pkV_get L i k (by omega) hk
      rw [← ht, List.getElem?_take_of_lt hb] at h1
      rw [← h1]
      simp [World.cell?, hh, Nat.zero_add]
    exact ⟨key 0 (by omega), key 1 (by omega), key 2 (by omega), key 3 (by omega)⟩
end Go.Proofs.Ytjganponepafpaa

/-
  The program's Find: what holds from packet to packet.
-/
namespace Go.Proofs.Ytjganponepafpaa
open Go.RowKit

theorem info_ppk : (Try.prog.info? 42).map (fun i => (i.zero, i.size, i.bytes)) = some (some (.agg #[.int .i64 0, .int .u8 0, .int .i64 0, .int .u32 0]), 4, 32) := by kernel_rfl
theorem ppkV_one (q : Pq) : ∀ u ∈ pkV q, u.oneCell' = true := by simp [pkV, Value.oneCell']
theorem ppk_news (w : World) (q : Pq) (t : TypeId) : ∀ j u, (pkV q)[j]? = some u → (w.alloc (.cells #[.int .i64 q.k, .int .u8 q.a, .int .i64 q.n, .int .u32 q.v] t)).cell? ((⟨w.heap.size, 0, none⟩ : Addr).add j) = some u :=
  World.news_of_block (cs := #[.int .i64 q.k, .int .u8 q.a, .int .i64 q.n, .int .u32 q.v]) (heap_alloc_new w _)
theorem pown4_only {S : Nat → Prop} {w w' : World} {base : Nat} {e : TypeId} {A : Option Addr} {n c : Nat} {xs : List Value} (h : w.ownsRow base e 4 (.slice A n c) n xs) (hO : Only S w w') (hS : ∀ k, (Value.slice A n c).ownBlock = some k → ¬ S k) : w'.ownsRow base e 4 (.slice A n c) n xs := by
  refine ⟨h.1, ?_⟩
  rcases h.2 with h' | ⟨g, cap, cur, hv, hb, hh, h3⟩
  · exact .inl h'
  · refine .inr ⟨g, cap, cur, hv, hb, ?_, h3⟩
    have hlt : g < w.heap.size := (Array.getElem?_eq_some_iff.1 hh).1
    injection hv with e1 e2 e3
    rw [hO.block g hlt (hS g (by rw [e1]; rfl))]
    exact hh
theorem pk_snoc' {w : World} {base : Nat} {e : TypeId} {A : Option Addr} {c : Nat} {L : List Pq} {q : Pq} (h : w.ownsRow base e 4 (.slice A (L.length + 1) c) (L.length + 1) (L.flatMap pkV ++ pkV q)) :
    w.ownsRow base e 4 (.slice A (L ++ [q]).length c) (L ++ [q]).length ((L ++ [q]).flatMap pkV) := by
  have e1 : (L ++ [q]).length = L.length + 1 := by simp
  rw [e1]
  simpa using h
def zero4 : Array Value := #[.int .u32 0, .int .u32 0, .int .u32 0, .int .u32 0]
structure Fl (w wr : World) (g q1 : Nat) (G : Nat → Prop) (A : Option Addr) (n c D : Nat) (b : List UInt8) (s : Ps) (cnt : Nat) (L : List Pq) (R : Option Addr) (cl : Nat) : Prop where
  fd : Fd wr g G A n c D b s cnt
  cn : cnt ≤ s.i
  gi : ∀ i, G i → g ≤ i
  bel : Below w.heap.size w wr
  row : wr.ownsRow w.heap.size 42 4 (.slice R L.length cl) L.length (L.flatMap pkV)
  ra : ∀ k, (Value.slice R L.length cl).ownBlock = some k → ¬ G k ∧ k ≠ q1
  qb : Blk wr q1 24 zero4
  ql : q1 < g
  qw : w.heap.size ≤ q1
  al : 0 < n → ∀ p o, A = some ⟨p, o, none⟩ → p < w.heap.size
section
variable {w wr w' : World} {g q1 : Nat} {G : Nat → Prop} {A : Option Addr} {n c D : Nat} {b : List UInt8} {s s1 : Ps} {cnt : Nat} {L : List Pq} {R : Option Addr} {cl : Nat}
theorem Fl.rlt (h : Fl w wr g q1 G A n c D b s cnt L R cl) (k : Nat) (e : (Value.slice R L.length cl).ownBlock = some k) : w.heap.size ≤ k ∧ k < wr.heap.size := World.ownsRow.lt h.row k e
theorem Fl.gg (h : Fl w wr g q1 G A n c D b s cnt L R cl) : G g := by obtain ⟨_, _, _, hg, _⟩ := h.fd.turn; exact hg
theorem Fl.pkt (h : Fl w wr g q1 G A n c D b s cnt L R cl) (hp : FdPost wr g G A n c D b s1 w') : ∃ G' cnt', Fl w w' g q1 G' A n c D b s1 cnt' L R cl := by
  obtain ⟨G2, c2, k1, k2, k3, k4⟩ := hp
  have hs := h.bel.size
  have hg := h.fd.lt g h.gg
  have hgw : w.heap.size ≤ g := by have := h.qw; have := h.ql; omega
  have hq : ¬ G q1 := fun e => by have := h.gi _ e; have := h.ql; omega
  refine ⟨G2, c2, k1, k2, fun i hi => ?_, h.bel.trans (k4.below hs (fun i hi => by have := h.gi i hi; omega)), pown4_only h.row k4 (fun k e => (h.ra k e).1), fun k e => ⟨fun hk => ?_, (h.ra k e).2⟩, h.qb.only k4 hq, h.ql, h.qw, h.al⟩
  · rcases k3 i hi with h' | h'
    · exact h.gi i h'
    · omega
  · rcases k3 k hk with h' | h'
    · exact (h.ra k e).1 h'
    · have := h.rlt k e
      omega
theorem Fl.same (h : Fl w wr g q1 G A n c D b s cnt L R cl) (hO : Only (fun _ => False) wr w') : Fl w w' g q1 G A n c D b s cnt L R cl :=
  ⟨h.fd.keep hO (fun _ _ h => h) (fun _ _ _ _ h => h), h.cn, h.gi, h.bel.trans (hO.below h.bel.size (fun _ h => h.elim)), pown4_only h.row hO (fun _ _ h => h), h.ra, h.qb.only hO (fun h => h), h.ql, h.qw, h.al⟩
theorem Fl.app (h : Fl w wr g q1 G A n c D b s cnt L R cl) {p : Pq} {x cap : Nat} (ho : w'.ownsRow w.heap.size 42 4 (.slice (some ⟨x, 0, none⟩) (L.length + 1) cap) (L.length + 1) (L.flatMap pkV ++ pkV p)) (hg : wr.grownBy w' (Value.slice R L.length cl).ownBlock) (hl : (Value.slice R L.length cl).ownBlock = some x ∨ x = wr.heap.size) :
    Fl w w' g q1 G A n c D b s cnt (L ++ [p]) (some ⟨x, 0, none⟩) cap := by
  have hq := h.qb.lt
  have hO : Only (fun i => (Value.slice R L.length cl).ownBlock = some i) wr w' := ⟨hg.os, hg.tape, hg.output, hg.size, fun i hi hn => hg.block i hi (fun e => hn e.symm)⟩
  refine ⟨h.fd.keep hO (fun i hi e => (h.ra i e).1 hi) (fun h0 p o e e2 => ?_), h.cn, h.gi, h.bel.grown hg h.bel.size (fun k e => (h.rlt k e).1), pk_snoc' ho, fun k e => ?_, h.qb.only hO (fun e => (h.ra q1 e).2 rfl), h.ql, h.qw, h.al⟩
  · obtain ⟨_, _, hfq⟩ := h.fd.fq
    obtain ⟨b', o', e', hlt, _⟩ := hfq.sl.2 h0
    have h1 := h.rlt p e2
    have h2 := h.al h0 p o e
    omega
  · have ek : x = k := by injection e
    subst ek
    rcases hl with hl | hl
    · exact h.ra x hl
    · refine ⟨fun hx => ?_, by omega⟩
      have := h.fd.lt x hx
      omega
theorem Fl.at_ (h : Fl w wr g q1 G A n c D b s1 cnt L R cl) (k : Nat) (hi : s1.i + k ≤ n) : wr.cell? ⟨g, 1, none⟩ = some (.int .i64 (s1.i : Int)) ∧ wr.frozen? ⟨g, 1, none⟩ = false ∧ Fl w (wr.setCell ⟨g, 1, none⟩ (.int .i64 ((s1.i + k : Nat) : Int))) g q1 G A n c D b { s1 with i := s1.i + k } cnt L R cl := by
  obtain ⟨lv, av, hq, hg, ht⟩ := h.fd.turn
  have hgw : w.heap.size ≤ g := by have := h.qw; have := h.ql; omega
  have hO := (Only.refl (fun i => i = g) wr).setCell (p := ⟨g, 1, none⟩) (.inl rfl) (.int .i64 ((s1.i + k : Nat) : Int))
  refine ⟨hq.c1, hq.f.free 1, ht _ { s1 with i := s1.i + k } hO (hq.f.put 1 _) hi ⟨hq.lit.r0, hq.lit.r1, hq.lit.r2, hq.lit.r3⟩, by have := h.cn; show cnt ≤ s1.i + k; omega, h.gi, h.bel.trans (hO.below h.bel.size (by rintro i rfl; exact hgw)), pown4_only h.row hO (fun k e e2 => (h.ra k e).1 (by rw [e2]; exact hg)), h.ra, h.qb.only hO (fun e => by have := h.ql; omega), h.ql, h.qw, h.al⟩
end
end Go.Proofs.Ytjganponepafpaa
