/-
  PsPkt: put together.
-/
import Derived.Test.YtpbjkiejegpbcaaMp08
set_option linter.unusedVariables false
set_option linter.unusedSimpArgs false
/-
  The program's finder: the packet at a place: the walk.
-/
namespace Go.Proofs.Ytpbjkiejegpbcaa
open Go.RowKit
section
variable {w : World} {g : Nat} {G : Nat → Prop} {A : Option Addr} {n c dict : Nat} {b : List UInt8} {s : Ps} {cnt : Nat}
theorem eld2_lt : (eld2 b dict n s).1 < 4 ∧ (eld2 b dict n s).2 ≤ 273 := by
  rw [eld2_is]
  have := eld_lt (b := b) (dict := dict) (e := n) (s := s)
  have := eld_le (b := b) (dict := dict) (e := n) (s := s)
  split
  · exact ⟨by omega, by omega⟩
  · exact ⟨by decide, by decide⟩
theorem worth_le {l : Nat} : (worth b dict n s l).2 ≤ 273 ∧ (0 < l → 0 < (worth b dict n s l).2 → (worth b dict n s l).1 < s.i) := by
  have := lon_le (b := b) (dict := dict) (e := n) (s := s)
  unfold worth
  split
  · refine ⟨by omega, fun _ h => ?_⟩
    have := lon_lt (b := b) (dict := dict) (e := n) (s := s) h
    omega
  · exact ⟨by decide, fun _ h => absurd h (by decide)⟩
set_option maxRecDepth 100000 in
set_option maxHeartbeats 16000000 in
theorem ppacket_any (h : Fd w g G A n c dict b s cnt) (hc : cnt ≤ s.i) (hi : s.i < n) :
    Calls Try.prog 17 #[.pointer (some ⟨g, 0, none⟩)] w (PktPost w g G A n c dict b s) := by
  obtain ⟨lv0, av0, hq0⟩ := h.fq
  have HB := Lib.hid (show n ≤ 1000000000 ∧ s.i < n ∧ s.Lit from ⟨hq0.n1, hi, hq0.lit⟩)
  obtain ⟨w1, hw1⟩ : ∃ w1, w1 = w.alloc (.cells #[.int .i64 0, .int .u8 0, .int .i64 0, .int .u32 0] 44) := ⟨_, rfl⟩
  have hpm : Pmid w w.heap.size g G A n c dict b s w1 := by rw [hw1]; exact Pmid.start h hc
  obtain ⟨q, hq⟩ : ∃ q, q = w.heap.size := ⟨_, rfl⟩
  rw [← hq] at hpm
  have HQ := Lib.hid hq
  have HPM := Lib.hid hpm
  obtain ⟨lv1, av1, hq1, _⟩ := hpm.turn
  have KE := Lib.hid (pelder_any hq1)
  have HST := Lib.hid (step_prog (b := b) (dict := dict) (e := n) (s := s))
  have heb := eld2_lt (b := b) (dict := dict) (n := n) (s := s)
  obtain ⟨a, ha⟩ : ∃ a, a = eld2 b dict n s := ⟨_, rfl⟩
  rw [← ha] at KE HST heb
  obtain ⟨a1, a2⟩ := a
  have HA := Lib.hid (show a1 < 4 ∧ a2 ≤ 273 from heb)
  have HW1 := Lib.hid hw1
  have hwl := worth_le (b := b) (dict := dict) (n := n) (s := s) (l := a2 + 2)
  obtain ⟨m, hm⟩ : ∃ m, m = worth b dict n s (a2 + 2) := ⟨_, rfl⟩
  have HM := Lib.hid hm
  have HST := Lib.hid (show stepF b dict n s = stepH (a1, a2) m (cpN b dict n s.i s.r0) (b.getD s.i 0) s by rw [hm]; exact HST.out)
  rw [← hm] at hwl
  obtain ⟨m1, m2⟩ := m
  have HWL := Lib.hid (show m2 ≤ 273 ∧ (0 < m2 → m1 < s.i) from ⟨hwl.1, hwl.2 (by omega)⟩)
  clear h hc hi hq0 hpm hq1 ha hw1 hq hwl hm heb
  go_enter Try.func17, Try.ntmps17
  go_upto_region 1 with fail
  rw [← HW1.out, ← HQ.out]
  clear HW1
  go_wp2_with fail
  refine KE.out.mono ?_
  rintro x w2 ⟨rfl, k1, rfl⟩
  have hpm := HPM.out.drewN k1
  clear HPM KE
  generalize w1.drewN k1 = w2 at *
  obtain ⟨G2, cnt2, hf2, hc2, hnext⟩ := hpm.post
  have KL := Lib.hid (plongest_any (l := a2 + 2) hf2 hc2 (by omega) (by have := HA.out; omega))
  rw [← HM.out] at KL
  have e1 : IntKind.i64.wrap ((a2 : Int) + 2) = ((a2 + 2 : Nat) : Int) := by rw [IntWalk.i64_in _ (by have := HA.out; omega)]; omega
  have e1' : wrap64 ((a2 : Int) + 2) = ((a2 + 2 : Nat) : Int) := by rw [IntWalk.wrap64_in _ (by have := HA.out; omega)]; omega
  have HNX := Lib.hid hnext
  clear hpm hf2 hc2 hnext HM
  go_wp2_with fail
  refine KL.out.mono ?_
  rintro x w3 ⟨rfl, hp3⟩
  have HPM := Lib.hid (HNX.out w3 hp3)
  clear hp3 KL HNX e1 e1'
  have HST0 := HST
  clear HST
  by_cases hb1 : 2 < m2
  · have HC := Lib.hid (show 2 < m2 ∨ (m2 = 2 ∧ m1 < 128) from .inl hb1)
    have i1 : (2 : Int) < (m2 : Int) := by omega
    clear hb1
    obtain ⟨lv, av, hfq, hturn⟩ := HPM.out.turn
    have KP := Lib.hid (ppush_any (d := m1) hfq.f)
    have HTN := Lib.hid (fun (w4 : World) (hO : Only (fun i => i = g) w3 w4) (hB : Blk w4 g 57 (fCells A n c dict (s.come m1) lv av)) => hturn w4 (s.come m1) hO hB rfl ⟨by show m1 < _; have := HWL.out; have := HB.out; omega, HB.out.2.2.r0, HB.out.2.2.r1, HB.out.2.2.r2⟩)
    have e2 : IntKind.u32.wrap (m1 : Int) = (m1 : Int) := by have := HWL.out; have := HB.out; simp [IntKind.wrap, IntKind.bits, IntKind.signed]; omega
    clear hfq hturn HPM
    go_wp2_with fail
    refine KP.out.mono ?_
    rintro x w4 ⟨rfl, hO4, hB4⟩
    have HP4 := Lib.hid (HTN.out w4 hO4 hB4)
    clear KP HTN hO4 hB4
    have HST := Lib.hid (HP4.out.store (.int .i64 1) (.int .u8 0) (.int .i64 (m2 : Int)) (.int .u32 (m1 : Int)))
    have hbk := HP4.out.blk
    have u0c : w4.cell? ⟨q, 0, none⟩ = some (.int .i64 0) := hbk.cell 0
    have u0f := hbk.free 0
    have u1c : w4.cell? ⟨q, 1, none⟩ = some (.int .u8 0) := hbk.cell 1
    have u1f := hbk.free 1
    have u2c : w4.cell? ⟨q, 2, none⟩ = some (.int .i64 0) := hbk.cell 2
    have u2f := hbk.free 2
    have u3c : w4.cell? ⟨q, 3, none⟩ = some (.int .u32 0) := hbk.cell 3
    have u3f := hbk.free 3
    clear hbk
    go_wp2_with fail
    obtain ⟨hfp, hk⟩ := HST.out
    generalize (((w4.setCell ⟨q, 0, none⟩ (.int .i64 1)).setCell ⟨q, 1, none⟩ (.int .u8 0)).setCell ⟨q, 2, none⟩ (.int .i64 (m2 : Int))).setCell ⟨q, 3, none⟩ (.int .u32 (m1 : Int)) = w7 at *
    have k0 : w7.cell? ⟨q, 0, none⟩ = some (.int .i64 1) := hk.cell 0
    have k1 : w7.cell? ⟨q, 1, none⟩ = some (.int .u8 0) := hk.cell 1
    have k2 : w7.cell? ⟨q, 2, none⟩ = some (.int .i64 (m2 : Int)) := hk.cell 2
    have k3 : w7.cell? ⟨q, 3, none⟩ = some (.int .u32 (m1 : Int)) := hk.cell 3
    refine bodyPost_ret (v := .tuple #[.agg #[.int .i64 1, .int .u8 0, .int .i64 (m2 : Int), .int .u32 (m1 : Int)], .int .i64 (m2 : Int)]) (by simp [results, Try.results17, go_sem, k0, k1, k2, k3]) rfl ⟨_, _, s.come m1, m2, (show stepF b dict n s = (⟨1, 0, (m2 : Int), (m1 : Int)⟩, s.push m2 m1) by rw [HST0.out]; unfold stepH; rw [if_pos HC.out]), rfl, by first | rfl | exact bring_i s a1, rfl, hfp⟩
  by_cases hb2 : m2 = 2
  · by_cases hb3 : m1 < 128
    · have HC := Lib.hid (show 2 < m2 ∨ (m2 = 2 ∧ m1 < 128) from .inr ⟨hb2, hb3⟩)
      have i1 : ¬ (2 : Int) < (m2 : Int) := by omega
      have i2 : ((m2 : Int) == 2) = true := by simp [hb2]
      have i3 : (m1 : Int) < 128 := by omega
      clear hb1 hb2 hb3
      obtain ⟨lv, av, hfq, hturn⟩ := HPM.out.turn
      have KP := Lib.hid (ppush_any (d := m1) hfq.f)
      have HTN := Lib.hid (fun (w4 : World) (hO : Only (fun i => i = g) w3 w4) (hB : Blk w4 g 57 (fCells A n c dict (s.come m1) lv av)) => hturn w4 (s.come m1) hO hB rfl ⟨by show m1 < _; have := HWL.out; have := HB.out; omega, HB.out.2.2.r0, HB.out.2.2.r1, HB.out.2.2.r2⟩)
      have e2 : IntKind.u32.wrap (m1 : Int) = (m1 : Int) := by have := HWL.out; have := HB.out; simp [IntKind.wrap, IntKind.bits, IntKind.signed]; omega
      clear hfq hturn HPM
      go_wp2_with fail
      refine KP.out.mono ?_
      rintro x w4 ⟨rfl, hO4, hB4⟩
      have HP4 := Lib.hid (HTN.out w4 hO4 hB4)
      clear KP HTN hO4 hB4
      have HST := Lib.hid (HP4.out.store (.int .i64 1) (.int .u8 0) (.int .i64 (m2 : Int)) (.int .u32 (m1 : Int)))
      have hbk := HP4.out.blk
      have u0c : w4.cell? ⟨q, 0, none⟩ = some (.int .i64 0) := hbk.cell 0
      have u0f := hbk.free 0
      have u1c : w4.cell? ⟨q, 1, none⟩ = some (.int .u8 0) := hbk.cell 1
      have u1f := hbk.free 1
      have u2c : w4.cell? ⟨q, 2, none⟩ = some (.int .i64 0) := hbk.cell 2
      have u2f := hbk.free 2
      have u3c : w4.cell? ⟨q, 3, none⟩ = some (.int .u32 0) := hbk.cell 3
      have u3f := hbk.free 3
      clear hbk
      go_wp2_with fail
      obtain ⟨hfp, hk⟩ := HST.out
      generalize (((w4.setCell ⟨q, 0, none⟩ (.int .i64 1)).setCell ⟨q, 1, none⟩ (.int .u8 0)).setCell ⟨q, 2, none⟩ (.int .i64 (m2 : Int))).setCell ⟨q, 3, none⟩ (.int .u32 (m1 : Int)) = w7 at *
      have k0 : w7.cell? ⟨q, 0, none⟩ = some (.int .i64 1) := hk.cell 0
      have k1 : w7.cell? ⟨q, 1, none⟩ = some (.int .u8 0) := hk.cell 1
      have k2 : w7.cell? ⟨q, 2, none⟩ = some (.int .i64 (m2 : Int)) := hk.cell 2
      have k3 : w7.cell? ⟨q, 3, none⟩ = some (.int .u32 (m1 : Int)) := hk.cell 3
      refine bodyPost_ret (v := .tuple #[.agg #[.int .i64 1, .int .u8 0, .int .i64 (m2 : Int), .int .u32 (m1 : Int)], .int .i64 (m2 : Int)]) (by simp [results, Try.results17, go_sem, k0, k1, k2, k3]) rfl ⟨_, _, s.come m1, m2, (show stepF b dict n s = (⟨1, 0, (m2 : Int), (m1 : Int)⟩, s.push m2 m1) by rw [HST0.out]; unfold stepH; rw [if_pos HC.out]), rfl, by first | rfl | exact bring_i s a1, rfl, hfp⟩
    · have HC := Lib.hid (show ¬ (2 < m2 ∨ (m2 = 2 ∧ m1 < 128)) by omega)
      have i1 : ¬ (2 : Int) < (m2 : Int) := by omega
      have i2 : ((m2 : Int) == 2) = true := by simp [hb2]
      have i3 : ¬ (m1 : Int) < 128 := by omega
      clear hb1 hb2 hb3
      by_cases hb4 : 0 < a2
      · have i4 : (0 : Int) < (a2 : Int) := by omega
        obtain ⟨lv, av, hfq, hturn⟩ := HPM.out.turn
        have KP := Lib.hid (praise_any (j := a1) HA.out.1 hfq.f)
        have HTN := Lib.hid (fun (w4 : World) (hO : Only (fun i => i = g) w3 w4) (hB : Blk w4 g 57 (fCells A n c dict (s.bring a1) lv av)) => hturn w4 (s.bring a1) hO hB (bring_i s a1) (bring_lit HB.out.2.2 a1))
        have e2 : IntKind.i64.wrap (2 + (a1 : Int)) = 2 + (a1 : Int) := IntWalk.i64_in _ (by have := HA.out; omega)
        have e2' : wrap64 (2 + (a1 : Int)) = 2 + (a1 : Int) := IntWalk.wrap64_in _ (by have := HA.out; omega)
        have HC4 := Lib.hid hb4
        clear hfq hturn HPM hb4
        go_wp2_with fail
        refine KP.out.mono ?_
        rintro x w4 ⟨rfl, hO4, hB4⟩
        have HP4 := Lib.hid (HTN.out w4 hO4 hB4)
        clear KP HTN hO4 hB4
        have HST := Lib.hid (HP4.out.store (.int .i64 (2 + (a1 : Int))) (.int .u8 0) (.int .i64 (a2 : Int)) (.int .u32 0))
        have hbk := HP4.out.blk
        have u0c : w4.cell? ⟨q, 0, none⟩ = some (.int .i64 0) := hbk.cell 0
        have u0f := hbk.free 0
        have u1c : w4.cell? ⟨q, 1, none⟩ = some (.int .u8 0) := hbk.cell 1
        have u1f := hbk.free 1
        have u2c : w4.cell? ⟨q, 2, none⟩ = some (.int .i64 0) := hbk.cell 2
        have u2f := hbk.free 2
        have u3c : w4.cell? ⟨q, 3, none⟩ = some (.int .u32 0) := hbk.cell 3
        have u3f := hbk.free 3
        clear hbk
        go_wp2_with fail
        obtain ⟨hfp, hk⟩ := HST.out
        generalize (((w4.setCell ⟨q, 0, none⟩ (.int .i64 (2 + (a1 : Int)))).setCell ⟨q, 1, none⟩ (.int .u8 0)).setCell ⟨q, 2, none⟩ (.int .i64 (a2 : Int))).setCell ⟨q, 3, none⟩ (.int .u32 0) = w7 at *
        have k0 : w7.cell? ⟨q, 0, none⟩ = some (.int .i64 (2 + (a1 : Int))) := hk.cell 0
        have k1 : w7.cell? ⟨q, 1, none⟩ = some (.int .u8 0) := hk.cell 1
        have k2 : w7.cell? ⟨q, 2, none⟩ = some (.int .i64 (a2 : Int)) := hk.cell 2
        have k3 : w7.cell? ⟨q, 3, none⟩ = some (.int .u32 0) := hk.cell 3
        refine bodyPost_ret (v := .tuple #[.agg #[.int .i64 (2 + (a1 : Int)), .int .u8 0, .int .i64 (a2 : Int), .int .u32 0], .int .i64 (a2 : Int)]) (by simp [results, Try.results17, go_sem, k0, k1, k2, k3]) rfl ⟨_, _, s.bring a1, a2, (show stepF b dict n s = (⟨2 + (a1 : Int), 0, (a2 : Int), 0⟩, s.raise a2 a1) by rw [HST0.out]; unfold stepH; rw [if_neg HC.out, if_pos (show 0 < a2 from HC4.out)]), (bring_raise s a2 a1), by first | rfl | exact bring_i s a1, rfl, hfp⟩
      · have i4 : ¬ (0 : Int) < (a2 : Int) := by omega
        obtain ⟨lv, av, hfq, _⟩ := HPM.out.turn
        have c3 := hfq.c3
        have e2 : IntKind.i64.wrap (s.r0 : Int) = (s.r0 : Int) := IntWalk.i64_in _ (by have := HB.out.2.2.r0; omega)
        have KC := Lib.hid (pcopied_any (d := s.r0) hfq HB.out.2.2.r0)
        obtain ⟨cp, hcp⟩ : ∃ cp, cp = cpN b dict n s.i s.r0 := ⟨_, rfl⟩
        rw [← hcp] at KC HST0
        have HC4 := Lib.hid hb4
        clear hfq hb4 hcp
        by_cases hb5 : 0 < cp
        · have i5 : (0 : Int) < (cp : Int) := by omega
          have HC5 := Lib.hid hb5
          clear hb5
          go_wp2_with fail
          refine KC.out.mono ?_
          rintro x w4 ⟨rfl, k4, rfl⟩
          have HP4 := Lib.hid (HPM.out.drewN k4)
          clear KC HPM c3
          generalize w3.drewN k4 = w4 at *
          have HST := Lib.hid (HP4.out.store (.int .i64 6) (.int .u8 0) (.int .i64 0) (.int .u32 0))
          have hbk := HP4.out.blk
          have u0c : w4.cell? ⟨q, 0, none⟩ = some (.int .i64 0) := hbk.cell 0
          have u0f := hbk.free 0
          have u1c : w4.cell? ⟨q, 1, none⟩ = some (.int .u8 0) := hbk.cell 1
          have u1f := hbk.free 1
          have u2c : w4.cell? ⟨q, 2, none⟩ = some (.int .i64 0) := hbk.cell 2
          have u2f := hbk.free 2
          have u3c : w4.cell? ⟨q, 3, none⟩ = some (.int .u32 0) := hbk.cell 3
          have u3f := hbk.free 3
          clear hbk
          go_wp2_with fail
          obtain ⟨hfp, hk⟩ := HST.out
          generalize (((w4.setCell ⟨q, 0, none⟩ (.int .i64 6)).setCell ⟨q, 1, none⟩ (.int .u8 0)).setCell ⟨q, 2, none⟩ (.int .i64 0)).setCell ⟨q, 3, none⟩ (.int .u32 0) = w7 at *
          have k0 : w7.cell? ⟨q, 0, none⟩ = some (.int .i64 6) := hk.cell 0
          have k1 : w7.cell? ⟨q, 1, none⟩ = some (.int .u8 0) := hk.cell 1
          have k2 : w7.cell? ⟨q, 2, none⟩ = some (.int .i64 0) := hk.cell 2
          have k3 : w7.cell? ⟨q, 3, none⟩ = some (.int .u32 0) := hk.cell 3
          refine bodyPost_ret (v := .tuple #[.agg #[.int .i64 6, .int .u8 0, .int .i64 0, .int .u32 0], .int .i64 (1 : Int)]) (by simp [results, Try.results17, go_sem, k0, k1, k2, k3]) rfl ⟨_, _, s, 1, (show stepF b dict n s = (⟨6, 0, 0, 0⟩, s.on) by rw [HST0.out]; unfold stepH; rw [if_neg HC.out, if_neg (show ¬ 0 < a2 from HC4.out), if_pos HC5.out]), rfl, by first | rfl | exact bring_i s a1, rfl, hfp⟩
        · have i5 : ¬ (0 : Int) < (cp : Int) := by omega
          have HC5 := Lib.hid hb5
          clear hb5
          go_wp2_with fail
          refine KC.out.mono ?_
          rintro x w4 ⟨rfl, k4, rfl⟩
          have HP4 := Lib.hid (HPM.out.drewN k4)
          clear KC HPM c3
          generalize w3.drewN k4 = w4 at *
          obtain ⟨lv, av, hfq, _⟩ := HP4.out.turn
          obtain ⟨ba, oa, rfl, hba, hca⟩ := hfq.sl.2 (by have := HB.out; omega)
          have hbl := hfq.len
          have k1' : w4.cell? ⟨ba, oa + s.i, none⟩ = some (.int .u8 ((b.getD s.i 0).toNat : Int)) := by rw [hca s.i HB.out.2.1, bv_get b _ (by have := HB.out; omega)]
          have c0 := hfq.c0
          have c1 := hfq.c1
          have b1 : (0 : Int) ≤ (s.i : Int) := by omega
          have b2 : (s.i : Int) < (n : Int) := by have := HB.out; omega
          generalize hy : b.getD s.i 0 = y at *
          have HY := Lib.hid hy
          clear hfq hca hba hbl hy
          have HST := Lib.hid (HP4.out.store (.int .i64 0) (.int .u8 (y.toNat : Int)) (.int .i64 0) (.int .u32 0))
          have hbk := HP4.out.blk
          have u0c : w4.cell? ⟨q, 0, none⟩ = some (.int .i64 0) := hbk.cell 0
          have u0f := hbk.free 0
          have u1c : w4.cell? ⟨q, 1, none⟩ = some (.int .u8 0) := hbk.cell 1
          have u1f := hbk.free 1
          have u2c : w4.cell? ⟨q, 2, none⟩ = some (.int .i64 0) := hbk.cell 2
          have u2f := hbk.free 2
          have u3c : w4.cell? ⟨q, 3, none⟩ = some (.int .u32 0) := hbk.cell 3
          have u3f := hbk.free 3
          clear hbk
          go_wp2_with fail
          go_region
          all_goals
            go_wp2_with fail
            obtain ⟨hfp, hk⟩ := HST.out
            generalize (((w4.setCell ⟨q, 0, none⟩ (.int .i64 0)).setCell ⟨q, 1, none⟩ (.int .u8 (y.toNat : Int))).setCell ⟨q, 2, none⟩ (.int .i64 0)).setCell ⟨q, 3, none⟩ (.int .u32 0) = w7 at *
            have k0 : w7.cell? ⟨q, 0, none⟩ = some (.int .i64 0) := hk.cell 0
            have k1 : w7.cell? ⟨q, 1, none⟩ = some (.int .u8 (y.toNat : Int)) := hk.cell 1
            have k2 : w7.cell? ⟨q, 2, none⟩ = some (.int .i64 0) := hk.cell 2
            have k3 : w7.cell? ⟨q, 3, none⟩ = some (.int .u32 0) := hk.cell 3
            refine bodyPost_ret (v := .tuple #[.agg #[.int .i64 0, .int .u8 (y.toNat : Int), .int .i64 0, .int .u32 0], .int .i64 (1 : Int)]) (by simp [results, Try.results17, go_sem, k0, k1, k2, k3]) rfl ⟨_, _, s, 1, (show stepF b dict n s = (⟨0, (y.toNat : Int), 0, 0⟩, s.on) by rw [HST0.out]; unfold stepH; rw [if_neg HC.out, if_neg (show ¬ 0 < a2 from HC4.out), if_neg HC5.out]), rfl, by first | rfl | exact bring_i s a1, rfl, hfp.drewN 1⟩
  · have HC := Lib.hid (show ¬ (2 < m2 ∨ (m2 = 2 ∧ m1 < 128)) by omega)
    have i1 : ¬ (2 : Int) < (m2 : Int) := by omega
    have i2 : ((m2 : Int) == 2) = false := by simp; omega
    clear hb1 hb2
    by_cases hb4 : 0 < a2
    · have i4 : (0 : Int) < (a2 : Int) := by omega
      obtain ⟨lv, av, hfq, hturn⟩ := HPM.out.turn
      have KP := Lib.hid (praise_any (j := a1) HA.out.1 hfq.f)
      have HTN := Lib.hid (fun (w4 : World) (hO : Only (fun i => i = g) w3 w4) (hB : Blk w4 g 57 (fCells A n c dict (s.bring a1) lv av)) => hturn w4 (s.bring a1) hO hB (bring_i s a1) (bring_lit HB.out.2.2 a1))
      have e2 : IntKind.i64.wrap (2 + (a1 : Int)) = 2 + (a1 : Int) := IntWalk.i64_in _ (by have := HA.out; omega)
      have e2' : wrap64 (2 + (a1 : Int)) = 2 + (a1 : Int) := IntWalk.wrap64_in _ (by have := HA.out; omega)
      have HC4 := Lib.hid hb4
      clear hfq hturn HPM hb4
      go_wp2_with fail
      refine KP.out.mono ?_
      rintro x w4 ⟨rfl, hO4, hB4⟩
      have HP4 := Lib.hid (HTN.out w4 hO4 hB4)
      clear KP HTN hO4 hB4
      have HST := Lib.hid (HP4.out.store (.int .i64 (2 + (a1 : Int))) (.int .u8 0) (.int .i64 (a2 : Int)) (.int .u32 0))
      have hbk := HP4.out.blk
      have u0c : w4.cell? ⟨q, 0, none⟩ = some (.int .i64 0) := hbk.cell 0
      have u0f := hbk.free 0
      have u1c : w4.cell? ⟨q, 1, none⟩ = some (.int .u8 0) := hbk.cell 1
      have u1f := hbk.free 1
      have u2c : w4.cell? ⟨q, 2, none⟩ = some (.int .i64 0) := hbk.cell 2
      have u2f := hbk.free 2
      have u3c : w4.cell? ⟨q, 3, none⟩ = some (.int .u32 0) := hbk.cell 3
      have u3f := hbk.free 3
      clear hbk
      go_wp2_with fail
      obtain ⟨hfp, hk⟩ := HST.out
      generalize (((w4.setCell ⟨q, 0, none⟩ (.int .i64 (2 + (a1 : Int)))).setCell ⟨q, 1, none⟩ (.int .u8 0)).setCell ⟨q, 2, none⟩ (.int .i64 (a2 : Int))).setCell ⟨q, 3, none⟩ (.int .u32 0) = w7 at *
      have k0 : w7.cell? ⟨q, 0, none⟩ = some (.int .i64 (2 + (a1 : Int))) := hk.cell 0
      have k1 : w7.cell? ⟨q, 1, none⟩ = some (.int .u8 0) := hk.cell 1
      have k2 : w7.cell? ⟨q, 2, none⟩ = some (.int .i64 (a2 : Int)) := hk.cell 2
      have k3 : w7.cell? ⟨q, 3, none⟩ = some (.int .u32 0) := hk.cell 3
      refine bodyPost_ret (v := .tuple #[.agg #[.int .i64 (2 + (a1 : Int)), .int .u8 0, .int .i64 (a2 : Int), .int .u32 0], .int .i64 (a2 : Int)]) (by simp [results, Try.results17, go_sem, k0, k1, k2, k3]) rfl ⟨_, _, s.bring a1, a2, (show stepF b dict n s = (⟨2 + (a1 : Int), 0, (a2 : Int), 0⟩, s.raise a2 a1) by rw [HST0.out]; unfold stepH; rw [if_neg HC.out, if_pos (show 0 < a2 from HC4.out)]), (bring_raise s a2 a1), by first | rfl | exact bring_i s a1, rfl, hfp⟩
    · have i4 : ¬ (0 : Int) < (a2 : Int) := by omega
      obtain ⟨lv, av, hfq, _⟩ := HPM.out.turn
      have c3 := hfq.c3
      have e2 : IntKind.i64.wrap (s.r0 : Int) = (s.r0 : Int) := IntWalk.i64_in _ (by have := HB.out.2.2.r0; omega)
      have KC := Lib.hid (pcopied_any (d := s.r0) hfq HB.out.2.2.r0)
      obtain ⟨cp, hcp⟩ : ∃ cp, cp = cpN b dict n s.i s.r0 := ⟨_, rfl⟩
      rw [← hcp] at KC HST0
      have HC4 := Lib.hid hb4
      clear hfq hb4 hcp
      by_cases hb5 : 0 < cp
      · have i5 : (0 : Int) < (cp : Int) := by omega
        have HC5 := Lib.hid hb5
        clear hb5
        go_wp2_with fail
        refine KC.out.mono ?_
        rintro x w4 ⟨rfl, k4, rfl⟩
        have HP4 := Lib.hid (HPM.out.drewN k4)
        clear KC HPM c3
        generalize w3.drewN k4 = w4 at *
        have HST := Lib.hid (HP4.out.store (.int .i64 6) (.int .u8 0) (.int .i64 0) (.int .u32 0))
        have hbk := HP4.out.blk
        have u0c : w4.cell? ⟨q, 0, none⟩ = some (.int .i64 0) := hbk.cell 0
        have u0f := hbk.free 0
        have u1c : w4.cell? ⟨q, 1, none⟩ = some (.int .u8 0) := hbk.cell 1
        have u1f := hbk.free 1
        have u2c : w4.cell? ⟨q, 2, none⟩ = some (.int .i64 0) := hbk.cell 2
        have u2f := hbk.free 2
        have u3c : w4.cell? ⟨q, 3, none⟩ = some (.int .u32 0) := hbk.cell 3
        have u3f := hbk.free 3
        clear hbk
        go_wp2_with fail
        obtain ⟨hfp, hk⟩ := HST.out
        generalize (((w4.setCell ⟨q, 0, none⟩ (.int .i64 6)).setCell ⟨q, 1, none⟩ (.int .u8 0)).setCell ⟨q, 2, none⟩ (.int .i64 0)).setCell ⟨q, 3, none⟩ (.int .u32 0) = w7 at *
        have k0 : w7.cell? ⟨q, 0, none⟩ = some (.int .i64 6) := hk.cell 0
        have k1 : w7.cell? ⟨q, 1, none⟩ = some (.int .u8 0) := hk.cell 1
        have k2 : w7.cell? ⟨q, 2, none⟩ = some (.int .i64 0) := hk.cell 2
        have k3 : w7.cell? ⟨q, 3, none⟩ = some (.int .u32 0) := hk.cell 3
        refine bodyPost_ret (v := .tuple #[.agg #[.int .i64 6, .int .u8 0, .int .i64 0, .int .u32 0], .int .i64 (1 : Int)]) (by simp [results, Try.results17, go_sem, k0, k1, k2, k3]) rfl ⟨_, _, s, 1, (show stepF b dict n s = (⟨6, 0, 0, 0⟩, s.on) by rw [HST0.out]; unfold stepH; rw [if_neg HC.out, if_neg (show ¬ 0 < a2 from HC4.out), if_pos HC5.out]), rfl, by first | rfl | exact bring_i s a1, rfl, hfp⟩
      · have i5 : ¬ (0 : Int) < (cp : Int) := by omega
        have HC5 := Lib.hid hb5
        clear hb5
        go_wp2_with fail
        refine KC.out.mono ?_
        rintro x w4 ⟨rfl, k4, rfl⟩
        have HP4 := Lib.hid (HPM.out.drewN k4)
        clear KC HPM c3
        generalize w3.drewN k4 = w4 at *
        obtain ⟨lv, av, hfq, _⟩ := HP4.out.turn
        obtain ⟨ba, oa, rfl, hba, hca⟩ := hfq.sl.2 (by have := HB.out; omega)
        have hbl := hfq.len
        have k1' : w4.cell? ⟨ba, oa + s.i, none⟩ = some (.int .u8 ((b.getD s.i 0).toNat : Int)) := by rw [hca s.i HB.out.2.1, bv_get b _ (by have := HB.out; omega)]
        have c0 := hfq.c0
        have c1 := hfq.c1
        have b1 : (0 : Int) ≤ (s.i : Int) := by omega
        have b2 : (s.i : Int) < (n : Int) := by have := HB.out; omega
        generalize hy : b.getD s.i 0 = y at *
        have HY := Lib.hid hy
        clear hfq hca hba hbl hy
        have HST := Lib.hid (HP4.out.store (.int .i64 0) (.int .u8 (y.toNat : Int)) (.int .i64 0) (.int .u32 0))
        have hbk := HP4.out.blk
        have u0c : w4.cell? ⟨q, 0, none⟩ = some (.int .i64 0) := hbk.cell 0
        have u0f := hbk.free 0
        have u1c : w4.cell? ⟨q, 1, none⟩ = some (.int .u8 0) := hbk.cell 1
        have u1f := hbk.free 1
        have u2c : w4.cell? ⟨q, 2, none⟩ = some (.int .i64 0) := hbk.cell 2
        have u2f := hbk.free 2
        have u3c : w4.cell? ⟨q, 3, none⟩ = some (.int .u32 0) := hbk.cell 3
        have u3f := hbk.free 3
        clear hbk
        go_wp2_with fail
        go_region
        all_goals
          go_wp2_with fail
          obtain ⟨hfp, hk⟩ := HST.out
          generalize (((w4.setCell ⟨q, 0, none⟩ (.int .i64 0)).setCell ⟨q, 1, none⟩ (.int .u8 (y.toNat : Int))).setCell ⟨q, 2, none⟩ (.int .i64 0)).setCell ⟨q, 3, none⟩ (.int .u32 0) = w7 at *
          have k0 : w7.cell? ⟨q, 0, none⟩ = some (.int .i64 0) := hk.cell 0
          have k1 : w7.cell? ⟨q, 1, none⟩ = some (.int .u8 (y.toNat : Int)) := hk.cell 1
          have k2 : w7.cell? ⟨q, 2, none⟩ = some (.int .i64 0) := hk.cell 2
          have k3 : w7.cell? ⟨q, 3, none⟩ = some (.int .u32 0) := hk.cell 3
          refine bodyPost_ret (v := .tuple #[.agg #[.int .i64 0, .int .u8 (y.toNat : Int), .int .i64 0, .int .u32 0], .int .i64 (1 : Int)]) (by simp [results, Try.results17, go_sem, k0, k1, k2, k3]) rfl ⟨_, _, s, 1, (show stepF b dict n s = (⟨0, (y.toNat : Int), 0, 0⟩, s.on) by rw [HST0.out]; unfold stepH; rw [if_neg HC.out, if_neg (show ¬ 0 < a2 from HC4.out), if_neg HC5.out]), rfl, by first | rfl | exact bring_i s a1, rfl, hfp.drewN 1⟩
end
end Go.Proofs.Ytpbjkiejegpbcaa
