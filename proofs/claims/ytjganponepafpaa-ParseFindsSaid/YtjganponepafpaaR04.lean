/-
  PsPkt, AppFour, CdList, PsFl, PsRf, PsFind: put together.
-/
import Derived.Test.YtjganponepafpaaR03
import Derived.Test.YtjganponepafpaaR01
import Derived.Deep.RegionLaw
import Derived.Deep.RegionHeld3
import Derived.Deep.Cut
set_option linter.unusedVariables false
set_option linter.unusedSimpArgs false
/-
  The program's finder: the packet at a place: the walk.
-/
namespace Go.Proofs.Ytjganponepafpaa
open Go.RowKit
section
variable {w : World} {g : Nat} {G : Nat → Prop} {A : Option Addr} {n c dict : Nat} {b : List UInt8} {s : Ps} {cnt : Nat}
theorem eld2_lt : (eld2 b dict n s).1 < 4 ∧ (eld2 b dict n s).2 ≤ 273 := by
  rw [eld2_is]
  have := eld_lt (b := b) (dict := dict) (e := n) (s := s)
  have := eld_le (b := b) (dict := dict) (e := n) (s := s)
  split
  · exact ⟨by omega, by omega⟩
  · exact ⟨by decide, by decide⟩
theorem worth_le {l : Nat} : (worth b dict n s l).2 ≤ 273 ∧ (0 < l → 0 < (worth b dict n s l).2 → (worth b dict n s l).1 < s.i) := by
  have := lon_le (b := b) (dict := dict) (e := n) (s := s)
  unfold worth
  split
  · refine ⟨by omega, fun _ h => ?_⟩
    have := lon_lt (b := b) (dict := dict) (e := n) (s := s) h
    omega
  · exact ⟨by decide, fun _ h => absurd h (by decide)⟩
set_option maxRecDepth 100000 in
set_option maxHeartbeats 16000000 in
theorem ppacket_any (h : Fd w g G A n c dict b s cnt) (hc : cnt ≤ s.i) (hi : s.i < n) :
    Calls Try.prog 12 #[.pointer (some ⟨g, 0, none⟩)] w (PktPost w g G A n c dict b s) := by
  obtain ⟨lv0, av0, hq0⟩ := h.fq
  have HB := Lib.hid (show n ≤ 1000000000 ∧ s.i < n ∧ s.Lit from ⟨hq0.n1, hi, hq0.lit⟩)
  obtain ⟨w1, hw1⟩ : ∃ w1, w1 = w.alloc (.cells #[.int .i64 0, .int .u8 0, .int .i64 0, .int .u32 0] 42) := ⟨_, rfl⟩
  have hpm : Pmid w w.heap.size g G A n c dict b s w1 := by rw [hw1]; exact Pmid.start h hc
  obtain ⟨q, hq⟩ : ∃ q, q = w.heap.size := ⟨_, rfl⟩
  rw [← hq] at hpm
  have HQ := Lib.hid hq
  have HPM := Lib.hid hpm
  obtain ⟨lv1, av1, hq1, _⟩ := hpm.turn
  have KE := Lib.hid (pelder_any hq1)
  have HST := Lib.hid (step_prog (b := b) (dict := dict) (e := n) (s := s))
  have heb := eld2_lt (b := b) (dict := dict) (n := n) (s := s)
  obtain ⟨a, ha⟩ : ∃ a, a = eld2 b dict n s := ⟨_, rfl⟩
  rw [← ha] at KE HST heb
  obtain ⟨a1, a2⟩ := a
  have HA := Lib.hid (show a1 < 4 ∧ a2 ≤ 273 from heb)
  have HW1 := Lib.hid hw1
  have hwl := worth_le (b := b) (dict := dict) (n := n) (s := s) (l := a2 + 2)
  obtain ⟨m, hm⟩ : ∃ m, m = worth b dict n s (a2 + 2) := ⟨_, rfl⟩
  have HM := Lib.hid hm
  have HST := Lib.hid (show stepF b dict n s = stepH (a1, a2) m (cpN b dict n s.i s.r0) (b.getD s.i 0) s by rw [hm]; exact HST.out)
  rw [← hm] at hwl
  obtain ⟨m1, m2⟩ := m
  have HWL := Lib.hid (show m2 ≤ 273 ∧ (0 < m2 → m1 < s.i) from ⟨hwl.1, hwl.2 (by omega)⟩)
  clear h hc hi hq0 hpm hq1 ha hw1 hq hwl hm heb
  go_enter Try.func12, Try.ntmps12
  go_upto_region 1 with fail
  rw [← HW1.out, ← HQ.out]
  clear HW1
  go_wp2_with fail
  refine KE.out.mono ?_
  rintro x w2 ⟨rfl, k1, rfl⟩
  have hpm := HPM.out.drewN k1
  clear HPM KE
  generalize w1.drewN k1 = w2 at *
  obtain ⟨G2, cnt2, hf2, hc2, hnext⟩ := hpm.post
  have KL := Lib.hid (plongest_any (l := a2 + 2) hf2 hc2 (by omega) (by have := HA.out; omega))
  rw [← HM.out] at KL
  have e1 : IntKind.i64.wrap ((a2 : Int) + 2) = ((a2 + 2 : Nat) : Int) := by rw [IntWalk.i64_in _ (by have := HA.out; omega)]; omega
  have e1' : wrap64 ((a2 : Int) + 2) = ((a2 + 2 : Nat) : Int) := by rw [IntWalk.wrap64_in _ (by have := HA.out; omega)]; omega
  have HNX := Lib.hid hnext
  clear hpm hf2 hc2 hnext HM
  go_wp2_with fail
  refine KL.out.mono ?_
  rintro x w3 ⟨rfl, hp3⟩
  have HPM := Lib.hid (HNX.out w3 hp3)
  clear hp3 KL HNX e1 e1'
  have HST0 := HST
  clear HST
  by_cases hb1 : 2 < m2
  · have HC := Lib.hid (show 2 < m2 ∨ (m2 = 2 ∧ m1 < 128) from .inl hb1)
    have i1 : (2 : Int) < (m2 : Int) := by omega
    clear hb1
    obtain ⟨lv, av, hfq, hturn⟩ := HPM.out.turn
    have KP := Lib.hid (ppush_any (d := m1) hfq.f)
    have HTN := Lib.hid (fun (w4 : World) (hO : Only (fun i => i = g) w3 w4) (hB : Blk w4 g 49 (fCells A n c dict (s.come m1) lv av)) => hturn w4 (s.come m1) hO hB rfl ⟨by show m1 < _; have := HWL.out; have := HB.out; omega, HB.out.2.2.r0, HB.out.2.2.r1, HB.out.2.2.r2⟩)
    have e2 : IntKind.u32.wrap (m1 : Int) = (m1 : Int) := by have := HWL.out; have := HB.out; simp [IntKind.wrap, IntKind.bits, IntKind.signed]; omega
    clear hfq hturn HPM
    go_wp2_with fail
    refine KP.out.mono ?_
    rintro x w4 ⟨rfl, hO4, hB4⟩
    have HP4 := Lib.hid (HTN.out w4 hO4 hB4)
    clear KP HTN hO4 hB4
    have HST := Lib.hid (HP4.out.store (.int .i64 1) (.int .u8 0) (.int .i64 (m2 : Int)) (.int .u32 (m1 : Int)))
    have hbk := HP4.out.blk
    have u0c : w4.cell? ⟨q, 0, none⟩ = some (.int .i64 0) := hbk.cell 0
    have u0f := hbk.free 0
    have u1c : w4.cell? ⟨q, 1, none⟩ = some (.int .u8 0) := hbk.cell 1
    have u1f := hbk.free 1
    have u2c : w4.cell? ⟨q, 2, none⟩ = some (.int .i64 0) := hbk.cell 2
    have u2f := hbk.free 2
    have u3c : w4.cell? ⟨q, 3, none⟩ = some (.int .u32 0) := hbk.cell 3
    have u3f := hbk.free 3
    clear hbk
    go_wp2_with fail
    obtain ⟨hfp, hk⟩ := HST.out
    generalize (((w4.setCell ⟨q, 0, none⟩ (.int .i64 1)).setCell ⟨q, 1, none⟩ (.int .u8 0)).setCell ⟨q, 2, none⟩ (.int .i64 (m2 : Int))).setCell ⟨q, 3, none⟩ (.int .u32 (m1 : Int)) = w7 at *
    have k0 : w7.cell? ⟨q, 0, none⟩ = some (.int .i64 1) := hk.cell 0
    have k1 : w7.cell? ⟨q, 1, none⟩ = some (.int .u8 0) := hk.cell 1
    have k2 : w7.cell? ⟨q, 2, none⟩ = some (.int .i64 (m2 : Int)) := hk.cell 2
    have k3 : w7.cell? ⟨q, 3, none⟩ = some (.int .u32 (m1 : Int)) := hk.cell 3
    refine bodyPost_ret (v := .tuple #[.agg #[.int .i64 1, .int .u8 0, .int .i64 (m2 : Int), .int .u32 (m1 : Int)], .int .i64 (m2 : Int)]) (by simp [results, Try.results12, go_sem, k0, k1, k2, k3]) rfl ⟨_, _, s.come m1, m2, (show stepF b dict n s = (⟨1, 0, (m2 : Int), (m1 : Int)⟩, s.push m2 m1) by rw [HST0.out]; unfold stepH; rw [if_pos HC.out]), rfl, by first | rfl | exact bring_i s a1, rfl, hfp⟩
  by_cases hb2 : m2 = 2
  · by_cases hb3 : m1 < 128
    · have HC := Lib.hid (show 2 < m2 ∨ (m2 = 2 ∧ m1 < 128) from .inr ⟨hb2, hb3⟩)
      have i1 : ¬ (2 : Int) < (m2 : Int) := by omega
      have i2 : ((m2 : Int) == 2) = true := by simp [hb2]
      have i3 : (m1 : Int) < 128 := by omega
      clear hb1 hb2 hb3
      obtain ⟨lv, av, hfq, hturn⟩ := HPM.out.turn
      have KP := Lib.hid (ppush_any (d := m1) hfq.f)
      have HTN := Lib.hid (fun (w4 : World) (hO : Only (fun i => i = g) w3 w4) (hB : Blk w4 g 49 (fCells A n c dict (s.come m1) lv av)) => hturn w4 (s.come m1) hO hB rfl ⟨by show m1 < _; have := HWL.out; have := HB.out; omega, HB.out.2.2.r0, HB.out.2.2.r1, HB.out.2.2.r2⟩)
      have e2 : IntKind.u32.wrap (m1 : Int) = (m1 : Int) := by have := HWL.out; have := HB.out; simp [IntKind.wrap, IntKind.bits, IntKind.signed]; omega
      clear hfq hturn HPM
      go_wp2_with fail
      refine KP.out.mono ?_
      rintro x w4 ⟨rfl, hO4, hB4⟩
      have HP4 := Lib.hid (HTN.out w4 hO4 hB4)
      clear KP HTN hO4 hB4
      have HST := Lib.hid (HP4.out.store (.int .i64 1) (.int .u8 0) (.int .i64 (m2 : Int)) (.int .u32 (m1 : Int)))
      have hbk := HP4.out.blk
      have u0c : w4.cell? ⟨q, 0, none⟩ = some (.int .i64 0) := hbk.cell 0
      have u0f := hbk.free 0
      have u1c : w4.cell? ⟨q, 1, none⟩ = some (.int .u8 0) := hbk.cell 1
      have u1f := hbk.free 1
      have u2c : w4.cell? ⟨q, 2, none⟩ = some (.int .i64 0) := hbk.cell 2
      have u2f := hbk.free 2
      have u3c : w4.cell? ⟨q, 3, none⟩ = some (.int .u32 0) := hbk.cell 3
      have u3f := hbk.free 3
      clear hbk
      go_wp2_with fail
      obtain ⟨hfp, hk⟩ := HST.out
      generalize (((w4.setCell ⟨q, 0, none⟩ (.int .i64 1)).setCell ⟨q, 1, none⟩ (.int .u8 0)).setCell ⟨q, 2, none⟩ (.int .i64 (m2 : Int))).setCell ⟨q, 3, none⟩ (.int .u32 (m1 : Int)) = w7 at *
      have k0 : w7.cell? ⟨q, 0, none⟩ = some (.int .i64 1) := hk.cell 0
      have k1 : w7.cell? ⟨q, 1, none⟩ = some (.int .u8 0) := hk.cell 1
      have k2 : w7.cell? ⟨q, 2, none⟩ = some (.int .i64 (m2 : Int)) := hk.cell 2
      have k3 : w7.cell? ⟨q, 3, none⟩ = some (.int .u32 (m1 : Int)) := hk.cell 3
      refine bodyPost_ret (v := .tuple #[.agg #[.int .i64 1, .int .u8 0, .int .i64 (m2 : Int), .int .u32 (m1 : Int)], .int .i64 (m2 : Int)]) (by simp [results, Try.results12, go_sem, k0, k1, k2, k3]) rfl ⟨_, _, s.come m1, m2, (show stepF b dict n s = (⟨1, 0, (m2 : Int), (m1 : Int)⟩, s.push m2 m1) by rw [HST0.out]; unfold stepH; rw [if_pos HC.out]), rfl, by first | rfl | exact bring_i s a1, rfl, hfp⟩
    · have HC := Lib.hid (show ¬ (2 < m2 ∨ (m2 = 2 ∧ m1 < 128)) by omega)
      have i1 : ¬ (2 : Int) < (m2 : Int) := by omega
      have i2 : ((m2 : Int) == 2) = true := by simp [hb2]
      have i3 : ¬ (m1 : Int) < 128 := by omega
      clear hb1 hb2 hb3
      by_cases hb4 : 0 < a2
      · have i4 : (0 : Int) < (a2 : Int) := by omega
        obtain ⟨lv, av, hfq, hturn⟩ := HPM.out.turn
        have KP := Lib.hid (praise_any (j := a1) HA.out.1 hfq.f)
        have HTN := Lib.hid (fun (w4 : World) (hO : Only (fun i => i = g) w3 w4) (hB : Blk w4 g 49 (fCells A n c dict (s.bring a1) lv av)) => hturn w4 (s.bring a1) hO hB (bring_i s a1) (bring_lit HB.out.2.2 a1))
        have e2 : IntKind.i64.wrap (2 + (a1 : Int)) = 2 + (a1 : Int) := IntWalk.i64_in _ (by have := HA.out; omega)
        have e2' : wrap64 (2 + (a1 : Int)) = 2 + (a1 : Int) := IntWalk.wrap64_in _ (by have := HA.out; omega)
        have HC4 := Lib.hid hb4
        clear hfq hturn HPM hb4
        go_wp2_with fail
        refine KP.out.mono ?_
        rintro x w4 ⟨rfl, hO4, hB4⟩
        have HP4 := Lib.hid (HTN.out w4 hO4 hB4)
        clear KP HTN hO4 hB4
        have HST := Lib.hid (HP4.out.store (.int .i64 (2 + (a1 : Int))) (.int .u8 0) (.int .i64 (a2 : Int)) (.int .u32 0))
        have hbk := HP4.out.blk
        have u0c : w4.cell? ⟨q, 0, none⟩ = some (.int .i64 0) := hbk.cell 0
        have u0f := hbk.free 0
        have u1c : w4.cell? ⟨q, 1, none⟩ = some (.int .u8 0) := hbk.cell 1
        have u1f := hbk.free 1
        have u2c : w4.cell? ⟨q, 2, none⟩ = some (.int .i64 0) := hbk.cell 2
        have u2f := hbk.free 2
        have u3c : w4.cell? ⟨q, 3, none⟩ = some (.int .u32 0) := hbk.cell 3
        have u3f := hbk.free 3
        clear hbk
        go_wp2_with fail
        obtain ⟨hfp, hk⟩ := HST.out
        generalize (((w4.setCell ⟨q, 0, none⟩ (.int .i64 (2 + (a1 : Int)))).setCell ⟨q, 1, none⟩ (.int .u8 0)).setCell ⟨q, 2, none⟩ (.int .i64 (a2 : Int))).setCell ⟨q, 3, none⟩ (.int .u32 0) = w7 at *
        have k0 : w7.cell? ⟨q, 0, none⟩ = some (.int .i64 (2 + (a1 : Int))) := hk.cell 0
        have k1 : w7.cell? ⟨q, 1, none⟩ = some (.int .u8 0) := hk.cell 1
        have k2 : w7.cell? ⟨q, 2, none⟩ = some (.int .i64 (a2 : Int)) := hk.cell 2
        have k3 : w7.cell? ⟨q, 3, none⟩ = some (.int .u32 0) := hk.cell 3
        refine bodyPost_ret (v := .tuple #[.agg #[.int .i64 (2 + (a1 : Int)), .int .u8 0, .int .i64 (a2 : Int), .int .u32 0], .int .i64 (a2 : Int)]) (by simp [results, Try.results12, go_sem, k0, k1, k2, k3]) rfl ⟨_, _, s.bring a1, a2, (show stepF b dict n s = (⟨2 + (a1 : Int), 0, (a2 : Int), 0⟩, s.raise a2 a1) by rw [HST0.out]; unfold stepH; rw [if_neg HC.out, if_pos (show 0 < a2 from HC4.out)]), (bring_raise s a2 a1), by first | rfl | exact bring_i s a1, rfl, hfp⟩
      · have i4 : ¬ (0 : Int) < (a2 : Int) := by omega
        obtain ⟨lv, av, hfq, _⟩ := HPM.out.turn
        have c3 := hfq.c3
        have e2 : IntKind.i64.wrap (s.r0 : Int) = (s.r0 : Int) := IntWalk.i64_in _ (by have := HB.out.2.2.r0; omega)
        have KC := Lib.hid (pcopied_any (d := s.r0) hfq HB.out.2.2.r0)
        obtain ⟨cp, hcp⟩ : ∃ cp, cp = cpN b dict n s.i s.r0 := ⟨_, rfl⟩
        rw [← hcp] at KC HST0
        have HC4 := Lib.hid hb4
        clear hfq hb4 hcp
        by_cases hb5 : 0 < cp
        · have i5 : (0 : Int) < (cp : Int) := by omega
          have HC5 := Lib.hid hb5
          clear hb5
          go_wp2_with fail
          refine KC.out.mono ?_
          rintro x w4 ⟨rfl, k4, rfl⟩
          have HP4 := Lib.hid (HPM.out.drewN k4)
          clear KC HPM c3
          generalize w3.drewN k4 = w4 at *
          have HST := Lib.hid (HP4.out.store (.int .i64 6) (.int .u8 0) (.int .i64 0) (.int .u32 0))
          have hbk := HP4.out.blk
          have u0c : w4.cell? ⟨q, 0, none⟩ = some (.int .i64 0) := hbk.cell 0
          have u0f := hbk.free 0
          have u1c : w4.cell? ⟨q, 1, none⟩ = some (.int .u8 0) := hbk.cell 1
          have u1f := hbk.free 1
          have u2c : w4.cell? ⟨q, 2, none⟩ = some (.int .i64 0) := hbk.cell 2
          have u2f := hbk.free 2
          have u3c : w4.cell? ⟨q, 3, none⟩ = some (.int .u32 0) := hbk.cell 3
          have u3f := hbk.free 3
          clear hbk
          go_wp2_with fail
          obtain ⟨hfp, hk⟩ := HST.out
          generalize (((w4.setCell ⟨q, 0, none⟩ (.int .i64 6)).setCell ⟨q, 1, none⟩ (.int .u8 0)).setCell ⟨q, 2, none⟩ (.int .i64 0)).setCell ⟨q, 3, none⟩ (.int .u32 0) = w7 at *
          have k0 : w7.cell? ⟨q, 0, none⟩ = some (.int .i64 6) := hk.cell 0
          have k1 : w7.cell? ⟨q, 1, none⟩ = some (.int .u8 0) := hk.cell 1
          have k2 : w7.cell? ⟨q, 2, none⟩ = some (.int .i64 0) := hk.cell 2
          have k3 : w7.cell? ⟨q, 3, none⟩ = some (.int .u32 0) := hk.cell 3
          refine bodyPost_ret (v := .tuple #[.agg #[.int .i64 6, .int .u8 0, .int .i64 0, .int .u32 0], .int .i64 (1 : Int)]) (by simp [results, Try.results12, go_sem, k0, k1, k2, k3]) rfl ⟨_, _, s, 1, (show stepF b dict n s = (⟨6, 0, 0, 0⟩, s.on) by rw [HST0.out]; unfold stepH; rw [if_neg HC.out, if_neg (show ¬ 0 < a2 from HC4.out), if_pos HC5.out]), rfl, by first | rfl | exact bring_i s a1, rfl, hfp⟩
        · have i5 : ¬ (0 : Int) < (cp : Int) := by omega
          have HC5 := Lib.hid hb5
          clear hb5
          go_wp2_with fail
          refine KC.out.mono ?_
          rintro x w4 ⟨rfl, k4, rfl⟩
          have HP4 := Lib.hid (HPM.out.drewN k4)
          clear KC HPM c3
          generalize w3.drewN k4 = w4 at *
          obtain ⟨lv, av, hfq, _⟩ := HP4.out.turn
          obtain ⟨ba, oa, rfl, hba, hca⟩ := hfq.sl.2 (by have := HB.out; omega)
          have hbl := hfq.len
          have k1' : w4.cell? ⟨ba, oa + s.i, none⟩ = some (.int .u8 ((b.getD s.i 0).toNat : Int)) := by rw [hca s.i HB.out.2.1, bv_get b _ (by have := HB.out; omega)]
          have c0 := hfq.c0
          have c1 := hfq.c1
          have b1 : (0 : Int) ≤ (s.i : Int) := by omega
          have b2 : (s.i : Int) < (n : Int) := by have := HB.out; omega
          generalize hy : b.getD s.i 0 = y at *
          have HY := Lib.hid hy
          clear hfq hca hba hbl hy
          have HST := Lib.hid (HP4.out.store (.int .i64 0) (.int .u8 (y.toNat : Int)) (.int .i64 0) (.int .u32 0))
          have hbk := HP4.out.blk
          have u0c : w4.cell? ⟨q, 0, none⟩ = some (.int .i64 0) := hbk.cell 0
          have u0f := hbk.free 0
          have u1c : w4.cell? ⟨q, 1, none⟩ = some (.int .u8 0) := hbk.cell 1
          have u1f := hbk.free 1
          have u2c : w4.cell? ⟨q, 2, none⟩ = some (.int .i64 0) := hbk.cell 2
          have u2f := hbk.free 2
          have u3c : w4.cell? ⟨q, 3, none⟩ = some (.int .u32 0) := hbk.cell 3
          have u3f := hbk.free 3
          clear hbk
          go_wp2_with fail
          go_region
          all_goals
            go_wp2_with fail
            obtain ⟨hfp, hk⟩ := HST.out
            generalize (((w4.setCell ⟨q, 0, none⟩ (.int .i64 0)).setCell ⟨q, 1, none⟩ (.int .u8 (y.toNat : Int))).setCell ⟨q, 2, none⟩ (.int .i64 0)).setCell ⟨q, 3, none⟩ (.int .u32 0) = w7 at *
            have k0 : w7.cell? ⟨q, 0, none⟩ = some (.int .i64 0) := hk.cell 0
            have k1 : w7.cell? ⟨q, 1, none⟩ = some (.int .u8 (y.toNat : Int)) := hk.cell 1
            have k2 : w7.cell? ⟨q, 2, none⟩ = some (.int .i64 0) := hk.cell 2
            have k3 : w7.cell? ⟨q, 3, none⟩ = some (.int .u32 0) := hk.cell 3
            refine bodyPost_ret (v := .tuple #[.agg #[.int .i64 0, .int .u8 (y.toNat : Int), .int .i64 0, .int .u32 0], .int .i64 (1 : Int)]) (by simp [results, Try.results12, go_sem, k0, k1, k2, k3]) rfl ⟨_, _, s, 1, (show stepF b dict n s = (⟨0, (y.toNat : Int), 0, 0⟩, s.on) by rw [HST0.out]; unfold stepH; rw [if_neg HC.out, if_neg (show ¬ 0 < a2 from HC4.out), if_neg HC5.out]), rfl, by first | rfl | exact bring_i s a1, rfl, hfp.drewN 1⟩
  · have HC := Lib.hid (show ¬ (2 < m2 ∨ (m2 = 2 ∧ m1 < 128)) by omega)
    have i1 : ¬ (2 : Int) < (m2 : Int) := by omega
    have i2 : ((m2 : Int) == 2) = false := by simp; omega
    clear hb1 hb2
    by_cases hb4 : 0 < a2
    · have i4 : (0 : Int) < (a2 : Int) := by omega
      obtain ⟨lv, av, hfq, hturn⟩ := HPM.out.turn
      have KP := Lib.hid (praise_any (j := a1) HA.out.1 hfq.f)
      have HTN := Lib.hid (fun (w4 : World) (hO : Only (fun i => i = g) w3 w4) (hB : Blk w4 g 49 (fCells A n c dict (s.bring a1) lv av)) => hturn w4 (s.bring a1) hO hB (bring_i s a1) (bring_lit HB.out.2.2 a1))
      have e2 : IntKind.i64.wrap (2 + (a1 : Int)) = 2 + (a1 : Int) := IntWalk.i64_in _ (by have := HA.out; omega)
      have e2' : wrap64 (2 + (a1 : Int)) = 2 + (a1 : Int) := IntWalk.wrap64_in _ (by have := HA.out; omega)
      have HC4 := Lib.hid hb4
      clear hfq hturn HPM hb4
      go_wp2_with fail
      refine KP.out.mono ?_
      rintro x w4 ⟨rfl, hO4, hB4⟩
      have HP4 := Lib.hid (HTN.out w4 hO4 hB4)
      clear KP HTN hO4 hB4
      have HST := Lib.hid (HP4.out.store (.int .i64 (2 + (a1 : Int))) (.int .u8 0) (.int .i64 (a2 : Int)) (.int .u32 0))
      have hbk := HP4.out.blk
      have u0c : w4.cell? ⟨q, 0, none⟩ = some (.int .i64 0) := hbk.cell 0
      have u0f := hbk.free 0
      have u1c : w4.cell? ⟨q, 1, none⟩ = some (.int .u8 0) := hbk.cell 1
      have u1f := hbk.free 1
      have u2c : w4.cell? ⟨q, 2, none⟩ = some (.int .i64 0) := hbk.cell 2
      have u2f := hbk.free 2
      have u3c : w4.cell? ⟨q, 3, none⟩ = some (.int .u32 0) := hbk.cell 3
      have u3f := hbk.free 3
      clear hbk
      go_wp2_with fail
      obtain ⟨hfp, hk⟩ := HST.out
      generalize (((w4.setCell ⟨q, 0, none⟩ (.int .i64 (2 + (a1 : Int)))).setCell ⟨q, 1, none⟩ (.int .u8 0)).setCell ⟨q, 2, none⟩ (.int .i64 (a2 : Int))).setCell ⟨q, 3, none⟩ (.int .u32 0) = w7 at *
      have k0 : w7.cell? ⟨q, 0, none⟩ = some (.int .i64 (2 + (a1 : Int))) := hk.cell 0
      have k1 : w7.cell? ⟨q, 1, none⟩ = some (.int .u8 0) := hk.cell 1
      have k2 : w7.cell? ⟨q, 2, none⟩ = some (.int .i64 (a2 : Int)) := hk.cell 2
      have k3 : w7.cell? ⟨q, 3, none⟩ = some (.int .u32 0) := hk.cell 3
      refine bodyPost_ret (v := .tuple #[.agg #[.int .i64 (2 + (a1 : Int)), .int .u8 0, .int .i64 (a2 : Int), .int .u32 0], .int .i64 (a2 : Int)]) (by simp [results, Try.results12, go_sem, k0, k1, k2, k3]) rfl ⟨_, _, s.bring a1, a2, (show stepF b dict n s = (⟨2 + (a1 : Int), 0, (a2 : Int), 0⟩, s.raise a2 a1) by rw [HST0.out]; unfold stepH; rw [if_neg HC.out, if_pos (show 0 < a2 from HC4.out)]), (bring_raise s a2 a1), by first | rfl | exact bring_i s a1, rfl, hfp⟩
    · have i4 : ¬ (0 : Int) < (a2 : Int) := by omega
      obtain ⟨lv, av, hfq, _⟩ := HPM.out.turn
      have c3 := hfq.c3
      have e2 : IntKind.i64.wrap (s.r0 : Int) = (s.r0 : Int) := IntWalk.i64_in _ (by have := HB.out.2.2.r0; omega)
      have KC := Lib.hid (pcopied_any (d := s.r0) hfq HB.out.2.2.r0)
      obtain ⟨cp, hcp⟩ : ∃ cp, cp = cpN b dict n s.i s.r0 := ⟨_, rfl⟩
      rw [← hcp] at KC HST0
      have HC4 := Lib.hid hb4
      clear hfq hb4 hcp
      by_cases hb5 : 0 < cp
      · have i5 : (0 : Int) < (cp : Int) := by omega
        have HC5 := Lib.hid hb5
        clear hb5
        go_wp2_with fail
        refine KC.out.mono ?_
        rintro x w4 ⟨rfl, k4, rfl⟩
        have HP4 := Lib.hid (HPM.out.drewN k4)
        clear KC HPM c3
        generalize w3.drewN k4 = w4 at *
        have HST := Lib.hid (HP4.out.store (.int .i64 6) (.int .u8 0) (.int .i64 0) (.int .u32 0))
        have hbk := HP4.out.blk
        have u0c : w4.cell? ⟨q, 0, none⟩ = some (.int .i64 0) := hbk.cell 0
        have u0f := hbk.free 0
        have u1c : w4.cell? ⟨q, 1, none⟩ = some (.int .u8 0) := hbk.cell 1
        have u1f := hbk.free 1
        have u2c : w4.cell? ⟨q, 2, none⟩ = some (.int .i64 0) := hbk.cell 2
        have u2f := hbk.free 2
        have u3c : w4.cell? ⟨q, 3, none⟩ = some (.int .u32 0) := hbk.cell 3
        have u3f := hbk.free 3
        clear hbk
        go_wp2_with fail
        obtain ⟨hfp, hk⟩ := HST.out
        generalize (((w4.setCell ⟨q, 0, none⟩ (.int .i64 6)).setCell ⟨q, 1, none⟩ (.int .u8 0)).setCell ⟨q, 2, none⟩ (.int .i64 0)).setCell ⟨q, 3, none⟩ (.int .u32 0) = w7 at *
        have k0 : w7.cell? ⟨q, 0, none⟩ = some (.int .i64 6) := hk.cell 0
        have k1 : w7.cell? ⟨q, 1, none⟩ = some (.int .u8 0) := hk.cell 1
        have k2 : w7.cell? ⟨q, 2, none⟩ = some (.int .i64 0) := hk.cell 2
        have k3 : w7.cell? ⟨q, 3, none⟩ = some (.int .u32 0) := hk.cell 3
        refine bodyPost_ret (v := .tuple #[.agg #[.int .i64 6, .int .u8 0, .int .i64 0, .int .u32 0], .int .i64 (1 : Int)]) (by simp [results, Try.results12, go_sem, k0, k1, k2, k3]) rfl ⟨_, _, s, 1, (show stepF b dict n s = (⟨6, 0, 0, 0⟩, s.on) by rw [HST0.out]; unfold stepH; rw [if_neg HC.out, if_neg (show ¬ 0 < a2 from HC4.out), if_pos HC5.out]), rfl, by first | rfl | exact bring_i s a1, rfl, hfp⟩
      · have i5 : ¬ (0 : Int) < (cp : Int) := by omega
        have HC5 := Lib.hid hb5
        clear hb5
        go_wp2_with fail
        refine KC.out.mono ?_
        rintro x w4 ⟨rfl, k4, rfl⟩
        have HP4 := Lib.hid (HPM.out.drewN k4)
        clear KC HPM c3
        generalize w3.drewN k4 = w4 at *
        obtain ⟨lv, av, hfq, _⟩ := HP4.out.turn
        obtain ⟨ba, oa, rfl, hba, hca⟩ := hfq.sl.2 (by have := HB.out; omega)
        have hbl := hfq.len
        have k1' : w4.cell? ⟨ba, oa + s.i, none⟩ = some (.int .u8 ((b.getD s.i 0).toNat : Int)) := by rw [hca s.i HB.out.2.1, bv_get b _ (by have := HB.out; omega)]
        have c0 := hfq.c0
        have c1 := hfq.c1
        have b1 : (0 : Int) ≤ (s.i : Int) := by omega
        have b2 : (s.i : Int) < (n : Int) := by have := HB.out; omega
        generalize hy : b.getD s.i 0 = y at *
        have HY := Lib.hid hy
        clear hfq hca hba hbl hy
        have HST := Lib.hid (HP4.out.store (.int .i64 0) (.int .u8 (y.toNat : Int)) (.int .i64 0) (.int .u32 0))
        have hbk := HP4.out.blk
        have u0c : w4.cell? ⟨q, 0, none⟩ = some (.int .i64 0) := hbk.cell 0
        have u0f := hbk.free 0
        have u1c : w4.cell? ⟨q, 1, none⟩ = some (.int .u8 0) := hbk.cell 1
        have u1f := hbk.free 1
        have u2c : w4.cell? ⟨q, 2, none⟩ = some (.int .i64 0) := hbk.cell 2
        have u2f := hbk.free 2
        have u3c : w4.cell? ⟨q, 3, none⟩ = some (.int .u32 0) := hbk.cell 3
        have u3f := hbk.free 3
        clear hbk
        go_wp2_with fail
        go_region
        all_goals
          go_wp2_with fail
          obtain ⟨hfp, hk⟩ := HST.out
          generalize (((w4.setCell ⟨q, 0, none⟩ (.int .i64 0)).setCell ⟨q, 1, none⟩ (.int .u8 (y.toNat : Int))).setCell ⟨q, 2, none⟩ (.int .i64 0)).setCell ⟨q, 3, none⟩ (.int .u32 0) = w7 at *
          have k0 : w7.cell? ⟨q, 0, none⟩ = some (.int .i64 0) := hk.cell 0
          have k1 : w7.cell? ⟨q, 1, none⟩ = some (.int .u8 (y.toNat : Int)) := hk.cell 1
          have k2 : w7.cell? ⟨q, 2, none⟩ = some (.int .i64 0) := hk.cell 2
          have k3 : w7.cell? ⟨q, 3, none⟩ = some (.int .u32 0) := hk.cell 3
          refine bodyPost_ret (v := .tuple #[.agg #[.int .i64 0, .int .u8 (y.toNat : Int), .int .i64 0, .int .u32 0], .int .i64 (1 : Int)]) (by simp [results, Try.results12, go_sem, k0, k1, k2, k3]) rfl ⟨_, _, s, 1, (show stepF b dict n s = (⟨0, (y.toNat : Int), 0, 0⟩, s.on) by rw [HST0.out]; unfold stepH; rw [if_neg HC.out, if_neg (show ¬ 0 < a2 from HC4.out), if_neg HC5.out]), rfl, by first | rfl | exact bring_i s a1, rfl, hfp.drewN 1⟩
end
end Go.Proofs.Ytjganponepafpaa

/-
  One struct of four cells is appended onto a row of the call's own.
-/
namespace Go.Proofs.Ytjganponepafpaa
open Go.RowKit

section
variable {P : Program} {w : World}
end
end Go.Proofs.Ytjganponepafpaa

/-
  A row of packets of the call's own, as a list.
-/
namespace Go.Proofs.Ytjganponepafpaa
open Go.RowKit

def pkV (q : Pq) : List Value := [.int .i64 q.k, .int .u8 q.a, .int .i64 q.n, .int .u32 q.v]
theorem pkV_len : ∀ (L : List Pq), (L.flatMap pkV).length = L.length * 4
  | [] => rfl
  | q :: L => by rw [List.flatMap_cons, List.length_append, pkV_len L]; show 4 + _ = (L.length + 1) * 4; omega
theorem pkV_get : ∀ (L : List Pq) (i k : Nat), i < L.length → k < 4 → (L.flatMap pkV)[i * 4 + k]? = (pkV (L.getD i ⟨0, 0, 0, 0⟩))[k]?
  | q :: L, 0, k, _, hk => by
    rw [List.flatMap_cons, Nat.zero_mul, Nat.zero_add, List.getElem?_append_left (by show k < 4; exact hk)]
    rfl
  | q :: L, i + 1, k, hi, hk => by
    rw [List.flatMap_cons, List.getElem?_append_right (by show 4 ≤ _; omega), show (i + 1) * 4 + k - (pkV q).length = i * 4 + k by show (i + 1) * 4 + k - 4 = _; omega, pkV_get L i k (by simp at hi; omega) hk]
    rfl
theorem pkts_row {w : World} {base : Nat} {e : TypeId} {A : Option Addr} {n c : Nat} {L : List Pq} (h : w.ownsRow base e 4 (.slice A n c) n (L.flatMap pkV)) : L.length = n ∧ Pkts w A n (fun i => L.getD i ⟨0, 0, 0, 0⟩) := by
  have hl : L.length = n := by
    have := h.1
    rw [pkV_len] at this
    omega
  refine ⟨hl, fun hn => ?_⟩
  rcases h.2 with ⟨_, h0⟩ | ⟨g, cap, cur, hv, _, hh, _, _, _, ht⟩
  · omega
  · injection hv with e1 _ _
    refine ⟨g, 0, e1, (Array.getElem?_eq_some_iff.1 hh).1, fun i hi => ?_⟩
    have key : ∀ k, k < 4 → w.cell? ⟨g, 0 + i * 4 + k, none⟩ = (pkV (L.getD i ⟨0, 0, 0, 0⟩))[k]? := by
      intro k hk
      have hb : i * 4 + k < n * 4 := by omega
      have h1 := pkV_get L i k (by omega) hk
      rw [← ht, List.getElem?_take_of_lt hb] at h1
      rw [← h1]
      simp [World.cell?, hh, Nat.zero_add]
    exact ⟨key 0 (by omega), key 1 (by omega), key 2 (by omega), key 3 (by omega)⟩
end Go.Proofs.Ytjganponepafpaa

/-
  The program's Find: what holds from packet to packet.
-/
namespace Go.Proofs.Ytjganponepafpaa
open Go.RowKit

theorem info_ppk : (Try.prog.info? 42).map (fun i => (i.zero, i.size, i.bytes)) = some (some (.agg #[.int .i64 0, .int .u8 0, .int .i64 0, .int .u32 0]), 4, 32) := by kernel_rfl
theorem ppkV_one (q : Pq) : ∀ u ∈ pkV q, u.oneCell' = true := by simp [pkV, Value.oneCell']
theorem ppk_news (w : World) (q : Pq) (t : TypeId) : ∀ j u, (pkV q)[j]? = some u → (w.alloc (.cells #[.int .i64 q.k, .int .u8 q.a, .int .i64 q.n, .int .u32 q.v] t)).cell? ((⟨w.heap.size, 0, none⟩ : Addr).add j) = some u :=
  World.news_of_block (cs := #[.int .i64 q.k, .int .u8 q.a, .int .i64 q.n, .int .u32 q.v]) (heap_alloc_new w _)
theorem pown4_below {w w' : World} {base : Nat} {e : TypeId} {v : Value} {n : Nat} {xs : List Value} (h : w.ownsRow base e 4 v n xs) (hb : Below w.heap.size w w') : w'.ownsRow base e 4 v n xs :=
  h.kept (row := none) ⟨hb.os, hb.tape, hb.output, hb.size, fun k hk _ => hb.block k hk⟩ (by cases v.ownBlock <;> simp)
theorem pown4_only {S : Nat → Prop} {w w' : World} {base : Nat} {e : TypeId} {A : Option Addr} {n c : Nat} {xs : List Value} (h : w.ownsRow base e 4 (.slice A n c) n xs) (hO : Only S w w') (hS : ∀ k, (Value.slice A n c).ownBlock = some k → ¬ S k) : w'.ownsRow base e 4 (.slice A n c) n xs := by
  refine ⟨h.1, ?_⟩
  rcases h.2 with h' | ⟨g, cap, cur, hv, hb, hh, h3⟩
  · exact .inl h'
  · refine .inr ⟨g, cap, cur, hv, hb, ?_, h3⟩
    have hlt : g < w.heap.size := (Array.getElem?_eq_some_iff.1 hh).1
    injection hv with e1 e2 e3
    rw [hO.block g hlt (hS g (by rw [e1]; rfl))]
    exact hh
theorem pk_snoc' {w : World} {base : Nat} {e : TypeId} {A : Option Addr} {c : Nat} {L : List Pq} {q : Pq} (h : w.ownsRow base e 4 (.slice A (L.length + 1) c) (L.length + 1) (L.flatMap pkV ++ pkV q)) :
    w.ownsRow base e 4 (.slice A (L ++ [q]).length c) (L ++ [q]).length ((L ++ [q]).flatMap pkV) := by
  have e1 : (L ++ [q]).length = L.length + 1 := by simp
  rw [e1]
  simpa using h
def zero4 : Array Value := #[.int .u32 0, .int .u32 0, .int .u32 0, .int .u32 0]
structure Fl (w wr : World) (g q1 : Nat) (G : Nat → Prop) (A : Option Addr) (n c D : Nat) (b : List UInt8) (s : Ps) (cnt : Nat) (L : List Pq) (R : Option Addr) (cl : Nat) : Prop where
  fd : Fd wr g G A n c D b s cnt
  cn : cnt ≤ s.i
  gi : ∀ i, G i → g ≤ i
  bel : Below w.heap.size w wr
  row : wr.ownsRow w.heap.size 42 4 (.slice R L.length cl) L.length (L.flatMap pkV)
  ra : ∀ k, (Value.slice R L.length cl).ownBlock = some k → ¬ G k ∧ k ≠ q1
  qb : Blk wr q1 24 zero4
  ql : q1 < g
  qw : w.heap.size ≤ q1
  al : 0 < n → ∀ p o, A = some ⟨p, o, none⟩ → p < w.heap.size
section
variable {w wr w' : World} {g q1 : Nat} {G : Nat → Prop} {A : Option Addr} {n c D : Nat} {b : List UInt8} {s s1 : Ps} {cnt : Nat} {L : List Pq} {R : Option Addr} {cl : Nat}
theorem Fl.rlt (h : Fl w wr g q1 G A n c D b s cnt L R cl) (k : Nat) (e : (Value.slice R L.length cl).ownBlock = some k) : w.heap.size ≤ k ∧ k < wr.heap.size := World.ownsRow.lt h.row k e
theorem Fl.gg (h : Fl w wr g q1 G A n c D b s cnt L R cl) : G g := by obtain ⟨_, _, _, hg, _⟩ := h.fd.turn; exact hg
theorem Fl.pkt (h : Fl w wr g q1 G A n c D b s cnt L R cl) (hp : FdPost wr g G A n c D b s1 w') : ∃ G' cnt', Fl w w' g q1 G' A n c D b s1 cnt' L R cl := by
  obtain ⟨G2, c2, k1, k2, k3, k4⟩ := hp
  have hs := h.bel.size
  have hg := h.fd.lt g h.gg
  have hgw : w.heap.size ≤ g := by have := h.qw; have := h.ql; omega
  have hq : ¬ G q1 := fun e => by have := h.gi _ e; have := h.ql; omega
  refine ⟨G2, c2, k1, k2, fun i hi => ?_, h.bel.trans (k4.below hs (fun i hi => by have := h.gi i hi; omega)), pown4_only h.row k4 (fun k e => (h.ra k e).1), fun k e => ⟨fun hk => ?_, (h.ra k e).2⟩, h.qb.only k4 hq, h.ql, h.qw, h.al⟩
  · rcases k3 i hi with h' | h'
    · exact h.gi i h'
    · omega
  · rcases k3 k hk with h' | h'
    · exact (h.ra k e).1 h'
    · have := h.rlt k e
      omega
theorem Fl.same (h : Fl w wr g q1 G A n c D b s cnt L R cl) (hO : Only (fun _ => False) wr w') : Fl w w' g q1 G A n c D b s cnt L R cl :=
  ⟨h.fd.keep hO (fun _ _ h => h) (fun _ _ _ _ h => h), h.cn, h.gi, h.bel.trans (hO.below h.bel.size (fun _ h => h.elim)), pown4_only h.row hO (fun _ _ h => h), h.ra, h.qb.only hO (fun h => h), h.ql, h.qw, h.al⟩
theorem Fl.app (h : Fl w wr g q1 G A n c D b s cnt L R cl) {p : Pq} {x cap : Nat} (ho : w'.ownsRow w.heap.size 42 4 (.slice (some ⟨x, 0, none⟩) (L.length + 1) cap) (L.length + 1) (L.flatMap pkV ++ pkV p)) (hg : wr.grownBy w' (Value.slice R L.length cl).ownBlock) (hl : (Value.slice R L.length cl).ownBlock = some x ∨ x = wr.heap.size) :
    Fl w w' g q1 G A n c D b s cnt (L ++ [p]) (some ⟨x, 0, none⟩) cap := by
  have hq := h.qb.lt
  have hO : Only (fun i => (Value.slice R L.length cl).ownBlock = some i) wr w' := ⟨hg.os, hg.tape, hg.output, hg.size, fun i hi hn => hg.block i hi (fun e => hn e.symm)⟩
  refine ⟨h.fd.keep hO (fun i hi e => (h.ra i e).1 hi) (fun h0 p o e e2 => ?_), h.cn, h.gi, h.bel.grown hg h.bel.size (fun k e => (h.rlt k e).1), pk_snoc' ho, fun k e => ?_, h.qb.only hO (fun e => (h.ra q1 e).2 rfl), h.ql, h.qw, h.al⟩
  · obtain ⟨_, _, hfq⟩ := h.fd.fq
    obtain ⟨b', o', e', hlt, _⟩ := hfq.sl.2 h0
    have h1 := h.rlt p e2
    have h2 := h.al h0 p o e
    omega
  · have ek : x = k := by injection e
    subst ek
    rcases hl with hl | hl
    · exact h.ra x hl
    · refine ⟨fun hx => ?_, by omega⟩
      have := h.fd.lt x hx
      omega
theorem Fl.at_ (h : Fl w wr g q1 G A n c D b s1 cnt L R cl) (k : Nat) (hi : s1.i + k ≤ n) : wr.cell? ⟨g, 1, none⟩ = some (.int .i64 (s1.i : Int)) ∧ wr.frozen? ⟨g, 1, none⟩ = false ∧ Fl w (wr.setCell ⟨g, 1, none⟩ (.int .i64 ((s1.i + k : Nat) : Int))) g q1 G A n c D b { s1 with i := s1.i + k } cnt L R cl := by
  obtain ⟨lv, av, hq, hg, ht⟩ := h.fd.turn
  have hgw : w.heap.size ≤ g := by have := h.qw; have := h.ql; omega
  have hO := (Only.refl (fun i => i = g) wr).setCell (p := ⟨g, 1, none⟩) (.inl rfl) (.int .i64 ((s1.i + k : Nat) : Int))
  refine ⟨hq.c1, hq.f.free 1, ht _ { s1 with i := s1.i + k } hO (hq.f.put 1 _) hi ⟨hq.lit.r0, hq.lit.r1, hq.lit.r2, hq.lit.r3⟩, by have := h.cn; show cnt ≤ s1.i + k; omega, h.gi, h.bel.trans (hO.below h.bel.size (by rintro i rfl; exact hgw)), pown4_only h.row hO (fun k e e2 => (h.ra k e).1 (by rw [e2]; exact hg)), h.ra, h.qb.only hO (fun e => by have := h.ql; omega), h.ql, h.qw, h.al⟩
end
end Go.Proofs.Ytjganponepafpaa

/-
  The reference's Find: what holds from packet to packet.
-/
namespace Go.Proofs.Ytjganponepafpaa
open Go.RowKit
def repC (s : Ps) : Array Value := #[.int .u32 (s.r0 : Int), .int .u32 (s.r1 : Int), .int .u32 (s.r2 : Int), .int .u32 (s.r3 : Int)]
structure Rf (w wr : World) (q0 q1 : Nat) (s : Ps) (L : List Pq) (R : Option Addr) (cl : Nat) : Prop where
  rb : Blk wr q0 24 (repC s)
  zb : Blk wr q1 24 zero4
  row : wr.ownsRow w.heap.size 42 4 (.slice R L.length cl) L.length (L.flatMap pkV)
  ra : ∀ k, (Value.slice R L.length cl).ownBlock = some k → k ≠ q0 ∧ k ≠ q1
  bel : Below w.heap.size w wr
  q0w : w.heap.size ≤ q0
  qq : q0 < q1
  lit : s.Lit
section
variable {w wr w' : World} {q0 q1 : Nat} {s s' : Ps} {L : List Pq} {R : Option Addr} {cl : Nat}
theorem Rf.drewN (h : Rf w wr q0 q1 s L R cl) (k : Nat) : Rf w (wr.drewN k) q0 q1 s L R cl := ⟨h.rb.drewN k, h.zb.drewN k, h.row, h.ra, below_drewN h.bel k, h.q0w, h.qq, h.lit⟩
theorem Rf.rlt (h : Rf w wr q0 q1 s L R cl) (k : Nat) (e : (Value.slice R L.length cl).ownBlock = some k) : w.heap.size ≤ k ∧ k < wr.heap.size := World.ownsRow.lt h.row k e
theorem Rf.rep (h : Rf w wr q0 q1 s L R cl) {k : Nat} (hk : k < 4) : wr.cell? ⟨q0, k, none⟩ = some (.int .u32 (s.rep k : Int)) := by
  match k, hk with
  | 0, _ => exact h.rb.cell 0
  | 1, _ => exact h.rb.cell 1
  | 2, _ => exact h.rb.cell 2
  | 3, _ => exact h.rb.cell 3
theorem Rf.alloc (h : Rf w wr q0 q1 s L R cl) (o : Obj) : Rf w (wr.alloc o) q0 q1 s L R cl :=
  ⟨h.rb.alloc o, h.zb.alloc o, pown4_below h.row ((Below.refl _ _).alloc (Nat.le_refl _) _), h.ra, h.bel.alloc h.bel.size _, h.q0w, h.qq, h.lit⟩
theorem Rf.app (h : Rf w wr q0 q1 s L R cl) {p : Pq} {x cap : Nat} (ho : w'.ownsRow w.heap.size 42 4 (.slice (some ⟨x, 0, none⟩) (L.length + 1) cap) (L.length + 1) (L.flatMap pkV ++ pkV p)) (hg : wr.grownBy w' (Value.slice R L.length cl).ownBlock) (hl : (Value.slice R L.length cl).ownBlock = some x ∨ x = wr.heap.size) :
    Rf w w' q0 q1 s (L ++ [p]) (some ⟨x, 0, none⟩) cap := by
  have hO : Only (fun i => (Value.slice R L.length cl).ownBlock = some i) wr w' := ⟨hg.os, hg.tape, hg.output, hg.size, fun i hi hn => hg.block i hi (fun e => hn e.symm)⟩
  have l0 := h.rb.lt
  have l1 := h.zb.lt
  refine ⟨h.rb.only hO (fun e => (h.ra q0 e).1 rfl), h.zb.only hO (fun e => (h.ra q1 e).2 rfl), pk_snoc' ho, fun k e => ?_, h.bel.grown hg h.bel.size (fun k e => (h.rlt k e).1), h.q0w, h.qq, h.lit⟩
  have ek : x = k := by injection e
  subst ek
  rcases hl with hl | hl
  · exact h.ra x hl
  · omega
theorem Rf.turn (h : Rf w wr q0 q1 s L R cl) (hO : Only (fun i => i = q0) wr w') (hB : Blk w' q0 24 (repC s')) (hl : s'.Lit) : Rf w w' q0 q1 s' L R cl :=
  ⟨hB, h.zb.only hO (fun e => by have := h.qq; omega), pown4_only h.row hO (fun k e e2 => (h.ra k e).1 e2), h.ra, h.bel.trans (hO.below h.bel.size (by rintro i rfl; exact h.q0w)), h.q0w, h.qq, hl⟩
/-- the distances on their way -/
def shf (s : Ps) (k h t : Nat) : Nat := if h < t ∧ t ≤ k then s.rep (t - 1) else s.rep t
def shC (s : Ps) (k h : Nat) : Array Value := #[.int .u32 (shf s k h 0 : Int), .int .u32 (shf s k h 1 : Int), .int .u32 (shf s k h 2 : Int), .int .u32 (shf s k h 3 : Int)]
theorem shC_start (s : Ps) (k : Nat) : shC s k k = repC s := by
  have e : ∀ t, shf s k k t = s.rep t := fun t => if_neg (by omega)
  unfold shC
  rw [e, e, e, e]
  rfl
theorem shC_step (s : Ps) {k h : Nat} (hk : k < 4) (hh : h + 1 ≤ k) : (shC s k (h + 1)).setIfInBounds (h + 1) (.int .u32 (s.rep h : Int)) = shC s k h := by
  have h1 : h = 0 ∨ h = 1 ∨ h = 2 := by omega
  have k1 : k = 1 ∨ k = 2 ∨ k = 3 := by omega
  rcases h1 with rfl | rfl | rfl <;> rcases k1 with rfl | rfl | rfl <;> first | rfl | (exfalso; omega)
theorem shC_end (s : Ps) {k : Nat} (hk : k < 4) : (shC s k 0).setIfInBounds 0 (.int .u32 (s.rep k : Int)) = repC (s.raise 0 k) := by
  have k1 : k = 0 ∨ k = 1 ∨ k = 2 ∨ k = 3 := by omega
  rcases k1 with rfl | rfl | rfl | rfl <;> rfl
theorem shf_at (s : Ps) {k h : Nat} (hh : h + 1 ≤ k) : shf s k (h + 1) h = s.rep h := if_neg (by omega)
theorem shC_cell {w : World} {q : Nat} {T : TypeId} {s : Ps} {k h t : Nat} (hb : Blk w q T (shC s k h)) (ht : t < 4) : w.cell? ⟨q, t, none⟩ = some (.int .u32 (shf s k h t : Int)) := by
  match t, ht with
  | 0, _ => exact hb.cell 0
  | 1, _ => exact hb.cell 1
  | 2, _ => exact hb.cell 2
  | 3, _ => exact hb.cell 3
end
end Go.Proofs.Ytjganponepafpaa

/-
  The program's Find: the walk.
-/
namespace Go.Proofs.Ytjganponepafpaa
open Go.RowKit

def fromN (n : Nat) (x : Int) : Nat := (min (max x 0) (n : Int)).toNat
def toN (n F : Nat) (x : Int) : Nat := (min (max x (F : Int)) (n : Int)).toNat
def dictI (x : Int) : Nat := (max x 1).toNat
def FindPost (w : World) (bs : List UInt8) (D T : Nat) (s : Ps) (x : Ending) (w' : World) : Prop :=
  Below w.heap.size w w' ∧ ∃ (L : List Pq) (s' : Ps) (R : Option Addr) (cl : Nat), findF bs D T s = (L, s') ∧ s'.Lit ∧ L.length ≤ T ∧ x = .returned (.tuple #[.slice R L.length cl, .agg #[.int .u32 (s'.r0 : Int), .int .u32 (s'.r1 : Int), .int .u32 (s'.r2 : Int), .int .u32 (s'.r3 : Int)]]) ∧
    w'.ownsRow w.heap.size 42 4 (.slice R L.length cl) L.length (L.flatMap pkV)
theorem cut_get (bs : List UInt8) (P T : Nat) (hT : T ≤ bs.length) : ∀ j, j < T - P → ((bs.take T).drop P).getD j 0 = bs.getD (P + j) 0 := by
  intro j hj
  simp only [List.getD_eq_getElem?_getD, List.getElem?_drop]
  rw [List.getElem?_take_of_lt (by omega)]
section
variable {w : World} {A : Option Addr} {n c : Nat} {bs : List UInt8} {fi ti di : Int} {r0 r1 r2 r3 : Nat}
set_option maxRecDepth 100000 in
set_option maxHeartbeats 16000000 in
theorem pfind_any (hS : Sl w A n (bv bs)) (hn : n ≤ 1000000000) (hnc : n ≤ c) (hc : c ≤ maxLen) (hd1 : -9223372036854775808 ≤ di) (hd2 : di ≤ 9223372036854775807) (hl : Ps.Lit ⟨0, r0, r1, r2, r3⟩) :
    Calls Try.prog 6 #[.slice A n c, .int .i64 fi, .int .i64 ti, .int .i64 di, .agg #[.int .u32 (r0 : Int), .int .u32 (r1 : Int), .int .u32 (r2 : Int), .int .u32 (r3 : Int)]] w (FindPost w bs (dictI di) (toN n (fromN n fi) ti) ⟨fromN n fi, r0, r1, r2, r3⟩) := by
  have hbl : bs.length = n := by rw [← bv_length]; exact hS.1
  obtain ⟨F, hF⟩ : ∃ F, F = fromN n fi := ⟨_, rfl⟩
  obtain ⟨T, hT⟩ : ∃ T, T = toN n F ti := ⟨_, rfl⟩
  obtain ⟨D, hD⟩ : ∃ D, D = dictI di := ⟨_, rfl⟩
  obtain ⟨P, hP⟩ : ∃ P, P = F - D := ⟨_, rfl⟩
  rw [← hF, ← hT, ← hD]
  obtain ⟨x1, hx1⟩ : ∃ x1, x1 = max fi 0 := ⟨_, rfl⟩
  obtain ⟨x2, hx2⟩ : ∃ x2, x2 = max ti (F : Int) := ⟨_, rfl⟩
  have hFn : F ≤ n ∧ (F : Int) = min x1 (n : Int) := by rw [hF, hx1]; unfold fromN; omega
  have hTn : F ≤ T ∧ T ≤ n ∧ (T : Int) = min x2 (n : Int) := by rw [hT, hx2]; unfold toN; omega
  have hDn : 1 ≤ D ∧ (D : Int) = max di 1 := by rw [hD]; unfold dictI; omega
  unfold maxLen at hc
  have m1 := max2_int (P := Try.prog) #[3, 3] 3 fi 0 x1 hx1
  have m2 := min2_int (P := Try.prog) #[3, 3] 3 x1 (n : Int) (F : Int) hFn.2
  have m3 := max2_int (P := Try.prog) #[3, 3] 3 ti (F : Int) x2 hx2
  have m4 := min2_int (P := Try.prog) #[3, 3] 3 x2 (n : Int) (T : Int) hTn.2.2
  have m5 := max2_int (P := Try.prog) #[3, 3] 3 di 1 (D : Int) hDn.2
  have e1 : wrap64 ((F : Int) - (D : Int)) = (F : Int) - (D : Int) := IntWalk.wrap64_in _ (by omega)
  have m6 := max2_int (P := Try.prog) #[3, 3] 3 ((F : Int) - (D : Int)) 0 (P : Int) (by omega)
  have HH := Lib.hid (show F ≤ T ∧ T ≤ n ∧ P ≤ F ∧ P = F - D ∧ 1 ≤ D ∧ D ≤ 9223372036854775807 ∧ n ≤ c ∧ n ≤ 1000000000 ∧ bs.length = n from ⟨hTn.1, hTn.2.1, by omega, hP, hDn.1, by omega, hnc, hn, hbl⟩)
  have HL := Lib.hid hl
  obtain ⟨w2, hw2⟩ : ∃ w2, w2 = (w.alloc (.cells #[.int .u32 (r0 : Int), .int .u32 (r1 : Int), .int .u32 (r2 : Int), .int .u32 (r3 : Int)] 24)).alloc (.cells #[.int .u32 0, .int .u32 0, .int .u32 0, .int .u32 0] 24) := ⟨_, rfl⟩
  have hb2 : Below w.heap.size w w2 := by rw [hw2]; exact ((Below.refl _ _).alloc (Nat.le_refl _) _).alloc (by simp) _
  have hq0 : Blk w2 w.heap.size 24 #[.int .u32 (r0 : Int), .int .u32 (r1 : Int), .int .u32 (r2 : Int), .int .u32 (r3 : Int)] := by rw [hw2]; exact (Blk.fresh w _ _).alloc _
  have hq1 : Blk w2 (w.heap.size + 1) 24 zero4 := by
    rw [hw2]
    have := Blk.fresh (w.alloc (.cells #[.int .u32 (r0 : Int), .int .u32 (r1 : Int), .int .u32 (r2 : Int), .int .u32 (r3 : Int)] 24)) 24 zero4
    have e : (w.alloc (.cells #[.int .u32 (r0 : Int), .int .u32 (r1 : Int), .int .u32 (r2 : Int), .int .u32 (r3 : Int)] 24)).heap.size = w.heap.size + 1 := by simp
    rw [e] at this
    exact this
  have hz2 : w2.heap.size = w.heap.size + 2 := by rw [hw2]; simp
  have HW2 := Lib.hid hw2
  have HB2 := Lib.hid (And.intro hb2 (And.intro hq1 hz2))
  have HS := Lib.hid hS
  have r0c : w2.cell? ⟨w.heap.size, 0, none⟩ = some (.int .u32 (r0 : Int)) := hq0.cell 0
  have r1c : w2.cell? ⟨w.heap.size, 1, none⟩ = some (.int .u32 (r1 : Int)) := hq0.cell 1
  have r2c : w2.cell? ⟨w.heap.size, 2, none⟩ = some (.int .u32 (r2 : Int)) := hq0.cell 2
  have r3c : w2.cell? ⟨w.heap.size, 3, none⟩ = some (.int .u32 (r3 : Int)) := hq0.cell 3
  clear hS hn hnc hc hd1 hd2 hl hbl hF hT hD hP hx1 hx2 hFn hTn hDn hw2 hb2 hq0 hq1 hz2
  go_enter Try.func6, Try.ntmps6
  go_upto_region 1 with fail
  rw [← HW2.out]
  clear HW2
  go_upto_region 5 with fail
  obtain ⟨m, hm⟩ : ∃ m, m = T - P := ⟨_, rfl⟩
  obtain ⟨c', hc'⟩ : ∃ c', c' = c - P := ⟨_, rfl⟩
  have HM := Lib.hid (And.intro hm hc')
  clear m1 m2 m3 m4 m5 m6 hc' e1
  go_cut [0] from 34 (fun v wx => (∃ A', v = .slice A' m c' ∧ Sl w A' m (bv ((bs.take T).drop P))) ∧ wx = w2)
  case first =>
    obtain ⟨h1, h2, h3, h4, h5, h6, h7, h8, h9⟩ := HH.out
    have i1 : (0 : Int) ≤ (P : Int) := by omega
    have i2 : (P : Int) ≤ (T : Int) := by omega
    have i3 : (T : Int) ≤ (c : Int) := by omega
    have hcut := ((HS.out.cut (k := P) (cap := c) (by omega) h7).first (k := m) (by omega))
    have e2 : ((bv bs).drop P).take m = bv ((bs.take T).drop P) := by
      rw [← bv_drop, ← bv_take, List.drop_take, hm]
    rw [e2] at hcut
    have HCUT := Lib.hid hcut
    have hmN : ((T : Int) - (P : Int)).toNat = m := by omega
    clear h1 h2 h3 h4 h5 h6 h7 h8 h9 hcut e2
    by_cases hcp : c = P
    · subst hcp
      have hm0 : m = 0 := by omega
      have HC0 := Lib.hid (show ∀ X, Sl w X m (bv ((bs.take T).drop c)) from fun X => ⟨HCUT.out.1, fun h => absurd h (by omega)⟩)
      clear hm0
      go_wp2_with fail
      go_meet
      exact ⟨⟨_, by rw [HM.out.1, HM.out.2, Nat.sub_self], HC0.out _⟩, rfl⟩
    · have hck2 : ¬ (c : Int) = (P : Int) := by omega
      go_wp2_with fail
      go_meet
      exact ⟨⟨_, by rw [HM.out.1, HM.out.2], by have := HCUT.out; rwa [if_neg hcp] at this⟩, rfl⟩
  case rest =>
    obtain ⟨⟨A', rfl, hS'⟩, hwc⟩ := hcut
    rw [hwc]
    clear hwc hm
    obtain ⟨hb2, hq1, hz2⟩ := HB2.out
    obtain ⟨h1, h2, h3, h4, h5, h6, h7, h8, h9⟩ := HH.out
    obtain ⟨b', hb'⟩ : ∃ b', b' = (bs.take T).drop P := ⟨_, rfl⟩
    rw [← hb'] at hS'
    obtain ⟨a0, ha0⟩ : ∃ a0, a0 = F - P := ⟨_, rfl⟩
    have e3 : wrap64 ((F : Int) - (P : Int)) = (a0 : Int) := by rw [IntWalk.wrap64_in _ (by omega)]; omega
    obtain ⟨g, hg⟩ : ∃ g, g = w2.heap.size := ⟨_, rfl⟩
    obtain ⟨q1, hq⟩ : ∃ q1, q1 = w.heap.size + 1 := ⟨_, rfl⟩
    obtain ⟨w3, hw3⟩ : ∃ w3, w3 = w2.alloc (.cells #[.slice A' m c', .int .i64 (a0 : Int), .int .i64 (D : Int), .int .u32 (r0 : Int), .int .u32 (r1 : Int), .int .u32 (r2 : Int), .int .u32 (r3 : Int), .slice A' m c', .slice none 0 0, .slice none 0 0] 49) := ⟨_, rfl⟩
    have hS2 : Sl w2 A' m (bv b') := hS'.below hb2
    have hB3 : Blk w3 g 49 (fCells A' m c' D ⟨a0, r0, r1, r2, r3⟩ (.slice none 0 0) (.slice none 0 0)) := by rw [hw3, hg]; exact Blk.fresh w2 _ _
    have hz3 : w3.heap.size = w2.heap.size + 1 := by rw [hw3]; simp
    have hal : 0 < m → ∀ p o, A' = some ⟨p, o, none⟩ → p < w.heap.size := fun h0 p o e => by
      obtain ⟨b', o', e', hlt, _⟩ := hS'.2 h0
      rw [e] at e'
      injection e' with e'
      injection e' with e'
      omega
    have hfl : Fl w w3 g q1 (fun i => i = g) A' m c' D b' ⟨a0, r0, r1, r2, r3⟩ 0 [] none 0 := by
      refine ⟨.inl ⟨⟨⟨hB3, by rw [hw3]; exact hS2.alloc _, by have := HM.out.1; omega, by show a0 ≤ m; have := HM.out.1; omega, h5, h6, ⟨HL.out.r0, HL.out.r1, HL.out.r2, HL.out.r3⟩⟩, rfl, fun i hi => by omega, fun h0 p o e e2 => by have := hal h0 p o e; omega⟩, rfl⟩, Nat.zero_le _, fun i hi => by omega, by rw [hw3]; exact hb2.alloc hb2.size _, ⟨rfl, .inl ⟨rfl, rfl⟩⟩, fun k e => (nomatch e), by rw [hw3, hq]; exact hq1.alloc _, by omega, by omega, hal⟩
    have HFL := Lib.hid hfl
    have HW3 := Lib.hid hw3
    have HPT := Lib.hid (show findF bs D T ⟨F, r0, r1, r2, r3⟩ = ((findF b' D m ⟨a0, r0, r1, r2, r3⟩).1, (findF b' D m ⟨a0, r0, r1, r2, r3⟩).2.far P) by
      have hT' : T = P + m := by have := HM.out.1; omega
      have hF' : (⟨F, r0, r1, r2, r3⟩ : Ps) = Ps.far ⟨a0, r0, r1, r2, r3⟩ P := by
        show _ = Ps.mk (P + a0) r0 r1 r2 r3
        rw [show P + a0 = F by omega]
      have hcg : ∀ j, j < m → b'.getD j 0 = bs.getD (P + j) 0 := fun j hj => by
        rw [hb']
        exact cut_get bs P T (by omega) j (by have := HM.out.1; omega)
      rw [hF']
      have hh := find_part (b := bs) (c := b') (dict := D) (p := P) (t := m) hcg (s := ⟨a0, r0, r1, r2, r3⟩) (by show a0 ≤ m; have := HM.out.1; omega) (by show P = 0 ∨ D ≤ a0; omega)
      rwa [← hT'] at hh)
    have HMM := Lib.hid (show a0 ≤ m ∧ m ≤ 1000000000 ∧ m ≤ T from ⟨by have := HM.out.1; omega, by have := HM.out.1; omega, by have := HM.out.1; omega⟩)
    have HG := Lib.hid hg
    rw [← hq]
    clear hb2 hq1 hz2 h1 h2 h3 h4 h5 h6 h7 h8 h9 hb' ha0 hg hq hS' hS2 hB3 hz3 hal hfl hw3 HB2 HS
    go_upto_region 7 with fail
    rw [← HW3.out, ← HG.out]
    clear HW3 HG e3 r0c r1c r2c r3c
    obtain ⟨s0, hs0⟩ : ∃ s0 : Ps, s0 = ⟨a0, r0, r1, r2, r3⟩ := ⟨_, rfl⟩
    rw [← hs0] at HFL HPT
    have HS0 := Lib.hid (show s0.i ≤ m by rw [hs0]; exact HMM.out.1)
    clear hs0
    go_wp2_with fail
    go_loopw [14] (fun v wr => ∃ (j : Nat) (G' : Nat → Prop) (cnt : Nat) (R : Option Addr) (cl : Nat), v = .slice R (goF b' D m s0 j).1.length cl ∧ Fl w wr g q1 G' A' m c' D b' (goF b' D m s0 j).2 cnt (goF b' D m s0 j).1 R cl) (fun _ wr => m - (intOf ((wr.cell? ⟨g, 1, none⟩).getD undef)).toNat)
    case atStart => exact ⟨0, fun i => i = g, 0, none, 0, rfl, HFL.out⟩
    case round =>
      obtain ⟨j, G', cnt, R, cl, rfl, hfl⟩ := hrel
      have c1 : wr.cell? ⟨g, 1, none⟩ = some (.int .i64 ((goF b' D m s0 j).2.i : Int)) := by obtain ⟨_, _, hq⟩ := hfl.fd.fq; exact hq.c1
      have hlen := go_len (b := b') (dict := D) (e := m) (s := s0) j
      have HSU := Lib.hid (fun h => go_succ (b := b') (dict := D) (e := m) (s := s0) (n := j) h)
      have HFI := Lib.hid (fun h => find_is (b := b') (dict := D) (e := m) (s := s0) (n := j) h)
      have HGE := Lib.hid (go_end (b := b') (dict := D) (e := m) (s := s0) HS0.out j)
      obtain ⟨X, hX⟩ : ∃ X, X = goF b' D m s0 j := ⟨_, rfl⟩
      rw [← hX] at hfl c1 hlen HSU HFI HGE ⊢
      obtain ⟨L, s⟩ := X
      have HX := Lib.hid hX
      have HFL := Lib.hid (show Fl w wr g q1 G' A' m c' D b' s cnt L R cl from hfl)
      have c1 : wr.cell? ⟨g, 1, none⟩ = some (.int .i64 (s.i : Int)) := c1
      have hlen : L.length ≤ j := hlen
      clear hX
      by_cases hlt : s.i < m
      · have i1 : (s.i : Int) < (m : Int) := by omega
        have KP := Lib.hid (ppacket_any HFL.out.fd HFL.out.cn hlt)
        have HLT := Lib.hid (show s.i < m ∧ L.length ≤ j from ⟨hlt, hlen⟩)
        have HC1 := Lib.hid c1
        clear hfl hlen hlt
        go_wp2_with fail
        refine KP.out.mono ?_
        rintro x w5 ⟨p, s', s1, k, hst, hs', hsi, rfl, hfp⟩
        obtain ⟨G5, cnt5, hfl5⟩ := HFL.out.pkt hfp
        have HF5 := Lib.hid hfl5
        have HST := Lib.hid (And.intro hst (And.intro hs' hsi))
        clear KP hst hs' hsi hfp hfl5 c1
        go_upto_region 10 with fail
        have hkb := Blk.fresh w5 42 #[.int .i64 p.k, .int .u8 p.a, .int .i64 p.n, .int .u32 p.v]
        have HF7 := Lib.hid (HF5.out.same ((Only.refl (fun _ => False) w5).alloc (.cells #[.int .i64 p.k, .int .u8 p.a, .int .i64 p.n, .int .u32 p.v] 42)))
        clear HF5
        generalize w5.alloc (.cells #[.int .i64 p.k, .int .u8 p.a, .int .i64 p.n, .int .u32 p.v] 42) = w7 at *
        generalize w5.heap.size = y at *
        have l0 : w7.cell? ⟨y, 0, none⟩ = some (.int .i64 p.k) := hkb.cell 0
        have l1 : w7.cell? ⟨y, 1, none⟩ = some (.int .u8 p.a) := hkb.cell 1
        have l2 : w7.cell? ⟨y, 2, none⟩ = some (.int .i64 p.n) := hkb.cell 2
        have l3 : w7.cell? ⟨y, 3, none⟩ = some (.int .u32 p.v) := hkb.cell 3
        have HF8 := Lib.hid (HF7.out.same ((Only.refl (fun _ => False) w7).alloc (.cells #[.int .i64 p.k, .int .u8 p.a, .int .i64 p.n, .int .u32 p.v] 42)))
        obtain ⟨ip, hip, hpz, hps, hpb⟩ := info_parts info_ppk
        have HLE := Lib.hid (show L.length + 1 ≤ 1000000001 from by
          have h1 := HSU.out HLT.out.1
          have h2 := go_more (b := b') (dict := D) (e := m) (s := s0) j (by rw [← HX.out]; exact HLT.out.1)
          rw [← HX.out] at h2
          have h2 : s0.i + j ≤ s.i := h2
          have := HLT.out
          have := HMM.out
          omega)
        clear hkb HF7
        go_wp2_with (at_builtin; refine wpList_append_lies _ rfl (.tmp 60) (.tmp 62) 28 rfl w.heap.size 42 ip _ 4 32 Try.underlying28 hip hpz hps hpb (by rfl) (by decide) (.slice R L.length cl) L.length (L.flatMap pkV) rfl HF8.out.row ⟨w7.heap.size, 0, none⟩ 1 1 (pkV p) rfl rfl (ppk_news w7 p _) (ppkV_one p) (by decide) (by have := HLE.out; unfold maxLen; omega) (by have := HLE.out; omega) HF8.out.bel.size _ rfl ?_)
        intro x9 cap9 w9 ho9 hg9 hl9 _
        have hf9 := HF8.out.app ho9 hg9 (hl9.imp id (fun h => by simpa using h))
        have hki : s1.i + k ≤ m := by
          obtain ⟨hst, hs', hsi⟩ := HST.out
          have := (step_i (b := b') (dict := D) (e := m) (s := s) HLT.out.1).2
          rw [hst, hs'] at this
          have : s.i + k ≤ m := this
          omega
        obtain ⟨d1, d2, hf10⟩ := hf9.at_ k hki
        have hsi := HST.out.2.2
        rw [hsi] at d1 hf10
        have es : ({ s1 with i := s.i + k } : Ps) = s' := HST.out.2.1.symm
        rw [es] at hf10
        have HF10 := Lib.hid hf10
        have e5 : wrap64 ((s.i : Int) + (k : Int)) = ((s.i + k : Nat) : Int) := by rw [IntWalk.wrap64_in _ (by have := HMM.out; rw [hsi] at hki; omega)]; omega
        have hsm : s.i < s'.i := by
          have := (step_i (b := b') (dict := D) (e := m) (s := s) HLT.out.1).1
          rw [HST.out.1] at this
          exact this
        have HGO := Lib.hid (show goF b' D m s0 (j + 1) = (L ++ [p], s') by
          have := HSU.out HLT.out.1
          rw [this]
          show (L ++ [(stepF b' D m s).1], (stepF b' D m s).2) = _
          rw [HST.out.1])
        have HMS := Lib.hid (show s.i < s'.i ∧ s'.i ≤ m from ⟨hsm, by rw [← es]; show s.i + k ≤ m; rw [hsi] at hki; exact hki⟩)
        have hii : s'.i = s.i + k := by rw [← es]
        have HII := Lib.hid hii
        clear ho9 hg9 hl9 hf9 hki hf10 hsi es hsm hii HF8 l0 l1 l2 l3 hip hpz hps hpb HFL HSU HFI HGE HST
        go_wp2_with fail
        have c11 : (w9.setCell ⟨g, 1, none⟩ (.int .i64 ((s.i + k : Nat) : Int))).cell? ⟨g, 1, none⟩ = some (.int .i64 (s'.i : Int)) := by
          obtain ⟨_, _, hq⟩ := HF10.out.fd.fq
          exact hq.c1
        have HC11 := Lib.hid c11
        clear c11 d1 d2 e5
        go_roundw
        case rel => exact ⟨j + 1, G5, cnt5, some ⟨x9, 0, none⟩, cap9, by rw [HGO.out]; simp, by rw [HGO.out]; first | exact HF10.out | (have := HF10.out; simpa using this)⟩
        case measure =>
          have h1 := HC11.out
          have h2 := HC1.out
          have h3 := HMS.out
          simp only [Int.natCast_add] at h1
          rw [h2]
          first | rw [h1] | (rw [HC11.out])
          simp [intOf]
          omega
      · have i1 : ¬ (s.i : Int) < (m : Int) := by omega
        obtain ⟨lv, av, hfq⟩ := HFL.out.fd.fq
        have c3 := hfq.c3
        have c4 := hfq.c4
        have c5 := hfq.c5
        have c6 := hfq.c6
        have hqb := HFL.out.qb
        have z0 : wr.cell? ⟨q1, 0, none⟩ = some (.int .u32 0) := hqb.cell 0
        have z1 : wr.cell? ⟨q1, 1, none⟩ = some (.int .u32 0) := hqb.cell 1
        have z2 : wr.cell? ⟨q1, 2, none⟩ = some (.int .u32 0) := hqb.cell 2
        have z3 : wr.cell? ⟨q1, 3, none⟩ = some (.int .u32 0) := hqb.cell 3
        have f0 := hqb.free 0
        have f1 := hqb.free 1
        have f2 := hqb.free 2
        have f3 := hqb.free 3
        obtain ⟨wz, hwz⟩ : ∃ wz, wz = (((wr.setCell ⟨q1, 0, none⟩ (.int .u32 (s.r0 : Int))).setCell ⟨q1, 1, none⟩ (.int .u32 (s.r1 : Int))).setCell ⟨q1, 2, none⟩ (.int .u32 (s.r2 : Int))).setCell ⟨q1, 3, none⟩ (.int .u32 (s.r3 : Int)) := ⟨_, rfl⟩
        have hbz : Blk wz q1 24 #[.int .u32 (s.r0 : Int), .int .u32 (s.r1 : Int), .int .u32 (s.r2 : Int), .int .u32 (s.r3 : Int)] := by
          rw [hwz]
          exact (((hqb.put 0 (.int .u32 (s.r0 : Int))).put 1 (.int .u32 (s.r1 : Int))).put 2 (.int .u32 (s.r2 : Int))).put 3 (.int .u32 (s.r3 : Int))
        have hOz : Only (fun i => i = q1) wr wz := by
          rw [hwz]
          exact ((((Only.refl (fun i => i = q1) wr).setCell (p := ⟨q1, 0, none⟩) (.inl rfl) _).setCell (p := ⟨q1, 1, none⟩) (.inl rfl) _).setCell (p := ⟨q1, 2, none⟩) (.inl rfl) _).setCell (p := ⟨q1, 3, none⟩) (.inl rfl) _
        have HBZ := Lib.hid hbz
        have HOZ := Lib.hid hOz
        have HLI := Lib.hid hfq.lit
        have HWZ := Lib.hid hwz
        have HFF := Lib.hid (show findF b' D m s0 = (L, s) ∧ L.length ≤ T from by
          refine ⟨HFI.out (by show m ≤ s.i; omega), ?_⟩
          by_cases hj : j ≤ m
          · have := HMM.out; omega
          · have hne : ¬ (goF b' D m s0 m).2.i < m := fun h => by have := go_more m h; omega
            have h1 := go_stop (b := b') (dict := D) (e := m) (s := s0) (n := m) (by omega) (j - m)
            rw [show m + (j - m) = j by omega, ← HX.out] at h1
            have h2 := go_len (b := b') (dict := D) (e := m) (s := s0) m
            rw [← h1] at h2
            have : L.length ≤ m := h2
            have := HMM.out
            omega)
        clear hfq hqb hwz hbz hOz hfl hlen hlt HSU HFI HGE
        go_wp2_with fail
        go_region
        all_goals
          go_wp2_with fail
          rw [← HWZ.out]
          have k0 : wz.cell? ⟨q1, 0, none⟩ = some (.int .u32 (s.r0 : Int)) := HBZ.out.cell 0
          have k1 : wz.cell? ⟨q1, 1, none⟩ = some (.int .u32 (s.r1 : Int)) := HBZ.out.cell 1
          have k2 : wz.cell? ⟨q1, 2, none⟩ = some (.int .u32 (s.r2 : Int)) := HBZ.out.cell 2
          have k3 : wz.cell? ⟨q1, 3, none⟩ = some (.int .u32 (s.r3 : Int)) := HBZ.out.cell 3
          have hqw := HFL.out.qw
          have hrow := pown4_only HFL.out.row HOZ.out (fun k e => (HFL.out.ra k e).2)
          have hbel := HFL.out.bel.trans (HOZ.out.below HFL.out.bel.size (by rintro i rfl; exact hqw))
          refine bodyPost_ret (v := .tuple #[.slice R L.length cl, .agg #[.int .u32 (s.r0 : Int), .int .u32 (s.r1 : Int), .int .u32 (s.r2 : Int), .int .u32 (s.r3 : Int)]]) (by simp [results, Try.results6, go_sem, k0, k1, k2, k3]) rfl ⟨below_drewN hbel 1, L, s.far P, R, cl, ?_, ⟨HLI.out.r0, HLI.out.r1, HLI.out.r2, HLI.out.r3⟩, HFF.out.2, rfl, hrow⟩
          rw [HPT.out, HFF.out.1]
end
end Go.Proofs.Ytjganponepafpaa
