/-
  PsLong2, PkReps: put together.
-/
import Derived.Test.YtpbjkiejegpbcaaMp06
import Derived.Test.YtpbjkiejegpbcaaMp02
import Derived.Laws.IdiomCopy
set_option linter.unusedVariables false
set_option linter.unusedSimpArgs false
/-
  The program's finder: the longest copy by the lists of places: the walk.
-/
namespace Go.Proofs.Ytpbjkiejegpbcaa
open Go.RowKit
section
variable {w : World} {g : Nat} {G : Nat → Prop} {A : Option Addr} {n c dict : Nat} {b : List UInt8} {s : Ps} {cnt : Nat}
set_option maxRecDepth 100000 in
set_option maxHeartbeats 16000000 in
theorem plongest_any {l : Nat} (h : Fd w g G A n c dict b s cnt) (hc : cnt ≤ s.i) (h2 : 2 ≤ l) (hl : l ≤ 1000) :
    Calls Try.prog 31 #[.pointer (some ⟨g, 0, none⟩), .int .i64 (l : Int)] w (LonPost w g G A n c dict b s (worth b dict n s l)) := by
  obtain ⟨lv0, av0, hq0⟩ := h.fq
  have KM := Lib.hid (pmost_any hq0)
  have hi1 := hq0.i1
  have hn1 := hq0.n1
  have hd1 := hq0.d1
  have hd2 := hq0.d2
  obtain ⟨mo, hmo⟩ : ∃ mo, mo = min 273 (n - s.i) := ⟨_, rfl⟩
  rw [← hmo] at KM
  have HD := Lib.hid h
  have HB := Lib.hid (show n ≤ 1000000000 ∧ s.i ≤ n ∧ 1 ≤ dict ∧ dict ≤ 9223372036854775807 ∧ 2 ≤ l ∧ l ≤ 1000 ∧ cnt ≤ s.i ∧ mo = min 273 (n - s.i) from ⟨hn1, hi1, hd1, hd2, h2, hl, hc, hmo⟩)
  by_cases hlm : l ≤ mo
  · have g1 : ¬ (l : Int) > (mo : Int) := by omega
    have KA := Lib.hid (fun k => padd_any (e := s.i) (h.drewN k) hc (by omega))
    have hw : worth b dict n s l = wor (fun d => cpN b dict n s.i d) l (min s.i dict) := rfl
    rw [hw]
    have HLM := Lib.hid hlm
    have c1 := hq0.c1
    clear h hq0 hi1 hn1 hd1 hd2 hc h2 hl hmo hlm hw
    go_enter Try.func31, Try.ntmps31
    go_wp2_with fail
    refine KM.out.mono ?_
    rintro x w1 ⟨rfl, k1, rfl⟩
    have c1 : (w.drewN k1).cell? ⟨g, 1, none⟩ = some (.int .i64 (s.i : Int)) := c1
    have KA1 := Lib.hid (show Calls Try.prog 56 #[.pointer (some ⟨g, 7, none⟩), .int .i64 (s.i : Int)] (w.drewN k1).drew (AddPost (w.drewN k1).drew g G A n c dict b s s.i) from KA.out (k1 + 1))
    have HS1 := Lib.hid (show w.heap.size ≤ (w.drewN k1).heap.size from Nat.le_refl _)
    have HOA := Lib.hid ((Only.refl G w).drewN k1)
    clear KM KA
    generalize w.drewN k1 = w1 at *
    go_wp2_with fail
    go_region_held3 (fun W => W.cell? ⟨g, 1, none⟩ = some (.int .i64 (s.i : Int))) (first | assumption | exact c1) (first | (go_at_call 56; refine (KA1.out).mono ?_; rintro x w2 ⟨rfl, G2, sz, ql, qa, ca, cs, hF, hN, hO⟩; have HF := Lib.hid hF; have HN2 := Lib.hid hN; have HO2 := Lib.hid hO; have r2 := hF.fq.c1; clear hF hN hO))
    have HOW := Lib.hid (HOA.out.trans ((Only.refl G w1).drew.trans HO2.out))
    have HNW := Lib.hid (fun (i : Nat) (hi : G2 i) => show G i ∨ w.heap.size ≤ i from (HN2.out i hi).imp id (fun h => Nat.le_trans HS1.out h))
    clear KA1 HOA HN2 HO2 HS1 c1 r2
    obtain ⟨O, hO⟩ : ∃ O : Int, O = max ((s.i : Int) - (dict : Int)) 0 := ⟨_, rfl⟩
    have hm := max2_int (P := Try.prog) #[3, 3] 3 ((s.i : Int) - (dict : Int)) 0 O hO
    have e1 : IntKind.i64.wrap ((s.i : Int) - (dict : Int)) = (s.i : Int) - (dict : Int) := IntWalk.i64_in _ (by have := HB.out; omega)
    have c1 := HF.out.fq.c1
    have c2 := HF.out.fq.c2
    have HOO := Lib.hid hO
    clear hO
    go_wp2_with fail
    go_quiet (fail)
    have hf := HF.out.drewN nq
    have HOW3 := Lib.hid (HOW.out.drewN nq)
    clear HF HOW c1 c2 e1 hm
    generalize w2.drewN nq = w3 at *
    have c1 := hf.fq.c1
    have KL := Lib.hid (fun k => plast_any (p := s.i) (hf.drewN k |>.fq.f.cell 7) (hf.drewN k |>.fq.f.cell 8) (hf.drewN k).fq.sl HB.out.1 (by have := HB.out; have := HLM.out; omega) (by have := HB.out; omega) (hf.drewN k).md)
    have HF := Lib.hid hf
    obtain ⟨L0, hL0⟩ : ∃ L0, L0 = lastN (hashP b sz) (hashP b sz s.i) s.i := ⟨_, rfl⟩
    rw [← hL0] at KL
    have HL0 := Lib.hid hL0
    clear hf hL0
    go_wp2_with fail
    go_quiet ((go_at_call 57; exact quiet_drew_at (KL.out _)))
    have hf := HF.out.drewN nq
    have HOW := Lib.hid (HOW3.out.drewN nq)
    clear HF HOW3 c1 KL
    generalize w3.drewN nq = w4 at *
    have HF := Lib.hid hf
    obtain ⟨gg, hgg⟩ : ∃ gg : Nat → Nat, gg = fun d => cpN b dict n s.i d := ⟨_, rfl⟩
    clear hf
    go_wp2_with fail
    go_loopw [1, 7, 8, 10] (fun v1 v7 v8 v10 wr => ∃ (m k : Nat) (x : Nat × Nat), Lon b dict n s.i l sz m x ∧ v10 = .int .i64 ((lastN (hashP b sz) (hashP b sz s.i) m : Nat) - 1 : Int) ∧ v7 = .int .i64 (x.1 : Int) ∧ v8 = .int .i64 (x.2 : Int) ∧ v1 = .int .i64 (leastOf l x : Int) ∧ wr = w4.drewN k) (fun _ _ _ v10 _ => (intOf v10 + 1).toNat)
    case atStart => exact ⟨s.i, 0, (0, 0), Lon.start _ _ _ _ _ _, by rw [HL0.out], rfl, rfl, rfl, rfl⟩
    case round =>
      obtain ⟨m, k, x, hlon, rfl, rfl, rfl, rfl, rfl⟩ := hrel
      obtain ⟨hn, hi, hd1, hd2, h2, hl1, hcnt, hmo⟩ := HB.out
      have hle2 := hlon.ge h2
      have hle3 := hlon.le hl1
      have hml := lastN_le (hashP b sz) (hashP b sz s.i) m
      have hmm := hlon.m1
      obtain ⟨pl, hpl⟩ : ∃ pl, pl = lastN (hashP b sz) (hashP b sz s.i) m := ⟨_, rfl⟩
      obtain ⟨le, hle⟩ : ∃ le, le = leastOf l x := ⟨_, rfl⟩
      rw [← hpl, ← hle]
      rw [← hpl] at hml
      rw [← hle] at hle2 hle3
      by_cases hpo : O ≤ (pl : Int) - 1
      · have i0 : O ≤ (pl : Int) - 1 := hpo
        by_cases hlm : le ≤ mo
        · have i1 : (le : Int) ≤ (mo : Int) := by omega
          obtain ⟨q, rfl⟩ : ∃ q, pl = q + 1 := ⟨pl - 1, by have := HOO.out; omega⟩
          have eq : (((q + 1 : Nat) : Int) - 1) = (q : Int) := by omega
          rw [eq] at i0 ⊢
          have hqm : q < s.i := by omega
          obtain ⟨ba, oa, rfl, hba, hca⟩ := HF.out.fq.sl.2 (by omega)
          have hbl := HF.out.fq.len
          obtain ⟨p1, hp1⟩ : ∃ p1, p1 = q + le - 1 := ⟨_, rfl⟩
          obtain ⟨p2, hp2⟩ : ∃ p2, p2 = s.i + le - 1 := ⟨_, rfl⟩
          have k1' : w4.cell? ⟨ba, oa + p1, none⟩ = some (.int .u8 ((b.getD p1 0).toNat : Int)) := by rw [hca p1 (by omega), bv_get b _ (by omega)]
          have k2' : w4.cell? ⟨ba, oa + p2, none⟩ = some (.int .u8 ((b.getD p2 0).toNat : Int)) := by rw [hca p2 (by omega), bv_get b _ (by omega)]
          have c0 := HF.out.fq.c0
          have c1 := HF.out.fq.c1
          have e1 : IntKind.i64.wrap ((q : Int) + (le : Int)) = (q : Int) + (le : Int) := IntWalk.i64_in _ (by omega)
          have e2 : IntKind.i64.wrap ((q : Int) + (le : Int) - 1) = (p1 : Int) := by rw [IntWalk.i64_in _ (by omega)]; omega
          have e3 : IntKind.i64.wrap ((s.i : Int) + (le : Int)) = (s.i : Int) + (le : Int) := IntWalk.i64_in _ (by omega)
          have e4 : IntKind.i64.wrap ((s.i : Int) + (le : Int) - 1) = (p2 : Int) := by rw [IntWalk.i64_in _ (by omega)]; omega
          have b1 : (0 : Int) ≤ (p1 : Int) := by omega
          have b2 : (p1 : Int) < (n : Int) := by omega
          have b3 : (0 : Int) ≤ (p2 : Int) := by omega
          have b4 : (p2 : Int) < (n : Int) := by omega
          have ho : max ((s.i : Int) - (dict : Int)) 0 ≤ (q : Int) := by rw [← HOO.out]; exact i0
          have hhq := (lastN_some hpl.symm).2.1
          have KH := Lib.hid (fun kk => pahead_any (p := q) ((HF.out.drewN kk).fq.f.cell 9) hqm (by omega) (HF.out.drewN kk).md)
          rw [hhq] at KH
          have HHQ := Lib.hid hhq
          obtain ⟨d, hd⟩ : ∃ d, d = s.i - 1 - q := ⟨_, rfl⟩
          have KC := Lib.hid (fun kk => pcopied_any (d := d) (HF.out.drewN kk).fq (by omega))
          obtain ⟨cp, hcp⟩ : ∃ cp, cp = cpN b dict n s.i d := ⟨_, rfl⟩
          rw [← hcp] at KC
          have hcp2 : cp ≤ 273 := by rw [hcp]; have := cpN_le b dict n s.i d; omega
          obtain ⟨ln, hln⟩ : ∃ ln, ln = lastN (hashP b sz) (hashP b sz s.i) q := ⟨_, rfl⟩
          rw [← hln] at KH
          have hlq : ln ≤ q := by rw [hln]; exact lastN_le _ _ _
          have HNU := Lib.hid (And.intro hln hlq)
          have HSK := Lib.hid (fun (hg : cp < le) => hlon.skip h2 hpl.symm ho (by rw [← hd, ← hcp, ← hle]; exact hg))
          have HTK := Lib.hid (fun (hg : le ≤ cp) => show Lon b dict n s.i l sz q (d, cp) by
            have := hlon.take h2 hpl.symm ho (by rw [← hd, ← hcp, ← hle]; exact hg)
            rwa [← hd, ← hcp] at this)
          have HCL := Lib.hid (fun (hg : le ≤ cp) => show b.getD p2 0 = b.getD p1 0 by
            have := cp_last (b := b) (dict := dict) (e := n) (i := s.i) (d := d) (l := le) (by omega) (by rw [← hcp]; exact hg)
            rw [hp1, hp2, this]
            exact congrArg (fun z => b.getD z 0) (by omega))
          have HLE := Lib.hid hle
          by_cases hxy : b.getD p1 0 = b.getD p2 0
          · rw [← hxy] at k2'
            have d1 : IntKind.i64.wrap ((s.i : Int) - 1) = (s.i : Int) - 1 := IntWalk.i64_in _ (by omega)
            have d2 : IntKind.i64.wrap ((s.i : Int) - 1 - (q : Int)) = (d : Int) := by rw [IntWalk.i64_in _ (by omega)]; omega
            have d3 : IntKind.i64.wrap ((cp : Int) + 1) = (cp : Int) + 1 := IntWalk.i64_in _ (by omega)
            generalize b.getD p1 0 = y at *
            by_cases htk : le ≤ cp
            · have i3 : (le : Int) ≤ (cp : Int) := by omega
              have HL2 := Lib.hid (HTK.out htk)
              have hz : ¬ cp = 0 := by omega
              have HZ := Lib.hid hz
              clear hlon hpl hle hpo hlm hqm hca hbl hp1 hp2 ho hhq hd hcp hcp2 hln hlq hxy htk hz hn hi hd1 hd2 h2 hl1 hcnt hmo hle2 hle3 hml hmm HSK HTK HCL
              go_wp2_with fail
              go_quiet (fail)
              have c1' : ((w4.drewN k).drewN nq).cell? ⟨g, 1, none⟩ = some (.int .i64 (s.i : Int)) := c1
              obtain ⟨k2, hk2⟩ : ∃ k2, (w4.drewN k).drewN nq = w4.drewN k2 := ⟨k + nq, World.drewN_drewN _ _ _⟩
              rw [hk2] at c1' ⊢
              go_wp2_with fail
              refine (KC.out k2).mono ?_
              rintro z w5 ⟨rfl, k5, rfl⟩
              obtain ⟨k6, hk6⟩ : ∃ k6, (w4.drewN k2).drewN k5 = w4.drewN k6 := ⟨k2 + k5, World.drewN_drewN _ _ _⟩
              rw [hk6]
              go_wp2_with fail
              refine (KH.out k6).mono ?_
              rintro z w6 ⟨rfl, rfl⟩
              go_wp2_with fail
              go_roundw
              case rel => exact ⟨q, k6, (d, cp), HL2.out, by rw [HNU.out.1], rfl, rfl, by unfold leastOf; rw [if_neg HZ.out]; first | rfl | go_num, rfl⟩
              case measure => have := HNU.out.2; simp [intOf]; omega
            · have i3 : ¬ (le : Int) ≤ (cp : Int) := by omega
              have HL2 := Lib.hid (HSK.out (by omega))
              clear hlon hpl hle hpo hlm hqm hca hbl hp1 hp2 ho hhq hd hcp hcp2 hln hlq hxy htk hn hi hd1 hd2 h2 hl1 hcnt hmo hle2 hle3 hml hmm HSK HTK HCL d3
              go_wp2_with fail
              go_quiet (fail)
              have c1' : ((w4.drewN k).drewN nq).cell? ⟨g, 1, none⟩ = some (.int .i64 (s.i : Int)) := c1
              obtain ⟨k2, hk2⟩ : ∃ k2, (w4.drewN k).drewN nq = w4.drewN k2 := ⟨k + nq, World.drewN_drewN _ _ _⟩
              rw [hk2] at c1' ⊢
              go_wp2_with fail
              refine (KC.out k2).mono ?_
              rintro z w5 ⟨rfl, k5, rfl⟩
              obtain ⟨k6, hk6⟩ : ∃ k6, (w4.drewN k2).drewN k5 = w4.drewN k6 := ⟨k2 + k5, World.drewN_drewN _ _ _⟩
              rw [hk6]
              go_wp2_with fail
              refine (KH.out k6).mono ?_
              rintro z w6 ⟨rfl, rfl⟩
              go_wp2_with fail
              go_roundw
              case rel => exact ⟨q, k6, x, HL2.out, by rw [HNU.out.1], rfl, rfl, by rw [HLE.out], rfl⟩
              case measure => have := HNU.out.2; simp [intOf]; omega
          · have hne := u8_ne hxy
            have HL2 := Lib.hid (HSK.out (by
              by_cases hg : le ≤ cp
              · exact absurd (HCL.out hg).symm hxy
              · omega))
            generalize b.getD p1 0 = y at *
            generalize b.getD p2 0 = z at *
            have hne2 : ((y.toNat : Int) != (z.toNat : Int)) = true := by simp only [bne, hne]; rfl
            clear hlon hpl hle hpo hlm hqm hca hbl hp1 hp2 ho hhq hd hcp hcp2 hln hlq hxy hn hi hd1 hd2 h2 hl1 hcnt hmo hle2 hle3 hml hmm HSK HTK HCL KC
            go_wp2_with fail
            go_quiet (fail)
            obtain ⟨k2, hk2⟩ : ∃ k2, (w4.drewN k).drewN nq = w4.drewN k2 := ⟨k + nq, World.drewN_drewN _ _ _⟩
            rw [hk2]
            go_wp2_with fail
            refine (KH.out k2).mono ?_
            rintro z w6 ⟨rfl, rfl⟩
            go_wp2_with fail
            go_roundw
            case rel => exact ⟨q, k2, x, HL2.out, by rw [HNU.out.1], rfl, rfl, by rw [HLE.out], rfl⟩
            case measure => have := HNU.out.2; simp [intOf]; omega
        · have i1 : ¬ (le : Int) ≤ (mo : Int) := by omega
          have HR := Lib.hid (hlon.end_most h2 (by rw [← hle, ← hmo]; exact hlm))
          clear hlon hpl hle hpo hlm hn hi hd1 hd2 h2 hl1 hcnt hmo hle2 hle3 hml hmm
          go_wp2_with fail
          go_ret2
          exact ⟨by rw [HR.out]; rfl, G2, s.i, .inr ⟨sz, ql, qa, ca, cs, HF.out.drewN k⟩, Nat.le_refl _, HNW.out, HOW.out.drewN k⟩
      · have i0 : ¬ O ≤ (pl : Int) - 1 := hpo
        have HR := Lib.hid (hlon.end_none h2 (by rw [← hpl]; have := HOO.out; omega))
        clear hlon hpl hle hpo hn hi hd1 hd2 h2 hl1 hcnt hmo hle2 hle3 hml hmm
        go_wp2_with fail
        go_ret2
        exact ⟨by rw [HR.out]; rfl, G2, s.i, .inr ⟨sz, ql, qa, ca, cs, HF.out.drewN k⟩, Nat.le_refl _, HNW.out, HOW.out.drewN k⟩
  · have g1 : (l : Int) > (mo : Int) := by omega
    have hw : worth b dict n s l = (0, 0) := by
      have := lon_le (b := b) (dict := dict) (e := n) (s := s)
      unfold worth
      rw [if_neg (by omega)]
    rw [hw]
    clear h hq0 hi1 hn1 hd1 hd2 hc h2 hl hmo hlm hw
    go_enter Try.func31, Try.ntmps31
    go_wp2_with fail
    refine KM.out.mono ?_
    rintro x w1 ⟨rfl, k1, rfl⟩
    clear KM
    go_wp2_with fail
    go_ret2
    exact ⟨rfl, HD.out.same (by have := HB.out; omega) k1⟩
end
end Go.Proofs.Ytpbjkiejegpbcaa

/-
  The program's elder distances: rows of them, moved by one.
-/
namespace Go.Proofs.Ytpbjkiejegpbcaa
open Go.RowKit
theorem info_u32 : (Try.prog.info? 23).map (·.size) = some 1 := by kernel_rfl
/-- rows of the distances, which begin at the cell o, moved by one -/
theorem copy_reps {W : World} {g o n m : Nat} {k : Nat} (cs : List Value) (hk : cs.length = Nat.min m n) (hc : ∀ j v, cs[j]? = some v → W.cell? ((⟨g, o, none⟩ : Addr).add j) = some v) (hd : ∀ j, j < cs.length → (W.cell? ⟨g, o + 1 + j, none⟩).isSome = true) (hf : ∀ j, W.frozen? ⟨g, j, none⟩ = false) (h1 : ∀ v ∈ cs, v.oneCell' = true) :
    (Builtin.copy_ #[52, 52] 3 #[.slice (some ⟨g, o + 1, none⟩) n 3, .slice (some ⟨g, o, none⟩) m k]).run Try.prog W = .ok (goInt cs.length) (W.setCells g (o + 1) cs) :=
  run_copy_cells (P := Try.prog) W 52 52 3 23 g (o + 1) n 3 ⟨g, o, none⟩ m k cs Try.underlying52 info_u32 hk hc hd (fun _ _ => hf _) h1
end Go.Proofs.Ytpbjkiejegpbcaa
