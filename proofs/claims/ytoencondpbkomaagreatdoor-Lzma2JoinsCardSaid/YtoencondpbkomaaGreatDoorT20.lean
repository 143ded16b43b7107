/-
  LwLit, LwNext: put together.
-/
import Derived.Test.YtoencondpbkomaaGreatDoorT19
import Derived.Deep.RegionHeld3
set_option linter.unusedVariables false
set_option linter.unusedSimpArgs false
/-
  The program's decoder of LZMA: a byte is put; a literal.
-/
namespace Go.Proofs.YtoencondpbkomaaGreatDoor
open Go.RowKit

section
variable {K : Kon} {w w' : World} {Gw Gw' : Nat → Prop} {z : Lzs} {t : Pm Dc} {left : Nat} {fs : List Value}

theorem Mch.field (h : Mch (Rk K fs) K.dg K.S K.bs (1847 + K.nl) w t) (ha : Apart K Gw) (k : Nat) (hk : k < 19) (v : Value) : Mch (Rk K (fs.set k v)) K.dg K.S K.bs (1847 + K.nl) (w.setCell ⟨K.g, fat k, none⟩ v) t := by
  have hO := (Only.refl (fun j => j = K.g) w).setCell (p := ⟨K.g, fat k, none⟩) (.inl rfl) v
  exact ⟨h.sc, h.pd.only h.sc hO (fun i hi => hi ▸ ha.gl), ⟨h.row.1.put k hk v, h.row.2.1.only hO (fun e => ha.gn e.symm), h.row.2.2⟩, h.ok⟩
theorem Mch.over (h : Mch (Rk K fs) K.dg K.S K.bs (1847 + K.nl) w t) (ha : Apart K Gw) (hO : Only Gw w w') : Mch (Rk K fs) K.dg K.S K.bs (1847 + K.nl) w' t :=
  ⟨h.sc, h.pd.only h.sc hO (fun i hi => (ha.wd i hi).2.2.2), (K.prb _ ha.gn).only h.row hO (fun i hi e => by rcases hi with rfl | rfl; exact (ha.wd _ e).1 rfl; exact (ha.wd _ e).2.1 rfl), h.ok⟩
theorem Apart.grow (ha : Apart K Gw) (h : Mch (Rk K fs) K.dg K.S K.bs (1847 + K.nl) w t) (hN : ∀ i, Gw' i → Gw i ∨ w.heap.size ≤ i) : Apart K Gw' := by
  refine ⟨ha.gl, ha.ll, ha.ml, ha.gn, ha.mg, ha.mb, ha.nc, fun i hi => ?_⟩
  rcases hN i hi with h1 | h1
  · exact ha.wd i h1
  · have h2 := h.pd.lt
    have h4 := h.row.1.lt
    have h5 := h.row.2.1.lt
    have h6 := ha.ml.2
    exact ⟨by omega, by omega, by omega, fun e => by have := h.pd.old h.sc e; omega, by omega⟩

set_option maxRecDepth 100000 in
set_option maxHeartbeats 2000000 in
/-- A byte that no packet told. -/
theorem lput_any {b : UInt8} (h : Lw K w Gw z t left) (hf : Fit K z) (ho : z.out.length ≤ 1000000) :
    Calls Tryz.prog 77 #[.pointer (some ⟨K.g, 0, none⟩), .int .u8 (b.toNat : Int)] w (PutPost K w Gw (.tuple #[]) (z.push b) t left) := by
  have c6 := h.f.c6
  have KW := Lib.hid (wput_any (b := b) h.win hf.2.1 (by show z.out.length ≤ _; omega))
  have HZ := Lib.hid h
  obtain ⟨n, hn⟩ : ∃ n, n = z.out.length := ⟨_, rfl⟩
  have e1 : IntKind.i64.wrap ((n : Int) + 1) = ((n + 1 : Nat) : Int) := by rw [show (n : Int) + 1 = ((n + 1 : Nat) : Int) by omega]; exact IntWalk.i64_in _ (by omega)
  have HN := Lib.hid hn
  clear h hf ho hn
  go_enter Tryz.func77, Tryz.ntmps77
  go_wp2_with fail
  refine KW.out.mono ?_
  rintro e w1 ⟨rfl, G1, hP1, hN1, hO1⟩
  have hM := HZ.out.mch.over HZ.out.ap hO1
  have d9 : w1.cell? ⟨K.g, 9, none⟩ = some (.int .i64 (n : Int)) := by rw [HN.out]; exact hM.row.1.cell 9 (by decide)
  have z9 : w1.frozen? ⟨K.g, 9, none⟩ = false := hM.row.1.free 9
  have ha1 := HZ.out.ap.grow HZ.out.mch hN1
  have hM2 := hM.field HZ.out.ap 9 (by decide) (.int .i64 ((n + 1 : Nat) : Int))
  have hO2 := (Only.refl (fun j => j = K.g) w1).setCell (p := ⟨K.g, fat 9, none⟩) (.inl rfl) (.int .i64 ((n + 1 : Nat) : Int))
  have hw : Lw K (w1.setCell ⟨K.g, fat 9, none⟩ (.int .i64 ((n + 1 : Nat) : Int))) G1 (z.push b) t left := by
    refine ⟨?_, ?_, ha1⟩
    · have e : (lwFs K z left).set 9 (.int .i64 ((n + 1 : Nat) : Int)) = lwFs K (z.push b) left := by
        have hl : (z.push b).out.length = n + 1 := by rw [HN.out]; show (z.out ++ [b]).length = _; simp
        unfold lwFs
        rw [hl]
        rfl
      rw [e] at hM2
      exact hM2
    · rw [open_put rfl] at hP1
      exact hP1.only hO2 (fun i hi e => (ha1.wd i hi).1 e)
  have HE := Lib.hid (And.intro hw (And.intro hN1 (show Only (K.all Gw) w (w1.setCell ⟨K.g, fat 9, none⟩ (.int .i64 ((n + 1 : Nat) : Int))) from (hO1.mono fun i hi => .inr hi).setCell (p := ⟨K.g, fat 9, none⟩) (.inl (.inl (.inr (.inr (.inl rfl))))) _)))
  clear hM ha1 hM2 hO2 hw hP1 hN1 hO1 KW c6
  go_wp2_with fail
  first | go_end0 | refine bodyPost_ret (results_none rfl _ _ _) rfl ?_
  exact ⟨rfl, G1, HE.out.1, HE.out.2.1, HE.out.2.2⟩

/-- by a tree, a literal's bits are as by the two -/
theorem lit_tree {A : Nat} {o v : UInt8} : ∀ j, (litG decM t A o v false j).m = (treeG decM t A 8 0 j).m ∧ (litG decM t A o v false j).t = (treeG decM t A 8 0 j).t ∧ (litG decM t A o v false j).same = false
  | 0 => ⟨rfl, rfl, rfl⟩
  | j + 1 => by
    obtain ⟨h1, h2, h3⟩ := lit_tree (A := A) (o := o) (v := v) j
    have e := lg_other (A := A) (j := 7 - j) (o := o) (v := v) h3
    have e2 : litG decM t A o v false (j + 1) = lgStep decM A (want (o.toNat : Int) (7 - j)) (want (v.toNat : Int) (7 - j)) (litG decM t A o v false j) := rfl
    rw [e2, e, h1, h2]
    exact ⟨rfl, rfl, rfl⟩

/-- what a literal leaves, behind its first bit -/
def LitEnd (K : Kon) (w : World) (Gw : Nat → Prop) (z : Lzs) (r : Nat × Pm Dc) (left : Nat) (e : Ending) (w' : World) : Prop :=
  (r.2.x = none ∧ MidPost K w Gw (.tuple #[.int .u8 0, .bool false]) { z with st := litSt z.st } r.2 left e w') ∨
  (r.2.x ≠ none ∧ PutPost K w Gw (.tuple #[.int .u8 ((UInt8.ofNat r.1).toNat : Int), .bool true]) (({ z with st := litSt z.st } : Lzs).push (UInt8.ofNat r.1)) r.2 left e w')

theorem lit_u8 (m : Nat) (h : 256 ≤ m) : IntKind.u8.wrap ((m - 256 : Nat) : Int) = (((UInt8.ofNat m).toNat : Nat) : Int) := by
  rw [show ((m - 256 : Nat) : Int) = (m : Int) - 256 by omega]
  exact u8_less m h

set_option maxRecDepth 100000 in
set_option maxHeartbeats 8000000 in
theorem llit_any {N : Nat} (h : Lw K w Gw z t left) (hz : ZNear z (1847 + K.nl) N) (hN : N ≤ 900000) (hf : Fit K z) :
    Calls Tryz.prog 107 #[.pointer (some ⟨K.g, 0, none⟩)] w (LitEnd K w Gw z (litP decM z t 0) left) := by
  have hin := (hz.fine (show N ≤ 1000000 by omega)).small
  obtain ⟨A, hA⟩ : ∃ A, A = litAt z := ⟨_, rfl⟩
  have hA0 : 1847 ≤ A := by rw [hA]; unfold litAt; exact Nat.le_add_right _ _
  obtain ⟨a, ha⟩ : ∃ a, a = A - 1847 := ⟨_, rfl⟩
  have hAa : A = 1847 + a := by rw [ha]; exact (Nat.add_sub_cancel' hA0).symm
  rw [← hA] at hin
  have hlim : a + 768 ≤ K.nl ∧ K.nl ≤ 100000000 := by
    have h1 := hin.1
    have h2 := hin.2
    clear hin hz hf h hA hA0 ha
    omega
  have KR := Lib.hid (fun W => lrow_call (K := K) (a := a) hz (show N ≤ 1000000 by omega) (by rw [← hA, hAa]) h.ap.nc W)
  have KA := Lib.hid (fun n => h.at_ hf 0 n)
  have HZ0 := Lib.hid h
  have HS := Lib.hid (fun (w' : World) (hW : Only (fun _ => False) w w') => show w'.cell? ⟨K.g, 0, none⟩ = some (.int .i64 (z.lc : Int)) ∧ w'.cell? ⟨K.g, 1, none⟩ = some (.int .i64 (z.lp : Int)) ∧ w'.cell? ⟨K.g, 2, none⟩ = some (.int .i64 (z.pb : Int)) ∧ w'.cell? ⟨K.g, 3, none⟩ = some (.int .i64 K.sd) ∧ w'.cell? ⟨K.g, 6, none⟩ = some (.pointer (some ⟨K.wg, 0, none⟩)) ∧ w'.cell? ⟨K.g, 9, none⟩ = some (.int .i64 (z.out.length : Int)) ∧ w'.cell? ⟨K.g, 1862, none⟩ = some (.slice (some ⟨K.lb, 0, none⟩) K.nc K.nc) from
    have hq := (h.quiet hW)
    ⟨hq.f.c0, hq.f.c1, hq.f.c2, hq.dec.cell 3 (by decide), hq.f.c6, hq.f.c9, hq.f.lits⟩)
  obtain ⟨c0, c1, c2, c3, c6, c9, cl⟩ := HS.out w (Only.refl _ _)
  have HZN := Lib.hid hz
  have hst11 := hz.st
  obtain ⟨st, hst⟩ : ∃ st, st = z.st := ⟨_, rfl⟩
  rw [← hst] at hst11
  have hdef : litP decM z t 0 = ((litG decM t A (z.back z.r0) 0 (decide (7 ≤ st)) 8).m, (litG decM t A (z.back z.r0) 0 (decide (7 ≤ st)) 8).t) := by rw [hA, hst]; rfl
  have hGo := (litG_ok decM_ok (k := 0) (a := A) (o := z.back z.r0) (v := 0) (same := decide (7 ≤ st)) (t := t) (L := 1847 + K.nl) (okD_any h.mch.ok) hin.2 8 (Nat.le_refl _)).2.1
  rw [hdef]
  have HST := Lib.hid hst
  have HF := Lib.hid hf
  have KP := Lib.hid (fun (w1 : World) (b : UInt8) (t1 : Pm Dc) (h1 : Lw K w1 Gw { z with st := litSt st } t1 left) => lput_any (b := b) h1 (show Fit K { z with st := litSt st } from hf) (Nat.le_trans hz.out (show N ≤ 1000000 by omega)))
  have HOUTN := Lib.hid hN
  by_cases h7 : st < 7
  · have g7 : (st : Int) < 7 := by omega
    have hs7 : decide (7 ≤ st) = false := decide_eq_false (by omega)
    have KPA := fun w => papart_any st w
    simp only [hs7] at KPA
    have KPA := Lib.hid KPA
    rw [hs7] at hGo ⊢
    obtain ⟨l1, l2, _⟩ := lit_tree (t := t) (A := A) (o := z.back z.r0) (v := 0) 8
    rw [l1] at hGo
    rw [l1, l2]
    have KT := Lib.hid (fun (w1 : World) (h1 : Lw K w1 Gw z t left) (cap : Nat) => h1.tree (a := A) (n := 8) (b := K.lb) (o := a) (len := 768) (cap := cap) 0 (fun m hm => Kon.ad_lit (by omega) (by omega)) (by show A + 256 ≤ _; have := hin.2; omega) (by decide) (by decide))
    obtain ⟨T, hT⟩ : ∃ T, T = treeP decM t A 8 0 := ⟨_, rfl⟩
    have hT1 : T.1 = (treeG decM t A 8 0 8).m - 256 := by rw [hT]; rfl
    have hT2 : T.2 = (treeG decM t A 8 0 8).t := by rw [hT]; rfl
    rw [← hT] at KT
    rw [← hT2]
    obtain ⟨m, hm⟩ : ∃ m, m = (treeG decM t A 8 0 8).m := ⟨_, rfl⟩
    rw [← hm] at hGo hT1 ⊢
    have hm256 : 256 ≤ m := hGo
    unfold TreePost at KT
    obtain ⟨T2, hT22⟩ : ∃ T2, T2 = T.2 := ⟨_, rfl⟩
    rw [← hT22] at KT ⊢
    have KS := Lib.hid (llit7_any st hst11)
    by_cases hd : T2.x = none
    · have hal : Alive T2 0 T.1 = 0 := by unfold Alive; rw [if_pos hd]
      rw [hal] at KT
      have HD := Lib.hid hd
      clear hT hT1 hT2 hT22 hm hGo hal l1 l2 hm256 hd hA hA0 ha hAa hin hlim hdef h hz hst hst11 hf hN h7 hs7
      go_enter Tryz.func107, Tryz.ntmps107
      go_wp2_with fail
      go_region_held3 (fun w' => w'.cell? ⟨K.g, 0, none⟩ = some (.int .i64 (z.lc : Int)) ∧ w'.cell? ⟨K.g, 1, none⟩ = some (.int .i64 (z.lp : Int)) ∧ w'.cell? ⟨K.g, 2, none⟩ = some (.int .i64 (z.pb : Int)) ∧ w'.cell? ⟨K.g, 3, none⟩ = some (.int .i64 K.sd) ∧ w'.cell? ⟨K.g, 6, none⟩ = some (.pointer (some ⟨K.wg, 0, none⟩)) ∧ w'.cell? ⟨K.g, 9, none⟩ = some (.int .i64 (z.out.length : Int)) ∧ w'.cell? ⟨K.g, 1862, none⟩ = some (.slice (some ⟨K.lb, 0, none⟩) K.nc K.nc))
        (first | assumption | go_keep | exact ⟨c0, c1, c2, c3, c6, c9, cl⟩ | exact HS.out _ HQ1.out)
        (first
          | (go_at_call 137; refine (KA.out _).mono ?_; rintro e wa ⟨rfl, na, rfl⟩)
          | (go_at_call 136; refine (KR.out _).mono ?_; rintro e w1 ⟨rfl, hq1⟩; have HQ1 := Lib.hid (show Only (fun _ => False) w w1 from Only.of_drewN hq1); clear hq1))
      have hz1 := HZ0.out.quiet HQ1.out
      have c10 := hz1.f.c10
      rw [← HST.out] at c10
      have c5 := hz1.f.c5
      have HO1 := Lib.hid (show Only K.own w w1 from HQ1.out.mono fun _ h => h.elim)
      have KT1 := Lib.hid (KT.out w1 hz1 (K.nc - a))
      clear KT hz1 KR KA HS HQ1 HZ0 c0 c1 c2 c3 c6 c9 cl
      go_wp2_with fail
      refine (KPA.out _).mono ?_
      rintro e w1' ⟨rfl, rfl⟩
      go_wp2_with fail
      refine KT1.out.mono ?_
      rintro e w2 ⟨rfl, hz2, ho2⟩
      have d10 := hz2.f.c10
      rw [← HST.out] at d10
      have x10 := hz2.f.fz 10
      have HO2 := Lib.hid (HO1.out.trans ho2)
      have HZ3 : Hid (Lw K (w2.setCell ⟨K.g, 10, none⟩ (.int .i64 ((litSt st : Nat) : Int))) Gw { z with st := litSt st } T2 left) := Lib.hid (hz2.put 10 (by decide) (.int .i64 ((litSt st : Nat) : Int)) (z' := { z with st := litSt st }) rfl rfl)
      have HO3 : Hid (Only K.own w (w2.setCell ⟨K.g, 10, none⟩ (.int .i64 ((litSt st : Nat) : Int)))) := Lib.hid (HO2.out.own_put 10 (.int .i64 ((litSt st : Nat) : Int)))
      clear hz2 ho2 KT1 c5 c10
      go_wp2_with fail
      refine (KS.out _).mono ?_
      rintro e w3 ⟨rfl, rfl⟩
      clear KS
      go_upto_region 7 with fail
      generalize w2.setCell ⟨K.g, 10, none⟩ (.int .i64 ((litSt st : Nat) : Int)) = w4 at *
      clear d10 x10
      have x5 := HZ3.out.f.c5
      have KQ := HZ3.out.isBad
      rw [dead_bad HD.out] at KQ
      have KQ := Lib.hid KQ
      go_wp2_with fail
      refine KQ.out.mono ?_
      rintro e w5 ⟨rfl, rfl⟩
      go_wp2_with fail
      go_ret2
      have hz3 := HZ3.out
      rw [HST.out] at hz3
      exact .inl ⟨HD.out, rfl, hz3, HO3.out⟩
    · have hal : Alive T2 0 T.1 = m - 256 := by rw [alive_is hd, hT1]
      rw [hal] at KT
      have HD := Lib.hid hd
      have e8 := lit_u8 m hm256
      have HE8 := Lib.hid e8
      obtain ⟨mm, hmm⟩ : ∃ mm, mm = m - 256 := ⟨_, rfl⟩
      rw [← hmm] at KT e8
      clear HE8 hmm hT hT1 hT2 hT22 hm hGo hal l1 l2 hm256 hd hA hA0 ha hAa hin hlim hdef h hz hst hst11 hf hN h7 hs7
      go_enter Tryz.func107, Tryz.ntmps107
      go_wp2_with fail
      go_region_held3 (fun w' => w'.cell? ⟨K.g, 0, none⟩ = some (.int .i64 (z.lc : Int)) ∧ w'.cell? ⟨K.g, 1, none⟩ = some (.int .i64 (z.lp : Int)) ∧ w'.cell? ⟨K.g, 2, none⟩ = some (.int .i64 (z.pb : Int)) ∧ w'.cell? ⟨K.g, 3, none⟩ = some (.int .i64 K.sd) ∧ w'.cell? ⟨K.g, 6, none⟩ = some (.pointer (some ⟨K.wg, 0, none⟩)) ∧ w'.cell? ⟨K.g, 9, none⟩ = some (.int .i64 (z.out.length : Int)) ∧ w'.cell? ⟨K.g, 1862, none⟩ = some (.slice (some ⟨K.lb, 0, none⟩) K.nc K.nc))
        (first | assumption | go_keep | exact ⟨c0, c1, c2, c3, c6, c9, cl⟩ | exact HS.out _ HQ1.out)
        (first
          | (go_at_call 137; refine (KA.out _).mono ?_; rintro e wa ⟨rfl, na, rfl⟩)
          | (go_at_call 136; refine (KR.out _).mono ?_; rintro e w1 ⟨rfl, hq1⟩; have HQ1 := Lib.hid (show Only (fun _ => False) w w1 from Only.of_drewN hq1); clear hq1))
      have hz1 := HZ0.out.quiet HQ1.out
      have c10 := hz1.f.c10
      rw [← HST.out] at c10
      have c5 := hz1.f.c5
      have HO1 := Lib.hid (show Only K.own w w1 from HQ1.out.mono fun _ h => h.elim)
      have KT1 := Lib.hid (KT.out w1 hz1 (K.nc - a))
      clear KT hz1 KR KA HS HQ1 HZ0 c0 c1 c2 c3 c6 c9 cl
      go_wp2_with fail
      refine (KPA.out _).mono ?_
      rintro e w1' ⟨rfl, rfl⟩
      go_wp2_with fail
      refine KT1.out.mono ?_
      rintro e w2 ⟨rfl, hz2, ho2⟩
      have d10 := hz2.f.c10
      rw [← HST.out] at d10
      have x10 := hz2.f.fz 10
      have HO2 := Lib.hid (HO1.out.trans ho2)
      have HZ3 : Hid (Lw K (w2.setCell ⟨K.g, 10, none⟩ (.int .i64 ((litSt st : Nat) : Int))) Gw { z with st := litSt st } T2 left) := Lib.hid (hz2.put 10 (by decide) (.int .i64 ((litSt st : Nat) : Int)) (z' := { z with st := litSt st }) rfl rfl)
      have HO3 : Hid (Only K.own w (w2.setCell ⟨K.g, 10, none⟩ (.int .i64 ((litSt st : Nat) : Int)))) := Lib.hid (HO2.out.own_put 10 (.int .i64 ((litSt st : Nat) : Int)))
      clear hz2 ho2 KT1 c5 c10
      go_wp2_with fail
      refine (KS.out _).mono ?_
      rintro e w3 ⟨rfl, rfl⟩
      clear KS
      go_upto_region 7 with fail
      generalize w2.setCell ⟨K.g, 10, none⟩ (.int .i64 ((litSt st : Nat) : Int)) = w4 at *
      clear d10 x10
      have x5 := HZ3.out.f.c5
      have KQ := HZ3.out.isBad
      rw [live_bad HD.out] at KQ
      have KQ := Lib.hid KQ
      have KP1 := Lib.hid (KP.out w4 (UInt8.ofNat m) T2 HZ3.out)
      go_wp2_with fail
      refine KQ.out.mono ?_
      rintro e w5 ⟨rfl, rfl⟩
      clear KQ KP
      go_wp2_with fail
      refine KP1.out.mono ?_
      rintro e w6 ⟨rfl, G1, hz6, hn6, ho6⟩
      rw [HST.out] at hz6
      have HE := Lib.hid (And.intro hz6 (And.intro (show ∀ i, G1 i → Gw i ∨ w.heap.size ≤ i from fun i hi => by
        rcases hn6 i hi with h | h
        · exact .inl h
        · exact .inr (Nat.le_trans HO3.out.size h)) ((HO3.out.mono fun i hi => .inl hi).trans ho6)))
      clear hz6 hn6 ho6 KP1
      go_wp2_with fail
      go_ret2
      exact .inr ⟨HD.out, rfl, G1, HE.out.1, HE.out.2.1, HE.out.2.2⟩
  · have g7 : ¬ (st : Int) < 7 := by omega
    have hs7 : decide (7 ≤ st) = true := decide_eq_true (by omega)
    have KPA := fun w => papart_any st w
    simp only [hs7] at KPA
    have KPA := Lib.hid KPA
    rw [hs7] at hGo ⊢
    have hr032 := hz.r0
    have KT := Lib.hid (fun (w1 : World) (h1 : Lw K w1 Gw z t left) (cap : Nat) => lbes_any (c := cap) (x := 0) h1 hf hr032 hAa hlim.1 hlim.2)
    obtain ⟨G, hG⟩ : ∃ G, G = litG decM t A (z.back z.r0) 0 true 8 := ⟨_, rfl⟩
    rw [← hG] at hGo KT ⊢
    obtain ⟨m, hm⟩ : ∃ m, m = G.m := ⟨_, rfl⟩
    obtain ⟨T2, hT2⟩ : ∃ T2, T2 = G.t := ⟨_, rfl⟩
    unfold BesPost at KT
    rw [← hm, ← hT2] at KT ⊢
    have hm256 : True := trivial
    have KS := Lib.hid (llit7_any st hst11)
    by_cases hd : T2.x = none
    · have HD := Lib.hid hd
      clear hG hGo hm hT2 hr032 hm256 hd hA hA0 ha hAa hin hlim hdef h hz hst hst11 hf hN h7 hs7
      go_enter Tryz.func107, Tryz.ntmps107
      go_wp2_with fail
      go_region_held3 (fun w' => w'.cell? ⟨K.g, 0, none⟩ = some (.int .i64 (z.lc : Int)) ∧ w'.cell? ⟨K.g, 1, none⟩ = some (.int .i64 (z.lp : Int)) ∧ w'.cell? ⟨K.g, 2, none⟩ = some (.int .i64 (z.pb : Int)) ∧ w'.cell? ⟨K.g, 3, none⟩ = some (.int .i64 K.sd) ∧ w'.cell? ⟨K.g, 6, none⟩ = some (.pointer (some ⟨K.wg, 0, none⟩)) ∧ w'.cell? ⟨K.g, 9, none⟩ = some (.int .i64 (z.out.length : Int)) ∧ w'.cell? ⟨K.g, 1862, none⟩ = some (.slice (some ⟨K.lb, 0, none⟩) K.nc K.nc))
        (first | assumption | go_keep | exact ⟨c0, c1, c2, c3, c6, c9, cl⟩ | exact HS.out _ HQ1.out)
        (first
          | (go_at_call 137; refine (KA.out _).mono ?_; rintro e wa ⟨rfl, na, rfl⟩)
          | (go_at_call 136; refine (KR.out _).mono ?_; rintro e w1 ⟨rfl, hq1⟩; have HQ1 := Lib.hid (show Only (fun _ => False) w w1 from Only.of_drewN hq1); clear hq1))
      have hz1 := HZ0.out.quiet HQ1.out
      have c10 := hz1.f.c10
      rw [← HST.out] at c10
      have c5 := hz1.f.c5
      have HO1 := Lib.hid (show Only K.own w w1 from HQ1.out.mono fun _ h => h.elim)
      have KT1 := Lib.hid (KT.out w1 hz1 (K.nc - a))
      clear KT hz1 KR KA HS HQ1 HZ0 c0 c1 c2 c3 c6 c9 cl
      go_wp2_with fail
      refine (KPA.out _).mono ?_
      rintro e w1' ⟨rfl, rfl⟩
      go_wp2_with fail
      refine KT1.out.mono ?_
      rintro e w2 ⟨rfl, hz2, ho2⟩
      have d10 := hz2.f.c10
      rw [← HST.out] at d10
      have x10 := hz2.f.fz 10
      have HO2 := Lib.hid (HO1.out.trans ho2)
      have HZ3 : Hid (Lw K (w2.setCell ⟨K.g, 10, none⟩ (.int .i64 ((litSt st : Nat) : Int))) Gw { z with st := litSt st } T2 left) := Lib.hid (hz2.put 10 (by decide) (.int .i64 ((litSt st : Nat) : Int)) (z' := { z with st := litSt st }) rfl rfl)
      have HO3 : Hid (Only K.own w (w2.setCell ⟨K.g, 10, none⟩ (.int .i64 ((litSt st : Nat) : Int)))) := Lib.hid (HO2.out.own_put 10 (.int .i64 ((litSt st : Nat) : Int)))
      clear hz2 ho2 KT1 c5 c10
      go_wp2_with fail
      refine (KS.out _).mono ?_
      rintro e w3 ⟨rfl, rfl⟩
      clear KS
      go_upto_region 7 with fail
      generalize w2.setCell ⟨K.g, 10, none⟩ (.int .i64 ((litSt st : Nat) : Int)) = w4 at *
      clear d10 x10
      have x5 := HZ3.out.f.c5
      have KQ := HZ3.out.isBad
      rw [dead_bad HD.out] at KQ
      have KQ := Lib.hid KQ
      go_wp2_with fail
      refine KQ.out.mono ?_
      rintro e w5 ⟨rfl, rfl⟩
      go_wp2_with fail
      go_ret2
      have hz3 := HZ3.out
      rw [HST.out] at hz3
      exact .inl ⟨HD.out, rfl, hz3, HO3.out⟩
    · have HD := Lib.hid hd
      clear hG hGo hm hT2 hr032 hm256 hd hA hA0 ha hAa hin hlim hdef h hz hst hst11 hf hN h7 hs7
      go_enter Tryz.func107, Tryz.ntmps107
      go_wp2_with fail
      go_region_held3 (fun w' => w'.cell? ⟨K.g, 0, none⟩ = some (.int .i64 (z.lc : Int)) ∧ w'.cell? ⟨K.g, 1, none⟩ = some (.int .i64 (z.lp : Int)) ∧ w'.cell? ⟨K.g, 2, none⟩ = some (.int .i64 (z.pb : Int)) ∧ w'.cell? ⟨K.g, 3, none⟩ = some (.int .i64 K.sd) ∧ w'.cell? ⟨K.g, 6, none⟩ = some (.pointer (some ⟨K.wg, 0, none⟩)) ∧ w'.cell? ⟨K.g, 9, none⟩ = some (.int .i64 (z.out.length : Int)) ∧ w'.cell? ⟨K.g, 1862, none⟩ = some (.slice (some ⟨K.lb, 0, none⟩) K.nc K.nc))
        (first | assumption | go_keep | exact ⟨c0, c1, c2, c3, c6, c9, cl⟩ | exact HS.out _ HQ1.out)
        (first
          | (go_at_call 137; refine (KA.out _).mono ?_; rintro e wa ⟨rfl, na, rfl⟩)
          | (go_at_call 136; refine (KR.out _).mono ?_; rintro e w1 ⟨rfl, hq1⟩; have HQ1 := Lib.hid (show Only (fun _ => False) w w1 from Only.of_drewN hq1); clear hq1))
      have hz1 := HZ0.out.quiet HQ1.out
      have c10 := hz1.f.c10
      rw [← HST.out] at c10
      have c5 := hz1.f.c5
      have HO1 := Lib.hid (show Only K.own w w1 from HQ1.out.mono fun _ h => h.elim)
      have KT1 := Lib.hid (KT.out w1 hz1 (K.nc - a))
      clear KT hz1 KR KA HS HQ1 HZ0 c0 c1 c2 c3 c6 c9 cl
      go_wp2_with fail
      refine (KPA.out _).mono ?_
      rintro e w1' ⟨rfl, rfl⟩
      go_wp2_with fail
      refine KT1.out.mono ?_
      rintro e w2 ⟨rfl, hz2, ho2⟩
      have d10 := hz2.f.c10
      rw [← HST.out] at d10
      have x10 := hz2.f.fz 10
      have HO2 := Lib.hid (HO1.out.trans ho2)
      have HZ3 : Hid (Lw K (w2.setCell ⟨K.g, 10, none⟩ (.int .i64 ((litSt st : Nat) : Int))) Gw { z with st := litSt st } T2 left) := Lib.hid (hz2.put 10 (by decide) (.int .i64 ((litSt st : Nat) : Int)) (z' := { z with st := litSt st }) rfl rfl)
      have HO3 : Hid (Only K.own w (w2.setCell ⟨K.g, 10, none⟩ (.int .i64 ((litSt st : Nat) : Int)))) := Lib.hid (HO2.out.own_put 10 (.int .i64 ((litSt st : Nat) : Int)))
      clear hz2 ho2 KT1 c5 c10
      go_wp2_with fail
      refine (KS.out _).mono ?_
      rintro e w3 ⟨rfl, rfl⟩
      clear KS
      go_upto_region 7 with fail
      generalize w2.setCell ⟨K.g, 10, none⟩ (.int .i64 ((litSt st : Nat) : Int)) = w4 at *
      clear d10 x10
      have x5 := HZ3.out.f.c5
      have KQ := HZ3.out.isBad
      rw [live_bad HD.out] at KQ
      have KQ := Lib.hid KQ
      have KP1 := Lib.hid (KP.out w4 (UInt8.ofNat m) T2 HZ3.out)
      go_wp2_with fail
      refine KQ.out.mono ?_
      rintro e w5 ⟨rfl, rfl⟩
      clear KQ KP
      go_wp2_with fail
      refine KP1.out.mono ?_
      rintro e w6 ⟨rfl, G1, hz6, hn6, ho6⟩
      rw [HST.out] at hz6
      have HE := Lib.hid (And.intro hz6 (And.intro (show ∀ i, G1 i → Gw i ∨ w.heap.size ≤ i from fun i hi => by
        rcases hn6 i hi with h | h
        · exact .inl h
        · exact .inr (Nat.le_trans HO3.out.size h)) ((HO3.out.mono fun i hi => .inl hi).trans ho6)))
      clear hz6 hn6 ho6 KP1
      go_wp2_with fail
      go_ret2
      exact .inr ⟨HD.out, rfl, G1, HE.out.1, HE.out.2.1, HE.out.2.2⟩
end
end Go.Proofs.YtoencondpbkomaaGreatDoor

/-
  The program's decoder of LZMA: the next byte.
-/
namespace Go.Proofs.YtoencondpbkomaaGreatDoor
open Go.RowKit

section
variable {K : Kon} {w w' : World} {Gw Gw' : Nat → Prop} {z : Lzs} {t : Pm Dc} {left : Nat} {fs : List Value}

set_option maxRecDepth 100000 in
set_option maxHeartbeats 2000000 in
theorem lmay_any (h : Lw K w Gw z t left) :
    Calls Tryz.prog 105 #[.pointer (some ⟨K.g, 0, none⟩)] w fun e w' => e = .returned (.bool (!decM.bad t.x && !z.bad)) ∧ w = w' := by
  have c5 := h.f.c5
  have cb := h.f.bad
  have KQ := h.isBad
  obtain ⟨b, hb⟩ : ∃ b, b = decM.bad t.x := ⟨_, rfl⟩
  obtain ⟨c, hc⟩ : ∃ c, c = z.bad := ⟨_, rfl⟩
  rw [← hb] at KQ ⊢
  rw [← hc] at cb ⊢
  have KQ := Lib.hid KQ
  clear h hb hc
  cases b with
  | true =>
    go_enter Tryz.func105, Tryz.ntmps105
    go_wp2_with fail
    refine KQ.out.mono ?_
    rintro e w1 ⟨rfl, rfl⟩
    clear KQ
    go_wp2_with fail
    go_ret
    exact ⟨rfl, rfl⟩
  | false =>
    cases c
    all_goals
      go_enter Tryz.func105, Tryz.ntmps105
      go_wp2_with fail
      refine KQ.out.mono ?_
      rintro e w1 ⟨rfl, rfl⟩
      clear KQ
      go_wp2_with fail
      go_ret
      exact ⟨rfl, rfl⟩

set_option maxRecDepth 100000 in
set_option maxHeartbeats 2000000 in
theorem lcopied_end (h : Lw K w Gw z t 0) :
    Calls Tryz.prog 109 #[.pointer (some ⟨K.g, 0, none⟩)] w fun e w' => e = .returned (.tuple #[.int .u8 0, .bool false]) ∧ w = w' := by
  have cl := h.f.left
  clear h
  go_enter Tryz.func109, Tryz.ntmps109
  go_wp2_with fail
  go_ret2
  exact ⟨rfl, rfl⟩

set_option maxRecDepth 100000 in
set_option maxHeartbeats 4000000 in
theorem lcopied_any {l : Nat} (h : Lw K w Gw z t (l + 1)) (hf : Fit K z) (hh : z.has z.r0 = true) (hr0 : z.r0 < 4294967296) (hl : l < 1000) (ho : z.out.length ≤ 1000000) :
    Calls Tryz.prog 109 #[.pointer (some ⟨K.g, 0, none⟩)] w (PutPost K w Gw (.tuple #[.int .u8 ((z.back z.r0).toNat : Int), .bool true]) (z.push (z.back z.r0)) t l) := by
  have c11 := h.f.c11
  have c6 := h.f.c6
  have cl := h.f.left
  have c9 := h.f.c9
  have z63 := h.f.fz 1863
  have z9 := h.f.fz 9
  have KH := h.has hf z.r0
  rw [hh] at KH
  obtain ⟨n, hn⟩ : ∃ n, n = z.out.length := ⟨_, rfl⟩
  rw [← hn] at c9
  obtain ⟨l1, hl1⟩ : ∃ l1, l1 = l + 1 := ⟨_, rfl⟩
  rw [← hl1] at cl
  have q0 : ((l1 : Int) == 0) = false := by simp; omega
  have e1 : IntKind.i64.wrap ((l1 : Int) - 1) = (l : Int) := by rw [show (l1 : Int) - 1 = (l : Int) by omega]; exact IntWalk.i64_in _ (by omega)
  have e2 : IntKind.i64.wrap ((n : Int) + 1) = ((n + 1 : Nat) : Int) := by rw [show (n : Int) + 1 = ((n + 1 : Nat) : Int) by omega]; exact IntWalk.i64_in _ (by omega)
  have e3 : IntKind.i64.wrap (z.r0 : Int) = (z.r0 : Int) := IntWalk.i64_in _ (by omega)
  obtain ⟨n1, hn1⟩ : ∃ n1, n1 = n + 1 := ⟨_, rfl⟩
  rw [← hn1] at e2
  -- the two fields
  have hM := (h.mch.field h.ap 16 (by decide) (.int .i64 (l : Int))).field h.ap 9 (by decide) (.int .i64 (n1 : Int))
  have hO2 : Only (fun j => j = K.g) w ((w.setCell ⟨K.g, 1863, none⟩ (.int .i64 (l : Int))).setCell ⟨K.g, 9, none⟩ (.int .i64 (n1 : Int))) := ((Only.refl (fun j => j = K.g) w).setCell (p := ⟨K.g, 1863, none⟩) (.inl rfl) (.int .i64 (l : Int))).setCell (p := ⟨K.g, 9, none⟩) (.inl rfl) (.int .i64 (n1 : Int))
  have hM : Mch (Rk K (lwFs K (z.push (z.back z.r0)) l)) K.dg K.S K.bs (1847 + K.nl) ((w.setCell ⟨K.g, 1863, none⟩ (.int .i64 (l : Int))).setCell ⟨K.g, 9, none⟩ (.int .i64 (n1 : Int))) t := by
    have e : ((lwFs K z (l + 1)).set 16 (.int .i64 (l : Int))).set 9 (.int .i64 (n1 : Int)) = lwFs K (z.push (z.back z.r0)) l := by
      have hl2 : (z.push (z.back z.r0)).out.length = n1 := by rw [hn1, hn]; show (z.out ++ [_]).length = _; simp
      unfold lwFs
      rw [hl2]
      rfl
    rw [e] at hM
    exact hM
  have hW := h.win.only hO2 (fun i hi e => (h.ap.wd i hi).1 e)
  have d11 : ((w.setCell ⟨K.g, 1863, none⟩ (.int .i64 (l : Int))).setCell ⟨K.g, 9, none⟩ (.int .i64 (n1 : Int))).cell? ⟨K.g, 6, none⟩ = some (.pointer (some ⟨K.wg, 0, none⟩)) := hM.row.1.cell 6 (by decide)
  have KC := wcopy_any (d := (z.r0 : Int)) hW hf.2.1 (by show z.out.length ≤ _; omega)
  have hcopy : (⟨K.sz, z.out, false⟩ : Ws).copy (z.r0 : Int) = ⟨K.sz, (z.push (z.back z.r0)).out, false⟩ := by
    unfold Ws.copy
    rw [if_pos (by rw [fit_has hf]; exact hh), fit_at hf, open_put rfl]
    rfl
  rw [hcopy, fit_at hf] at KC
  have HX := Lib.hid (And.intro hM (And.intro hO2 h.ap))
  have KC := Lib.hid KC
  have KH := Lib.hid KH
  clear hM hO2 hW hcopy h hn hn1 hf hh hr0 hl ho hl1
  generalize z.push (z.back z.r0) = z' at *
  generalize z.back z.r0 = x at *
  generalize z.r0 = r0 at *
  go_enter Tryz.func109, Tryz.ntmps109
  go_wp2_with fail
  refine KH.out.mono ?_
  rintro e w1 ⟨rfl, rfl⟩
  clear KH
  go_upto_region 9 with fail
  generalize (w.setCell ⟨K.g, 1863, none⟩ (.int .i64 (l : Int))).setCell ⟨K.g, 9, none⟩ (.int .i64 (n1 : Int)) = w2 at *
  clear c11 c6 cl c9 z63 z9
  go_wp2_with fail
  refine KC.out.mono ?_
  rintro e w3 ⟨rfl, G1, hP3, hN3, hO3⟩
  have hap := HX.out.2.2
  have HE := Lib.hid (show Lw K w3 G1 z' t l ∧ (∀ i, G1 i → Gw i ∨ w.heap.size ≤ i) ∧ Only (K.all Gw) w w3 from
    ⟨⟨HX.out.1.over hap hO3, hP3, hap.grow HX.out.1 hN3⟩, fun i hi => (hN3 i hi).imp id (fun h => Nat.le_trans HX.out.2.1.size h), (HX.out.2.1.mono fun i hi => .inl (.inr (.inr (.inl hi)))).trans (hO3.mono fun i hi => .inr hi)⟩)
  clear hap hP3 hN3 hO3 KC
  go_wp2_with fail
  go_ret2
  exact ⟨rfl, G1, HE.out.1, HE.out.2.1, HE.out.2.2⟩
end
end Go.Proofs.YtoencondpbkomaaGreatDoor
