/-
  CwLit, CwLen, CwSlot, CwDistE, CwDist, PkReps: put together.
-/
import Derived.Test.YtoencondpbkomaaGreatQ07
import Derived.Test.YtoencondpbkomaaGreatQ03
import Derived.Test.YtoencondpbkomaaGreatQ01
import Derived.Lib.BitFns
import Derived.Lib.Walk
import Derived.Laws.IdiomCopy
set_option linter.unusedVariables false
set_option linter.unusedSimpArgs false
/-
  The program's coder of LZMA: a literal.
-/
namespace Go.Proofs.YtoencondpbkomaaGreat
open Go.RowKit

/-- by a tree, a literal's bits are as by the two -/
theorem litE_tree {t : Pm En} {A : Nat} {o v : UInt8} : ∀ j, (litG encM t A o v false j).m = (treeG encM t A 8 (v.toNat : Int) j).m ∧ (litG encM t A o v false j).t = (treeG encM t A 8 (v.toNat : Int) j).t ∧ (litG encM t A o v false j).same = false
  | 0 => ⟨rfl, rfl, rfl⟩
  | j + 1 => by
    obtain ⟨h1, h2, h3⟩ := litE_tree (t := t) (A := A) (o := o) (v := v) j
    have e := lgE_other (A := A) (j := 7 - j) (o := o) (v := v) h3
    have e2 : litG encM t A o v false (j + 1) = lgStep encM A (want (o.toNat : Int) (7 - j)) (want (v.toNat : Int) (7 - j)) (litG encM t A o v false j) := rfl
    have e3 : treeG encM t A 8 (v.toNat : Int) (j + 1) = tgStep encM A j (want (v.toNat : Int) (7 - j)) (treeG encM t A 8 (v.toNat : Int) j) := rfl
    rw [e2, e, e3, h1, h2, want_nat]
    exact ⟨rfl, rfl, rfl⟩

section
variable {K : Koc} {w w' : World} {Ge Ge' : Option Nat} {A' : Option Addr} {c : Nat} {z : Lzs} {k : Nat} {t : Pm En}

set_option maxRecDepth 100000 in
set_option maxHeartbeats 8000000 in
/-- The coder codes a literal behind its first bit. -/
theorem clit_any {b : UInt8} {N : Nat} (h : Cw K w Ge A' c z (k + 8) t) (hz : ZNear z (1847 + K.nl) N) (hN : N ≤ 900000) :
    Calls Tryz.prog 65 #[.pointer (some ⟨K.g, 0, none⟩), .int .u8 (b.toNat : Int)] w (CPut K w Ge (tb A' z.out.length c) (.tuple #[]) (({ z with st := litSt z.st } : Lzs).push b) k (litP encM z t b).2) := by
  have hin := (hz.fine (show N ≤ 1000000 by omega)).small
  have hout : z.out.length ≤ 900000 := Nat.le_trans hz.out hN
  obtain ⟨A, hA⟩ : ∃ A, A = litAt z := ⟨_, rfl⟩
  have hA0 : 1847 ≤ A := by rw [hA]; unfold litAt; exact Nat.le_add_right _ _
  obtain ⟨a, ha⟩ : ∃ a, a = A - 1847 := ⟨_, rfl⟩
  have hAa : A = 1847 + a := by rw [ha]; exact (Nat.add_sub_cancel' hA0).symm
  rw [← hA] at hin
  have hlim : a + 768 ≤ K.nl ∧ K.nl ≤ 100000000 := by
    have h1 := hin.1
    have h2 := hin.2
    clear hin hz h hA hA0 ha
    omega
  have KR := Lib.hid (fun W => prow_any (b := K.lb) (nl := K.nl) (lc := z.lc) (lp := z.lp) (n := z.out.length) (last := (z.back 0).toNat) (a := a) (pb := (z.pb : Int)) (d := (z.dict : Int)) hz.lc hz.lp (by omega) (z.back 0).toNat_lt (by unfold litAt at hA; omega) hlim.1 hlim.2 W)
  have KA := Lib.hid (fun n => show Calls Tryz.prog 87 #[.pointer (some ⟨K.g, 0, none⟩), .int .u32 0] (w.drewN n) (fun e w' => e = .returned (.int .u8 ((z.back 0).toNat : Int)) ∧ ∃ m, (w.drewN n).drewN m = w') from cat_any (h.drewN n) (d := 0) (by decide) (by omega))
  have HS := Lib.hid (fun (w' : World) (hW : Only (fun _ => False) w w') => show w'.cell? ⟨K.g, 0, none⟩ = some (.int .i64 (z.lc : Int)) ∧ w'.cell? ⟨K.g, 1, none⟩ = some (.int .i64 (z.lp : Int)) ∧ w'.cell? ⟨K.g, 2, none⟩ = some (.int .i64 (z.pb : Int)) ∧ w'.cell? ⟨K.g, 3, none⟩ = some (.int .i64 (z.dict : Int)) ∧ w'.cell? ⟨K.g, 5, none⟩ = some (.slice A' z.out.length c) ∧ w'.cell? ⟨K.g, 1858, none⟩ = some (.slice (some ⟨K.lb, 0, none⟩) K.nl K.nl) from
    have hq := (h.quiet hW).f
    ⟨hq.c0, hq.c1, hq.c2, hq.c3, hq.c5, hq.lits⟩)
  obtain ⟨c0, c1, c2, c3, c5, cl⟩ := HS.out w (Only.refl _ _)
  have HZ0 := Lib.hid h
  have hst11 := hz.st
  obtain ⟨st, hst⟩ : ∃ st, st = z.st := ⟨_, rfl⟩
  rw [← hst] at hst11
  have hdef : (litP encM z t b).2 = (litG encM t A (z.back z.r0) b (decide (7 ≤ st)) 8).t := by rw [hA, hst]; rfl
  rw [hdef]
  have HST := Lib.hid hst
  have KL := Lib.hid (fun w => llit7_any st hst11 w)
  have hr0 := hz.r0
  have hlt := b.toNat_lt
  obtain ⟨i, hi, hz0, hz1, hz2⟩ := info_parts info_u8
  have HOUT := Lib.hid hout
  by_cases h7 : st < 7
  · have hs7 : decide (7 ≤ st) = false := decide_eq_false (by omega)
    have KPA := fun w => papart_any st w
    simp only [hs7] at KPA
    have KPA := Lib.hid KPA
    rw [hs7, (litE_tree (t := t) (A := A) (o := z.back z.r0) (v := b) 8).2.1]
    have KT := Lib.hid (fun (w1 : World) (h1 : Cw K w1 Ge A' c z (k + 8) t) (cap : Nat) => h1.tree (n := 8) (a := A) (b := K.lb) (o := a) (len := 768) (cap := cap) (V := b.toNat) (fun m hm => Koc.ad_lit (by omega) (by omega)) (by show A + 256 ≤ _; have := hin.2; omega) (by decide) (by decide) (by omega))
    unfold treeP at KT
    dsimp only at KT
    generalize (treeG encM t A 8 (b.toNat : Int) 8).t = T at *
    have e8 : IntKind.u32.wrap (b.toNat : Int) = (b.toNat : Int) := u32_of _ (by omega) (by omega)
    clear h7 hs7 hdef hst hst11 hr0 hlim hAa ha hA0 hA hin hz hN hout h hlt
    go_enter Tryz.func65, Tryz.ntmps65
    go_wp2_with fail
    go_region_held3 (fun w' => w'.cell? ⟨K.g, 0, none⟩ = some (.int .i64 (z.lc : Int)) ∧ w'.cell? ⟨K.g, 1, none⟩ = some (.int .i64 (z.lp : Int)) ∧ w'.cell? ⟨K.g, 2, none⟩ = some (.int .i64 (z.pb : Int)) ∧ w'.cell? ⟨K.g, 3, none⟩ = some (.int .i64 (z.dict : Int)) ∧ w'.cell? ⟨K.g, 5, none⟩ = some (.slice A' z.out.length c) ∧ w'.cell? ⟨K.g, 1858, none⟩ = some (.slice (some ⟨K.lb, 0, none⟩) K.nl K.nl))
      (first | assumption | go_keep | exact ⟨c0, c1, c2, c3, c5, cl⟩ | exact HS.out _ HQ1.out)
      (first
        | (go_at_call 87; refine (KA.out _).mono ?_; rintro e wa ⟨rfl, na, rfl⟩)
        | (go_at_call 86; refine (KR.out _).mono ?_; rintro e w1 ⟨rfl, hq1⟩; have HQ1 := Lib.hid (show Only (fun _ => False) w w1 from Only.of_drewN hq1); clear hq1))
    have hz1 := HZ0.out.quiet HQ1.out
    have c6 := hz1.f.c6
    rw [← HST.out] at c6
    have c4 := hz1.f.c4
    have HQ1 := Lib.hid HQ1.out
    have KT1 := Lib.hid (KT.out w1 hz1 (K.nl - a))
    clear KT hz1 KR KA HS HZ0 c0 c1 c2 c3 c5 cl
    go_wp2_with fail
    refine (KPA.out _).mono ?_
    rintro e w1' ⟨rfl, rfl⟩
    clear KPA
    go_wp2_with fail
    refine KT1.out.mono ?_
    rintro e w2 ⟨rfl, G2, hz2, hn2, ho2⟩
    have d6 := hz2.f.c6
    rw [← HST.out] at d6
    have x6 := hz2.f.fz 6
    have HZ3 : Hid (Cw K (w2.setCell ⟨K.g, 6, none⟩ (.int .i64 ((litSt st : Nat) : Int))) G2 A' c { z with st := litSt st } k T) := Lib.hid (hz2.put 6 (by decide) (.int .i64 ((litSt st : Nat) : Int)) (z' := { z with st := litSt st }) rfl rfl)
    have HN3 := Lib.hid (show Nwr w Ge G2 from fun i hi => (hn2 i hi).imp id (fun h => Nat.le_trans HQ1.out.size h))
    have HO3 : Hid (Only (K.own Ge) w (w2.setCell ⟨K.g, 6, none⟩ (.int .i64 ((litSt st : Nat) : Int)))) := Lib.hid (((HQ1.out.mono fun _ h => h.elim).trans ho2).cwn_put 6 (.int .i64 ((litSt st : Nat) : Int)))
    clear hz2 hn2 ho2 KT1 c4 c6 HQ1
    go_wp2_with fail
    refine (KL.out _).mono ?_
    rintro e w3 ⟨rfl, rfl⟩
    clear KL
    go_upto_region 5 with fail
    generalize w2.setCell ⟨K.g, 6, none⟩ (.int .i64 ((litSt st : Nat) : Int)) = w4 at *
    clear d6 x6
    have c5 := HZ3.out.f.c5
    have HA1 := Lib.hid (show Only (fun _ => False) w4 (w4.alloc (.cells #[.int .u8 (b.toNat : Int)] 5)) from (Only.refl _ _).alloc _)
    have c5a : (w4.alloc (.cells #[.int .u8 (b.toNat : Int)] 5)).cell? ⟨K.g, 5, none⟩ = some (.slice A' z.out.length c) := (HZ3.out.quiet HA1.out).f.c5
    have HOW := Lib.hid HZ3.out.told
    have hpu := fun (w3 : World) (A2 : Option Addr) (c2 : Nat) => Cw.pushed (w3 := w3) (A2 := A2) (c2 := c2) (x := b) HZ3.out HA1.out
    have HPU := Lib.hid hpu
    clear hpu
    change World.cell? _ _ = some (.slice A' z.out.length c) at c5
    obtain ⟨ln, hln⟩ : ∃ ln, ln = z.out.length := ⟨_, rfl⟩
    have HLN := Lib.hid hln
    rw [← hln] at c5 c5a
    have HL := Lib.hid (show ln ≤ 900000 by rw [hln]; exact HOUT.out)
    have HOW : Hid (w4.ownsRow 0 5 1 (.slice A' ln c) ln (bv z.out)) := Lib.hid (by rw [hln]; exact HOW.out)
    clear hln
    go_wp2_with (at_builtin; refine wpList_app2 _ rfl (.tmp 50) (.tmp 52) 22 rfl 0 5 i _ 1 Tryz.underlying22 hi hz0 hz1 hz2 rfl _ ln (bv z.out) rfl (HOW.out.alloc _) (some ⟨w4.heap.size, 0, none⟩) 1 1 [.int .u8 (b.toNat : Int)] rfl (sl_one w4 _ _) (one_one _ _) (by have := HL.out; omega) (by omega) (Nat.zero_le _) ?_)
    intro A5 c5' w5 ho5 hg5 hq5
    have HLN2 := HLN.out
    subst HLN2
    obtain ⟨d5, f5, _, hz5, hn5, ho5'⟩ := HPU.out w5 A5 c5' ho5 hg5 (by rw [show (w4.alloc (.cells #[.int .u8 (b.toNat : Int)] 5)).heap.size = w4.heap.size + 1 by simp]; exact hq5)
    have HZ5 := Lib.hid hz5
    have HN5 := Lib.hid (show Nwr w (tb A' z.out.length c) (tb A5 (({ z with st := litSt st } : Lzs).push b).out.length c5') from fun i hi => (hn5 i hi).imp id (fun h => Nat.le_trans HO3.out.size h))
    have HO5 := Lib.hid (show Only (K.all Ge (tb A' z.out.length c)) w (w5.setCell ⟨K.g, 5, none⟩ (.slice A5 (z.out.length + 1) c5')) from (HO3.out.mono (fun i hi => .inl hi)).trans' ho5' (fun i hi => by
      rcases hi with (hi | hi | hi) | hi
      · exact .inl (.inl (.inl hi))
      · rcases HN3.out i hi with e | e
        · exact .inl (.inl (.inr (.inl e)))
        · exact .inr e
      · exact .inl (.inl (.inr (.inr hi)))
      · exact .inl (.inr hi)))
    clear ho5 hg5 hq5 hz5 hn5 ho5' HPU HOW HA1 c5 c5a
    go_wp2_with fail
    first | go_end0 | refine bodyPost_ret (results_none rfl _ _ _) rfl ?_
    have hz6 := HZ5.out
    have hn6 := HN5.out
    rw [HST.out] at hz6 hn6
    exact ⟨rfl, G2, A5, c5', hz6, HN3.out, hn6, HO5.out⟩
  · have hs7 : decide (7 ≤ st) = true := decide_eq_true (by omega)
    have KPA := fun w => papart_any st w
    simp only [hs7] at KPA
    have KPA := Lib.hid KPA
    rw [hs7]
    have KT := Lib.hid (fun (w1 : World) (h1 : Cw K w1 Ge A' c z (k + 8) t) (cap : Nat) => cbes_any (cap := cap) (x := b) h1 (by omega) hr0 hAa hlim.1 hlim.2)
    generalize (litG encM t A (z.back z.r0) b true 8).t = T at *
    clear h7 hs7 hdef hst hst11 hr0 hlim hAa ha hA0 hA hin hz hN hout h hlt
    go_enter Tryz.func65, Tryz.ntmps65
    go_wp2_with fail
    go_region_held3 (fun w' => w'.cell? ⟨K.g, 0, none⟩ = some (.int .i64 (z.lc : Int)) ∧ w'.cell? ⟨K.g, 1, none⟩ = some (.int .i64 (z.lp : Int)) ∧ w'.cell? ⟨K.g, 2, none⟩ = some (.int .i64 (z.pb : Int)) ∧ w'.cell? ⟨K.g, 3, none⟩ = some (.int .i64 (z.dict : Int)) ∧ w'.cell? ⟨K.g, 5, none⟩ = some (.slice A' z.out.length c) ∧ w'.cell? ⟨K.g, 1858, none⟩ = some (.slice (some ⟨K.lb, 0, none⟩) K.nl K.nl))
      (first | assumption | go_keep | exact ⟨c0, c1, c2, c3, c5, cl⟩ | exact HS.out _ HQ1.out)
      (first
        | (go_at_call 87; refine (KA.out _).mono ?_; rintro e wa ⟨rfl, na, rfl⟩)
        | (go_at_call 86; refine (KR.out _).mono ?_; rintro e w1 ⟨rfl, hq1⟩; have HQ1 := Lib.hid (show Only (fun _ => False) w w1 from Only.of_drewN hq1); clear hq1))
    have hz1 := HZ0.out.quiet HQ1.out
    have c6 := hz1.f.c6
    rw [← HST.out] at c6
    have c4 := hz1.f.c4
    have HQ1 := Lib.hid HQ1.out
    have KT1 := Lib.hid (KT.out w1 hz1 (K.nl - a))
    clear KT hz1 KR KA HS HZ0 c0 c1 c2 c3 c5 cl
    go_wp2_with fail
    refine (KPA.out _).mono ?_
    rintro e w1' ⟨rfl, rfl⟩
    clear KPA
    go_wp2_with fail
    refine KT1.out.mono ?_
    rintro e w2 ⟨rfl, G2, hz2, hn2, ho2⟩
    have d6 := hz2.f.c6
    rw [← HST.out] at d6
    have x6 := hz2.f.fz 6
    have HZ3 : Hid (Cw K (w2.setCell ⟨K.g, 6, none⟩ (.int .i64 ((litSt st : Nat) : Int))) G2 A' c { z with st := litSt st } k T) := Lib.hid (hz2.put 6 (by decide) (.int .i64 ((litSt st : Nat) : Int)) (z' := { z with st := litSt st }) rfl rfl)
    have HN3 := Lib.hid (show Nwr w Ge G2 from fun i hi => (hn2 i hi).imp id (fun h => Nat.le_trans HQ1.out.size h))
    have HO3 : Hid (Only (K.own Ge) w (w2.setCell ⟨K.g, 6, none⟩ (.int .i64 ((litSt st : Nat) : Int)))) := Lib.hid (((HQ1.out.mono fun _ h => h.elim).trans ho2).cwn_put 6 (.int .i64 ((litSt st : Nat) : Int)))
    clear hz2 hn2 ho2 KT1 c4 c6 HQ1
    go_wp2_with fail
    refine (KL.out _).mono ?_
    rintro e w3 ⟨rfl, rfl⟩
    clear KL
    go_upto_region 5 with fail
    generalize w2.setCell ⟨K.g, 6, none⟩ (.int .i64 ((litSt st : Nat) : Int)) = w4 at *
    clear d6 x6
    have c5 := HZ3.out.f.c5
    have HA1 := Lib.hid (show Only (fun _ => False) w4 (w4.alloc (.cells #[.int .u8 (b.toNat : Int)] 5)) from (Only.refl _ _).alloc _)
    have c5a : (w4.alloc (.cells #[.int .u8 (b.toNat : Int)] 5)).cell? ⟨K.g, 5, none⟩ = some (.slice A' z.out.length c) := (HZ3.out.quiet HA1.out).f.c5
    have HOW := Lib.hid HZ3.out.told
    have hpu := fun (w3 : World) (A2 : Option Addr) (c2 : Nat) => Cw.pushed (w3 := w3) (A2 := A2) (c2 := c2) (x := b) HZ3.out HA1.out
    have HPU := Lib.hid hpu
    clear hpu
    change World.cell? _ _ = some (.slice A' z.out.length c) at c5
    obtain ⟨ln, hln⟩ : ∃ ln, ln = z.out.length := ⟨_, rfl⟩
    have HLN := Lib.hid hln
    rw [← hln] at c5 c5a
    have HL := Lib.hid (show ln ≤ 900000 by rw [hln]; exact HOUT.out)
    have HOW : Hid (w4.ownsRow 0 5 1 (.slice A' ln c) ln (bv z.out)) := Lib.hid (by rw [hln]; exact HOW.out)
    clear hln
    go_wp2_with (at_builtin; refine wpList_app2 _ rfl (.tmp 50) (.tmp 52) 22 rfl 0 5 i _ 1 Tryz.underlying22 hi hz0 hz1 hz2 rfl _ ln (bv z.out) rfl (HOW.out.alloc _) (some ⟨w4.heap.size, 0, none⟩) 1 1 [.int .u8 (b.toNat : Int)] rfl (sl_one w4 _ _) (one_one _ _) (by have := HL.out; omega) (by omega) (Nat.zero_le _) ?_)
    intro A5 c5' w5 ho5 hg5 hq5
    have HLN2 := HLN.out
    subst HLN2
    obtain ⟨d5, f5, _, hz5, hn5, ho5'⟩ := HPU.out w5 A5 c5' ho5 hg5 (by rw [show (w4.alloc (.cells #[.int .u8 (b.toNat : Int)] 5)).heap.size = w4.heap.size + 1 by simp]; exact hq5)
    have HZ5 := Lib.hid hz5
    have HN5 := Lib.hid (show Nwr w (tb A' z.out.length c) (tb A5 (({ z with st := litSt st } : Lzs).push b).out.length c5') from fun i hi => (hn5 i hi).imp id (fun h => Nat.le_trans HO3.out.size h))
    have HO5 := Lib.hid (show Only (K.all Ge (tb A' z.out.length c)) w (w5.setCell ⟨K.g, 5, none⟩ (.slice A5 (z.out.length + 1) c5')) from (HO3.out.mono (fun i hi => .inl hi)).trans' ho5' (fun i hi => by
      rcases hi with (hi | hi | hi) | hi
      · exact .inl (.inl (.inl hi))
      · rcases HN3.out i hi with e | e
        · exact .inl (.inl (.inr (.inl e)))
        · exact .inr e
      · exact .inl (.inl (.inr (.inr hi)))
      · exact .inl (.inr hi)))
    clear ho5 hg5 hq5 hz5 hn5 ho5' HPU HOW HA1 c5 c5a
    go_wp2_with fail
    first | go_end0 | refine bodyPost_ret (results_none rfl _ _ _) rfl ?_
    have hz6 := HZ5.out
    have hn6 := HN5.out
    rw [HST.out] at hz6 hn6
    exact ⟨rfl, G2, A5, c5', hz6, HN3.out, hn6, HO5.out⟩
end
end Go.Proofs.YtoencondpbkomaaGreat

/-
  The program's coder of LZMA: a length.
-/
namespace Go.Proofs.YtoencondpbkomaaGreat
open Go.RowKit

/-! ### what a coder tells of a length, as numbers -/
theorem enc_tell (t : Pm En) (a : Nat) (w : Int) : (bitP encM t a w).1 = w.toNat := rfl
theorem lenE0 {t : Pm En} {A s v : Nat} (h : v < 8) : (lenP encM t A s (v : Int)).2 = (treeP encM (bitP encM t A 0).2 (A + 2 + 8 * s) 3 (v : Int)).2 := by
  have e : min ((v : Int).tdiv 8) 1 = 0 := by rw [Int.tdiv_eq_ediv_of_nonneg (by omega)]; omega
  unfold lenP lenA
  rw [e, if_pos (show (bitP encM t A 0).1 = 0 from rfl)]
theorem lenE1 {t : Pm En} {A s v : Nat} (h8 : 8 ≤ v) (h : v < 16) : (lenP encM t A s (v : Int)).2 = (treeP encM (bitP encM (bitP encM t A 1).2 (A + 1) 0).2 (A + 130 + 8 * s) 3 ((v - 8 : Nat) : Int)).2 := by
  have e : min ((v : Int).tdiv 8) 1 = 1 := by rw [Int.tdiv_eq_ediv_of_nonneg (by omega)]; omega
  have e2 : min ((v : Int).tdiv 16) 1 = 0 := by rw [Int.tdiv_eq_ediv_of_nonneg (by omega)]; omega
  unfold lenP lenA
  rw [e, if_neg (show ¬ (bitP encM t A 1).1 = 0 from by rw [enc_tell]; decide), e2]
  unfold lenB
  rw [if_pos (show (bitP encM (bitP encM t A 1).2 (A + 1) 0).1 = 0 from rfl), show ((v - 8 : Nat) : Int) = (v : Int) - 8 by omega]
theorem lenE2 {t : Pm En} {A s v : Nat} (h : 16 ≤ v) : (lenP encM t A s (v : Int)).2 = (treeP encM (bitP encM (bitP encM t A 1).2 (A + 1) 1).2 (A + 258) 8 ((v - 16 : Nat) : Int)).2 := by
  have e : min ((v : Int).tdiv 8) 1 = 1 := by rw [Int.tdiv_eq_ediv_of_nonneg (by omega)]; omega
  have e2 : min ((v : Int).tdiv 16) 1 = 1 := by rw [Int.tdiv_eq_ediv_of_nonneg (by omega)]; omega
  unfold lenP lenA
  rw [e, if_neg (show ¬ (bitP encM t A 1).1 = 0 from by rw [enc_tell]; decide), e2]
  unfold lenB
  rw [if_neg (show ¬ (bitP encM (bitP encM t A 1).2 (A + 1) 1).1 = 0 from by rw [enc_tell]; decide), show ((v - 16 : Nat) : Int) = (v : Int) - 16 by omega]

section
variable {K : Koc} {w w' : World} {Ge Ge' : Option Nat} {A' : Option Addr} {c : Nat} {z : Lzs} {k : Nat} {t : Pm En}

/-- a slice of pointers to probabilities, laid anew; the bits 1 with them -/
theorem Cw.ones {n : Nat} {al : List Nat} {cs : Array Value} {T : TypeId} (h : Cw K w Ge A' c z (k + n) t) (hn : al.length = n) (hn5 : n ≤ 100) (ha : ∀ a ∈ al, a < 1847 + K.nl) (hcs : cs = (al.map fun a => Value.pointer (some ⟨(K.ad a).1, (K.ad a).2, none⟩)).toArray) :
    Calls Tryz.prog 85 #[.pointer (some ⟨K.g, 0, none⟩), .slice (some ⟨w.heap.size, 0, none⟩) n n] (w.alloc (.cells cs T)) (CMid K w Ge (.tuple #[]) A' c z k (onesP t al)) := by
  obtain ⟨o1, o2, o3, o4, o5⟩ := h.old
  have hO : Only (fun _ => False) w (w.alloc (.cells cs T)) := (Only.refl _ w).alloc _
  have hz := h.quiet hO
  have hB : Blk (w.alloc (.cells cs T)) w.heap.size T cs := Blk.fresh w _ _
  refine (cones_any (q := w.heap.size) hz hn hn5 hB.lt ?_ ha (fun j hj => ?_)).mono ?_
  · rintro (e | e | e | e)
    · omega
    · have := o4 _ e; omega
    · omega
    · omega
  · rw [hB.cell, hcs]
    simp [hj]
  · rintro e w' ⟨rfl, G', h1, h2, h3⟩
    exact ⟨rfl, G', h1, fun i hi => (h2 i hi).imp id (fun h => Nat.le_trans hO.size h), (hO.mono fun _ h => h.elim).trans h3⟩
end

section
variable {K : Koc} {w w' : World} {Ge Ge' : Option Nat} {A' : Option Addr} {c : Nat} {z : Lzs} {k : Nat} {t : Pm En}

theorem cplace_q (h : Cw K w Ge A' c z k t) (hp : z.pb ≤ 4) (ho : z.out.length ≤ 1000000) (n : Nat) :
    Calls Tryz.prog 83 #[.pointer (some ⟨K.g, 0, none⟩)] (w.drewN n) fun e w' => e = .returned (.int .i64 ((z.out.length % 2 ^ z.pb : Nat) : Int)) ∧ Only (fun _ => False) w w' := by
  refine (cplace_any (h.drewN n) hp ho).mono ?_
  rintro e w' ⟨rfl, m, rfl⟩
  exact ⟨rfl, Only.of_drewN ((Only.refl _ _).drewN m)⟩

set_option maxRecDepth 100000 in
set_option maxHeartbeats 8000000 in
/-- The coder codes a length. -/
theorem clenc_any {A o s v : Nat} (h : Cw K w Ge A' c z (k + 10) t) (hp : z.pb ≤ 4) (ho : z.out.length ≤ 1000000) (hA : 688 ≤ A) (hA2 : A + 514 ≤ 1847) (hoA : o = 11 + (A - 256)) (hs : s = z.out.length % 2 ^ z.pb) (hv : v < 272) :
    Calls Tryz.prog 92 #[.pointer (some ⟨K.g, 0, none⟩), .pointer (some ⟨K.g, o, none⟩), .int .i64 (v : Int)] w (CMid K w Ge (.tuple #[]) A' c z k (lenP encM t A s (v : Int)).2) := by
  have hs15 : s ≤ 15 := by rw [hs]; exact mod_pb hp
  have KP := cplace_q h hp ho 0
  rw [← hs] at KP
  have KP := Lib.hid KP
  have j1 : (s : Int) < 16 := by omega
  have j0 : (0 : Int) ≤ (s : Int) := by omega
  have HL := Lib.hid (And.intro hA (And.intro hA2 (And.intro hoA hs15)))
  have ad0 : K.ad A = (K.g, o) := K.lay.rest hA (by omega) (by omega)
  have ad1 : K.ad (A + 1) = (K.g, o + 1) := K.lay.rest (by omega) (by omega) (by omega)
  have HAD := Lib.hid (And.intro ad0 ad1)
  have HV := Lib.hid hv
  by_cases h8 : v < 8
  · rw [lenE0 h8]
    have g8 : (v : Int) < 8 := by omega
    have e1 : IntKind.u32.wrap (v : Int) = (v : Int) := u32_of _ (by omega) (by omega)
    clear h8
    have HZ0 := Lib.hid h
    have HN0 := Lib.hid (Nwr.refl w Ge)
    have HO0 := Lib.hid (Only.refl (K.own Ge) w)
    clear h hs hp ho hA hA2 hoA hs15 ad0 ad1 hv
    go_enter Tryz.func92, Tryz.ntmps92
    go_wp2_with fail
    refine KP.out.mono ?_
    rintro e w1 ⟨rfl, hq⟩
    have HZ1 := Lib.hid (HZ0.out.quiet hq)
    have HN1 := HN0
    have HO1 := Lib.hid (show Only (K.own Ge) w w1 from hq.mono fun _ h => h.elim)
    clear hq KP HZ0 HN0 HO0
    go_wp2_with fail
    have c4 := HZ1.out.f.c4
    have KC := Lib.hid (fun n => (HZ1.out.drewN n).bit0 (k := k + 9) (a := A) (b := K.g) (i := o) HAD.out.1 (by have := HL.out; omega))
    go_region_held3 (fun w' => w'.cell? ⟨K.g, 4, none⟩ = some (.pointer (some ⟨K.eg, 0, none⟩))) (first | assumption | go_keep | exact c4 | exact f4) (first | (go_at_call 84; refine (KC.out _).mono ?_; rintro e w2 ⟨rfl, G2, hz2, hn2, ho2⟩; have HZ2 := Lib.hid hz2; have HN2 := Lib.hid (HN1.out.trans hn2 HO1.out.size); have HO2 := Lib.hid (cset_trans HO1.out HN1.out (Only.of_drewN ho2)); have f4 := hz2.f.c4; clear hz2 hn2 ho2))
    clear KC c4 f4
    clear HZ1 HN1 HO1
    go_wp2_with fail
    have c4 := HZ2.out.f.c4
    have KC := Lib.hid (fun n => ((HZ2.out.drewN n).less (k' := k + 3) (by omega)).tree (n := 3) (a := A + 2 + 8 * s) (b := K.g) (o := o + 2 + s * 8) (len := 8) (cap := 8) (V := v) (fun m hm => (K.lay.rest (by have := HL.out; omega) (by have : m < 8 := hm; have := HL.out; omega) (by have := HL.out; omega))) (by show _ + 8 ≤ _; have := HL.out; omega) (by decide) (by decide) (by have := HV.out; omega))
    go_region_held3 (fun w' => w'.cell? ⟨K.g, 4, none⟩ = some (.pointer (some ⟨K.eg, 0, none⟩))) (first | assumption | go_keep | exact c4 | exact f4) (first | (go_at_call 90; refine (KC.out _).mono ?_; rintro e w3 ⟨rfl, G3, hz3, hn3, ho3⟩; have HZ3 := Lib.hid hz3; have HN3 := Lib.hid (HN2.out.trans hn3 HO2.out.size); have HO3 := Lib.hid (cset_trans HO2.out HN2.out (Only.of_drewN ho3)); have f4 := hz3.f.c4; clear hz3 hn3 ho3))
    clear KC c4 f4
    clear HZ2 HN2 HO2
    go_wp2_with fail
    first | go_end0 | refine bodyPost_ret (results_none rfl _ _ _) rfl ?_
    exact ⟨rfl, G3, HZ3.out, HN3.out, HO3.out⟩
  by_cases h16 : v < 16
  · rw [lenE1 (by omega) h16]
    have g8 : ¬ (v : Int) < 8 := by omega
    have g16 : (v : Int) < 16 := by omega
    obtain ⟨u, hu⟩ : ∃ u, u = v - 8 := ⟨_, rfl⟩
    rw [← hu]
    have e0 : IntKind.i64.wrap ((v : Int) - 8) = (u : Int) := by rw [show (v : Int) - 8 = (u : Int) by omega]; exact IntWalk.i64_in _ (by omega)
    have e1 : IntKind.u32.wrap (u : Int) = (u : Int) := u32_of _ (by omega) (by omega)
    have HV := Lib.hid (show u < 272 by omega)
    clear h8 h16 hu
    have HZ0 := Lib.hid h
    have HN0 := Lib.hid (Nwr.refl w Ge)
    have HO0 := Lib.hid (Only.refl (K.own Ge) w)
    clear h hs hp ho hA hA2 hoA hs15 ad0 ad1 hv
    go_enter Tryz.func92, Tryz.ntmps92
    go_wp2_with fail
    refine KP.out.mono ?_
    rintro e w1 ⟨rfl, hq⟩
    have HZ1 := Lib.hid (HZ0.out.quiet hq)
    have HN1 := HN0
    have HO1 := Lib.hid (show Only (K.own Ge) w w1 from hq.mono fun _ h => h.elim)
    clear hq KP HZ0 HN0 HO0
    go_wp2_with fail
    have c4 := HZ1.out.f.c4
    have KC := Lib.hid ((HZ1.out.ones (k := k + 9) (n := 1) (al := [A]) (cs := #[.pointer (some ⟨K.g, o, none⟩)]) (T := 141) rfl (by decide) (by intro a ha; simp at ha; have := HL.out; omega) (by simp [HAD.out.1])))
    go_wp2_with fail
    refine KC.out.mono ?_
    rintro e w2 ⟨rfl, G2, hz2, hn2, ho2⟩
    have HZ2 := Lib.hid hz2
    have HN2 := Lib.hid (HN1.out.trans hn2 HO1.out.size)
    have HO2 := Lib.hid (cset_trans HO1.out HN1.out (ho2))
    have f4 := hz2.f.c4
    clear hz2 hn2 ho2
    clear KC c4 f4
    clear HZ1 HN1 HO1
    go_wp2_with fail
    have c4 := HZ2.out.f.c4
    have KC := Lib.hid (fun n => (HZ2.out.drewN n).bit0 (k := k + 8) (a := A + 1) (b := K.g) (i := o + 1) HAD.out.2 (by have := HL.out; omega))
    go_region_held3 (fun w' => w'.cell? ⟨K.g, 4, none⟩ = some (.pointer (some ⟨K.eg, 0, none⟩))) (first | assumption | go_keep | exact c4 | exact f4) (first | (go_at_call 84; refine (KC.out _).mono ?_; rintro e w3 ⟨rfl, G3, hz3, hn3, ho3⟩; have HZ3 := Lib.hid hz3; have HN3 := Lib.hid (HN2.out.trans hn3 HO2.out.size); have HO3 := Lib.hid (cset_trans HO2.out HN2.out (Only.of_drewN ho3)); have f4 := hz3.f.c4; clear hz3 hn3 ho3))
    clear KC c4 f4
    clear HZ2 HN2 HO2
    go_wp2_with fail
    have c4 := HZ3.out.f.c4
    have KC := Lib.hid (fun n => ((HZ3.out.drewN n).less (k' := k + 3) (by omega)).tree (n := 3) (a := A + 130 + 8 * s) (b := K.g) (o := o + 130 + s * 8) (len := 8) (cap := 8) (V := u) (fun m hm => (K.lay.rest (by have := HL.out; omega) (by have : m < 8 := hm; have := HL.out; omega) (by have := HL.out; omega))) (by show _ + 8 ≤ _; have := HL.out; omega) (by decide) (by decide) (by have := HV.out; omega))
    go_region_held3 (fun w' => w'.cell? ⟨K.g, 4, none⟩ = some (.pointer (some ⟨K.eg, 0, none⟩))) (first | assumption | go_keep | exact c4 | exact f4) (first | (go_at_call 90; refine (KC.out _).mono ?_; rintro e w4 ⟨rfl, G4, hz4, hn4, ho4⟩; have HZ4 := Lib.hid hz4; have HN4 := Lib.hid (HN3.out.trans hn4 HO3.out.size); have HO4 := Lib.hid (cset_trans HO3.out HN3.out (Only.of_drewN ho4)); have f4 := hz4.f.c4; clear hz4 hn4 ho4))
    clear KC c4 f4
    clear HZ3 HN3 HO3
    go_wp2_with fail
    first | go_end0 | refine bodyPost_ret (results_none rfl _ _ _) rfl ?_
    exact ⟨rfl, G4, HZ4.out, HN4.out, HO4.out⟩
  rw [lenE2 (by omega)]
  have g8 : ¬ (v : Int) < 8 := by omega
  have g16 : ¬ (v : Int) < 16 := by omega
  obtain ⟨u, hu⟩ : ∃ u, u = v - 16 := ⟨_, rfl⟩
  rw [← hu]
  have e0 : IntKind.i64.wrap ((v : Int) - 16) = (u : Int) := by rw [show (v : Int) - 16 = (u : Int) by omega]; exact IntWalk.i64_in _ (by omega)
  have e1 : IntKind.u32.wrap (u : Int) = (u : Int) := u32_of _ (by omega) (by omega)
  have HV := Lib.hid (show u < 272 by omega)
  clear h8 h16 hu
  have HZ0 := Lib.hid h
  have HN0 := Lib.hid (Nwr.refl w Ge)
  have HO0 := Lib.hid (Only.refl (K.own Ge) w)
  clear h hs hp ho hA hA2 hoA hs15 ad0 ad1 hv
  go_enter Tryz.func92, Tryz.ntmps92
  go_wp2_with fail
  refine KP.out.mono ?_
  rintro e w1 ⟨rfl, hq⟩
  have HZ1 := Lib.hid (HZ0.out.quiet hq)
  have HN1 := HN0
  have HO1 := Lib.hid (show Only (K.own Ge) w w1 from hq.mono fun _ h => h.elim)
  clear hq KP HZ0 HN0 HO0
  go_wp2_with fail
  have KO := Lib.hid (fun n => (HZ1.out.drewN n).ones (k := k + 8) (n := 2) (al := [A, A + 1]) (cs := #[.pointer (some ⟨K.g, o, none⟩), .pointer (some ⟨K.g, o + 1, none⟩)]) (T := 141) rfl (by decide) (by intro a ha; simp at ha; have := HL.out; omega) (by simp [HAD.out.1, HAD.out.2]))
  go_region_held3 (fun _ => True) (first | trivial | assumption | go_keep) (first | (go_at_call 85; refine (KO.out _).mono ?_; rintro e w2 ⟨rfl, G2, hz2, hn2, ho2⟩; have HZ2 := Lib.hid hz2; have HN2 := Lib.hid (HN1.out.trans hn2 HO1.out.size); have HO2 := Lib.hid (cset_trans HO1.out HN1.out (Only.of_drewN ho2)); clear hz2 hn2 ho2))
  clear KO HZ1 HN1 HO1
  go_wp2_with fail
  have c4 := HZ2.out.f.c4
  have KC := Lib.hid (fun n => ((HZ2.out.drewN n).less (k' := k + 8) (by omega)).tree (n := 8) (a := A + 258) (b := K.g) (o := o + 258) (len := 256) (cap := 256) (V := u) (fun m hm => (K.lay.rest (by have := HL.out; omega) (by have : m < 256 := hm; have := HL.out; omega) (by have := HL.out; omega))) (by show _ + 256 ≤ _; have := HL.out; omega) (by decide) (by decide) (by have := HV.out; omega))
  go_region_held3 (fun w' => w'.cell? ⟨K.g, 4, none⟩ = some (.pointer (some ⟨K.eg, 0, none⟩))) (first | assumption | go_keep | exact c4 | exact f4) (first | (go_at_call 90; refine (KC.out _).mono ?_; rintro e w3 ⟨rfl, G3, hz3, hn3, ho3⟩; have HZ3 := Lib.hid hz3; have HN3 := Lib.hid (HN2.out.trans hn3 HO2.out.size); have HO3 := Lib.hid (cset_trans HO2.out HN2.out (Only.of_drewN ho3)); have f4 := hz3.f.c4; clear hz3 hn3 ho3))
  clear KC c4 f4
  clear HZ2 HN2 HO2
  go_wp2_with fail
  first | go_end0 | refine bodyPost_ret (results_none rfl _ _ _) rfl ?_
  exact ⟨rfl, G3, HZ3.out, HN3.out, HO3.out⟩
end
end Go.Proofs.YtoencondpbkomaaGreat

/-
  The program's slots of distances: how many bits a number has, a distance's slot.
-/
namespace Go.Proofs.YtoencondpbkomaaGreat
open Go.RowKit

theorem slot_len {v : Nat} (hv : v < 4294967296) : (v < 4 ∧ slotOf v = v ∧ Lib.bitLen v ≤ 2) ∨ ∃ m, 1 ≤ m ∧ m ≤ 30 ∧ Lib.bitLen v = m + 2 ∧ slotOf v = 2 * m + v / 2 ^ m ∧ 2 ≤ v / 2 ^ m ∧ v / 2 ^ m < 4 := by
  obtain ⟨m, h1, h2, h3, h4⟩ := slotGo_spec 32 v 0 (by omega)
  have hs : slotOf v = 2 * m + v / 2 ^ m := by unfold slotOf; rw [h1]; simp
  by_cases h4v : v < 4
  · refine .inl ⟨h4v, ?_, Lib.bitLen_le v 2 (by decide) (by omega)⟩
    rcases h3 with h0 | h0
    · subst h0; simp at hs; omega
    · have h5 := Nat.mul_le_of_le_div _ _ _ h0
      rcases Nat.eq_zero_or_pos m with h6 | h6
      · subst h6; simp at hs; omega
      · have : 2 ^ 1 ≤ 2 ^ m := pow_le_of h6
        omega
  · have hm1 : 1 ≤ m := by
      rcases Nat.eq_zero_or_pos m with h0 | h0
      · subst h0; simp at h2; omega
      · exact h0
    have h0 : 2 ≤ v / 2 ^ m := by rcases h3 with h | h; omega; exact h
    have h5 := Nat.mul_le_of_le_div _ _ _ h0
    have hm : m ≤ 30 := by
      rcases Nat.lt_or_ge m 31 with h6 | h6
      · omega
      · have := pow_le_of h6
        omega
    refine .inr ⟨m, hm1, hm, ?_, hs, h0, h2⟩
    rw [Lib.bitLen_shift m v (by omega) (by omega)]
    have : Lib.bitLen (v / 2 ^ m) = 2 := by
      generalize v / 2 ^ m = y at *
      have : y = 2 ∨ y = 3 := by omega
      rcases this with rfl | rfl <;> decide
    rw [this]

theorem len8_nat {x : Nat} (hx : x < 256) : Lib.len8 (x : Int) = (Lib.bitLen x : Int) := Lib.len8_eq ⟨x, hx⟩

set_option maxRecDepth 100000 in
set_option maxHeartbeats 2000000 in
theorem len32_any {x : Nat} (hx : x < 4294967296) (w : World) : Calls Tryz.prog 117 #[.int .u32 (x : Int)] w fun e w' => e = .returned (.int .i64 (Lib.bitLen x : Int)) ∧ w = w' := by
  have main : ∀ (y n : Nat), y < 256 → n ≤ 24 → Lib.bitLen x = n + Lib.bitLen y → wrap64 ((n : Int) + wrap64 (Lib.len8 (y : Int))) = (Lib.bitLen x : Int) := fun y n hy hn h => by
    have hb := Lib.bitLen_le8 ⟨y, hy⟩
    simp only at hb
    rw [len8_nat hy, h]
    unfold wrap64
    omega
  by_cases h2 : x < 65536
  · have g1 : ¬ (x : Int) ≥ 65536 := by omega
    by_cases h1 : x < 256
    · have g2 : ¬ (x : Int) ≥ 256 := by omega
      have hm := main x 0 h1 (by decide) (by simp)
      have e1 : IntKind.u8.wrap (x : Int) = (x : Int) := by simp [IntKind.wrap, IntKind.bits, IntKind.signed]; omega
      have HM := Lib.hid hm
      have g0 : (0 : Int) ≤ (x : Int) := by omega
      have g3 : (x : Int) ≤ 255 := by omega
      clear hm main hx h1 h2
      go_enter Tryz.func117, Tryz.ntmps117
      go_wp2_with fail
      go_ret
      exact ⟨ret_int (by have := HM.out; simpa using this), rfl⟩
    · have g2 : (x : Int) ≥ 256 := by omega
      obtain ⟨y, hy⟩ : ∃ y, y = x / 256 := ⟨_, rfl⟩
      have hm := main y 8 (by omega) (by decide) (by rw [hy]; exact Lib.bitLen_shift8 x (by omega) (by omega))
      have e0 : (x : Int) / 256 = (y : Int) := by omega
      have e1 : IntKind.u8.wrap (y : Int) = (y : Int) := by simp [IntKind.wrap, IntKind.bits, IntKind.signed]; omega
      have HM := Lib.hid hm
      have g0 : (0 : Int) ≤ (y : Int) := by omega
      have g3 : (y : Int) ≤ 255 := by omega
      clear hm main hx h1 h2 hy
      go_enter Tryz.func117, Tryz.ntmps117
      go_wp2_with fail
      go_ret
      exact ⟨ret_int (by have := HM.out; simpa using this), rfl⟩
  · have g1 : (x : Int) ≥ 65536 := by omega
    obtain ⟨y, hy⟩ : ∃ y, y = x / 65536 := ⟨_, rfl⟩
    have e0 : (x : Int) / 65536 = (y : Int) := by omega
    by_cases h1 : y < 256
    · have g2 : ¬ (y : Int) ≥ 256 := by omega
      have hm := main y 16 h1 (by decide) (by rw [hy]; exact Lib.bitLen_shift16 x (by omega) (by omega))
      have e1 : IntKind.u8.wrap (y : Int) = (y : Int) := by simp [IntKind.wrap, IntKind.bits, IntKind.signed]; omega
      have HM := Lib.hid hm
      have g0 : (0 : Int) ≤ (y : Int) := by omega
      have g3 : (y : Int) ≤ 255 := by omega
      clear hm main hx h1 h2 hy
      go_enter Tryz.func117, Tryz.ntmps117
      go_wp2_with fail
      go_ret
      exact ⟨ret_int (by have := HM.out; simpa using this), rfl⟩
    · have g2 : (y : Int) ≥ 256 := by omega
      obtain ⟨u, hu⟩ : ∃ u, u = y / 256 := ⟨_, rfl⟩
      have e2 : (y : Int) / 256 = (u : Int) := by omega
      have hm := main u 24 (by omega) (by decide) (by rw [hu, hy, Nat.div_div_eq_div_mul]; exact Lib.bitLen_shift24 x (by omega) (by omega))
      have e1 : IntKind.u8.wrap (u : Int) = (u : Int) := by simp [IntKind.wrap, IntKind.bits, IntKind.signed]; omega
      have HM := Lib.hid hm
      have g0 : (0 : Int) ≤ (u : Int) := by omega
      have g3 : (u : Int) ≤ 255 := by omega
      clear hm main hx h1 h2 hy hu
      go_enter Tryz.func117, Tryz.ntmps117
      go_wp2_with fail
      go_ret
      exact ⟨ret_int (by have := HM.out; simpa using this), rfl⟩

set_option maxRecDepth 100000 in
set_option maxHeartbeats 2000000 in
/-- a distance's slot, and how many of its bits the slot leaves open -/
theorem cslot_any {v : Nat} (hv : v < 4294967296) (w : World) : Calls Tryz.prog 109 #[.int .u32 (v : Int)] w fun e w' =>
    (∃ n : Nat, e = .returned (.tuple #[.int .i64 ((slotOf v : Nat) : Int), .int .i64 (n : Int)]) ∧ (4 ≤ slotOf v → n = slotOf v / 2 - 1)) ∧ w = w' := by
  have KL := Lib.hid (len32_any hv w)
  rcases slot_len hv with ⟨h4, hs, hl⟩ | ⟨m, h1, h30, hl, hs, h2, h3⟩
  · have e1 : IntKind.i64.wrap ((Lib.bitLen v : Int) - 2) = (Lib.bitLen v : Int) - 2 := IntWalk.i64_in _ (by omega)
    have g1 : (Lib.bitLen v : Int) - 2 < 1 := by omega
    have e2 : IntKind.i64.wrap (v : Int) = (v : Int) := IntWalk.i64_in _ (by omega)
    have HS := Lib.hid (And.intro h4 hs)
    rw [hs]
    clear hl hs h4 hv
    generalize (Lib.bitLen v) = y at *
    go_enter Tryz.func109, Tryz.ntmps109
    go_wp2_with fail
    refine KL.out.mono ?_
    rintro e w1 ⟨rfl, rfl⟩
    go_wp2_with fail
    go_ret2
    exact ⟨⟨0, rfl, fun h => by have := HS.out; omega⟩, rfl⟩
  · obtain ⟨y, hy⟩ : ∃ y, y = v / 2 ^ m := ⟨_, rfl⟩
    rw [← hy] at hs h2 h3
    have e1 : IntKind.i64.wrap ((Lib.bitLen v : Int) - 2) = (m : Int) := by rw [hl, show ((m + 2 : Nat) : Int) - 2 = (m : Int) by omega]; exact IntWalk.i64_in _ (by omega)
    have g1 : ¬ (m : Int) < 1 := by omega
    have e2 : IntKind.i64.wrap (2 * (m : Int)) = 2 * (m : Int) := IntWalk.i64_in _ (by omega)
    have e3 : (v : Int) / 2 ^ m = (y : Int) := by rw [cast_pow2, hy]; exact (Int.natCast_ediv v (2 ^ m)).symm
    have e4 : IntKind.i64.wrap (y : Int) = (y : Int) := IntWalk.i64_in _ (by omega)
    have e5 : IntKind.i64.wrap (2 * (m : Int) + (y : Int)) = ((slotOf v : Nat) : Int) := by rw [show 2 * (m : Int) + (y : Int) = ((slotOf v : Nat) : Int) by omega]; exact IntWalk.i64_in _ (by omega)
    have e6 : min m 32 = m := by omega
    have e7 : (0 : Int) ≤ (m : Int) := by omega
    have HS := Lib.hid (show slotOf v / 2 - 1 = m by omega)
    clear hl hs h2 h3 hy hv h1 h30
    generalize slotOf v = s at *
    generalize (Lib.bitLen v) = L at *
    go_enter Tryz.func109, Tryz.ntmps109
    go_wp2_with fail
    refine KL.out.mono ?_
    rintro e w1 ⟨rfl, rfl⟩
    go_wp2_with fail
    go_ret2
    exact ⟨⟨m, rfl, fun _ => HS.out.symm⟩, rfl⟩
end Go.Proofs.YtoencondpbkomaaGreat

/-
  The program's coder of LZMA: a distance.
-/
namespace Go.Proofs.YtoencondpbkomaaGreat
open Go.RowKit

/-! ### bits of a number and of its rest behind a base -/
theorem two_pred {n : Nat} (h : 0 < n) : 2 ^ n = 2 * 2 ^ (n - 1) := by
  rw [← Nat.pow_succ']
  congr 1
  omega
theorem base_bits {v b n i : Nat} (hb : b ≤ v) (hm : b % 2 ^ n = 0) (hi : i < n) : bitOf (v - b) i = bitOf v i := by
  obtain ⟨q, hq⟩ := Nat.dvd_of_mod_eq_zero hm
  have e : 2 ^ n = 2 * (2 ^ i * 2 ^ (n - 1 - i)) := by rw [← Nat.pow_add, show i + (n - 1 - i) = n - 1 by omega]; exact two_pred (by omega)
  obtain ⟨r, hr⟩ : ∃ r, r = 2 ^ (n - 1 - i) * q := ⟨_, rfl⟩
  have hb2 : b = 2 ^ i * (2 * r) := by rw [hq, e, hr]; simp only [Nat.mul_left_comm, Nat.mul_comm]
  unfold bitOf
  have h1 : (v - b) / 2 ^ i = v / 2 ^ i - 2 * r := by rw [hb2, Nat.sub_mul_div]
  have h2 : 2 * r ≤ v / 2 ^ i := by
    rw [Nat.le_div_iff_mul_le (Nat.two_pow_pos i), Nat.mul_comm, ← hb2]
    exact hb
  rw [h1]
  generalize v / 2 ^ i = y at *
  omega
theorem revG_bits {σ : Type} {M : Mach σ} {t : Pm σ} {a u v n : Nat} (h : ∀ i, i < n → bitOf u i = bitOf v i) : ∀ j, j ≤ n → revG M t a (u : Int) j = revG M t a (v : Int) j
  | 0, _ => rfl
  | j + 1, hj => by
    show tgStep M a j (want (u : Int) j) (revG M t a (u : Int) j) = tgStep M a j (want (v : Int) j) (revG M t a (v : Int) j)
    rw [revG_bits h j (by omega), want_nat, want_nat, h j (by omega)]
theorem revP_bits {σ : Type} {M : Mach σ} {t : Pm σ} {a u v n : Nat} (h : ∀ i, i < n → bitOf u i = bitOf v i) : revP M t a n (u : Int) = revP M t a n (v : Int) := by
  unfold revP
  rw [revG_bits h n (Nat.le_refl n)]
theorem strE_bits {u v n : Nat} (h : ∀ i, i < n → bitOf u i = bitOf v i) (e : En) : ∀ j, j ≤ n → strE e u n j = strE e v n j
  | 0, _ => rfl
  | j + 1, hj => by
    show (strE e u n j).one (bitOf u (n - 1 - j)) = (strE e v n j).one (bitOf v (n - 1 - j))
    rw [strE_bits h e j (by omega), h (n - 1 - j) (by omega)]
theorem bit_div (v i k : Nat) : bitOf (v / 2 ^ k) i = bitOf v (k + i) := by unfold bitOf; rw [Nat.div_div_eq_div_mul, Nat.pow_add]
theorem bit_mod {v k i : Nat} (h : i < k) : bitOf (v % 2 ^ k) i = bitOf v i := by
  unfold bitOf
  rw [show k = i + (k - i) by omega, Nat.pow_add, Nat.mod_mul_right_div_self]
  generalize v / 2 ^ i = y
  have e : 2 ^ (k - i) = 2 * 2 ^ (k - i - 1) := two_pred (by omega)
  rw [e, Nat.mod_mul_right_mod]

/-- what a coder leaves of a distance: a bare slot, one with a tree, one with straight bits -/
theorem distE0 {t : Pm En} {l v : Nat} (hv : v < 4294967296) (h : slotOf v < 4) : (distP encM t l v).2 = (treeP encM t (432 + 64 * min l 3) 6 ((slotOf v : Nat) : Int)).2 := by
  have ht : (treeP encM t (432 + 64 * min l 3) 6 ((slotOf v : Nat) : Int)).1 = slotOf v := treeP_tell encM_ok rfl (slot_spec hv).1
  unfold distP distB
  rw [ht, if_pos h]
/-- where its tree lies, and how many bits are left -/
structure Base (v s n b : Nat) : Prop where
  le : b ≤ v
  lt : v < b + 2 ^ n
  cut : b % 2 ^ n = 0
  shf : v / 2 ^ n * 2 ^ n = b
theorem base_of {v s : Nat} (hv : v < 4294967296) (hs : s = slotOf v) (h : 4 ≤ s) : Base v s (s / 2 - 1) ((2 + s % 2) * 2 ^ (s / 2 - 1)) := by
  obtain ⟨_, _, h3⟩ := slot_spec hv
  rw [← hs] at h3
  obtain ⟨a, b⟩ := h3 h
  refine ⟨a, b, Nat.mul_mod_left _ _, ?_⟩
  have hp := Nat.two_pow_pos (s / 2 - 1)
  have : v / 2 ^ (s / 2 - 1) = 2 + s % 2 := by
    apply Nat.div_eq_of_lt_le
    · exact a
    · rw [Nat.succ_mul]; omega
  rw [this]
theorem distE1 {t : Pm En} {l v s n b : Nat} (hv : v < 4294967296) (hs : s = slotOf v) (h : 4 ≤ s) (h14 : s < 14) (hn : n = s / 2 - 1) (hb : b = (2 + s % 2) * 2 ^ n) :
    (distP encM t l v).2 = (revP encM (treeP encM t (432 + 64 * min l 3) 6 (s : Int)).2 (688 + b - s) n (v : Int)).2 := by
  have ht : (treeP encM t (432 + 64 * min l 3) 6 (s : Int)).1 = s := treeP_tell encM_ok rfl (by rw [hs]; exact (slot_spec hv).1)
  have hB := base_of hv hs h
  rw [← hn, ← hb] at hB
  unfold distP distB
  rw [← hs, ht, if_neg (by omega), if_pos h14, ← hn, ← hb]
  dsimp only
  rw [show (v : Int) - (b : Int) = ((v - b : Nat) : Int) by have := hB.le; omega]
  rw [revP_bits (fun i hi => base_bits hB.le hB.cut hi)]
theorem distE2 {t : Pm En} {l v s n : Nat} (hv : v < 4294967296) (hs : s = slotOf v) (h14 : 14 ≤ s) (hn : n = s / 2 - 1) :
    (distP encM t l v).2 = (revP encM ⟨(treeP encM t (432 + 64 * min l 3) 6 (s : Int)).2.ps, strE (treeP encM t (432 + 64 * min l 3) 6 (s : Int)).2.x (v / 16) (n - 4) (n - 4)⟩ 803 4 (v : Int)).2 := by
  have hs64 : s < 64 := by rw [hs]; exact (slot_spec hv).1
  have ht : (treeP encM t (432 + 64 * min l 3) 6 (s : Int)).1 = s := treeP_tell encM_ok rfl hs64
  have hB := base_of hv hs (by omega)
  obtain ⟨b, hb⟩ : ∃ b, b = (2 + s % 2) * 2 ^ n := ⟨_, rfl⟩
  rw [← hn, ← hb] at hB
  have hle := hB.le
  have e1 : (v + 4294967296 - b) % 4294967296 / 16 = (v - b) / 2 ^ 4 := by rw [show (2 : Nat) ^ 4 = 16 from rfl]; omega
  unfold distP distB
  rw [← hs, ht, if_neg (by omega), if_neg (by omega), ← hn, ← hb, e1]
  unfold distC
  have e2 : (encM.str (treeP encM t (432 + 64 * min l 3) 6 (s : Int)).2.x (n - 4) ((v - b) / 2 ^ 4)).2 = strE (treeP encM t (432 + 64 * min l 3) 6 (s : Int)).2.x (v / 16) (n - 4) (n - 4) := by
    show strE _ ((v - b) / 2 ^ 4) (n - 4) (n - 4) = _
    refine strE_bits (fun i hi => ?_) _ _ (Nat.le_refl _)
    rw [bit_div, base_bits hB.le hB.cut (by omega), show (16 : Nat) = 2 ^ 4 from rfl, bit_div]
  rw [e2]
  dsimp only
  rw [show ((v % 16 : Nat) : Int) = ((v % 2 ^ 4 : Nat) : Int) from rfl, revP_bits (u := v % 2 ^ 4) (v := v) (fun i hi => bit_mod hi)]
end Go.Proofs.YtoencondpbkomaaGreat

/-
  The program's coder of LZMA: a distance.
-/
namespace Go.Proofs.YtoencondpbkomaaGreat
open Go.RowKit

theorem strE_okE {e : En} {k n : Nat} (h : okE (k + 1) e) (hn : n ≤ 32) (u : Nat) : okE k (strE e u n n) := by
  refine ⟨strE_ok h.1 u n n, ?_⟩
  have := strE_len e u n n
  have := h.2
  omega

section
variable {K : Koc} {w w' : World} {Ge Ge' : Option Nat} {A' : Option Addr} {c : Nat} {z : Lzs} {k : Nat} {t : Pm En}

set_option maxRecDepth 100000 in
set_option maxHeartbeats 16000000 in
/-- The coder codes a distance. -/
theorem cdist_any {l v : Nat} (h : Cw K w Ge A' c z (k + 12) t) (hv : v < 4294967296) :
    Calls Tryz.prog 94 #[.pointer (some ⟨K.g, 0, none⟩), .int .i64 (l : Int), .int .u32 (v : Int)] w (CMid K w Ge (.tuple #[]) A' c z k (distP encM t l v).2) := by
  obtain ⟨ml, hml⟩ : ∃ m, m = min l 3 := ⟨_, rfl⟩
  have KS := Lib.hid (fun w => pslot_any (g := K.g) (o0 := 11) hml w)
  have KN := Lib.hid (fun w => cslot_any hv w)
  have hs64 := (slot_spec hv).1
  have hml3 : ml ≤ 3 := by omega
  obtain ⟨s, hs⟩ : ∃ s, s = slotOf v := ⟨_, rfl⟩
  have e1 : IntKind.u32.wrap (s : Int) = (s : Int) := u32_of _ (by omega) (by omega)
  have HV := Lib.hid (And.intro hv hml3)
  by_cases h4 : s < 4
  · rw [distE0 hv (by rw [← hs]; exact h4), ← hml, ← hs]
    rw [← hs] at KN
    have g4 : (s : Int) < 4 := by omega
    have HS := Lib.hid (show s < 64 by omega)
    have HZ0 := Lib.hid h
    have HN0 := Lib.hid (Nwr.refl w Ge)
    have HO0 := Lib.hid (Only.refl (K.own Ge) w)
    clear h hml hs64 hml3 h4 hs hv
    go_enter Tryz.func94, Tryz.ntmps94
    go_wp2_with fail
    refine (KN.out _).mono ?_
    rintro e w0 ⟨⟨n', rfl, hn'⟩, rfl⟩
    clear hn'
    clear KN
    go_wp2_with fail
    have c4 := HZ0.out.f.c4
    have KC := Lib.hid (fun n => ((HZ0.out.drewN n).less (k' := k + 6 + 6) (by omega)).tree (k := k + 6) (n := 6) (a := 432 + 64 * ml) (b := K.g) (o := 11 + 1591 + ml * 64) (len := 64) (cap := 64) (V := s) (fun m hm => K.lay.slot (by omega) (by have : m < 64 := hm; have := HV.out; omega) (by omega)) (by show _ + 64 ≤ _; have := HV.out; omega) (by decide) (by decide) (by have := HS.out; omega))
    go_region_held3 (fun w' => w'.cell? ⟨K.g, 4, none⟩ = some (.pointer (some ⟨K.eg, 0, none⟩))) (first | assumption | go_keep | exact c4 | exact f4) (first | (go_at_call 110; refine (KS.out _).mono ?_; rintro e w1 ⟨rfl, rfl⟩) | (go_at_call 90; refine (KC.out _).mono ?_; rintro e w1 ⟨rfl, G1, hz1, hn1, ho1⟩; have HZ1 := Lib.hid hz1; have HN1 := Lib.hid (HN0.out.trans hn1 HO0.out.size); have HO1 := Lib.hid (cset_trans HO0.out HN0.out (Only.of_drewN ho1)); have f4 := hz1.f.c4; clear hz1 hn1 ho1))
    clear KC c4 f4
    clear HZ0 HN0 HO0
    clear KS
    go_wp2_with fail
    first | go_end0 | refine bodyPost_ret (results_none rfl _ _ _) rfl ?_
    exact ⟨rfl, G1, HZ1.out.less (by omega), HN1.out, HO1.out⟩
  obtain ⟨n, hn⟩ : ∃ n, n = s / 2 - 1 := ⟨_, rfl⟩
  have hn30 : n ≤ 30 := by omega
  obtain ⟨P, hP⟩ : ∃ P, P = 2 ^ n := ⟨_, rfl⟩
  obtain ⟨b, hb⟩ : ∃ b, b = (2 + s % 2) * 2 ^ n := ⟨_, rfl⟩
  have hB := base_of hv hs (by omega)
  rw [← hn, ← hb] at hB
  have hle := hB.le
  by_cases h14 : s < 14
  · rw [distE1 hv hs (by omega) h14 hn hb, ← hml]
    rw [← hs] at KN
    obtain ⟨c1, c2, c3⟩ := special_in ⟨s, h14⟩ (by show 4 ≤ s; omega)
    dsimp only at c1 c2 c3
    rw [← hn, ← hb, ← hP] at c1
    rw [← hn] at c3
    have hbs : s ≤ b := by
      have hlow := (show ∀ s : Fin 14, 4 ≤ s.val → s.val ≤ (2 + s.val % 2) * 2 ^ (s.val / 2 - 1) by decide) ⟨s, h14⟩ (by show 4 ≤ s; omega)
      dsimp only at hlow
      rw [← hn, ← hb] at hlow
      exact hlow
    obtain ⟨y, hy⟩ : ∃ y, y = v / 2 ^ n := ⟨_, rfl⟩
    have f0 : (v : Int) / 2 ^ n = (y : Int) := by rw [cast_pow2, hy]; exact (Int.natCast_ediv v (2 ^ n)).symm
    have hyb : y * 2 ^ n = b := by rw [hy]; exact hB.shf
    have f0' : (y : Int) * 2 ^ n = (b : Int) := by rw [cast_pow2, ← Int.natCast_mul, hyb]
    have f1 : IntKind.u32.wrap ((y : Int) * 2 ^ n) = (b : Int) := by rw [f0']; exact u32_of _ (by omega) (by omega)
    have f2 : IntKind.i64.wrap (b : Int) = (b : Int) := IntWalk.i64_in _ (by omega)
    obtain ⟨lo, hlo⟩ : ∃ lo, lo = b - s := ⟨_, rfl⟩
    have f3 : IntKind.i64.wrap ((b : Int) - (s : Int)) = (lo : Int) := by rw [show (b : Int) - (s : Int) = (lo : Int) by omega]; exact IntWalk.i64_in _ (by omega)
    have hPp : 0 < P := by rw [hP]; exact Nat.two_pow_pos n
    have f4 : (lo : Int) ≤ 115 := by omega
    have f5 : (0 : Int) ≤ (lo : Int) := by omega
    have f6 : ¬ 115 = lo := by omega
    have g4 : ¬ (s : Int) < 4 := by omega
    have g14 : (s : Int) < 14 := by omega
    have e8 : min n 32 = n := by omega
    have e9 : (0 : Int) ≤ (n : Int) := by omega
    have HS := Lib.hid (show s < 64 by omega)
    have HR := Lib.hid (show n ≤ 6 ∧ 2 ^ n ≤ 115 - lo ∧ 688 + b - s = 688 + lo ∧ lo + P ≤ 115 ∧ 2 ^ n = P from ⟨by omega, by rw [← hP]; omega, by omega, by omega, hP.symm⟩)
    rw [HR.out.2.2.1]
    have HZ0 := Lib.hid h
    have HN0 := Lib.hid (Nwr.refl w Ge)
    have HO0 := Lib.hid (Only.refl (K.own Ge) w)
    have HNN := Lib.hid (show 4 ≤ s ∧ n = s / 2 - 1 from ⟨by omega, hn⟩)
    clear h hml hs64 hml3 h4 hs hb hP hPp hB hle h14 c1 c2 c3 hbs hy hyb f0' hlo hn30 hn
    go_enter Tryz.func94, Tryz.ntmps94
    go_wp2_with fail
    refine (KN.out _).mono ?_
    rintro e w0 ⟨⟨n', rfl, hn'⟩, rfl⟩
    have hnn := (hn' HNN.out.1).trans HNN.out.2.symm
    clear hn' KN
    subst hnn
    go_wp2_with fail
    have c4 := HZ0.out.f.c4
    have KC := Lib.hid (fun n => ((HZ0.out.drewN n).less (k' := k + 6 + 6) (by omega)).tree (k := k + 6) (n := 6) (a := 432 + 64 * ml) (b := K.g) (o := 11 + 1591 + ml * 64) (len := 64) (cap := 64) (V := s) (fun m hm => K.lay.slot (by omega) (by have : m < 64 := hm; have := HV.out; omega) (by omega)) (by show _ + 64 ≤ _; have := HV.out; omega) (by decide) (by decide) (by have := HS.out; omega))
    go_region_held3 (fun w' => w'.cell? ⟨K.g, 4, none⟩ = some (.pointer (some ⟨K.eg, 0, none⟩))) (first | assumption | go_keep | exact c4 | exact f4) (first | (go_at_call 110; refine (KS.out _).mono ?_; rintro e w1 ⟨rfl, rfl⟩) | (go_at_call 90; refine (KC.out _).mono ?_; rintro e w1 ⟨rfl, G1, hz1, hn1, ho1⟩; have HZ1 := Lib.hid hz1; have HN1 := Lib.hid (HN0.out.trans hn1 HO0.out.size); have HO1 := Lib.hid (cset_trans HO0.out HN0.out (Only.of_drewN ho1)); have f4 := hz1.f.c4; clear hz1 hn1 ho1))
    clear KC c4 f4
    clear HZ0 HN0 HO0
    clear KS
    go_wp2_with fail
    have c4 := HZ1.out.f.c4
    have KC := Lib.hid (fun n => ((HZ1.out.drewN n).less (k' := k + n') (by have := HR.out; omega)).rev (n := n') (a := 688 + lo) (b := K.g) (o := 11 + 432 + lo) (len := 115 - lo) (cap := 115 - lo) (V := v) (fun m hm => K.lay.rest (by omega) (by rw [HR.out.2.2.2.2] at hm; have := HR.out; omega) (by omega)) (by rw [HR.out.2.2.2.2]; have := HR.out; omega) HR.out.2.1 (by have := HR.out; omega) HV.out.1)
    go_region_held3 (fun w' => w'.cell? ⟨K.g, 4, none⟩ = some (.pointer (some ⟨K.eg, 0, none⟩))) (first | assumption | go_keep | exact c4 | exact f4) (first | (go_at_call 111; refine (KC.out _).mono ?_; rintro e w2 ⟨rfl, G2, hz2, hn2, ho2⟩; have HZ2 := Lib.hid hz2; have HN2 := Lib.hid (HN1.out.trans hn2 HO1.out.size); have HO2 := Lib.hid (cset_trans HO1.out HN1.out (Only.of_drewN ho2)); have f4 := hz2.f.c4; clear hz2 hn2 ho2))
    clear KC c4 f4
    clear HZ1 HN1 HO1
    go_wp2_with fail
    first | go_end0 | refine bodyPost_ret (results_none rfl _ _ _) rfl ?_
    exact ⟨rfl, G2, HZ2.out, HN2.out, HO2.out⟩
  rw [distE2 hv hs (by omega) hn, ← hml]
  rw [← hs] at KN
  obtain ⟨n4, hn4⟩ : ∃ x, x = n - 4 := ⟨_, rfl⟩
  rw [← hn4]
  obtain ⟨u, hu⟩ : ∃ u, u = v / 16 := ⟨_, rfl⟩
  rw [← hu]
  have g4 : ¬ (s : Int) < 4 := by omega
  have g14 : ¬ (s : Int) < 14 := by omega
  have f1 : IntKind.i64.wrap ((n : Int) - 4) = (n4 : Int) := by rw [show (n : Int) - 4 = (n4 : Int) by omega]; exact IntWalk.i64_in _ (by omega)
  have f2 : (v : Int) / 16 = (u : Int) := by omega
  have HS := Lib.hid (show s < 64 by omega)
  have HR := Lib.hid (show n4 ≤ 32 ∧ u < 4294967296 ∧ u < 268435456 from ⟨by omega, by omega, by omega⟩)
  have HZ0 := Lib.hid h
  have HN0 := Lib.hid (Nwr.refl w Ge)
  have HO0 := Lib.hid (Only.refl (K.own Ge) w)
  have HNN := Lib.hid (show 4 ≤ s ∧ n = s / 2 - 1 from ⟨by omega, hn⟩)
  clear h hml hs64 hml3 h4 hs hb hP hB hle h14 hn30 hn hn4 hu
  go_enter Tryz.func94, Tryz.ntmps94
  go_wp2_with fail
  refine (KN.out _).mono ?_
  rintro e w0 ⟨⟨n', rfl, hn'⟩, rfl⟩
  have hnn := (hn' HNN.out.1).trans HNN.out.2.symm
  clear hn' KN
  subst hnn
  go_wp2_with fail
  have c4 := HZ0.out.f.c4
  have KC := Lib.hid (fun n => ((HZ0.out.drewN n).less (k' := k + 6 + 6) (by omega)).tree (k := k + 6) (n := 6) (a := 432 + 64 * ml) (b := K.g) (o := 11 + 1591 + ml * 64) (len := 64) (cap := 64) (V := s) (fun m hm => K.lay.slot (by omega) (by have : m < 64 := hm; have := HV.out; omega) (by omega)) (by show _ + 64 ≤ _; have := HV.out; omega) (by decide) (by decide) (by have := HS.out; omega))
  go_region_held3 (fun w' => w'.cell? ⟨K.g, 4, none⟩ = some (.pointer (some ⟨K.eg, 0, none⟩))) (first | assumption | go_keep | exact c4 | exact f4) (first | (go_at_call 110; refine (KS.out _).mono ?_; rintro e w1 ⟨rfl, rfl⟩) | (go_at_call 90; refine (KC.out _).mono ?_; rintro e w1 ⟨rfl, G1, hz1, hn1, ho1⟩; have HZ1 := Lib.hid hz1; have HN1 := Lib.hid (HN0.out.trans hn1 HO0.out.size); have HO1 := Lib.hid (cset_trans HO0.out HN0.out (Only.of_drewN ho1)); have f4 := hz1.f.c4; clear hz1 hn1 ho1))
  clear KC c4 f4
  clear HZ0 HN0 HO0
  clear KS
  have hso := (strE_okE HZ1.out.mch.ok.x HR.out.1 u)
  have HSO := Lib.hid hso
  clear hso
  have c4 := HZ1.out.f.c4
  have KC := Lib.hid ((HZ1.out.straight (k := k + 5) (n := n4) (V := u) HR.out.1 HR.out.2.1 HSO.out))
  go_wp2_with fail
  refine KC.out.mono ?_
  rintro e w2 ⟨rfl, G2, hz2, hn2, ho2⟩
  have HZ2 := Lib.hid hz2
  have HN2 := Lib.hid (HN1.out.trans hn2 HO1.out.size)
  have HO2 := Lib.hid (cset_trans HO1.out HN1.out (ho2))
  have f4 := hz2.f.c4
  clear hz2 hn2 ho2
  clear KC c4 f4
  clear HZ1 HN1 HO1
  go_wp2_with fail
  have c4 := HZ2.out.f.c4
  have KC := Lib.hid (fun n => ((HZ2.out.drewN n).less (k' := k + 4) (by omega)).rev (n := 4) (a := 803) (b := K.g) (o := 558) (len := 16) (cap := 16) (V := v) (fun m hm => K.lay.rest (by omega) (by have : m < 16 := hm; omega) (by omega)) (by show 803 + 16 ≤ _; omega) (by decide) (by decide) HV.out.1)
  go_region_held3 (fun w' => w'.cell? ⟨K.g, 4, none⟩ = some (.pointer (some ⟨K.eg, 0, none⟩))) (first | assumption | go_keep | exact c4 | exact f4) (first | (go_at_call 111; refine (KC.out _).mono ?_; rintro e w3 ⟨rfl, G3, hz3, hn3, ho3⟩; have HZ3 := Lib.hid hz3; have HN3 := Lib.hid (HN2.out.trans hn3 HO2.out.size); have HO3 := Lib.hid (cset_trans HO2.out HN2.out (Only.of_drewN ho3)); have f4 := hz3.f.c4; clear hz3 hn3 ho3))
  clear KC c4 f4
  clear HZ2 HN2 HO2
  go_wp2_with fail
  first | go_end0 | refine bodyPost_ret (results_none rfl _ _ _) rfl ?_
  exact ⟨rfl, G3, HZ3.out, HN3.out, HO3.out⟩
end
end Go.Proofs.YtoencondpbkomaaGreat

/-
  The program's elder distances: rows of them, moved by one.
-/
namespace Go.Proofs.YtoencondpbkomaaGreat
open Go.RowKit
theorem info_u32 : (Tryz.prog.info? 48).map (·.size) = some 1 := by kernel_rfl
/-- rows of the distances, which begin at the cell o, moved by one -/
theorem copy_reps {W : World} {g o n m : Nat} {k : Nat} (cs : List Value) (hk : cs.length = Nat.min m n) (hc : ∀ j v, cs[j]? = some v → W.cell? ((⟨g, o, none⟩ : Addr).add j) = some v) (hd : ∀ j, j < cs.length → (W.cell? ⟨g, o + 1 + j, none⟩).isSome = true) (hf : ∀ j, W.frozen? ⟨g, j, none⟩ = false) (h1 : ∀ v ∈ cs, v.oneCell' = true) :
    (Builtin.copy_ #[116, 116] 3 #[.slice (some ⟨g, o + 1, none⟩) n 3, .slice (some ⟨g, o, none⟩) m k]).run Tryz.prog W = .ok (goInt cs.length) (W.setCells g (o + 1) cs) :=
  run_copy_cells (P := Tryz.prog) W 116 116 3 48 g (o + 1) n 3 ⟨g, o, none⟩ m k cs Tryz.underlying116 info_u32 hk hc hd (fun _ _ => hf _) h1
end Go.Proofs.YtoencondpbkomaaGreat
