/-
  The law RencCodes returns true for every two lists of questions, and leaves all that was there as it was. No condition.
-/
import Derived.Test.YtokkaidepahepaaRcTwo
import Derived.Test.YtokkaidepahepaaRcCod
import Derived.Test.YtokkaidepahepaaHeld
import Derived.Test.YtokkaidepahepaaOpen
import Derived.ProofKit
import Derived.OpenShut
import Derived.ShutString
import Derived.ChangeOld
import Derived.Below
namespace Go.Proofs.Ytokkaidepahepaa.rencCodes
open Go.ChangeShapes Go.WideShapes Go.ChangeAt Go.RowKit
set_option linter.unusedVariables false

theorem own : ownKnob Try.prog.godebug = none := by kernel_rfl
theorem laidOut : laidOutB Try.prog = true := by kernel_rfl

set_option maxRecDepth 100000 in
set_option maxHeartbeats 16000000 in
theorem walk {B0 : Option Addr} {m0 mc0 : Nat} {qs0 : Nat → Qn} {B1 : Option Addr} {m1 mc1 : Nat} {qs1 : Nat → Qn} {w : World} (hB0 : Asks w B0 m0 qs0) (hqs0 : ∀ i, i < m0 → QnLit (qs0 i)) (hm0 : m0 ≤ maxLen) (hB1 : Asks w B1 m1 qs1) (hqs1 : ∀ i, i < m1 → QnLit (qs1 i)) (hm1 : m1 ≤ maxLen) :
    Calls Try.prog 3 #[.slice B0 m0 mc0, .slice B1 m1 mc1] w fun e w' => e = .returned (.bool true) ∧ Below w.heap.size w w' := by
  unfold maxLen at hm0 hm1
  have HSEL := Lib.hid (show ∀ k, k < 2 → ∃ Bk mk mck qs, (#[Value.slice B0 m0 mc0, .slice B1 m1 mc1] : Array Value)[k]? = some (.slice Bk mk mck) ∧ Asks w Bk mk qs ∧ (∀ i, i < mk → QnLit (qs i)) ∧ mk ≤ 9223372036854775807 from by
    intro k hk
    rcases (show k = 0 ∨ k = 1 by omega) with rfl | rfl
    · exact ⟨B0, m0, mc0, qs0, rfl, hB0, hqs0, hm0⟩
    · exact ⟨B1, m1, mc1, qs1, rfl, hB1, hqs1, hm1⟩)
  clear hB0 hqs0 hB1 hqs1 hm0 hm1
  go_enter Try.func3, Try.ntmps3
  go_wp2_with fail
  refine (awake_any w).mono ?_
  rintro e w1 ⟨rfl, hb⟩
  have HB1 := Lib.hid hb
  have hsz1 := hb.size
  clear hb
  go_wp2_with fail
  refine (cnew_any w1).mono ?_
  rintro e w2 ⟨rfl, hw2⟩
  have HP2 := Lib.hid (show Pn w2 w1.heap.size none En.new by rw [hw2]; exact pn_fresh w1)
  have HB2 := Lib.hid (show Below w.heap.size w w2 from HB1.out.trans (by rw [hw2]; exact (Below.refl _ w1).alloc hsz1 _))
  clear hw2 HB1
  generalize w1.heap.size = g at *
  have hg2 := HP2.out.lt
  have HP3 := Lib.hid (HP2.out.only ((Only.refl (fun _ => False) w2).alloc (.cells #[.slice B0 m0 mc0, .slice B1 m1 mc1] 22)) (fun h => h) (fun _ _ h => h))
  have HA3 := Lib.hid (Blk.fresh w2 22 #[.slice B0 m0 mc0, .slice B1 m1 mc1])
  have HB3 := Lib.hid (HB2.out.alloc (o := .cells #[.slice B0 m0 mc0, .slice B1 m1 mc1] 22) (by omega))
  clear HP2 HB2
  go_wp2_with fail
  generalize w2.heap.size = ba at *
  go_loopw [7] (fun i wr => ∃ (k : Nat), k ≤ 2 ∧ i = .int .i64 (k : Int) ∧ Pn wr g none En.new ∧ Blk wr ba 22 #[.slice B0 m0 mc0, .slice B1 m1 mc1] ∧ Below w.heap.size w wr) (fun i _ => 2 - (intOf i).toNat)
  case atStart => exact ⟨0, by omega, rfl, HP3.out, HA3.out, HB3.out⟩
  case round =>
    clear HP3 HA3 HB3
    obtain ⟨k, hk, rfl, hP, hA, hB⟩ := hrel
    have HP := Lib.hid hP
    have HA := Lib.hid hA
    have HB := Lib.hid hB
    clear hP hA hB
    by_cases hk2 : k < 2
    · obtain ⟨Bk, mk, mck, qs, hsel, hask, hlit, hmk⟩ := HSEL.out k hk2
      have HASK := Lib.hid hask
      have HLIT := Lib.hid hlit
      have HSL := Lib.hid hsel
      clear hask hlit hsel HSEL
      have hk0 : (0 : Int) ≤ (k : Int) := by omega
      have hk2' : (k : Int) < 2 := by omega
      have hq0 := HA.out.lt
      go_wp2_with fail
      refine (rnew5_any wr).mono ?_
      rintro e w4 ⟨rfl, hRn, hb4⟩
      have HN4 := Lib.hid hRn
      have hO4 := Only.of_below (S := fun _ => False) hb4
      have HP4 := Lib.hid (HP.out.only hO4 (fun h => h) (fun _ _ h => h))
      have HA4 := Lib.hid (HA.out.only hO4 (fun h => h))
      have HB4 := Lib.hid (below_only HB.out hO4 (Nat.le_refl _) (fun _ h => h.elim))
      clear hRn hb4 hO4 HP HA HB
      generalize hgr : wr.heap.size + 1 = gr at *
      generalize wr.heap.size = q0 at *
      have hgr4 := HN4.out.lt.1
      go_wp2_with fail
      refine (fresh_any (n := 600) (by omega) w4).mono ?_
      rintro e w5 ⟨rfl, hR, hb5⟩
      have HR5 := Lib.hid hR
      have hO5 := Only.of_below (S := fun _ => False) hb5
      have HN5 := Lib.hid (HN4.out.only hO5 (fun h => h) (fun h => h))
      have HP5 := Lib.hid (HP4.out.only hO5 (fun h => h) (fun _ _ h => h))
      have HA5 := Lib.hid (HA4.out.only hO5 (fun h => h))
      have HB5 := Lib.hid (below_only HB4.out hO5 (Nat.le_refl _) (fun _ h => h.elim))
      clear hR hb5 hO5 HN4 HP4 HA4 HB4
      generalize w4.heap.size = b at *
      have hb5 := HR5.out.lt
      go_wp2_with fail
      refine (reffresh_any (n := 600) (by omega) w5).mono ?_
      rintro e w6 ⟨A2, c2, rfl, hown, hb6⟩
      obtain ⟨b2, rfl, hb2, hR2⟩ := ref_row (by omega) hown
      have hO6 := Only.of_below (S := fun _ => False) hb6
      have HLIE := Lib.hid (show Lie w w.heap.size g ba q0 gr b b2 by unfold Lie; omega)
      have HTW := Lib.hid (show Two w w6 w.heap.size g ba q0 gr b b2 c2 #[.slice B0 m0 mc0, .slice B1 m1 mc1] (cod qs 0) (cod qs 0) none q0 from
        ⟨HP5.out.only hO6 (fun h => h) (fun _ _ h => h), HR5.out.only hO6 (fun h => h), HN5.out.only hO6 (fun h => h) (fun h => h), hR2, HA5.out.only hO6 (fun h => h), fun _ h => by (cases h), .inl rfl, by simp, below_only HB5.out hO6 (Nat.le_refl _) (fun _ h => h.elim)⟩)
      clear hown hb6 hR2 hO6 HR5 HN5 HP5 HA5 HB5 hb2 hb5 hgr4 hgr hq0
      go_wp2_with fail
      go_loopw [11] (fun i wr => ∃ (j q : Nat) (G : Option Nat), j ≤ mk ∧ j ≤ 2000 ∧ i = .int .i64 (j : Int) ∧ Two w wr w.heap.size g ba q0 gr b b2 c2 #[.slice B0 m0 mc0, .slice B1 m1 mc1] (cod qs j) (cod qs j) G q) (fun i _ => mk - (intOf i).toNat)
      case atStart => exact ⟨0, q0, none, by omega, by omega, rfl, HTW.out⟩
      case round =>
        clear HTW
        obtain ⟨j, q, G, hj, hj5, rfl, htw⟩ := hrel
        have HTW := Lib.hid htw
        have d0 : wr.cell? ⟨ba, k, none⟩ = some (.slice Bk mk mck) := (htw.al.cell k).trans HSL.out
        obtain ⟨hok, hpo, hpl, hlj⟩ := cod_ok (qs := qs) j
        clear htw
        by_cases hgo : j < mk ∧ j < 2000
        · obtain ⟨hjm, hj2⟩ := hgo
          obtain ⟨bq, oq, rfl, hbl, c0, c1, c2', c3⟩ := HASK.out.cells HTW.out.bel hjm
          have hlt := HLIT.out j hjm
          have hyes : RightQ (qs j) → _ := fun h => cod_yes (qs := qs) (j := j) h
          have hno : ¬ RightQ (qs j) → _ := fun h => cod_no (qs := qs) (j := j) h
          have HYES := Lib.hid hyes
          have HNO := Lib.hid hno
          have HOK := Lib.hid hok
          have HPO := Lib.hid hpo
          have HPL := Lib.hid hpl
          have HLJ := Lib.hid (show (cod qs j).2.l ≤ 999999000 by omega)
          obtain ⟨N, hNN⟩ : ∃ N, N = cod qs (j + 1) := ⟨_, rfl⟩
          obtain ⟨C, hCC⟩ : ∃ C, C = cod qs j := ⟨_, rfl⟩
          rw [← hCC] at HOK HPO HPL HYES HNO HTW HLJ
          rw [← hNN] at HYES HNO
          have HNN := Lib.hid hNN
          clear hNN hCC hok hpo hpl hyes hno hlj
          generalize hq : qs j = Q at *
          obtain ⟨kk, a, n, v⟩ := Q
          dsimp only at c0 c1 c2' c3 hlt
          have HV := Lib.hid hlt.v
          have HRT := Lib.hid (show Calls Try.prog 12 #[.agg #[.int .i64 kk, .int .i64 a, .int .i64 n, .int .u32 v]] wr _ from right_any ⟨kk, a, n, v⟩ wr)
          have HQ := Lib.hid hq
          clear hq hlt
          have i0 : (0 : Int) ≤ (j : Int) := by omega
          have i1 : (j : Int) < (mk : Int) := by omega
          have i2 : (j : Int) < 2000 := by omega
          have hbw := Nat.lt_of_lt_of_le hbl HTW.out.bel.size
          go_wp2_with fail
          refine HRT.out.mono ?_
          rintro e w6 ⟨bb, rfl, hbb, hb6⟩
          have HT6 := Lib.hid (HTW.out.only HLIE.out (Only.of_below hb6))
          have hbw6 := Nat.lt_of_lt_of_le hbl HT6.out.bel.size
          have a0 := cell_on (w := wr) hb6 hbw c0
          have a1 := cell_on (w := wr) hb6 hbw c1
          have a2 := cell_on (w := wr) hb6 hbw c2'
          have a3 := cell_on (w := wr) hb6 hbw c3
          have d6 : w6.cell? ⟨ba, k, none⟩ = some (.slice (some ⟨bq, oq, none⟩) mk mck) := (HT6.out.al.cell k).trans HSL.out
          have HBB := Lib.hid hbb
          clear hb6 hbb HTW c0 c1 c2' c3 HRT d0
          cases bb
          · have hne : N = C := HNO.out (fun h => by have := HBB.out.2 h; cases this)
            have HEQ := Lib.hid (show cod qs (j + 1) = C by rw [← HNN.out, hne])
            clear hne
            go_wp2_with fail
            go_roundw
            case rel => exact ⟨j + 1, q, G, by omega, by omega, by go_num, by rw [HEQ.out]; exact HT6.out⟩
            case measure => simp [intOf]; omega
          · have hq := HBB.out.1 rfl
            have hN := HYES.out hq
            obtain ⟨V, hV⟩ := Int.eq_ofNat_of_zero_le HV.out.1
            have hL := HLIE.out
            obtain ⟨l0, l1, l2, l3, l4, l5, l6⟩ := hL
            have hV2 : V < 4294967296 := by have := HV.out.2; omega
            have KP := Lib.hid (show Calls Try.prog 13 #[.pointer (some ⟨g, 0, none⟩), .slice (some ⟨b, 0, none⟩) 600 600, .agg #[.int .i64 kk, .int .i64 a, .int .i64 n, .int .u32 v]] w6 _ from put_any (q := ⟨kk, a, n, v⟩) HT6.out.pn HOK.out HT6.out.r1 HPO.out HPL.out (by omega) (fun h => by have := HT6.out.gG b h; omega) hq ⟨HV.out.1, Int.lt_of_le_of_lt HV.out.2 (by decide)⟩ (by have := HLJ.out; omega))
            have KA := Lib.hid (fun (w7 : World) G7 (h7 : Two w w7 w.heap.size g ba q0 gr b b2 c2 #[.slice B0 m0 mc0, .slice B1 m1 mc1] N C G7 q) => show Calls Try.prog 14 #[.pointer (some ⟨gr, 0, none⟩), .slice (some ⟨b2, 0, none⟩) 600 c2, .agg #[.int .i64 kk, .int .i64 a, .int .i64 n, .int .u32 v]] w7 _ from rask5_any (Q := ⟨kk, a, n, v⟩) (V := V) h7.rn HOK.out h7.r2 HPO.out (by omega) (by rcases h7.qq with h | h <;> omega) HPL.out hV hV2 HLJ.out hq)
            dsimp only at KP hN KA
            rw [← hN] at KP
            rw [show V = v.toNat by omega, ← hN] at KA
            clear HOK HPO HPL HBB hq hN HYES HNO hV hV2 HLJ HV l0 l1 l2 l3 l4 l5 l6
            go_wp2_with fail
            refine KP.out.mono ?_
            intro e w7 hc7
            obtain ⟨rfl, G7, hT7⟩ := two_put HLIE.out HT6.out hc7
            have hbw7 := Nat.lt_of_lt_of_le hbl hT7.bel.size
            have KA7 := Lib.hid (KA.out w7 G7 hT7)
            obtain ⟨bq2, oq2, hqe, hbl2, c0, c1, c2', c3⟩ := HASK.out.cells hT7.bel hjm
            injection hqe with hqe
            injection hqe with hq1 hq2
            subst hq1 hq2
            rw [HQ.out] at c0 c1 c2' c3
            dsimp only at c0 c1 c2' c3
            have HT7 := Lib.hid hT7
            have d7 : w7.cell? ⟨ba, k, none⟩ = some (.slice (some ⟨bq, oq, none⟩) mk mck) := (hT7.al.cell k).trans HSL.out
            clear hc7 hT7 KA KP HT6 a0 a1 a2 a3 d6
            go_wp2_with fail
            refine KA7.out.mono ?_
            intro e w8 hc8
            obtain ⟨rfl, q8, hT8⟩ := two_ask HLIE.out HT7.out hc8
            have HT8 := Lib.hid hT8
            clear hc8 hT8 KA7 HT7 c0 c1 c2' c3 d7
            go_wp2_with fail
            go_roundw
            case rel => exact ⟨j + 1, q8, G7, by omega, by omega, by go_num, by rw [← HNN.out]; exact HT8.out⟩
            case measure => simp [intOf]; omega
        · by_cases hjm : j < mk
          · obtain rfl : j = 2000 := by omega
            have i1 : ((2000 : Nat) : Int) < (mk : Int) := by omega
            obtain ⟨cq, hcq, hcq2⟩ := rn_cell HTW.out.rn
            have HEL := Lib.hid (show (cod qs 2000).2.l ≤ 1000000000 by omega)
            have KC := Lib.hid (count_any HTW.out.pn HEL.out)
            have HE2 := Lib.hid (show (cod qs 2000).2.l ≤ 999999990 by omega)
            clear hok hpo hpl hlj hcq2
            have HLL := Lib.hid (rfl : (cod qs 2000).2.l = (cod qs 2000).2.l)
            go_wp2_with fail
            go_quiet ((go_at_call 15; exact quiet_drew_at (count_any (HTW.out.pn.drewN _) HEL.out)))
            go_wp2_with fail
            have KF := Lib.hid (two_fin (cq := cq) HLIE.out (HTW.out.only HLIE.out ((Only.refl (fun _ => False) wr).drewN (nq + 1))) HE2.out hcq)
            have hcs5 : (wr.drewN nq).cell? ⟨gr, 0, none⟩ = some (.slice (some ⟨q, 0, none⟩) (cod qs 2000).2.l cq) := hcq
            clear hcq KC HE2 HTW
            generalize (cod qs 2000).2.l = l at *
            refine wp_region_held_drew (S := fun w' => w'.cell? ⟨gr, 0, none⟩ = some (.slice (some ⟨q, 0, none⟩) l cq)) (by kernel_rfl) hcs5 (fun hHeld => ?_)
            refine wpAnyH_take (i := 0) (v := ?_) rfl (by kernel_rfl) (by kernel_rfl) (by kernel_rfl) (fun _ _ _ h => h) (Or.inl ⟨by rfl, ?_⟩) (by assumption) ?_
            rotate_left
            · (intro w hSw; (try dsimp only at hSw); go_simp; try with_reducible rfl)
            try simp only [Act.put, List.setIfInBounds_toArray, List.set_cons_zero, List.set_cons_succ, List.getElem_toArray, List.getElem_cons_zero, List.getElem_cons_succ]
            refine wpAnyH_take (i := 2) (v := ?_) rfl (by kernel_rfl) (by kernel_rfl) (by kernel_rfl) (fun _ _ _ h => h) (Or.inl ⟨by rfl, ?_⟩) (by assumption) ?_
            rotate_left
            · (intro w hSw; (try dsimp only at hSw); go_simp; try with_reducible rfl)
            try simp only [Act.put, List.setIfInBounds_toArray, List.set_cons_zero, List.set_cons_succ, List.getElem_toArray, List.getElem_cons_zero, List.getElem_cons_succ]
            refine wpAnyH_take (i := 3) (v := ?_) rfl (by kernel_rfl) (by kernel_rfl) (by kernel_rfl) (fun _ _ _ h => h) (Or.inl ⟨by rfl, ?_⟩) (by assumption) ?_
            rotate_left
            · (intro w hSw; (try dsimp only at hSw); go_simp; try with_reducible rfl)
            try simp only [Act.put, List.setIfInBounds_toArray, List.set_cons_zero, List.set_cons_succ, List.getElem_toArray, List.getElem_cons_zero, List.getElem_cons_succ]
            refine wpAnyH_take (i := 4) (v := ?_) rfl (by kernel_rfl) (by kernel_rfl) (by kernel_rfl) (fun _ _ _ h => h) (Or.inl ⟨by rfl, ?_⟩) (by assumption) ?_
            rotate_left
            · (intro w hSw; (try dsimp only at hSw); go_simp; try with_reducible rfl)
            try simp only [Act.put, List.setIfInBounds_toArray, List.set_cons_zero, List.set_cons_succ, List.getElem_toArray, List.getElem_cons_zero, List.getElem_cons_succ]
            refine wpAnyH_take (i := 5) (v := ?_) rfl (by kernel_rfl) (by kernel_rfl) (by kernel_rfl) (fun _ _ _ h => h) (Or.inl ⟨by rfl, ?_⟩) (by assumption) ?_
            rotate_left
            · (intro w hSw; (try dsimp only at hSw); go_simp; try with_reducible rfl)
            try simp only [Act.put, List.setIfInBounds_toArray, List.set_cons_zero, List.set_cons_succ, List.getElem_toArray, List.getElem_cons_zero, List.getElem_cons_succ]
            refine wpAnyH_ready (rs := [1]) (by kernel_rfl) (by simp) (AllReadyH.cons (i := 1) rfl (fun K hK => ?_) AllReadyH.nil)
            try simp only [List.getElem_toArray, List.getElem_cons_zero, List.getElem_cons_succ]
            go_simp
            refine KF.out.mono ?_
            rintro e w6 ⟨A6, m6, bs6, rfl, hs6, hs6b, hd6⟩
            have HS6 := Lib.hid hs6
            have HS6B := Lib.hid hs6b
            have HD6 := Lib.hid hd6
            clear hs6 hs6b hd6 KF
            refine hK.out _ _ HD6.out.ce (fun hHeld => ?_)
            clear hK K
            try simp only [Act.put, List.setIfInBounds_toArray, List.set_cons_zero, List.set_cons_succ]
            refine wpAnyH_ready (rs := [6]) (by kernel_rfl) (by simp) (AllReadyH.cons (i := 6) rfl (fun K hK => ?_) AllReadyH.nil)
            try simp only [List.getElem_toArray, List.getElem_cons_zero, List.getElem_cons_succ]
            go_simp
            refine (bytesSame_any HS6.out HS6B.out HEL.out).mono ?_
            rintro e w7 ⟨rfl, d7, hw7⟩
            have HD7 := Lib.hid (hw7 ▸ HD6.out.drewN d7)
            clear hw7 HS6 HS6B HD6
            refine hK.out _ _ HD7.out.ce (fun hHeld => ?_)
            clear hK K
            try simp only [Act.put, List.setIfInBounds_toArray, List.set_cons_zero, List.set_cons_succ]
            refine wpAnyH_take (i := 7) (v := ?_) rfl (by kernel_rfl) (by kernel_rfl) (by kernel_rfl) (fun _ _ _ h => h) (Or.inl ⟨by rfl, ?_⟩) (by assumption) ?_
            rotate_left
            · (intro w hSw; (try dsimp only at hSw); go_simp; try with_reducible rfl)
            try simp only [Act.put, List.setIfInBounds_toArray, List.set_cons_zero, List.set_cons_succ, List.getElem_toArray, List.getElem_cons_zero, List.getElem_cons_succ]
            refine wpAnyH_take (i := 8) (v := ?_) rfl (by kernel_rfl) (by kernel_rfl) (by kernel_rfl) (fun _ _ _ h => h) (Or.inl ⟨by rfl, ?_⟩) (by assumption) ?_
            rotate_left
            · (intro w hSw; (try dsimp only at hSw); go_simp; try with_reducible rfl)
            try simp only [Act.put, List.setIfInBounds_toArray, List.set_cons_zero, List.set_cons_succ, List.getElem_toArray, List.getElem_cons_zero, List.getElem_cons_succ]
            refine wpAnyH_take (i := 9) (v := ?_) rfl (by kernel_rfl) (by kernel_rfl) (by kernel_rfl) (fun _ _ _ h => h) (Or.inl ⟨by rfl, ?_⟩) (by assumption) ?_
            rotate_left
            · (intro w hSw; (try dsimp only at hSw); go_simp; try with_reducible rfl)
            try simp only [Act.put, List.setIfInBounds_toArray, List.set_cons_zero, List.set_cons_succ, List.getElem_toArray, List.getElem_cons_zero, List.getElem_cons_succ]
            refine wpAnyH_ready (rs := [10]) (by kernel_rfl) (by simp) (AllReadyH.cons (i := 10) rfl (fun K hK => ?_) AllReadyH.nil)
            try simp only [List.getElem_toArray, List.getElem_cons_zero, List.getElem_cons_succ]
            go_simp
            refine (count_any HD7.out.pn (by decide)).mono ?_
            rintro e w8 ⟨rfl, d8, hw8⟩
            have HD8 := Lib.hid (hw8 ▸ HD7.out.drewN d8)
            clear hw8 HD7
            refine hK.out _ _ HD8.out.ce (fun hHeld => ?_)
            clear hK K
            try simp only [Act.put, List.setIfInBounds_toArray, List.set_cons_zero, List.set_cons_succ]
            refine wpAnyH_take (i := 11) (v := ?_) rfl (by kernel_rfl) (by kernel_rfl) (by kernel_rfl) (fun _ _ _ h => h) (Or.inl ⟨by rfl, ?_⟩) (by assumption) ?_
            rotate_left
            · (intro w hSw; (try dsimp only at hSw); go_simp; try with_reducible rfl)
            try simp only [Act.put, List.setIfInBounds_toArray, List.set_cons_zero, List.set_cons_succ, List.getElem_toArray, List.getElem_cons_zero, List.getElem_cons_succ]
            refine wpAnyH_take (i := 12) (v := ?_) rfl (by kernel_rfl) (by kernel_rfl) (by kernel_rfl) (fun _ _ _ h => h) (Or.inl ⟨by rfl, ?_⟩) (by assumption) ?_
            rotate_left
            · (intro w hSw; (try dsimp only at hSw); go_simp; try with_reducible rfl)
            try simp only [Act.put, List.setIfInBounds_toArray, List.set_cons_zero, List.set_cons_succ, List.getElem_toArray, List.getElem_cons_zero, List.getElem_cons_succ]
            refine wpAnyH_done (by kernel_rfl) ?_ _
            go_wp2_with fail
            go_roundw
            case rel => exact ⟨k + 1, by omega, by go_num, HD8.out.pn, HD8.out.al, HD8.out.bel⟩
            case measure => simp [intOf]; omega
          · obtain rfl : j = mk := by omega
            clear hjm hgo
            obtain ⟨cq, hcq, hcq2⟩ := rn_cell HTW.out.rn
            have HEL := Lib.hid (show (cod qs j).2.l ≤ 1000000000 by omega)
            have KC := Lib.hid (count_any HTW.out.pn HEL.out)
            have HE2 := Lib.hid (show (cod qs j).2.l ≤ 999999990 by omega)
            clear hok hpo hpl hlj hcq2
            have HLL := Lib.hid (rfl : (cod qs j).2.l = (cod qs j).2.l)
            go_wp2_with fail
            go_quiet ((go_at_call 15; exact quiet_drew_at (count_any (HTW.out.pn.drewN _) HEL.out)))
            go_wp2_with fail
            have KF := Lib.hid (two_fin (cq := cq) HLIE.out (HTW.out.only HLIE.out ((Only.refl (fun _ => False) wr).drewN (nq + 1))) HE2.out hcq)
            have hcs5 : (wr.drewN nq).cell? ⟨gr, 0, none⟩ = some (.slice (some ⟨q, 0, none⟩) (cod qs j).2.l cq) := hcq
            clear hcq KC HE2 HTW
            generalize (cod qs j).2.l = l at *
            refine wp_region_held_drew (S := fun w' => w'.cell? ⟨gr, 0, none⟩ = some (.slice (some ⟨q, 0, none⟩) l cq)) (by kernel_rfl) hcs5 (fun hHeld => ?_)
            refine wpAnyH_take (i := 0) (v := ?_) rfl (by kernel_rfl) (by kernel_rfl) (by kernel_rfl) (fun _ _ _ h => h) (Or.inl ⟨by rfl, ?_⟩) (by assumption) ?_
            rotate_left
            · (intro w hSw; (try dsimp only at hSw); go_simp; try with_reducible rfl)
            try simp only [Act.put, List.setIfInBounds_toArray, List.set_cons_zero, List.set_cons_succ, List.getElem_toArray, List.getElem_cons_zero, List.getElem_cons_succ]
            refine wpAnyH_take (i := 2) (v := ?_) rfl (by kernel_rfl) (by kernel_rfl) (by kernel_rfl) (fun _ _ _ h => h) (Or.inl ⟨by rfl, ?_⟩) (by assumption) ?_
            rotate_left
            · (intro w hSw; (try dsimp only at hSw); go_simp; try with_reducible rfl)
            try simp only [Act.put, List.setIfInBounds_toArray, List.set_cons_zero, List.set_cons_succ, List.getElem_toArray, List.getElem_cons_zero, List.getElem_cons_succ]
            refine wpAnyH_take (i := 3) (v := ?_) rfl (by kernel_rfl) (by kernel_rfl) (by kernel_rfl) (fun _ _ _ h => h) (Or.inl ⟨by rfl, ?_⟩) (by assumption) ?_
            rotate_left
            · (intro w hSw; (try dsimp only at hSw); go_simp; try with_reducible rfl)
            try simp only [Act.put, List.setIfInBounds_toArray, List.set_cons_zero, List.set_cons_succ, List.getElem_toArray, List.getElem_cons_zero, List.getElem_cons_succ]
            refine wpAnyH_take (i := 4) (v := ?_) rfl (by kernel_rfl) (by kernel_rfl) (by kernel_rfl) (fun _ _ _ h => h) (Or.inl ⟨by rfl, ?_⟩) (by assumption) ?_
            rotate_left
            · (intro w hSw; (try dsimp only at hSw); go_simp; try with_reducible rfl)
            try simp only [Act.put, List.setIfInBounds_toArray, List.set_cons_zero, List.set_cons_succ, List.getElem_toArray, List.getElem_cons_zero, List.getElem_cons_succ]
            refine wpAnyH_take (i := 5) (v := ?_) rfl (by kernel_rfl) (by kernel_rfl) (by kernel_rfl) (fun _ _ _ h => h) (Or.inl ⟨by rfl, ?_⟩) (by assumption) ?_
            rotate_left
            · (intro w hSw; (try dsimp only at hSw); go_simp; try with_reducible rfl)
            try simp only [Act.put, List.setIfInBounds_toArray, List.set_cons_zero, List.set_cons_succ, List.getElem_toArray, List.getElem_cons_zero, List.getElem_cons_succ]
            refine wpAnyH_ready (rs := [1]) (by kernel_rfl) (by simp) (AllReadyH.cons (i := 1) rfl (fun K hK => ?_) AllReadyH.nil)
            try simp only [List.getElem_toArray, List.getElem_cons_zero, List.getElem_cons_succ]
            go_simp
            refine KF.out.mono ?_
            rintro e w6 ⟨A6, m6, bs6, rfl, hs6, hs6b, hd6⟩
            have HS6 := Lib.hid hs6
            have HS6B := Lib.hid hs6b
            have HD6 := Lib.hid hd6
            clear hs6 hs6b hd6 KF
            refine hK.out _ _ HD6.out.ce (fun hHeld => ?_)
            clear hK K
            try simp only [Act.put, List.setIfInBounds_toArray, List.set_cons_zero, List.set_cons_succ]
            refine wpAnyH_ready (rs := [6]) (by kernel_rfl) (by simp) (AllReadyH.cons (i := 6) rfl (fun K hK => ?_) AllReadyH.nil)
            try simp only [List.getElem_toArray, List.getElem_cons_zero, List.getElem_cons_succ]
            go_simp
            refine (bytesSame_any HS6.out HS6B.out HEL.out).mono ?_
            rintro e w7 ⟨rfl, d7, hw7⟩
            have HD7 := Lib.hid (hw7 ▸ HD6.out.drewN d7)
            clear hw7 HS6 HS6B HD6
            refine hK.out _ _ HD7.out.ce (fun hHeld => ?_)
            clear hK K
            try simp only [Act.put, List.setIfInBounds_toArray, List.set_cons_zero, List.set_cons_succ]
            refine wpAnyH_take (i := 7) (v := ?_) rfl (by kernel_rfl) (by kernel_rfl) (by kernel_rfl) (fun _ _ _ h => h) (Or.inl ⟨by rfl, ?_⟩) (by assumption) ?_
            rotate_left
            · (intro w hSw; (try dsimp only at hSw); go_simp; try with_reducible rfl)
            try simp only [Act.put, List.setIfInBounds_toArray, List.set_cons_zero, List.set_cons_succ, List.getElem_toArray, List.getElem_cons_zero, List.getElem_cons_succ]
            refine wpAnyH_take (i := 8) (v := ?_) rfl (by kernel_rfl) (by kernel_rfl) (by kernel_rfl) (fun _ _ _ h => h) (Or.inl ⟨by rfl, ?_⟩) (by assumption) ?_
            rotate_left
            · (intro w hSw; (try dsimp only at hSw); go_simp; try with_reducible rfl)
            try simp only [Act.put, List.setIfInBounds_toArray, List.set_cons_zero, List.set_cons_succ, List.getElem_toArray, List.getElem_cons_zero, List.getElem_cons_succ]
            refine wpAnyH_take (i := 9) (v := ?_) rfl (by kernel_rfl) (by kernel_rfl) (by kernel_rfl) (fun _ _ _ h => h) (Or.inl ⟨by rfl, ?_⟩) (by assumption) ?_
            rotate_left
            · (intro w hSw; (try dsimp only at hSw); go_simp; try with_reducible rfl)
            try simp only [Act.put, List.setIfInBounds_toArray, List.set_cons_zero, List.set_cons_succ, List.getElem_toArray, List.getElem_cons_zero, List.getElem_cons_succ]
            refine wpAnyH_ready (rs := [10]) (by kernel_rfl) (by simp) (AllReadyH.cons (i := 10) rfl (fun K hK => ?_) AllReadyH.nil)
            try simp only [List.getElem_toArray, List.getElem_cons_zero, List.getElem_cons_succ]
            go_simp
            refine (count_any HD7.out.pn (by decide)).mono ?_
            rintro e w8 ⟨rfl, d8, hw8⟩
            have HD8 := Lib.hid (hw8 ▸ HD7.out.drewN d8)
            clear hw8 HD7
            refine hK.out _ _ HD8.out.ce (fun hHeld => ?_)
            clear hK K
            try simp only [Act.put, List.setIfInBounds_toArray, List.set_cons_zero, List.set_cons_succ]
            refine wpAnyH_take (i := 11) (v := ?_) rfl (by kernel_rfl) (by kernel_rfl) (by kernel_rfl) (fun _ _ _ h => h) (Or.inl ⟨by rfl, ?_⟩) (by assumption) ?_
            rotate_left
            · (intro w hSw; (try dsimp only at hSw); go_simp; try with_reducible rfl)
            try simp only [Act.put, List.setIfInBounds_toArray, List.set_cons_zero, List.set_cons_succ, List.getElem_toArray, List.getElem_cons_zero, List.getElem_cons_succ]
            refine wpAnyH_take (i := 12) (v := ?_) rfl (by kernel_rfl) (by kernel_rfl) (by kernel_rfl) (fun _ _ _ h => h) (Or.inl ⟨by rfl, ?_⟩) (by assumption) ?_
            rotate_left
            · (intro w hSw; (try dsimp only at hSw); go_simp; try with_reducible rfl)
            try simp only [Act.put, List.setIfInBounds_toArray, List.set_cons_zero, List.set_cons_succ, List.getElem_toArray, List.getElem_cons_zero, List.getElem_cons_succ]
            refine wpAnyH_done (by kernel_rfl) ?_ _
            go_wp2_with fail
            go_roundw
            case rel => exact ⟨k + 1, by omega, by go_num, HD8.out.pn, HD8.out.al, HD8.out.bel⟩
            case measure => simp [intOf]; omega
    · obtain rfl : k = 2 := by omega
      have hk2' : ¬ ((2 : Nat) : Int) < 2 := by omega
      go_wp2_with fail
      go_ret
      exact ⟨rfl, HB.out⟩

set_option maxRecDepth 100000 in
theorem lifted (os : Os) (started : os.Started) (H : Type) (enc : TypeId × Value → H) :
    ReturnsInHanded {} Try.checked os 3 .any (Rows.rencCodesSpec.pre6 enc Try.prog Try.f3 Rows.rencCodesRow.domain false) (Rows.rencCodesSpec.post enc Try.prog Try.f3 false true false false) := by
  refine returnsInHanded_of_change (C := Try.checked) own started (by kernel_rfl) Try.func3
    (ChangeSpec.witness6 (enc := enc) (C := Try.checked) false ⟨#[], #[.slice none 0 0, .slice none 0 0], []⟩ 8 (by kernel_rfl) (by kernel_rfl) (by kernel_rfl) (by kernel_rfl)) ?_
  intro W base args ds gs before hval0 hW hcnd _
  have hval : ∀ (j : Nat) t v, Try.f3.params[j]? = some t → args[j]? = some v → Value.okWide Try.prog W .any base t v := hval0
  have hW' := hW
  obtain ⟨p, q, hA0, hV, rfl, hfz, hnd⟩ := hW
  have hA : DataW.TrodAll enc Try.prog W 0 (fun _ => true) true Try.f3.params.toList args.toList ds p := hA0
  rw [Try.params3] at hA hval
  obtain ⟨v0, vs0, d0, ds0, p0, q0, hargs, rfl, rfl, h0, r0⟩ := trodAll_cons hA
  obtain ⟨v1, vs1, d1, ds1, p1, q1, rfl, rfl, rfl, h1, r1⟩ := trodAll_cons r0
  obtain ⟨rfl, rfl, rfl⟩ := trodAll_nil r1
  obtain rfl : args = #[v0, v1] := by cases args; simp_all
  obtain ⟨rfl, rfl⟩ := trodVars_none hV
  obtain ⟨a0, len0, cap0, rfl⟩ := okWide_slice Try.underlying22 (hval 0 22 v0 rfl rfl)
  have k0 := h0
  have lt0 : ∀ x ∈ p0, x.block < W.heap.size := by obtain ⟨m, hm⟩ := k0; exact DataW.trod_lt m _ _ _ hm
  obtain ⟨qs0, w0, hw0, hl0, hm0⟩ := open_asks Try.underlying22 Try.underlying34 (by kernel_rfl) rfl rfl rfl rfl (by kernel_rfl) (by kernel_rfl) (by kernel_rfl) (by kernel_rfl) Try.underlying3 Try.underlying3 Try.underlying3 Try.underlying32 h0
  obtain ⟨a1, len1, cap1, rfl⟩ := okWide_slice Try.underlying22 (hval 1 22 v1 rfl rfl)
  have k1 := h1
  have lt1 : ∀ x ∈ p1, x.block < W.heap.size := by obtain ⟨m, hm⟩ := k1; exact DataW.trod_lt m _ _ _ hm
  obtain ⟨qs1, w1, hw1, hl1, hm1⟩ := open_asks Try.underlying22 Try.underlying34 (by kernel_rfl) rfl rfl rfl rfl (by kernel_rfl) (by kernel_rfl) (by kernel_rfl) (by kernel_rfl) Try.underlying3 Try.underlying3 Try.underlying3 Try.underlying32 h1
  clear hA0 hval0
  refine (walk w0 hw0 (Nat.le_trans hl0 hm0) w1 hw1 (Nat.le_trans hl1 hm1)).mono fun e W' ⟨he, bel⟩ => ?_
  subst he
  exact ⟨_, rfl, _, _, _, [], _, [], hW', trodAll_mk1 (shut_bool Try.underlying4 _), (trodAll_cons_mk (Below.trod laidOut (by kernel_rfl) (of_decide_eq_true (by kernel_rfl)) k0 bel lt0) (trodAll_cons_mk (Below.trod laidOut (by kernel_rfl) (of_decide_eq_true (by kernel_rfl)) k1 bel lt1) trodAll_mk0)), rfl, bel.frame _, fun h => by cases h⟩

theorem proved : Rows.RencCodesSaid :=
  OpenClaim.holds_of_wide 3 Try.f3 rfl rfl rfl rfl rfl rfl rfl ⟨rfl, rfl, rfl, rfl, rfl⟩ rfl rfl rfl rfl rfl (by kernel_rfl) Try.func3 (by kernel_rfl)
    (of_decide_eq_true (by kernel_rfl)) (by unfold Func.isWrapper; first | (rw [if_pos (by decide +kernel)]; kernel_rfl) | (rw [if_neg (by decide +kernel)]; exact ⟨rfl, rfl⟩))
    (fun os started H enc _ => lifted os started H enc)
#print axioms proved
end Go.Proofs.Ytokkaidepahepaa.rencCodes
