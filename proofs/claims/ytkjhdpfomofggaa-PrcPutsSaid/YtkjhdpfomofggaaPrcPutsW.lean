/-
  The law PrcPuts, over what the program's coder owes.
-/
import Derived.Test.YtkjhdpfomofggaaPrTwo
import Derived.Test.YtkjhdpfomofggaaHeld
import Derived.LoopTactic
namespace Go.Proofs.Ytkjhdpfomofggaa
open Go.RowKit

set_option maxRecDepth 100000 in
set_option maxHeartbeats 16000000 in
theorem prcPuts_walk {Pn : World → Nat → (Nat → Prop) → En → Prop} (C : CoderCon Pn) (Aw : AwakeCon) {B0 : Option Addr} {m0 mc0 : Nat} {qs0 : Nat → Shr} {B1 : Option Addr} {m1 mc1 : Nat} {qs1 : Nat → Shr} {w : World} (hB0 : Shrs w B0 m0 qs0) (hqs0 : ∀ i, i < m0 → ShrLit (qs0 i)) (hm0 : m0 ≤ maxLen) (hB1 : Shrs w B1 m1 qs1) (hqs1 : ∀ i, i < m1 → ShrLit (qs1 i)) (hm1 : m1 ≤ maxLen) :
    Calls Try.prog 4 #[.slice B0 m0 mc0, .slice B1 m1 mc1] w fun e w' => e = .returned (.bool true) ∧ Below w.heap.size w w' := by
  unfold maxLen at hm0 hm1
  have HSEL := Lib.hid (show ∀ k, k < 2 → ∃ Bk mk mck qs, (#[Value.slice B0 m0 mc0, .slice B1 m1 mc1] : Array Value)[k]? = some (.slice Bk mk mck) ∧ Shrs w Bk mk qs ∧ (∀ i, i < mk → ShrLit (qs i)) ∧ mk ≤ 9223372036854775807 from by
    intro k hk
    rcases (show k = 0 ∨ k = 1 by omega) with rfl | rfl
    · exact ⟨B0, m0, mc0, qs0, rfl, hB0, hqs0, hm0⟩
    · exact ⟨B1, m1, mc1, qs1, rfl, hB1, hqs1, hm1⟩)
  clear hB0 hqs0 hB1 hqs1 hm0 hm1
  go_enter Try.func4, Try.ntmps4
  go_wp2_with fail
  refine (Aw w).mono ?_
  rintro e w1 ⟨rfl, hb⟩
  have HB1 := Lib.hid hb
  have hsz1 := hb.size
  clear hb
  go_wp2_with fail
  refine (C.new w1).mono ?_
  rintro e w2 ⟨g, G0, rfl, hP, hG, hb2⟩
  have hsz2 := hb2.size
  have hOA := (Only.refl (fun _ => False) w2).alloc (.cells #[.slice B0 m0 mc0, .slice B1 m1 mc1] 23)
  have HP3 := Lib.hid (C.only hP hOA (fun _ _ h => h))
  have HG3 := Lib.hid (show (∀ i, G0 i → w.heap.size ≤ i) ∧ ¬ G0 w2.heap.size from ⟨fun i hi => Nat.le_trans hsz1 (hG i hi), fun h => by have := C.old hP h; omega⟩)
  have HA3 := Lib.hid (Blk.fresh w2 23 #[.slice B0 m0 mc0, .slice B1 m1 mc1])
  have HB3 := Lib.hid ((HB1.out.trans (hb2.mono hsz1)).alloc (o := .cells #[.slice B0 m0 mc0, .slice B1 m1 mc1] 23) (by omega))
  clear hP hG hb2 hOA HB1
  go_wp2_with fail
  generalize w2.heap.size = ba at *
  go_loopw [7] (fun i wr => ∃ (k : Nat) (G : Nat → Prop), k ≤ 2 ∧ i = .int .i64 (k : Int) ∧ Pn wr g G En.new ∧ (∀ i, G i → w.heap.size ≤ i) ∧ ¬ G ba ∧ Blk wr ba 23 #[.slice B0 m0 mc0, .slice B1 m1 mc1] ∧ Below w.heap.size w wr) (fun i _ => 2 - (intOf i).toNat)
  case atStart => exact ⟨0, G0, by omega, rfl, HP3.out, HG3.out.1, HG3.out.2, HA3.out, HB3.out⟩
  case round =>
    clear HP3 HA3 HB3 HG3
    obtain ⟨k, G, hk, rfl, hP, hG, hGa, hA, hB⟩ := hrel
    have HP := Lib.hid hP
    have HG := Lib.hid hG
    have HGA := Lib.hid hGa
    have HA := Lib.hid hA
    have HB := Lib.hid hB
    clear hP hG hGa hA hB
    by_cases hk2 : k < 2
    · obtain ⟨Bk, mk, mck, qs, hsel, hask, hlit, hmk⟩ := HSEL.out k hk2
      have HASK := Lib.hid hask
      have HLIT := Lib.hid hlit
      have HSL := Lib.hid hsel
      clear hask hlit hsel HSEL
      have hk0 : (0 : Int) ≤ (k : Int) := by omega
      have hk2' : (k : Int) < 2 := by omega
      have hq0 := HA.out.lt
      have hwr := HB.out.size
      go_wp2_with fail
      refine (rnew6_any wr).mono ?_
      rintro e w4 ⟨rfl, hRn, hb4⟩
      have hO4 := Only.of_below (S := fun _ => False) hb4
      have HTW := Lib.hid (show Two6 Pn w w4 w.heap.size g ba (wr.heap.size + 1) #[.slice B0 m0 mc0, .slice B1 m1 mc1] (codS qs 0) (codS qs 0) G wr.heap.size from
        ⟨C.only HP.out hO4 (fun _ _ h => h), hRn, HA.out.only hO4 (fun h => h), HG.out, fun h => by have := C.old HP.out h; omega, fun h => by have := C.old HP.out h; omega, HGA.out, by omega, by omega, by omega, hwr, HB.out.trans (hb4.mono hwr)⟩)
      clear hRn hb4 hO4 HP HA HB HG HGA hq0 hwr
      generalize wr.heap.size + 1 = gr at *
      generalize wr.heap.size = q0 at *
      go_wp2_with fail
      go_loopw [9] (fun i wr => ∃ (j q : Nat) (G : Nat → Prop), j ≤ mk ∧ j ≤ 2000 ∧ i = .int .i64 (j : Int) ∧ Two6 Pn w wr w.heap.size g ba gr #[.slice B0 m0 mc0, .slice B1 m1 mc1] (codS qs j) (codS qs j) G q) (fun i _ => mk - (intOf i).toNat)
      case atStart => exact ⟨0, q0, G, by omega, by omega, rfl, HTW.out⟩
      case round =>
        clear HTW
        obtain ⟨j, q, G, hj, hj5, rfl, htw⟩ := hrel
        have HTW := Lib.hid htw
        have d0 : wr.cell? ⟨ba, k, none⟩ = some (.slice Bk mk mck) := (htw.al.cell k).trans HSL.out
        obtain ⟨hok, hlj⟩ := codS_ok (hs := qs) j
        clear htw
        by_cases hgo : j < mk ∧ j < 2000
        · obtain ⟨hjm, hj2⟩ := hgo
          obtain ⟨bq, oq, rfl, hbl, c0, c1, c2', c3⟩ := HASK.out.cells HTW.out.bel hjm
          have hlt := HLIT.out j hjm
          have hyes : RightS (qs j) → _ := fun h => codS_yes (hs := qs) (j := j) h
          have hno : ¬ RightS (qs j) → _ := fun h => codS_no (hs := qs) (j := j) h
          have HYES := Lib.hid hyes
          have HNO := Lib.hid hno
          have HOK := Lib.hid hok
          have HLJ := Lib.hid (show (codS qs j).l ≤ 999999000 by omega)
          obtain ⟨N, hNN⟩ : ∃ N, N = codS qs (j + 1) := ⟨_, rfl⟩
          obtain ⟨D, hCC⟩ : ∃ D, D = codS qs j := ⟨_, rfl⟩
          rw [← hCC] at HOK HYES HNO HTW HLJ
          rw [← hNN] at HYES HNO
          have HNN := Lib.hid hNN
          clear hNN hCC hok hyes hno hlj
          generalize hq : qs j = Q at *
          obtain ⟨kk, s, z, t⟩ := Q
          dsimp only at c0 c1 c2' c3
          have HV := Lib.hid hlt
          have HRT := Lib.hid (show Calls Try.prog 12 #[.agg #[.int .i64 kk, .int .u32 s, .int .u32 z, .int .u32 t]] wr _ from share_any ⟨kk, s, z, t⟩ hlt wr)
          have HQ := Lib.hid hq
          clear hq hlt
          have i0 : (0 : Int) ≤ (j : Int) := by omega
          have i1 : (j : Int) < (mk : Int) := by omega
          have i2 : (j : Int) < 2000 := by omega
          have hbw := Nat.lt_of_lt_of_le hbl HTW.out.bel.size
          go_wp2_with fail
          refine HRT.out.mono ?_
          rintro e w6 ⟨bb, rfl, hbb, hb6⟩
          have HT6 := Lib.hid (HTW.out.only C (Nat.le_refl _) (Only.of_below hb6))
          have hbw6 := Nat.lt_of_lt_of_le hbl HT6.out.bel.size
          have a0 := shr_on (w := wr) hb6 hbw c0
          have a1 := shr_on (w := wr) hb6 hbw c1
          have a2 := shr_on (w := wr) hb6 hbw c2'
          have a3 := shr_on (w := wr) hb6 hbw c3
          have d6 : w6.cell? ⟨ba, k, none⟩ = some (.slice (some ⟨bq, oq, none⟩) mk mck) := (HT6.out.al.cell k).trans HSL.out
          have HBB := Lib.hid hbb
          clear hb6 hbb HTW c0 c1 c2' c3 HRT d0
          cases bb
          · have hne : N = D := HNO.out (fun h => by have := HBB.out.2 h; cases this)
            have HEQ := Lib.hid (show codS qs (j + 1) = D by rw [← HNN.out, hne])
            clear hne
            go_wp2_with fail
            go_roundw
            case rel => exact ⟨j + 1, q, G, by omega, by omega, by go_num, by rw [HEQ.out]; exact HT6.out⟩
            case measure => simp [intOf]; omega
          · have hq := HBB.out.1 rfl
            have hN := HYES.out hq
            have KP := Lib.hid (show Calls Try.prog 24 #[.pointer (some ⟨g, 0, none⟩), .agg #[.int .i64 kk, .int .u32 s, .int .u32 z, .int .u32 t]] w6 _ from C.put (Q := ⟨kk, s, z, t⟩) HT6.out.pn HOK.out HV.out hq (by have := HLJ.out; omega))
            have KA := Lib.hid (fun (w7 : World) G7 (h7 : Two6 Pn w w7 w.heap.size g ba gr #[.slice B0 m0 mc0, .slice B1 m1 mc1] N D G7 q) => show Calls Try.prog 25 #[.pointer (some ⟨gr, 0, none⟩), .agg #[.int .i64 kk, .int .u32 s, .int .u32 z, .int .u32 t]] w7 _ from rput_any (Q := ⟨kk, s, z, t⟩) h7.rn HOK.out HV.out hq (by have := HLJ.out; omega))
            dsimp only at KP hN KA
            rw [← hN] at KP KA
            clear HOK HBB hq hN HYES HNO HLJ HV
            go_wp2_with fail
            refine KP.out.mono ?_
            intro e w7 hc7
            obtain ⟨rfl, G7, hT7⟩ := two6_put C (Nat.le_refl _) HT6.out hc7
            have KA7 := Lib.hid (KA.out w7 G7 hT7)
            obtain ⟨bq2, oq2, hqe, hbl2, c0, c1, c2', c3⟩ := HASK.out.cells hT7.bel hjm
            injection hqe with hqe
            injection hqe with hq1 hq2
            subst hq1 hq2
            rw [HQ.out] at c0 c1 c2' c3
            dsimp only at c0 c1 c2' c3
            have HT7 := Lib.hid hT7
            have d7 : w7.cell? ⟨ba, k, none⟩ = some (.slice (some ⟨bq, oq, none⟩) mk mck) := (hT7.al.cell k).trans HSL.out
            clear hc7 hT7 KA KP HT6 a0 a1 a2 a3 d6
            go_wp2_with fail
            refine KA7.out.mono ?_
            intro e w8 hc8
            obtain ⟨rfl, q8, hT8⟩ := two6_ask C (Nat.le_refl _) HT7.out hc8
            have HT8 := Lib.hid hT8
            clear hc8 hT8 KA7 HT7 c0 c1 c2' c3 d7
            go_wp2_with fail
            go_roundw
            case rel => exact ⟨j + 1, q8, G7, by omega, by omega, by go_num, by rw [← HNN.out]; exact HT8.out⟩
            case measure => simp [intOf]; omega
        · by_cases hjm : j < mk
          · obtain rfl : j = 2000 := by omega
            have i1 : ((2000 : Nat) : Int) < (mk : Int) := by omega
            obtain ⟨cq, hcq⟩ := rn6_cell HTW.out.rn
            have HEL := Lib.hid (show (codS qs 2000).l ≤ 1000000000 by omega)
            have KC := Lib.hid (C.count (C.only HTW.out.pn ((Only.refl (fun _ => False) wr).drewN 1) (fun _ _ h => h)) HEL.out)
            have HE2 := Lib.hid (show (codS qs 2000).l ≤ 999999990 by omega)
            have KFF := Lib.hid (fun (W : World) (hO : Only (fun _ => False) wr W) hc => two6_fin (cq := cq) C (Nat.le_refl _) (HTW.out.only C (Nat.le_refl _) hO) HE2.out hc)
            clear hok hlj HE2 HTW
            generalize (codS qs 2000).l = l at *
            go_wp2_with fail
            refine wp_region_held_drew (S := fun w' => w'.cell? ⟨gr, 0, none⟩ = some (.slice (some ⟨q, 0, none⟩) l cq)) (by kernel_rfl) hcq (fun hHeld => ?_)
            refine wpAnyH_take (i := 0) (v := ?_) rfl (by kernel_rfl) (by kernel_rfl) (by kernel_rfl) (fun _ _ _ h => h) (Or.inl ⟨by rfl, ?_⟩) (by assumption) ?_
            rotate_left
            · (intro w hSw; (try dsimp only at hSw); go_simp; try with_reducible rfl)
            try simp only [Act.put, List.setIfInBounds_toArray, List.set_cons_zero, List.set_cons_succ, List.getElem_toArray, List.getElem_cons_zero, List.getElem_cons_succ]
            refine wpAnyH_take (i := 2) (v := ?_) rfl (by kernel_rfl) (by kernel_rfl) (by kernel_rfl) (fun _ _ _ h => h) (Or.inl ⟨by rfl, ?_⟩) (by assumption) ?_
            rotate_left
            · (intro w hSw; (try dsimp only at hSw); go_simp; try with_reducible rfl)
            try simp only [Act.put, List.setIfInBounds_toArray, List.set_cons_zero, List.set_cons_succ, List.getElem_toArray, List.getElem_cons_zero, List.getElem_cons_succ]
            refine wpAnyH_take (i := 3) (v := ?_) rfl (by kernel_rfl) (by kernel_rfl) (by kernel_rfl) (fun _ _ _ h => h) (Or.inl ⟨by rfl, ?_⟩) (by assumption) ?_
            rotate_left
            · (intro w hSw; (try dsimp only at hSw); go_simp; try with_reducible rfl)
            try simp only [Act.put, List.setIfInBounds_toArray, List.set_cons_zero, List.set_cons_succ, List.getElem_toArray, List.getElem_cons_zero, List.getElem_cons_succ]
            refine wpAnyH_take (i := 4) (v := ?_) rfl (by kernel_rfl) (by kernel_rfl) (by kernel_rfl) (fun _ _ _ h => h) (Or.inl ⟨by rfl, ?_⟩) (by assumption) ?_
            rotate_left
            · (intro w hSw; (try dsimp only at hSw); go_simp; try with_reducible rfl)
            try simp only [Act.put, List.setIfInBounds_toArray, List.set_cons_zero, List.set_cons_succ, List.getElem_toArray, List.getElem_cons_zero, List.getElem_cons_succ]
            refine wpAnyH_take (i := 5) (v := ?_) rfl (by kernel_rfl) (by kernel_rfl) (by kernel_rfl) (fun _ _ _ h => h) (Or.inl ⟨by rfl, ?_⟩) (by assumption) ?_
            rotate_left
            · (intro w hSw; (try dsimp only at hSw); go_simp; try with_reducible rfl)
            try simp only [Act.put, List.setIfInBounds_toArray, List.set_cons_zero, List.set_cons_succ, List.getElem_toArray, List.getElem_cons_zero, List.getElem_cons_succ]
            refine wpAnyH_take (i := 6) (v := ?_) rfl (by kernel_rfl) (by kernel_rfl) (by kernel_rfl) (fun _ _ _ h => h) (Or.inl ⟨by rfl, ?_⟩) (by assumption) ?_
            rotate_left
            · (intro w hSw; (try dsimp only at hSw); go_simp; try with_reducible rfl)
            try simp only [Act.put, List.setIfInBounds_toArray, List.set_cons_zero, List.set_cons_succ, List.getElem_toArray, List.getElem_cons_zero, List.getElem_cons_succ]
            refine wpAnyH_ready (rs := [1]) (by kernel_rfl) (by simp) (AllReadyH.cons (i := 1) rfl (fun K hK => ?_) AllReadyH.nil)
            try simp only [List.getElem_toArray, List.getElem_cons_zero, List.getElem_cons_succ]
            go_simp
            refine KC.out.mono ?_
            rintro e w5 ⟨rfl, d5, hw5⟩
            have hc5 : w5.cell? ⟨gr, 0, none⟩ = some (.slice (some ⟨q, 0, none⟩) l cq) := by rw [← hw5]; exact hcq
            have KF := Lib.hid (KFF.out w5 (by rw [← hw5]; exact ((Only.refl (fun _ => False) wr).drewN 1).drewN d5) hc5)
            clear hw5 KC
            refine hK.out _ _ hc5 (fun hHeld => ?_)
            clear hK K
            try simp only [Act.put, List.setIfInBounds_toArray, List.set_cons_zero, List.set_cons_succ]
            refine wpAnyH_take (i := 7) (v := ?_) rfl (by kernel_rfl) (by kernel_rfl) (by kernel_rfl) (fun _ _ _ h => h) (Or.inl ⟨by rfl, ?_⟩) (by assumption) ?_
            rotate_left
            · (intro w hSw; (try dsimp only at hSw); go_simp; try with_reducible rfl)
            try simp only [Act.put, List.setIfInBounds_toArray, List.set_cons_zero, List.set_cons_succ, List.getElem_toArray, List.getElem_cons_zero, List.getElem_cons_succ]
            refine wpAnyH_take (i := 8) (v := ?_) rfl (by kernel_rfl) (by kernel_rfl) (by kernel_rfl) (fun _ _ _ h => h) (Or.inl ⟨by rfl, ?_⟩) (by assumption) ?_
            rotate_left
            · (intro w hSw; (try dsimp only at hSw); go_simp; try with_reducible rfl)
            try simp only [Act.put, List.setIfInBounds_toArray, List.set_cons_zero, List.set_cons_succ, List.getElem_toArray, List.getElem_cons_zero, List.getElem_cons_succ]
            refine wpAnyH_take (i := 9) (v := ?_) rfl (by kernel_rfl) (by kernel_rfl) (by kernel_rfl) (fun _ _ _ h => h) (Or.inl ⟨by rfl, ?_⟩) (by assumption) ?_
            rotate_left
            · (intro w hSw; (try dsimp only at hSw); go_simp; try with_reducible rfl)
            try simp only [Act.put, List.setIfInBounds_toArray, List.set_cons_zero, List.set_cons_succ, List.getElem_toArray, List.getElem_cons_zero, List.getElem_cons_succ]
            refine wpAnyH_take (i := 11) (v := ?_) rfl (by kernel_rfl) (by kernel_rfl) (by kernel_rfl) (fun _ _ _ h => h) (Or.inl ⟨by rfl, ?_⟩) (by assumption) ?_
            rotate_left
            · (intro w hSw; (try dsimp only at hSw); go_simp; try with_reducible rfl)
            try simp only [Act.put, List.setIfInBounds_toArray, List.set_cons_zero, List.set_cons_succ, List.getElem_toArray, List.getElem_cons_zero, List.getElem_cons_succ]
            refine wpAnyH_take (i := 12) (v := ?_) rfl (by kernel_rfl) (by kernel_rfl) (by kernel_rfl) (fun _ _ _ h => h) (Or.inl ⟨by rfl, ?_⟩) (by assumption) ?_
            rotate_left
            · (intro w hSw; (try dsimp only at hSw); go_simp; try with_reducible rfl)
            try simp only [Act.put, List.setIfInBounds_toArray, List.set_cons_zero, List.set_cons_succ, List.getElem_toArray, List.getElem_cons_zero, List.getElem_cons_succ]
            refine wpAnyH_take (i := 13) (v := ?_) rfl (by kernel_rfl) (by kernel_rfl) (by kernel_rfl) (fun _ _ _ h => h) (Or.inl ⟨by rfl, ?_⟩) (by assumption) ?_
            rotate_left
            · (intro w hSw; (try dsimp only at hSw); go_simp; try with_reducible rfl)
            try simp only [Act.put, List.setIfInBounds_toArray, List.set_cons_zero, List.set_cons_succ, List.getElem_toArray, List.getElem_cons_zero, List.getElem_cons_succ]
            refine wpAnyH_take (i := 14) (v := ?_) rfl (by kernel_rfl) (by kernel_rfl) (by kernel_rfl) (fun _ _ _ h => h) (Or.inl ⟨by rfl, ?_⟩) (by assumption) ?_
            rotate_left
            · (intro w hSw; (try dsimp only at hSw); go_simp; try with_reducible rfl)
            try simp only [Act.put, List.setIfInBounds_toArray, List.set_cons_zero, List.set_cons_succ, List.getElem_toArray, List.getElem_cons_zero, List.getElem_cons_succ]
            refine wpAnyH_ready (rs := [10]) (by kernel_rfl) (by simp) (AllReadyH.cons (i := 10) rfl (fun K hK => ?_) AllReadyH.nil)
            try simp only [List.getElem_toArray, List.getElem_cons_zero, List.getElem_cons_succ]
            go_simp
            refine KF.out.mono ?_
            rintro e w6 ⟨A6, m6, bs6, G6, rfl, hs6, hs6b, hd6⟩
            have HS6 := Lib.hid hs6
            have HS6B := Lib.hid hs6b
            have HD6 := Lib.hid hd6
            clear hs6 hs6b hd6 KF
            refine hK.out _ _ HD6.out.ce (fun hHeld => ?_)
            clear hK K
            try simp only [Act.put, List.setIfInBounds_toArray, List.set_cons_zero, List.set_cons_succ]
            refine wpAnyH_ready (rs := [15]) (by kernel_rfl) (by simp) (AllReadyH.cons (i := 15) rfl (fun K hK => ?_) AllReadyH.nil)
            try simp only [List.getElem_toArray, List.getElem_cons_zero, List.getElem_cons_succ]
            go_simp
            refine (bytesSame_any HS6.out HS6B.out HEL.out).mono ?_
            rintro e w7 ⟨rfl, d7, hw7⟩
            have HD7 := Lib.hid (hw7 ▸ HD6.out.drewN C d7)
            clear hw7 HS6 HS6B HD6
            refine hK.out _ _ HD7.out.ce (fun hHeld => ?_)
            clear hK K
            try simp only [Act.put, List.setIfInBounds_toArray, List.set_cons_zero, List.set_cons_succ]
            refine wpAnyH_take (i := 16) (v := ?_) rfl (by kernel_rfl) (by kernel_rfl) (by kernel_rfl) (fun _ _ _ h => h) (Or.inl ⟨by rfl, ?_⟩) (by assumption) ?_
            rotate_left
            · (intro w hSw; (try dsimp only at hSw); go_simp; try with_reducible rfl)
            try simp only [Act.put, List.setIfInBounds_toArray, List.set_cons_zero, List.set_cons_succ, List.getElem_toArray, List.getElem_cons_zero, List.getElem_cons_succ]
            refine wpAnyH_take (i := 17) (v := ?_) rfl (by kernel_rfl) (by kernel_rfl) (by kernel_rfl) (fun _ _ _ h => h) (Or.inl ⟨by rfl, ?_⟩) (by assumption) ?_
            rotate_left
            · (intro w hSw; (try dsimp only at hSw); go_simp; try with_reducible rfl)
            try simp only [Act.put, List.setIfInBounds_toArray, List.set_cons_zero, List.set_cons_succ, List.getElem_toArray, List.getElem_cons_zero, List.getElem_cons_succ]
            refine wpAnyH_done (by kernel_rfl) ?_ _
            go_wp2_with fail
            go_roundw
            case rel => exact ⟨k + 1, G6, by omega, by go_num, HD7.out.pn, HD7.out.gB, HD7.out.n3, HD7.out.al, HD7.out.bel⟩
            case measure => simp [intOf]; omega
          · obtain rfl : j = mk := by omega
            clear hjm hgo
            obtain ⟨cq, hcq⟩ := rn6_cell HTW.out.rn
            have HEL := Lib.hid (show (codS qs j).l ≤ 1000000000 by omega)
            have KC := Lib.hid (C.count (C.only HTW.out.pn ((Only.refl (fun _ => False) wr).drewN 1) (fun _ _ h => h)) HEL.out)
            have HE2 := Lib.hid (show (codS qs j).l ≤ 999999990 by omega)
            have KFF := Lib.hid (fun (W : World) (hO : Only (fun _ => False) wr W) hc => two6_fin (cq := cq) C (Nat.le_refl _) (HTW.out.only C (Nat.le_refl _) hO) HE2.out hc)
            clear hok hlj HE2 HTW
            generalize (codS qs j).l = l at *
            go_wp2_with fail
            refine wp_region_held_drew (S := fun w' => w'.cell? ⟨gr, 0, none⟩ = some (.slice (some ⟨q, 0, none⟩) l cq)) (by kernel_rfl) hcq (fun hHeld => ?_)
            refine wpAnyH_take (i := 0) (v := ?_) rfl (by kernel_rfl) (by kernel_rfl) (by kernel_rfl) (fun _ _ _ h => h) (Or.inl ⟨by rfl, ?_⟩) (by assumption) ?_
            rotate_left
            · (intro w hSw; (try dsimp only at hSw); go_simp; try with_reducible rfl)
            try simp only [Act.put, List.setIfInBounds_toArray, List.set_cons_zero, List.set_cons_succ, List.getElem_toArray, List.getElem_cons_zero, List.getElem_cons_succ]
            refine wpAnyH_take (i := 2) (v := ?_) rfl (by kernel_rfl) (by kernel_rfl) (by kernel_rfl) (fun _ _ _ h => h) (Or.inl ⟨by rfl, ?_⟩) (by assumption) ?_
            rotate_left
            · (intro w hSw; (try dsimp only at hSw); go_simp; try with_reducible rfl)
            try simp only [Act.put, List.setIfInBounds_toArray, List.set_cons_zero, List.set_cons_succ, List.getElem_toArray, List.getElem_cons_zero, List.getElem_cons_succ]
            refine wpAnyH_take (i := 3) (v := ?_) rfl (by kernel_rfl) (by kernel_rfl) (by kernel_rfl) (fun _ _ _ h => h) (Or.inl ⟨by rfl, ?_⟩) (by assumption) ?_
            rotate_left
            · (intro w hSw; (try dsimp only at hSw); go_simp; try with_reducible rfl)
            try simp only [Act.put, List.setIfInBounds_toArray, List.set_cons_zero, List.set_cons_succ, List.getElem_toArray, List.getElem_cons_zero, List.getElem_cons_succ]
            refine wpAnyH_take (i := 4) (v := ?_) rfl (by kernel_rfl) (by kernel_rfl) (by kernel_rfl) (fun _ _ _ h => h) (Or.inl ⟨by rfl, ?_⟩) (by assumption) ?_
            rotate_left
            · (intro w hSw; (try dsimp only at hSw); go_simp; try with_reducible rfl)
            try simp only [Act.put, List.setIfInBounds_toArray, List.set_cons_zero, List.set_cons_succ, List.getElem_toArray, List.getElem_cons_zero, List.getElem_cons_succ]
            refine wpAnyH_take (i := 5) (v := ?_) rfl (by kernel_rfl) (by kernel_rfl) (by kernel_rfl) (fun _ _ _ h => h) (Or.inl ⟨by rfl, ?_⟩) (by assumption) ?_
            rotate_left
            · (intro w hSw; (try dsimp only at hSw); go_simp; try with_reducible rfl)
            try simp only [Act.put, List.setIfInBounds_toArray, List.set_cons_zero, List.set_cons_succ, List.getElem_toArray, List.getElem_cons_zero, List.getElem_cons_succ]
            refine wpAnyH_take (i := 6) (v := ?_) rfl (by kernel_rfl) (by kernel_rfl) (by kernel_rfl) (fun _ _ _ h => h) (Or.inl ⟨by rfl, ?_⟩) (by assumption) ?_
            rotate_left
            · (intro w hSw; (try dsimp only at hSw); go_simp; try with_reducible rfl)
            try simp only [Act.put, List.setIfInBounds_toArray, List.set_cons_zero, List.set_cons_succ, List.getElem_toArray, List.getElem_cons_zero, List.getElem_cons_succ]
            refine wpAnyH_ready (rs := [1]) (by kernel_rfl) (by simp) (AllReadyH.cons (i := 1) rfl (fun K hK => ?_) AllReadyH.nil)
            try simp only [List.getElem_toArray, List.getElem_cons_zero, List.getElem_cons_succ]
            go_simp
            refine KC.out.mono ?_
            rintro e w5 ⟨rfl, d5, hw5⟩
            have hc5 : w5.cell? ⟨gr, 0, none⟩ = some (.slice (some ⟨q, 0, none⟩) l cq) := by rw [← hw5]; exact hcq
            have KF := Lib.hid (KFF.out w5 (by rw [← hw5]; exact ((Only.refl (fun _ => False) wr).drewN 1).drewN d5) hc5)
            clear hw5 KC
            refine hK.out _ _ hc5 (fun hHeld => ?_)
            clear hK K
            try simp only [Act.put, List.setIfInBounds_toArray, List.set_cons_zero, List.set_cons_succ]
            refine wpAnyH_take (i := 7) (v := ?_) rfl (by kernel_rfl) (by kernel_rfl) (by kernel_rfl) (fun _ _ _ h => h) (Or.inl ⟨by rfl, ?_⟩) (by assumption) ?_
            rotate_left
            · (intro w hSw; (try dsimp only at hSw); go_simp; try with_reducible rfl)
            try simp only [Act.put, List.setIfInBounds_toArray, List.set_cons_zero, List.set_cons_succ, List.getElem_toArray, List.getElem_cons_zero, List.getElem_cons_succ]
            refine wpAnyH_take (i := 8) (v := ?_) rfl (by kernel_rfl) (by kernel_rfl) (by kernel_rfl) (fun _ _ _ h => h) (Or.inl ⟨by rfl, ?_⟩) (by assumption) ?_
            rotate_left
            · (intro w hSw; (try dsimp only at hSw); go_simp; try with_reducible rfl)
            try simp only [Act.put, List.setIfInBounds_toArray, List.set_cons_zero, List.set_cons_succ, List.getElem_toArray, List.getElem_cons_zero, List.getElem_cons_succ]
            refine wpAnyH_take (i := 9) (v := ?_) rfl (by kernel_rfl) (by kernel_rfl) (by kernel_rfl) (fun _ _ _ h => h) (Or.inl ⟨by rfl, ?_⟩) (by assumption) ?_
            rotate_left
            · (intro w hSw; (try dsimp only at hSw); go_simp; try with_reducible rfl)
            try simp only [Act.put, List.setIfInBounds_toArray, List.set_cons_zero, List.set_cons_succ, List.getElem_toArray, List.getElem_cons_zero, List.getElem_cons_succ]
            refine wpAnyH_take (i := 11) (v := ?_) rfl (by kernel_rfl) (by kernel_rfl) (by kernel_rfl) (fun _ _ _ h => h) (Or.inl ⟨by rfl, ?_⟩) (by assumption) ?_
            rotate_left
            · (intro w hSw; (try dsimp only at hSw); go_simp; try with_reducible rfl)
            try simp only [Act.put, List.setIfInBounds_toArray, List.set_cons_zero, List.set_cons_succ, List.getElem_toArray, List.getElem_cons_zero, List.getElem_cons_succ]
            refine wpAnyH_take (i := 12) (v := ?_) rfl (by kernel_rfl) (by kernel_rfl) (by kernel_rfl) (fun _ _ _ h => h) (Or.inl ⟨by rfl, ?_⟩) (by assumption) ?_
            rotate_left
            · (intro w hSw; (try dsimp only at hSw); go_simp; try with_reducible rfl)
            try simp only [Act.put, List.setIfInBounds_toArray, List.set_cons_zero, List.set_cons_succ, List.getElem_toArray, List.getElem_cons_zero, List.getElem_cons_succ]
            refine wpAnyH_take (i := 13) (v := ?_) rfl (by kernel_rfl) (by kernel_rfl) (by kernel_rfl) (fun _ _ _ h => h) (Or.inl ⟨by rfl, ?_⟩) (by assumption) ?_
            rotate_left
            · (intro w hSw; (try dsimp only at hSw); go_simp; try with_reducible rfl)
            try simp only [Act.put, List.setIfInBounds_toArray, List.set_cons_zero, List.set_cons_succ, List.getElem_toArray, List.getElem_cons_zero, List.getElem_cons_succ]
            refine wpAnyH_take (i := 14) (v := ?_) rfl (by kernel_rfl) (by kernel_rfl) (by kernel_rfl) (fun _ _ _ h => h) (Or.inl ⟨by rfl, ?_⟩) (by assumption) ?_
            rotate_left
            · (intro w hSw; (try dsimp only at hSw); go_simp; try with_reducible rfl)
            try simp only [Act.put, List.setIfInBounds_toArray, List.set_cons_zero, List.set_cons_succ, List.getElem_toArray, List.getElem_cons_zero, List.getElem_cons_succ]
            refine wpAnyH_ready (rs := [10]) (by kernel_rfl) (by simp) (AllReadyH.cons (i := 10) rfl (fun K hK => ?_) AllReadyH.nil)
            try simp only [List.getElem_toArray, List.getElem_cons_zero, List.getElem_cons_succ]
            go_simp
            refine KF.out.mono ?_
            rintro e w6 ⟨A6, m6, bs6, G6, rfl, hs6, hs6b, hd6⟩
            have HS6 := Lib.hid hs6
            have HS6B := Lib.hid hs6b
            have HD6 := Lib.hid hd6
            clear hs6 hs6b hd6 KF
            refine hK.out _ _ HD6.out.ce (fun hHeld => ?_)
            clear hK K
            try simp only [Act.put, List.setIfInBounds_toArray, List.set_cons_zero, List.set_cons_succ]
            refine wpAnyH_ready (rs := [15]) (by kernel_rfl) (by simp) (AllReadyH.cons (i := 15) rfl (fun K hK => ?_) AllReadyH.nil)
            try simp only [List.getElem_toArray, List.getElem_cons_zero, List.getElem_cons_succ]
            go_simp
            refine (bytesSame_any HS6.out HS6B.out HEL.out).mono ?_
            rintro e w7 ⟨rfl, d7, hw7⟩
            have HD7 := Lib.hid (hw7 ▸ HD6.out.drewN C d7)
            clear hw7 HS6 HS6B HD6
            refine hK.out _ _ HD7.out.ce (fun hHeld => ?_)
            clear hK K
            try simp only [Act.put, List.setIfInBounds_toArray, List.set_cons_zero, List.set_cons_succ]
            refine wpAnyH_take (i := 16) (v := ?_) rfl (by kernel_rfl) (by kernel_rfl) (by kernel_rfl) (fun _ _ _ h => h) (Or.inl ⟨by rfl, ?_⟩) (by assumption) ?_
            rotate_left
            · (intro w hSw; (try dsimp only at hSw); go_simp; try with_reducible rfl)
            try simp only [Act.put, List.setIfInBounds_toArray, List.set_cons_zero, List.set_cons_succ, List.getElem_toArray, List.getElem_cons_zero, List.getElem_cons_succ]
            refine wpAnyH_take (i := 17) (v := ?_) rfl (by kernel_rfl) (by kernel_rfl) (by kernel_rfl) (fun _ _ _ h => h) (Or.inl ⟨by rfl, ?_⟩) (by assumption) ?_
            rotate_left
            · (intro w hSw; (try dsimp only at hSw); go_simp; try with_reducible rfl)
            try simp only [Act.put, List.setIfInBounds_toArray, List.set_cons_zero, List.set_cons_succ, List.getElem_toArray, List.getElem_cons_zero, List.getElem_cons_succ]
            refine wpAnyH_done (by kernel_rfl) ?_ _
            go_wp2_with fail
            go_roundw
            case rel => exact ⟨k + 1, G6, by omega, by go_num, HD7.out.pn, HD7.out.gB, HD7.out.n3, HD7.out.al, HD7.out.bel⟩
            case measure => simp [intOf]; omega
    · obtain rfl : k = 2 := by omega
      have hk2' : ¬ ((2 : Nat) : Int) < 2 := by omega
      go_wp2_with fail
      go_ret
      exact ⟨rfl, HB.out⟩
end Go.Proofs.Ytkjhdpfomofggaa
