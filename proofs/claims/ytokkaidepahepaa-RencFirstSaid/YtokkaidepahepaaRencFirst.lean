/-
  The law RencFirst returns true for every list of questions, and leaves all that was there as it was. No condition.
-/
import Derived.Test.YtokkaidepahepaaPcAwake
import Derived.Test.YtokkaidepahepaaRcCod
import Derived.Test.YtokkaidepahepaaRdCells
import Derived.Test.YtokkaidepahepaaOpen
import Derived.ProofKit
import Derived.OpenShut
import Derived.ShutString
import Derived.ChangeOld
import Derived.Below
namespace Go.Proofs.Ytokkaidepahepaa.rencFirst
open Go.ChangeShapes Go.WideShapes Go.ChangeAt Go.RowKit
set_option linter.unusedVariables false

theorem own : ownKnob Try.prog.godebug = none := by kernel_rfl
theorem laidOut : laidOutB Try.prog = true := by kernel_rfl

set_option maxRecDepth 100000 in
set_option maxHeartbeats 4000000 in
theorem walk {B : Option Addr} {m mc : Nat} {qs : Nat → Qn} {w : World} (hB : Asks w B m qs) (hqs : ∀ i, i < m → QnLit (qs i)) (hm : m ≤ maxLen) :
    Calls Try.prog 5 #[.slice B m mc] w fun e w' => e = .returned (.bool true) ∧ Below w.heap.size w w' := by
  unfold maxLen at hm
  have HSC := Lib.hid hB
  have HQS := Lib.hid hqs
  clear hB hqs
  go_enter Try.func5, Try.ntmps5
  go_wp2_with fail
  refine (awake_any w).mono ?_
  rintro e w1 ⟨rfl, hb⟩
  have HB1 := Lib.hid hb
  have hsz1 := hb.size
  clear hb
  go_wp2_with fail
  refine (cnew_any w1).mono ?_
  rintro e w2 ⟨rfl, hw2⟩
  have HP2 := Lib.hid (show Pn w2 w1.heap.size none En.new by rw [hw2]; exact pn_fresh w1)
  have HB2 := Lib.hid (show Below w.heap.size w w2 from HB1.out.trans (by rw [hw2]; exact (Below.refl _ w1).alloc hsz1 _))
  clear hw2 HB1
  generalize w1.heap.size = g at *
  go_wp2_with fail
  refine (fresh_any (n := 600) (by omega) w2).mono ?_
  rintro e w3 ⟨rfl, hR, hb3⟩
  have hg1 := HP2.out.lt
  have HP3 := Lib.hid (HP2.out.only (Only.of_below (S := fun _ => False) hb3) (fun h => h) (fun _ _ h => h))
  have HR3 := Lib.hid hR
  have HB3 := Lib.hid (HB2.out.trans (hb3.mono (by omega)))
  clear hR hb3 HP2 HB2
  generalize w2.heap.size = b at *
  go_wp2_with fail
  go_loopw [5] (fun i wr => ∃ (j : Nat) (G : Option Nat), j ≤ m ∧ j ≤ 2000 ∧ i = .int .i64 (j : Int) ∧ Pn wr g G (cod qs j).2 ∧ (∀ x, G = some x → b < x) ∧ Row wr b (cod qs j).1 600 ∧ Below w.heap.size w wr) (fun i _ => m - (intOf i).toNat)
  case atStart => exact ⟨0, none, by omega, by omega, rfl, HP3.out, fun _ h => by (cases h), HR3.out, HB3.out⟩
  case round =>
    clear HP3 HR3 HB3
    obtain ⟨j, G, hj, hj5, rfl, hP, hG, hR, hB⟩ := hrel
    have HP := Lib.hid hP
    have HG := Lib.hid hG
    have HR := Lib.hid hR
    have HB := Lib.hid hB
    obtain ⟨hok, hpo, hpl, hlj⟩ := cod_ok (qs := qs) j
    clear hP hG hR hB
    by_cases hgo : j < m ∧ j < 2000
    · obtain ⟨hjm, hj2⟩ := hgo
      obtain ⟨bq, oq, rfl, hbl, c0, c1, c2, c3⟩ := HSC.out.cells HB.out hjm
      have hlit := HQS.out j hjm
      have hst := reach_len (cod_step (qs := qs) j)
      have hlj2 : (cod qs (j + 1)).2.l ≤ 5 + 32 * (j + 1) := (cod_ok (qs := qs) (j + 1)).2.2.2
      have hyes : RightQ (qs j) → _ := fun h => cod_yes (qs := qs) (j := j) h
      have hno : ¬ RightQ (qs j) → _ := fun h => cod_no (qs := qs) (j := j) h
      have HYES := Lib.hid hyes
      have HNO := Lib.hid hno
      have HOK := Lib.hid hok
      have HPO := Lib.hid hpo
      have HPL := Lib.hid hpl
      obtain ⟨N, hNN⟩ : ∃ N, N = cod qs (j + 1) := ⟨_, rfl⟩
      obtain ⟨C, hCC⟩ : ∃ C, C = cod qs j := ⟨_, rfl⟩
      rw [← hCC] at HOK HPO HPL HP HR hst hlj HYES HNO
      rw [← hNN] at hst hlj2 HYES HNO
      have HNN := Lib.hid hNN
      clear hNN hCC hok hpo hpl hyes hno
      generalize hq : qs j = q at *
      obtain ⟨k, a, n, v⟩ := q
      dsimp only at c0 c1 c2 c3 hlit
      have HLIT := Lib.hid hlit
      have HRT := Lib.hid (show Calls Try.prog 12 #[.agg #[.int .i64 k, .int .i64 a, .int .i64 n, .int .u32 v]] wr _ from right_any ⟨k, a, n, v⟩ wr)
      clear hq hlit
      have i0 : (0 : Int) ≤ (j : Int) := by omega
      have i1 : (j : Int) < (m : Int) := by omega
      have i2 : (j : Int) < 2000 := by omega
      go_wp2_with fail
      refine HRT.out.mono ?_
      rintro e w6 ⟨bb, rfl, hbb, hb6⟩
      have HB6 := Lib.hid (below_trans HB.out hb6)
      have hbw := Nat.lt_of_lt_of_le hbl HB.out.size
      have a0 := cell_on (w := wr) hb6 hbw c0
      have a1 := cell_on (w := wr) hb6 hbw c1
      have a2 := cell_on (w := wr) hb6 hbw c2
      have a3 := cell_on (w := wr) hb6 hbw c3
      have HP6 := Lib.hid (HP.out.only (Only.of_below (S := fun _ => False) hb6) (fun h => h) (fun _ _ h => h))
      have HR6 := Lib.hid (HR.out.only (Only.of_below (S := fun _ => False) hb6) (fun h => h))
      have HBB := Lib.hid hbb
      clear hb6 hbb HP HR HB c0 c1 c2 c3 HRT
      cases bb
      · have hne : N = C := HNO.out (fun h => by have := HBB.out.2 h; cases this)
        have HEQ := Lib.hid (show cod qs (j + 1) = C by rw [← HNN.out, hne])
        clear hne hst hlj2
        go_wp2_with fail
        go_roundw
        case rel => exact ⟨j + 1, G, by omega, by omega, by go_num, by rw [HEQ.out]; exact HP6.out, HG.out, by rw [HEQ.out]; exact HR6.out, HB6.out⟩
        case measure => simp [intOf]; omega
      · have hq := HBB.out.1 rfl
        have hN := HYES.out hq
        have KC1 := Lib.hid (count_any HP6.out (by omega))
        have KP := Lib.hid (fun d => show Calls Try.prog 13 #[.pointer (some ⟨g, 0, none⟩), .slice (some ⟨b, 0, none⟩) 600 600, .agg #[.int .i64 k, .int .i64 a, .int .i64 n, .int .u32 v]] (w6.drewN d) _ from put_any (q := ⟨k, a, n, v⟩) (HP6.out.drewN d) HOK.out (HR6.out.drewN d) HPO.out HPL.out (by omega) (fun h => by have := HG.out b h; omega) hq ⟨HLIT.out.v.1, Int.lt_of_le_of_lt HLIT.out.v.2 (by decide)⟩ (by omega))
        dsimp only at KP hN
        rw [← hN] at KP
        have hlt : ¬ (N.2.l : Int) < (C.2.l : Int) := by omega
        have hl9 : N.2.l ≤ 1000000000 := by omega
        have hrl := HR6.out.lt
        have HRL := Lib.hid hrl
        clear HP6 HR6 HOK HPO HPL HBB hq hN HYES HNO hst hlj hlj2 hrl HLIT
        go_wp2_with fail
        refine KC1.out.mono ?_
        rintro e w7 ⟨rfl, d, rfl⟩
        go_wp2_with fail
        refine (KP.out d).mono ?_
        rintro e w8 ⟨rfl, G', hP8, hN8, hR8, hO8⟩
        have KC2 := Lib.hid (count_any hP8 hl9)
        have HP8 := Lib.hid hP8
        have HR8 := Lib.hid hR8
        have HG8 := Lib.hid (show ∀ x, G' = some x → b < x from fun x hx => (hN8 x hx).elim (HG.out x) (fun h => by have := HRL.out; have h2 : w6.heap.size ≤ x := h; omega))
        have HB8 := Lib.hid (show Below w.heap.size w w8 from (below_drewN HB6.out d).trans (hO8.below (B := w.heap.size) HB6.out.size (fun i hi => by
          rcases hi with hi | hi | hi
          · omega
          · have := HG.out i hi; omega
          · omega)))
        clear hP8 hN8 hR8 hO8 HB6 HG KC1 KP a0 a1 a2 a3
        go_wp2_with fail
        refine KC2.out.mono ?_
        rintro e w9 ⟨rfl, d9, rfl⟩
        go_wp2_with fail
        go_roundw
        case rel => exact ⟨j + 1, G', by omega, by omega, by go_num, by rw [← HNN.out]; exact HP8.out.drewN d9, HG8.out, by rw [← HNN.out]; exact HR8.out.drewN d9, below_drewN HB8.out d9⟩
        case measure => simp [intOf]; omega
    · have HOK := Lib.hid hok
      have KC := Lib.hid (count_any HP.out (by omega))
      have KF := Lib.hid (fun d => finish_any (HP.out.drewN d) (by omega))
      have HGL := Lib.hid (show w.heap.size ≤ g ∧ g < b by omega)
      clear hok hpo hpl hlj HP HR
      by_cases hjm : j < m
      · obtain rfl : j = 2000 := by omega
        have i1 : ((2000 : Nat) : Int) < (m : Int) := by omega
        generalize (cod qs 2000).2 = E at *
        go_wp2_with fail
        refine KC.out.mono ?_
        rintro e w4 ⟨rfl, d, rfl⟩
        go_wp2_with fail
        refine (KF.out d).mono ?_
        rintro e w5 ⟨A, mm, bs, rfl, hown, hbe, hbl, hnw, hne, hPn, hO⟩
        have HB5 := Lib.hid (show Below w.heap.size w w5 from (below_drewN HB.out d).trans (hO.below (B := w.heap.size) HB.out.size (fun i hi => by
          rcases hi with hi | hi
          · have := HGL.out; omega
          · have := HG.out i hi; have := HGL.out; omega)))
        obtain ⟨b0, o0, hA, hl0, hc0⟩ := (own_facts hown).1.at_ (show 0 < bs.length by have := HOK.out.2.2.1; omega)
        have hcell := hc0 0 (show 0 < bs.length by have := HOK.out.2.2.1; omega)
        have h5 : 5 ≤ bs.length := by have := HOK.out.2.2.1; omega
        have hz : (bv bs)[0]? = some (.int .u8 0) := by
          match bs, h5, hbe, hbl with
          | z :: t, _, hbe, hbl =>
            obtain rfl := ends_first (ends_of HOK.out hbe hbl) HOK.out.2.2
            rfl
        rw [hz, Nat.add_zero] at hcell
        rw [hbl] at h5 ⊢
        subst hA
        have hi0 : (5 : Int) ≤ (E.l : Int) := by omega
        have hi1 : (0 : Int) < (E.l : Int) := by omega
        have hi2 : (E.l : Int) ≥ 5 := by omega
        clear hown hbe hbl hnw hne hPn hO hc0 h5 hz hl0 KC KF HB HG HOK
        generalize E.l = l at *
        go_wp2_with fail
        go_ret
        exact ⟨rfl, HB5.out⟩
      · obtain rfl : j = m := by omega
        clear hjm hgo
        generalize (cod qs j).2 = E at *
        go_wp2_with fail
        refine KC.out.mono ?_
        rintro e w4 ⟨rfl, d, rfl⟩
        go_wp2_with fail
        refine (KF.out d).mono ?_
        rintro e w5 ⟨A, mm, bs, rfl, hown, hbe, hbl, hnw, hne, hPn, hO⟩
        have HB5 := Lib.hid (show Below w.heap.size w w5 from (below_drewN HB.out d).trans (hO.below (B := w.heap.size) HB.out.size (fun i hi => by
          rcases hi with hi | hi
          · have := HGL.out; omega
          · have := HG.out i hi; have := HGL.out; omega)))
        obtain ⟨b0, o0, hA, hl0, hc0⟩ := (own_facts hown).1.at_ (show 0 < bs.length by have := HOK.out.2.2.1; omega)
        have hcell := hc0 0 (show 0 < bs.length by have := HOK.out.2.2.1; omega)
        have h5 : 5 ≤ bs.length := by have := HOK.out.2.2.1; omega
        have hz : (bv bs)[0]? = some (.int .u8 0) := by
          match bs, h5, hbe, hbl with
          | z :: t, _, hbe, hbl =>
            obtain rfl := ends_first (ends_of HOK.out hbe hbl) HOK.out.2.2
            rfl
        rw [hz, Nat.add_zero] at hcell
        rw [hbl] at h5 ⊢
        subst hA
        have hi0 : (5 : Int) ≤ (E.l : Int) := by omega
        have hi1 : (0 : Int) < (E.l : Int) := by omega
        have hi2 : (E.l : Int) ≥ 5 := by omega
        clear hown hbe hbl hnw hne hPn hO hc0 h5 hz hl0 KC KF HB HG HOK
        generalize E.l = l at *
        go_wp2_with fail
        go_ret
        exact ⟨rfl, HB5.out⟩

set_option maxRecDepth 100000 in
theorem lifted (os : Os) (started : os.Started) (H : Type) (enc : TypeId × Value → H) :
    ReturnsInHanded {} Try.checked os 5 .any (Rows.rencFirstSpec.pre6 enc Try.prog Try.f5 Rows.rencFirstRow.domain false) (Rows.rencFirstSpec.post enc Try.prog Try.f5 false true false false) := by
  refine returnsInHanded_of_change (C := Try.checked) own started (by kernel_rfl) Try.func5
    (ChangeSpec.witness6 (enc := enc) (C := Try.checked) false ⟨#[], #[.slice none 0 0], []⟩ 8 (by kernel_rfl) (by kernel_rfl) (by kernel_rfl) (by kernel_rfl)) ?_
  intro W base args ds gs before hval0 hW hcnd _
  have hval : ∀ (j : Nat) t v, Try.f5.params[j]? = some t → args[j]? = some v → Value.okWide Try.prog W .any base t v := hval0
  have hW' := hW
  obtain ⟨p, q, hA0, hV, rfl, hfz, hnd⟩ := hW
  have hA : DataW.TrodAll enc Try.prog W 0 (fun _ => true) true Try.f5.params.toList args.toList ds p := hA0
  rw [Try.params5] at hA hval
  obtain ⟨v0, vs0, d0, ds0, p0, q0, hargs, rfl, rfl, h0, r0⟩ := trodAll_cons hA
  obtain ⟨rfl, rfl, rfl⟩ := trodAll_nil r0
  obtain rfl : args = #[v0] := by cases args; simp_all
  obtain ⟨rfl, rfl⟩ := trodVars_none hV
  obtain ⟨a0, len0, cap0, rfl⟩ := okWide_slice Try.underlying22 (hval 0 22 v0 rfl rfl)
  have k0 := h0
  have lt0 : ∀ x ∈ p0, x.block < W.heap.size := by obtain ⟨m, hm⟩ := k0; exact DataW.trod_lt m _ _ _ hm
  obtain ⟨qs0, w0, hw0, hl0, hm0⟩ := open_asks Try.underlying22 Try.underlying34 (by kernel_rfl) rfl rfl rfl rfl (by kernel_rfl) (by kernel_rfl) (by kernel_rfl) (by kernel_rfl) Try.underlying3 Try.underlying3 Try.underlying3 Try.underlying32 h0
  clear hA0 hval0
  refine (walk w0 hw0 (Nat.le_trans hl0 hm0)).mono fun e W' ⟨he, bel⟩ => ?_
  subst he
  exact ⟨_, rfl, _, _, _, [], _, [], hW', trodAll_mk1 (shut_bool Try.underlying4 _), (trodAll_cons_mk (Below.trod laidOut (by kernel_rfl) (of_decide_eq_true (by kernel_rfl)) k0 bel lt0) trodAll_mk0), rfl, bel.frame _, fun h => by cases h⟩

theorem proved : Rows.RencFirstSaid :=
  OpenClaim.holds_of_wide 5 Try.f5 rfl rfl rfl rfl rfl rfl rfl ⟨rfl, rfl, rfl, rfl, rfl⟩ rfl rfl rfl rfl rfl (by kernel_rfl) Try.func5 (by kernel_rfl)
    (of_decide_eq_true (by kernel_rfl)) (by unfold Func.isWrapper; first | (rw [if_pos (by decide +kernel)]; kernel_rfl) | (rw [if_neg (by decide +kernel)]; exact ⟨rfl, rfl⟩))
    (fun os started H enc _ => lifted os started H enc)
#print axioms proved
end Go.Proofs.Ytokkaidepahepaa.rencFirst
