/-
  The law RdecZeros returns true for every list of questions, and leaves all that was there as it was. No condition.
-/
import Derived.Test.YtjomenlegffmeaaRdLaw
import Derived.ProofKit
import Derived.OpenShut
import Derived.ShutString
import Derived.ChangeOld
import Derived.Below
namespace Go.Proofs.Ytjomenlegffmeaa.rdecZeros
open Go.ChangeShapes Go.WideShapes Go.ChangeAt Go.RowKit
set_option linter.unusedVariables false

theorem own : ownKnob Try.prog.godebug = none := by kernel_rfl
theorem laidOut : laidOutB Try.prog = true := by kernel_rfl

set_option maxRecDepth 100000 in
set_option maxHeartbeats 4000000 in
theorem walk {B : Option Addr} {m mc : Nat} {qs : Nat → Qn} {w : World} (hB : Asks w B m qs) (hqs : ∀ i, i < m → QnLit (qs i)) (hm : m ≤ maxLen) :
    Calls Try.prog 7 #[.slice B m mc] w fun e w' => e = .returned (.bool true) ∧ Below w.heap.size w w' := by
  obtain ⟨i, hi, hz0, hz1, hz2⟩ := info_parts info_u8
  unfold maxLen at hm
  have HSC := Lib.hid hB
  clear hB hqs
  go_enter Try.func7, Try.ntmps7
  go_wp2_with fail
  refine (awake_any w).mono ?_
  rintro e w1 ⟨rfl, hb⟩
  have HB1 := Lib.hid hb
  clear hb
  go_wp2_with (first
      | (at_make; refine wpList_make_full _ rfl _ _ 22 rfl w1.heap.size 5 i _ 1 Try.underlying22 hi hz0 hz1 _ _ _ _ 3000 rfl rfl rfl rfl ?b1 ?b2 (by simp) ?_))
  case b1 => rw [hz2]; omega
  case b2 => unfold maxLen; omega
  intro w2 ho hg
  rw [madeBytes] at ho
  have HB2 := Lib.hid (below_trans HB1.out (only_none hg))
  have HS2 := Lib.hid (own_facts ho).1
  clear ho hg HB1
  go_wp2_with fail
  refine (newFeed_any HS2.out (by omega)).mono ?_
  rintro e w3 ⟨f, rfl, hf, hF, hb⟩
  have HB3 := Lib.hid (below_trans HB2.out hb)
  have HF3 := Lib.hid hF
  have hlo : w.heap.size ≤ w2.heap.size := HB2.out.size
  clear hF hb HB2 HS2
  generalize w2.heap.size = lo at *
  go_wp2_with fail
  refine (pnew_any HF3.out).mono ?_
  rintro e w4 ⟨rfl, hP, ho⟩
  have hfg := HF3.out.lt
  have HB4 := Lib.hid (below_only HB3.out ho (Nat.le_refl _) (fun i hi => by omega))
  have HP4 := Lib.hid hP
  clear hP ho HF3 HB3
  generalize w3.heap.size = g at *
  go_wp2_with fail
  refine (fresh_any (n := 600) (by omega) w4).mono ?_
  rintro e w5 ⟨rfl, hR, hb⟩
  have hgb := HP4.out.lt
  have HB5 := Lib.hid (below_trans HB4.out hb)
  have HP5 := Lib.hid (HP4.out.only (Only.of_below (S := fun _ => False) hb) (fun i hi => hi.elim))
  have HR5 := Lib.hid hR
  have HZ5 := Lib.hid zstart
  clear hR hb HB4 HP4
  generalize w4.heap.size = b at *
  generalize List.replicate 3000 (0 : UInt8) = bs at *
  generalize started bs = d0 at *
  go_wp2_with fail
  go_loopw [5] (fun i wr => ∃ (j : Nat) (ps : List Nat) (d : Dc), j ≤ m ∧ j ≤ 500 ∧ i = .int .i64 (j : Int) ∧ Pd wr g f lo bs d ∧ Row wr b ps 600 ∧ ps.length = 600 ∧ (∀ p ∈ ps, PZ p) ∧ ZOk (32 * j) d ∧ Below w.heap.size w wr) (fun i _ => m - (intOf i).toNat)
  case atStart =>
    refine ⟨0, _, _, by omega, by omega, rfl, HP5.out, HR5.out, by simp, ?_, HZ5.out, HB5.out⟩
    intro p hp
    rw [(List.mem_replicate.1 hp).2]
    unfold PZ
    omega
  case round =>
    clear HP5 HR5 HZ5 HB5
    obtain ⟨j, ps, d, hj, hj5, rfl, hp, hr, hl, hz, hd, hb⟩ := hrel
    have HP := Lib.hid hp
    have HR := Lib.hid hr
    have HL := Lib.hid hl
    have HZ := Lib.hid hz
    have HD := Lib.hid hd
    have HB := Lib.hid hb
    clear hp hr hl hz hd hb
    by_cases hgo : j < m ∧ j < 500
    · obtain ⟨hjm, hj2⟩ := hgo
      obtain ⟨bq, oq, rfl, hbl, c0, c1, c2, c3⟩ := HSC.out.cells HB.out hjm
      generalize hq : qs j = q at *
      obtain ⟨k, a, n, v⟩ := q
      dsimp only at c0 c1 c2 c3
      have HRT := Lib.hid (show Calls Try.prog 14 #[.agg #[.int .i64 k, .int .i64 a, .int .i64 n, .int .u32 v]] wr _ from right_any ⟨k, a, n, v⟩ wr)
      clear hq
      have i0 : (0 : Int) ≤ (j : Int) := by omega
      have i1 : (j : Int) < (m : Int) := by omega
      have i2 : (j : Int) < 500 := by omega
      go_wp2_with fail
      refine HRT.out.mono ?_
      rintro e w6 ⟨bb, rfl, hbb, hb6⟩
      have HB6 := Lib.hid (below_trans HB.out hb6)
      have hbw := Nat.lt_of_lt_of_le hbl HB.out.size
      have a0 := cell_on (w := wr) hb6 hbw c0
      have a1 := cell_on (w := wr) hb6 hbw c1
      have a2 := cell_on (w := wr) hb6 hbw c2
      have a3 := cell_on (w := wr) hb6 hbw c3
      have HP6 := Lib.hid (HP.out.only (Only.of_below (S := fun _ => False) hb6) (fun i hi => hi.elim))
      have HR6 := Lib.hid (HR.out.only (Only.of_below (S := fun _ => False) hb6) (fun h => h))
      have HBB := Lib.hid hbb
      clear hb6 hbb HP HR HB c0 c1 c2 c3 HRT
      cases bb
      · go_wp2_with fail
        go_roundw
        case rel => exact ⟨j + 1, ps, d, by omega, by omega, by go_num, HP6.out, HR6.out, HL.out, HZ.out, HD.out.mono (by omega), HB6.out⟩
        case measure => simp [intOf]; omega
      · have hq := HBB.out.1 rfl
        have K := Lib.hid (show Calls Try.prog 15 #[.pointer (some ⟨g, 0, none⟩), .slice (some ⟨b, 0, none⟩) 600 600, .agg #[.int .i64 k, .int .i64 a, .int .i64 n, .int .u32 v]] w6 _ from ask_any (q := ⟨k, a, n, v⟩) HP6.out (zOk_ok HD.out) HR6.out (pz_ok HZ.out) HL.out (.inr hgb) hq)
        have hz' := zask (rightD_of hq) HD.out HZ.out HL.out (by omega)
        dsimp only at hz'
        obtain ⟨z1, z2, z3, z4⟩ := hz'
        have HZ2 := Lib.hid z2
        have HZ3 := Lib.hid z3
        have HZ4 := Lib.hid (show ZOk (32 * (j + 1)) _ from z4)
        dsimp only at K
        rw [z1] at K
        clear HP6 HR6 HL HZ HD HBB hq z1 z2 z3 z4
        generalize (askD ps d k.toNat a.toNat n.toNat).2.1 = ps' at *
        generalize (askD ps d k.toNat a.toNat n.toNat).2.2 = d' at *
        go_wp2_with fail
        refine K.out.mono ?_
        rintro e w7 ⟨rfl, hP7, hR7, ho7⟩
        have HP7 := Lib.hid hP7
        have HR7 := Lib.hid hR7
        have HB7 := Lib.hid (below_only HB6.out ho7 (Nat.le_refl _) (fun i hi => by rcases hi with hi | hi | hi <;> omega))
        have KD := Lib.hid (isDone_any hP7)
        rw [zOk_done HZ4.out] at KD
        clear hP7 hR7 ho7 HB6 K
        go_wp2_with fail
        refine KD.out.mono ?_
        rintro e w8 ⟨rfl, rfl⟩
        go_wp2_with fail
        go_roundw
        case rel => exact ⟨j + 1, ps', d', by omega, by omega, by go_num, HP7.out, HR7.out, HZ3.out, HZ2.out, HZ4.out, HB7.out⟩
        case measure => simp [intOf]; omega
    · have KD := Lib.hid (isDone_any HP.out)
      rw [zOk_done HD.out] at KD
      by_cases hjm : j < m
      · obtain rfl : j = 500 := by omega
        have i1 : ((500 : Nat) : Int) < (m : Int) := by omega
        go_wp2_with fail
        refine KD.out.mono ?_
        rintro e w8 ⟨rfl, rfl⟩
        go_wp2_with fail
        go_ret
        exact ⟨rfl, HB.out⟩
      · obtain rfl : j = m := by omega
        clear hjm hgo
        go_wp2_with fail
        refine KD.out.mono ?_
        rintro e w8 ⟨rfl, rfl⟩
        go_wp2_with fail
        go_ret
        exact ⟨rfl, HB.out⟩

set_option maxRecDepth 100000 in
theorem lifted (os : Os) (started : os.Started) (H : Type) (enc : TypeId × Value → H) :
    ReturnsInHanded {} Try.checked os 7 .any (Rows.rdecZerosSpec.pre6 enc Try.prog Try.f7 Rows.rdecZerosRow.domain false) (Rows.rdecZerosSpec.post enc Try.prog Try.f7 false true false false) := by
  refine returnsInHanded_of_change (C := Try.checked) own started (by kernel_rfl) Try.func7
    (ChangeSpec.witness6 (enc := enc) (C := Try.checked) false ⟨#[], #[.slice none 0 0], []⟩ 8 (by kernel_rfl) (by kernel_rfl) (by kernel_rfl) (by kernel_rfl)) ?_
  intro W base args ds gs before hval0 hW hcnd _
  have hval : ∀ (j : Nat) t v, Try.f7.params[j]? = some t → args[j]? = some v → Value.okWide Try.prog W .any base t v := hval0
  have hW' := hW
  obtain ⟨p, q, hA0, hV, rfl, hfz, hnd⟩ := hW
  have hA : DataW.TrodAll enc Try.prog W 0 (fun _ => true) true Try.f7.params.toList args.toList ds p := hA0
  rw [Try.params7] at hA hval
  obtain ⟨v0, vs0, d0, ds0, p0, q0, hargs, rfl, rfl, h0, r0⟩ := trodAll_cons hA
  obtain ⟨rfl, rfl, rfl⟩ := trodAll_nil r0
  obtain rfl : args = #[v0] := by cases args; simp_all
  obtain ⟨rfl, rfl⟩ := trodVars_none hV
  obtain ⟨a0, len0, cap0, rfl⟩ := okWide_slice Try.underlying23 (hval 0 23 v0 rfl rfl)
  have k0 := h0
  have lt0 : ∀ x ∈ p0, x.block < W.heap.size := by obtain ⟨m, hm⟩ := k0; exact DataW.trod_lt m _ _ _ hm
  obtain ⟨qs0, w0, hw0, hl0, hm0⟩ := open_asks Try.underlying23 Try.underlying36 (by kernel_rfl) rfl rfl rfl rfl (by kernel_rfl) (by kernel_rfl) (by kernel_rfl) (by kernel_rfl) Try.underlying3 Try.underlying3 Try.underlying3 Try.underlying34 h0
  clear hA0 hval0
  refine (walk w0 hw0 (Nat.le_trans hl0 hm0)).mono fun e W' ⟨he, bel⟩ => ?_
  subst he
  exact ⟨_, rfl, _, _, _, [], _, [], hW', trodAll_mk1 (shut_bool Try.underlying4 _), (trodAll_cons_mk (Below.trod laidOut (by kernel_rfl) (of_decide_eq_true (by kernel_rfl)) k0 bel lt0) trodAll_mk0), rfl, bel.frame _, fun h => by cases h⟩

theorem proved : Rows.RdecZerosSaid :=
  OpenClaim.holds_of_wide 7 Try.f7 rfl rfl rfl rfl rfl rfl rfl ⟨rfl, rfl, rfl, rfl, rfl⟩ rfl rfl rfl rfl rfl (by kernel_rfl) Try.func7 (by kernel_rfl)
    (of_decide_eq_true (by kernel_rfl)) (by unfold Func.isWrapper; first | (rw [if_pos (by decide +kernel)]; kernel_rfl) | (rw [if_neg (by decide +kernel)]; exact ⟨rfl, rfl⟩))
    (fun os started H enc _ => lifted os started H enc)
#print axioms proved
end Go.Proofs.Ytjomenlegffmeaa.rdecZeros
