/-
  The law RdecBounds returns true for every row of bytes and every list of questions, and leaves all that was there as it was. No condition.
-/
import Derived.Test.YtjomenlegffmeaaRdLaw
import Derived.ProofKit
import Derived.OpenShut
import Derived.ShutString
import Derived.ChangeOld
import Derived.Below
namespace Go.Proofs.Ytjomenlegffmeaa.rdecBounds
open Go.ChangeShapes Go.WideShapes Go.ChangeAt Go.RowKit
set_option linter.unusedVariables false

theorem own : ownKnob Try.prog.godebug = none := by kernel_rfl
theorem laidOut : laidOutB Try.prog = true := by kernel_rfl

set_option maxRecDepth 100000 in
set_option maxHeartbeats 8000000 in
theorem walk {A : Option Addr} {n c : Nat} {xs : List UInt8} {B : Option Addr} {m mc : Nat} {qs : Nat → Qn} {w : World} (hS : Sl w A n (bv xs)) (hn : n ≤ maxLen) (hB : Asks w B m qs) (hqs : ∀ i, i < m → QnLit (qs i)) (hm : m ≤ maxLen) :
    Calls Try.prog 4 #[.slice A n c, .slice B m mc] w fun e w' => e = .returned (.bool true) ∧ Below w.heap.size w w' := by
  unfold maxLen at hm hn
  have HSC := Lib.hid hB
  have HS := Lib.hid hS
  clear hB hqs hS
  by_cases hbig : n ≤ 65536
  · have hbig' : ¬ (n : Int) > 65536 := by omega
    go_enter Try.func4, Try.ntmps4
    go_wp2_with fail
    refine (awake_any w).mono ?_
    rintro e w1 ⟨rfl, hb⟩
    have HB1 := Lib.hid hb
    have HS1 := Lib.hid (HS.out.below hb)
    clear hb
    go_wp2_with fail
    refine (newFeed_any HS1.out (by omega)).mono ?_
    rintro e w3 ⟨f, rfl, hf, hF, hb⟩
    have HB3 := Lib.hid (below_trans HB1.out hb)
    have HF3 := Lib.hid hF
    have hlo : w.heap.size ≤ w1.heap.size := HB1.out.size
    clear hF hb HB1 HS1
    generalize w1.heap.size = lo at *
    go_wp2_with fail
    refine (pnew_any HF3.out).mono ?_
    rintro e w4 ⟨rfl, hP, ho⟩
    have hfg := HF3.out.lt
    have HB4 := Lib.hid (below_only HB3.out ho (Nat.le_refl _) (fun i hi => by omega))
    have HP4 := Lib.hid hP
    clear hP ho HF3 HB3
    generalize w3.heap.size = g at *
    go_wp2_with fail
    refine (fresh_any (n := 600) (by omega) w4).mono ?_
    rintro e w5 ⟨rfl, hR, hb⟩
    have hgb := HP4.out.lt
    have HB5 := Lib.hid (below_trans HB4.out hb)
    have HP5 := Lib.hid (HP4.out.only (Only.of_below (S := fun _ => False) hb) (fun i hi => hi.elim))
    have HR5 := Lib.hid hR
    clear hR hb HB4 HP4
    generalize w4.heap.size = b at *
    go_wp2_with fail
    go_loopw [7] (fun i wr => ∃ (j : Nat) (ps : List Nat) (d : Dc), j ≤ m ∧ j ≤ 2000 ∧ i = .int .i64 (j : Int) ∧ Pd wr g f lo xs d ∧ Row wr b ps 600 ∧ ps.length = 600 ∧ PsOk ps ∧ DcOk d ∧ Below w.heap.size w wr) (fun i _ => m - (intOf i).toNat)
    case atStart => exact ⟨0, _, _, by omega, by omega, rfl, HP5.out, HR5.out, by simp, psOk_fresh 600, dcOk_started _, HB5.out⟩
    case round =>
      clear HP5 HR5 HB5
      obtain ⟨j, ps, d, hj, hj5, rfl, hp, hr, hl, hz, hd, hb⟩ := hrel
      have HP := Lib.hid hp
      have HR := Lib.hid hr
      have HL := Lib.hid hl
      have HZ := Lib.hid hz
      have HD := Lib.hid hd
      have HB := Lib.hid hb
      clear hp hr hl hz hd hb
      by_cases hgo : j < m ∧ j < 2000
      · obtain ⟨hjm, hj2⟩ := hgo
        obtain ⟨bq, oq, rfl, hbl, c0, c1, c2, c3⟩ := HSC.out.cells HB.out hjm
        generalize hq : qs j = q at *
        obtain ⟨k, a, n, v⟩ := q
        dsimp only at c0 c1 c2 c3
        have HRT := Lib.hid (show Calls Try.prog 14 #[.agg #[.int .i64 k, .int .i64 a, .int .i64 n, .int .u32 v]] wr _ from right_any ⟨k, a, n, v⟩ wr)
        clear hq
        have i0 : (0 : Int) ≤ (j : Int) := by omega
        have i1 : (j : Int) < (m : Int) := by omega
        have i2 : (j : Int) < 2000 := by omega
        go_wp2_with fail
        refine HRT.out.mono ?_
        rintro e w6 ⟨bb, rfl, hbb, hb6⟩
        have HB6 := Lib.hid (below_trans HB.out hb6)
        have hbw := Nat.lt_of_lt_of_le hbl HB.out.size
        have hbw6 := Nat.lt_of_lt_of_le hbl HB6.out.size
        have a0 := cell_on (w := wr) hb6 hbw c0
        have a1 := cell_on (w := wr) hb6 hbw c1
        have a2 := cell_on (w := wr) hb6 hbw c2
        have a3 := cell_on (w := wr) hb6 hbw c3
        have HP6 := Lib.hid (HP.out.only (Only.of_below (S := fun _ => False) hb6) (fun i hi => hi.elim))
        have HR6 := Lib.hid (HR.out.only (Only.of_below (S := fun _ => False) hb6) (fun h => h))
        have HBB := Lib.hid hbb
        clear hb6 hbb HP HR HB c0 c1 c2 c3 HRT
        cases bb
        · go_wp2_with fail
          go_roundw
          case rel => exact ⟨j + 1, ps, d, by omega, by omega, by go_num, HP6.out, HR6.out, HL.out, HZ.out, HD.out, HB6.out⟩
          case measure => simp [intOf]; omega
        · have hq := HBB.out.1 rfl
          have K := Lib.hid (show Calls Try.prog 15 #[.pointer (some ⟨g, 0, none⟩), .slice (some ⟨b, 0, none⟩) 600 600, .agg #[.int .i64 k, .int .i64 a, .int .i64 n, .int .u32 v]] w6 _ from ask_any (q := ⟨k, a, n, v⟩) HP6.out HD.out HR6.out HZ.out HL.out (.inr hgb) hq)
          have hok := askD_ok (rightD_of hq) HD.out HZ.out HL.out
          dsimp only at hok K
          obtain ⟨z1, z2, z3, z4, z5⟩ := hok
          have HZ1 := Lib.hid z1
          have HZ2 := Lib.hid z2
          have HZ3 := Lib.hid z3
          clear HP6 HR6 HL HZ HD HBB z1 z2 z3
          generalize (askD ps d k.toNat a.toNat n.toNat).1 = x' at *
          generalize (askD ps d k.toNat a.toNat n.toNat).2.1 = ps' at *
          generalize (askD ps d k.toNat a.toNat n.toNat).2.2 = d' at *
          by_cases hk0 : k = 0
          · subst hk0
            have hx1 := z4 rfl
            have hv : ¬ (x' : Int) > 1 := by omega
            clear z4 z5 hq
            go_wp2_with fail
            refine K.out.mono ?_
            rintro e w7 ⟨rfl, hP7, hR7, ho7⟩
            have HP7 := Lib.hid hP7
            have HR7 := Lib.hid hR7
            have HB7 := Lib.hid (below_only HB6.out ho7 (Nat.le_refl _) (fun i hi => by rcases hi with hi | hi | hi <;> omega))
            have hS3 : ∀ i, three f g b i → ¬ i < w.heap.size := fun i hi => by rcases hi with hi | hi | hi <;> omega
            have d0 := (ho7.cell (p := ⟨bq, oq + j * 4, none⟩) hbw6 (fun h => hS3 _ h hbl)).trans a0
            have d2 := (ho7.cell (p := ⟨bq, oq + j * 4 + 2, none⟩) hbw6 (fun h => hS3 _ h hbl)).trans a2
            clear hP7 hR7 ho7 HB6 K a0 a1 a2 a3 hS3
            go_wp2_with fail
            go_roundw
            case rel => exact ⟨j + 1, ps', d', by omega, by omega, by go_num, HP7.out, HR7.out, HZ3.out, HZ2.out, HZ1.out, HB7.out⟩
            case measure => simp [intOf]; omega
          · have hk1 : 0 < k := by
              unfold RightQ at hq
              dsimp only at hq
              omega
            have hn0 : 0 ≤ n ∧ n ≤ 32 := by
              unfold RightQ at hq
              dsimp only at hq
              omega
            obtain ⟨nn, rfl⟩ := Int.eq_ofNat_of_zero_le hn0.1
            have hx2 := z5 (by omega)
            have hk2 : (k == 0) = false := by simp [hk0]
            have hk3 : k > 0 := hk1
            clear z4 z5 hq hk0 hk1
            rw [show ((nn : Nat) : Int).toNat = nn from rfl] at hx2
            by_cases hn32 : nn < 32
            · have hn32' : (nn : Int) < 32 := by omega
              have hsh : (x' : Int) / 2 ^ nn = 0 := by
                rw [cast_pow2]
                exact Int.ediv_eq_zero_of_lt (by omega) (by omega)
              have hw : IntKind.u64.wrap (nn : Int) = (nn : Int) := u64_in _ (by omega)
              clear hx2 hn0
              go_wp2_with fail
              refine K.out.mono ?_
              rintro e w7 ⟨rfl, hP7, hR7, ho7⟩
              have HP7 := Lib.hid hP7
              have HR7 := Lib.hid hR7
              have HB7 := Lib.hid (below_only HB6.out ho7 (Nat.le_refl _) (fun i hi => by rcases hi with hi | hi | hi <;> omega))
              have hS3 : ∀ i, three f g b i → ¬ i < w.heap.size := fun i hi => by rcases hi with hi | hi | hi <;> omega
              have d0 := (ho7.cell (p := ⟨bq, oq + j * 4, none⟩) hbw6 (fun h => hS3 _ h hbl)).trans a0
              have d2 := (ho7.cell (p := ⟨bq, oq + j * 4 + 2, none⟩) hbw6 (fun h => hS3 _ h hbl)).trans a2
              clear hP7 hR7 ho7 HB6 K a0 a1 a2 a3 hS3
              go_wp2_with fail
              go_roundw
              case rel => exact ⟨j + 1, ps', d', by omega, by omega, by go_num, HP7.out, HR7.out, HZ3.out, HZ2.out, HZ1.out, HB7.out⟩
              case measure => simp [intOf]; omega
            · have hn32' : ¬ (nn : Int) < 32 := by omega
              clear hx2 hn0
              go_wp2_with fail
              refine K.out.mono ?_
              rintro e w7 ⟨rfl, hP7, hR7, ho7⟩
              have HP7 := Lib.hid hP7
              have HR7 := Lib.hid hR7
              have HB7 := Lib.hid (below_only HB6.out ho7 (Nat.le_refl _) (fun i hi => by rcases hi with hi | hi | hi <;> omega))
              have hS3 : ∀ i, three f g b i → ¬ i < w.heap.size := fun i hi => by rcases hi with hi | hi | hi <;> omega
              have d0 := (ho7.cell (p := ⟨bq, oq + j * 4, none⟩) hbw6 (fun h => hS3 _ h hbl)).trans a0
              have d2 := (ho7.cell (p := ⟨bq, oq + j * 4 + 2, none⟩) hbw6 (fun h => hS3 _ h hbl)).trans a2
              clear hP7 hR7 ho7 HB6 K a0 a1 a2 a3 hS3
              go_wp2_with fail
              go_roundw
              case rel => exact ⟨j + 1, ps', d', by omega, by omega, by go_num, HP7.out, HR7.out, HZ3.out, HZ2.out, HZ1.out, HB7.out⟩
              case measure => simp [intOf]; omega
      · by_cases hjm : j < m
        · obtain rfl : j = 2000 := by omega
          have i1 : ((2000 : Nat) : Int) < (m : Int) := by omega
          have HL2 := Lib.hid HL.out
          go_wp2_with fail
          go_loopw [9] (fun i wt => ∃ (t : Nat), t ≤ 600 ∧ i = .int .i64 (t : Int) ∧ wt = wr) (fun i _ => 600 - (intOf i).toNat)
          case atStart => exact ⟨0, by omega, by first | trivial | exact ⟨rfl, rfl⟩ | simp⟩
          case round =>
            obtain ⟨t, ht, rfl, rfl⟩ := hrel
            by_cases hlt : t < 600
            · have hx := HR.out.cell (i := t) (by rw [HL.out]; exact hlt)
              have hpk := getD_ok HZ.out (i := t) (by rw [HL.out]; exact hlt)
              generalize ps.getD t 0 = x at hx hpk
              obtain ⟨x0, x1⟩ := hpk
              have t0 : (0 : Int) ≤ (t : Int) := by omega
              have t1 : (t : Int) < 600 := by omega
              have x2 : ¬ (x : Int) < 31 := by omega
              have x3 : ¬ (x : Int) > 2017 := by omega
              go_wp2_with fail
              go_roundw
              case rel => exact ⟨t + 1, by omega, by go_num, by first | trivial | rfl⟩
              case measure => simp [intOf]; omega
            · obtain rfl : t = 600 := by omega
              go_wp2_with fail
              go_ret
              exact ⟨rfl, HB.out⟩
        · obtain rfl : j = m := by omega
          clear hjm hgo
          have HL2 := Lib.hid HL.out
          go_wp2_with fail
          go_loopw [9] (fun i wt => ∃ (t : Nat), t ≤ 600 ∧ i = .int .i64 (t : Int) ∧ wt = wr) (fun i _ => 600 - (intOf i).toNat)
          case atStart => exact ⟨0, by omega, by first | trivial | exact ⟨rfl, rfl⟩ | simp⟩
          case round =>
            obtain ⟨t, ht, rfl, rfl⟩ := hrel
            by_cases hlt : t < 600
            · have hx := HR.out.cell (i := t) (by rw [HL.out]; exact hlt)
              have hpk := getD_ok HZ.out (i := t) (by rw [HL.out]; exact hlt)
              generalize ps.getD t 0 = x at hx hpk
              obtain ⟨x0, x1⟩ := hpk
              have t0 : (0 : Int) ≤ (t : Int) := by omega
              have t1 : (t : Int) < 600 := by omega
              have x2 : ¬ (x : Int) < 31 := by omega
              have x3 : ¬ (x : Int) > 2017 := by omega
              go_wp2_with fail
              go_roundw
              case rel => exact ⟨t + 1, by omega, by go_num, by first | trivial | rfl⟩
              case measure => simp [intOf]; omega
            · obtain rfl : t = 600 := by omega
              go_wp2_with fail
              go_ret
              exact ⟨rfl, HB.out⟩
  · have hbig' : (n : Int) > 65536 := by omega
    go_enter Try.func4, Try.ntmps4
    go_wp2_with fail
    refine (awake_any w).mono ?_
    rintro e w1 ⟨rfl, hb⟩
    go_wp2_with fail
    go_ret
    exact ⟨rfl, hb⟩

set_option maxRecDepth 100000 in
theorem lifted (os : Os) (started : os.Started) (H : Type) (enc : TypeId × Value → H) :
    ReturnsInHanded {} Try.checked os 4 .any (Rows.rdecBoundsSpec.pre6 enc Try.prog Try.f4 Rows.rdecBoundsRow.domain false) (Rows.rdecBoundsSpec.post enc Try.prog Try.f4 false true false false) := by
  refine returnsInHanded_of_change (C := Try.checked) own started (by kernel_rfl) Try.func4
    (ChangeSpec.witness6 (enc := enc) (C := Try.checked) false ⟨#[], #[.slice none 0 0, .slice none 0 0], []⟩ 8 (by kernel_rfl) (by kernel_rfl) (by kernel_rfl) (by kernel_rfl)) ?_
  intro W base args ds gs before hval0 hW hcnd _
  have hval : ∀ (j : Nat) t v, Try.f4.params[j]? = some t → args[j]? = some v → Value.okWide Try.prog W .any base t v := hval0
  have hW' := hW
  obtain ⟨p, q, hA0, hV, rfl, hfz, hnd⟩ := hW
  have hA : DataW.TrodAll enc Try.prog W 0 (fun _ => true) true Try.f4.params.toList args.toList ds p := hA0
  rw [Try.params4] at hA hval
  obtain ⟨v0, vs0, d0, ds0, p0, q0, hargs, rfl, rfl, h0, r0⟩ := trodAll_cons hA
  obtain ⟨v1, vs1, d1, ds1, p1, q1, rfl, rfl, rfl, h1, r1⟩ := trodAll_cons r0
  obtain ⟨rfl, rfl, rfl⟩ := trodAll_nil r1
  obtain rfl : args = #[v0, v1] := by cases args; simp_all
  obtain ⟨rfl, rfl⟩ := trodVars_none hV
  obtain ⟨a0, len0, cap0, rfl⟩ := okWide_slice Try.underlying22 (hval 0 22 v0 rfl rfl)
  have k0 := h0
  have lt0 : ∀ x ∈ p0, x.block < W.heap.size := by obtain ⟨m, hm⟩ := k0; exact DataW.trod_lt m _ _ _ hm
  obtain ⟨bs0, w0, hl0, hm0⟩ := open_bytes Try.underlying22 Try.underlying5 (by kernel_rfl) h0
  obtain ⟨a1, len1, cap1, rfl⟩ := okWide_slice Try.underlying23 (hval 1 23 v1 rfl rfl)
  have k1 := h1
  have lt1 : ∀ x ∈ p1, x.block < W.heap.size := by obtain ⟨m, hm⟩ := k1; exact DataW.trod_lt m _ _ _ hm
  obtain ⟨qs1, w1, hw1, hl1, hm1⟩ := open_asks Try.underlying23 Try.underlying36 (by kernel_rfl) rfl rfl rfl rfl (by kernel_rfl) (by kernel_rfl) (by kernel_rfl) (by kernel_rfl) Try.underlying3 Try.underlying3 Try.underlying3 Try.underlying34 h1
  clear hA0 hval0
  refine (walk w0 (Nat.le_trans hl0 hm0) w1 hw1 (Nat.le_trans hl1 hm1)).mono fun e W' ⟨he, bel⟩ => ?_
  subst he
  exact ⟨_, rfl, _, _, _, [], _, [], hW', trodAll_mk1 (shut_bool Try.underlying4 _), (trodAll_cons_mk (Below.trod laidOut (by kernel_rfl) (of_decide_eq_true (by kernel_rfl)) k0 bel lt0) (trodAll_cons_mk (Below.trod laidOut (by kernel_rfl) (of_decide_eq_true (by kernel_rfl)) k1 bel lt1) trodAll_mk0)), rfl, bel.frame _, fun h => by cases h⟩

theorem proved : Rows.RdecBoundsSaid :=
  OpenClaim.holds_of_wide 4 Try.f4 rfl rfl rfl rfl rfl rfl rfl ⟨rfl, rfl, rfl, rfl, rfl⟩ rfl rfl rfl rfl rfl (by kernel_rfl) Try.func4 (by kernel_rfl)
    (of_decide_eq_true (by kernel_rfl)) (by unfold Func.isWrapper; first | (rw [if_pos (by decide +kernel)]; kernel_rfl) | (rw [if_neg (by decide +kernel)]; exact ⟨rfl, rfl⟩))
    (fun os started H enc _ => lifted os started H enc)
#print axioms proved
end Go.Proofs.Ytjomenlegffmeaa.rdecBounds
