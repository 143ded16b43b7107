/-
  The law RdecBad returns true for every row of bytes and every two lists of questions, and leaves all that was there as it was. No condition.
-/
import Derived.Test.YtjomenlegffmeaaRdLaw
import Derived.ProofKit
import Derived.OpenShut
import Derived.ShutString
import Derived.ChangeOld
import Derived.Below
namespace Go.Proofs.Ytjomenlegffmeaa.rdecBad
open Go.ChangeShapes Go.WideShapes Go.ChangeAt Go.RowKit
set_option linter.unusedVariables false

theorem own : ownKnob Try.prog.godebug = none := by kernel_rfl
theorem laidOut : laidOutB Try.prog = true := by kernel_rfl

theorem pv_one (ps : List Nat) : ∀ u ∈ pv ps, u.oneCell' = true := by
  intro u hu
  obtain ⟨_, _, rfl⟩ := List.mem_map.1 hu
  rfl

set_option maxRecDepth 100000 in
set_option maxHeartbeats 8000000 in
theorem walk {A : Option Addr} {n c : Nat} {xs : List UInt8} {B : Option Addr} {m mc : Nat} {qs : Nat → Qn} {B2 : Option Addr} {m2 mc2 : Nat} {qs2 : Nat → Qn} {w : World} (hS : Sl w A n (bv xs)) (hn : n ≤ maxLen) (hB : Asks w B m qs) (hqs : ∀ i, i < m → QnLit (qs i)) (hm : m ≤ maxLen)
    (hB2 : Asks w B2 m2 qs2) (hqs2 : ∀ i, i < m2 → QnLit (qs2 i)) (hm2 : m2 ≤ maxLen) :
    Calls Try.prog 6 #[.slice A n c, .slice B m mc, .slice B2 m2 mc2] w fun e w' => e = .returned (.bool true) ∧ Below w.heap.size w w' := by
  obtain ⟨i2, hi2, hy0, hy1, hy2⟩ := info_parts info_u16
  unfold maxLen at hm hm2 hn
  have HSC := Lib.hid hB
  have HSC2 := Lib.hid hB2
  have HS := Lib.hid hS
  clear hB hqs hB2 hqs2 hS
  by_cases hbig : n ≤ 4096
  · have hbig' : ¬ (n : Int) > 4096 := by omega
    go_enter Try.func6, Try.ntmps6
    go_wp2_with fail
    refine (awake_any w).mono ?_
    rintro e w1 ⟨rfl, hb⟩
    have HB1 := Lib.hid hb
    have HS1 := Lib.hid (HS.out.below hb)
    clear hb
    go_wp2_with fail
    refine (newFeed_any HS1.out (by omega)).mono ?_
    rintro e w3 ⟨f, rfl, hf, hF, hb⟩
    have HB3 := Lib.hid (below_trans HB1.out hb)
    have HF3 := Lib.hid hF
    have hlo : w.heap.size ≤ w1.heap.size := HB1.out.size
    clear hF hb HB1 HS1
    generalize w1.heap.size = lo at *
    go_wp2_with fail
    refine (pnew_any HF3.out).mono ?_
    rintro e w4 ⟨rfl, hP, ho⟩
    have hfg := HF3.out.lt
    have HB4 := Lib.hid (below_only HB3.out ho (Nat.le_refl _) (fun i hi => by omega))
    have HP4 := Lib.hid hP
    clear hP ho HF3 HB3
    generalize w3.heap.size = g at *
    go_wp2_with fail
    refine (fresh_any (n := 600) (by omega) w4).mono ?_
    rintro e w5 ⟨rfl, hR, hb⟩
    have hgb := HP4.out.lt
    have HB5 := Lib.hid (below_trans HB4.out hb)
    have HP5 := Lib.hid (HP4.out.only (Only.of_below (S := fun _ => False) hb) (fun i hi => hi.elim))
    have HR5 := Lib.hid hR
    clear hR hb HB4 HP4
    generalize w4.heap.size = b at *
    go_wp2_with fail
    go_loopw [9] (fun i wr => ∃ (j : Nat) (ps : List Nat) (d : Dc), j ≤ m ∧ j ≤ 500 ∧ i = .int .i64 (j : Int) ∧ Pd wr g f lo xs d ∧ Row wr b ps 600 ∧ ps.length = 600 ∧ PsOk ps ∧ DcOk d ∧ Below w.heap.size w wr) (fun i _ => m - (intOf i).toNat)
    case atStart => exact ⟨0, _, _, by omega, by omega, rfl, HP5.out, HR5.out, by simp, psOk_fresh 600, dcOk_started _, HB5.out⟩
    case round =>
      clear HP5 HR5 HB5
      obtain ⟨j, ps, d, hj, hj5, rfl, hp, hr, hl, hz, hd, hb⟩ := hrel
      have HP := Lib.hid hp
      have HR := Lib.hid hr
      have HL := Lib.hid hl
      have HZ := Lib.hid hz
      have HD := Lib.hid hd
      have HB := Lib.hid hb
      clear hp hr hl hz hd hb
      by_cases hgo : j < m ∧ j < 500
      · obtain ⟨hjm, hj2⟩ := hgo
        obtain ⟨bq, oq, rfl, hbl, c0, c1, c2, c3⟩ := HSC.out.cells HB.out hjm
        generalize hq : qs j = q at *
        obtain ⟨k, a, n, v⟩ := q
        dsimp only at c0 c1 c2 c3
        have HRT := Lib.hid (show Calls Try.prog 14 #[.agg #[.int .i64 k, .int .i64 a, .int .i64 n, .int .u32 v]] wr _ from right_any ⟨k, a, n, v⟩ wr)
        clear hq
        have i0 : (0 : Int) ≤ (j : Int) := by omega
        have i1 : (j : Int) < (m : Int) := by omega
        have i2 : (j : Int) < 500 := by omega
        go_wp2_with fail
        refine HRT.out.mono ?_
        rintro e w6 ⟨bb, rfl, hbb, hb6⟩
        have HB6 := Lib.hid (below_trans HB.out hb6)
        have hbw := Nat.lt_of_lt_of_le hbl HB.out.size
        have a0 := cell_on (w := wr) hb6 hbw c0
        have a1 := cell_on (w := wr) hb6 hbw c1
        have a2 := cell_on (w := wr) hb6 hbw c2
        have a3 := cell_on (w := wr) hb6 hbw c3
        have HP6 := Lib.hid (HP.out.only (Only.of_below (S := fun _ => False) hb6) (fun i hi => hi.elim))
        have HR6 := Lib.hid (HR.out.only (Only.of_below (S := fun _ => False) hb6) (fun h => h))
        have HBB := Lib.hid hbb
        clear hb6 hbb HP HR HB c0 c1 c2 c3 HRT
        cases bb
        · go_wp2_with fail
          go_roundw
          case rel => exact ⟨j + 1, ps, d, by omega, by omega, by go_num, HP6.out, HR6.out, HL.out, HZ.out, HD.out, HB6.out⟩
          case measure => simp [intOf]; omega
        · have hq := HBB.out.1 rfl
          have K := Lib.hid (show Calls Try.prog 15 #[.pointer (some ⟨g, 0, none⟩), .slice (some ⟨b, 0, none⟩) 600 600, .agg #[.int .i64 k, .int .i64 a, .int .i64 n, .int .u32 v]] w6 _ from ask_any (q := ⟨k, a, n, v⟩) HP6.out HD.out HR6.out HZ.out HL.out (.inr hgb) hq)
          have hok := askD_ok (rightD_of hq) HD.out HZ.out HL.out
          dsimp only at hok K
          obtain ⟨z1, z2, z3, _⟩ := hok
          have HZ1 := Lib.hid z1
          have HZ2 := Lib.hid z2
          have HZ3 := Lib.hid z3
          clear HP6 HR6 HL HZ HD HBB hq z1 z2 z3
          generalize (askD ps d k.toNat a.toNat n.toNat).1 = x' at *
          generalize (askD ps d k.toNat a.toNat n.toNat).2.1 = ps' at *
          generalize (askD ps d k.toNat a.toNat n.toNat).2.2 = d' at *
          go_wp2_with fail
          refine K.out.mono ?_
          rintro e w7 ⟨rfl, hP7, hR7, ho7⟩
          have HP7 := Lib.hid hP7
          have HR7 := Lib.hid hR7
          have HB7 := Lib.hid (below_only HB6.out ho7 (Nat.le_refl _) (fun i hi => by rcases hi with hi | hi | hi <;> omega))
          clear hP7 hR7 ho7 HB6 K
          go_wp2_with fail
          go_roundw
          case rel => exact ⟨j + 1, ps', d', by omega, by omega, by go_num, HP7.out, HR7.out, HZ3.out, HZ2.out, HZ1.out, HB7.out⟩
          case measure => simp [intOf]; omega
      · by_cases hjm : j < m
        · obtain rfl : j = 500 := by omega
          have i1 : ((500 : Nat) : Int) < (m : Int) := by omega
          have KBD := Lib.hid (isBad_any HP.out)
          cases d with
          | some x =>
            go_wp2_with fail
            refine KBD.out.mono ?_
            rintro e w8 ⟨rfl, rfl⟩
            go_wp2_with fail
            go_ret
            exact ⟨rfl, HB.out⟩
          | none =>
            go_wp2_with fail
            refine KBD.out.mono ?_
            rintro e w8 ⟨rfl, rfl⟩
            have HSP := Lib.hid (own_facts HR.out).1
            rw [HL.out] at HSP
            have hbw := HR.out.lt
            have hszr := HB.out.size
            go_wp2_with (at_builtin; refine wpList_app _ rfl (.tmp 47) (.tmp 48) 29 rfl wr.heap.size 46 i2 _ 2 Try.underlying29 hi2 hy0 hy1 hy2 rfl _ 0 [] rfl (own_empty wr (Nat.le_refl _) _) _ 600 600 (pv ps) rfl (HSP.out.alloc _) (pv_one ps) (by omega) (by omega) (by simp) ?_)
            intro A9 c9 w9 ho9 hg9
            obtain ⟨s9, _, _, l9⟩ := own_facts ho9
            have hb9 : Below wr.heap.size wr w9 := ((Below.refl _ _).alloc (Nat.le_refl _) _).trans (below_of_only hg9 (Nat.le_refl _) (by simp))
            have HS9 := Lib.hid s9
            have HA9 := Lib.hid (fun q o e => (l9 q o e).1)
            have HP9 := Lib.hid (HP.out.only (Only.of_below (S := fun _ => False) hb9) (fun i hi => hi.elim))
            have HR9 := Lib.hid (HR.out.only (Only.of_below (S := fun _ => False) hb9) (fun h => h))
            have HB9 := Lib.hid (below_trans HB.out hb9)
            clear ho9 hg9 s9 l9 hb9 HP HR HB HSP KBD
            generalize wr.heap.size = base at *
            go_wp2_with fail
            go_loopw [11] (fun i wr => ∃ (j : Nat), j ≤ m2 ∧ j ≤ 500 ∧ i = .int .i64 (j : Int) ∧ Pd wr g f lo xs none ∧ Row wr b ps 600 ∧ Sl wr A9 600 (pv ps) ∧ Below w.heap.size w wr) (fun i _ => m2 - (intOf i).toNat)
            case atStart => exact ⟨0, by omega, by omega, rfl, HP9.out, HR9.out, by simpa using HS9.out, HB9.out⟩
            case round =>
              clear HP9 HR9 HB9 HS9
              obtain ⟨j, hj, hj5, rfl, hp, hr, hs, hb⟩ := hrel
              have HP := Lib.hid hp
              have HR := Lib.hid hr
              have HS := Lib.hid hs
              have HB := Lib.hid hb
              clear hp hr hs hb
              by_cases hgo : j < m2 ∧ j < 500
              · obtain ⟨hjm, hj2⟩ := hgo
                obtain ⟨bq, oq, rfl, hbl, c0, c1, c2, c3⟩ := HSC2.out.cells HB.out hjm
                generalize hq : qs2 j = q at *
                obtain ⟨k, a, n, v⟩ := q
                dsimp only at c0 c1 c2 c3
                have HRT := Lib.hid (show Calls Try.prog 14 #[.agg #[.int .i64 k, .int .i64 a, .int .i64 n, .int .u32 v]] wr _ from right_any ⟨k, a, n, v⟩ wr)
                clear hq
                have i0 : (0 : Int) ≤ (j : Int) := by omega
                have i1 : (j : Int) < (m2 : Int) := by omega
                have i2 : (j : Int) < 500 := by omega
                go_wp2_with fail
                refine HRT.out.mono ?_
                rintro e w6 ⟨bb, rfl, hbb, hb6⟩
                have HB6 := Lib.hid (below_trans HB.out hb6)
                have hbw6 := Nat.lt_of_lt_of_le hbl HB.out.size
                have a0 := cell_on (w := wr) hb6 hbw6 c0
                have a1 := cell_on (w := wr) hb6 hbw6 c1
                have a2 := cell_on (w := wr) hb6 hbw6 c2
                have a3 := cell_on (w := wr) hb6 hbw6 c3
                have HP6 := Lib.hid (HP.out.only (Only.of_below (S := fun _ => False) hb6) (fun i hi => hi.elim))
                have HR6 := Lib.hid (HR.out.only (Only.of_below (S := fun _ => False) hb6) (fun h => h))
                have HS6 := Lib.hid (HS.out.below hb6)
                have HBB := Lib.hid hbb
                clear hb6 hbb HP HR HB HS c0 c1 c2 c3 HRT
                cases bb
                · go_wp2_with fail
                  go_roundw
                  case rel => exact ⟨j + 1, by omega, by omega, by go_num, HP6.out, HR6.out, HS6.out, HB6.out⟩
                  case measure => simp [intOf]; omega
                · have hq := HBB.out.1 rfl
                  have K := Lib.hid (show Calls Try.prog 15 #[.pointer (some ⟨g, 0, none⟩), .slice (some ⟨b, 0, none⟩) 600 600, .agg #[.int .i64 k, .int .i64 a, .int .i64 n, .int .u32 v]] w6 _ from ask_any (q := ⟨k, a, n, v⟩) HP6.out dcOk_none HR6.out HZ.out HL.out (.inr hgb) hq)
                  have hno := askD_none (rightD_of hq) HL.out
                  dsimp only at hno K
                  rw [hno] at K
                  clear HP6 HR6 HBB hq hno
                  go_wp2_with fail
                  refine K.out.mono ?_
                  rintro e w7 ⟨rfl, hP7, hR7, ho7⟩
                  have HP7 := Lib.hid hP7
                  have HR7 := Lib.hid hR7
                  have HS7 := Lib.hid (HS6.out.only ho7 (fun _ q o e h => by have := HA9.out q o e; rcases h with h | h | h <;> omega))
                  have HB7 := Lib.hid (below_only HB6.out ho7 (Nat.le_refl _) (fun i hi => by rcases hi with hi | hi | hi <;> omega))
                  clear hP7 hR7 ho7 HB6 HS6 K
                  go_wp2_with fail
                  go_roundw
                  case rel => exact ⟨j + 1, by omega, by omega, by go_num, HP7.out, HR7.out, HS7.out, HB7.out⟩
                  case measure => simp [intOf]; omega
              · have KB := Lib.hid (isBad_any HP.out)
                have KD := Lib.hid (isDone_any HP.out)
                have hsp := (own_facts HR.out).1
                rw [HL.out] at hsp
                have KS := Lib.hid (fun ca cb => same_any (ca := ca) (cb := cb) hsp HS.out (by omega))
                clear hsp
                by_cases hjm : j < m2
                · obtain rfl : j = 500 := by omega
                  have i1 : ((500 : Nat) : Int) < (m2 : Int) := by omega
                  go_wp2_with fail
                  refine KB.out.mono ?_
                  rintro e w8 ⟨rfl, rfl⟩
                  go_wp2_with fail
                  refine KD.out.mono ?_
                  rintro e w8 ⟨rfl, rfl⟩
                  go_wp2_with fail
                  refine (KS.out _ _).mono ?_
                  rintro e w8 ⟨rfl, dn, rfl⟩
                  go_wp2_with fail
                  go_ret
                  exact ⟨rfl, below_drewN HB.out dn⟩
                · obtain rfl : j = m2 := by omega
                  clear hjm hgo
                  go_wp2_with fail
                  refine KB.out.mono ?_
                  rintro e w8 ⟨rfl, rfl⟩
                  go_wp2_with fail
                  refine KD.out.mono ?_
                  rintro e w8 ⟨rfl, rfl⟩
                  go_wp2_with fail
                  refine (KS.out _ _).mono ?_
                  rintro e w8 ⟨rfl, dn, rfl⟩
                  go_wp2_with fail
                  go_ret
                  exact ⟨rfl, below_drewN HB.out dn⟩
        · obtain rfl : j = m := by omega
          clear hjm hgo
          have KBD := Lib.hid (isBad_any HP.out)
          cases d with
          | some x =>
            go_wp2_with fail
            refine KBD.out.mono ?_
            rintro e w8 ⟨rfl, rfl⟩
            go_wp2_with fail
            go_ret
            exact ⟨rfl, HB.out⟩
          | none =>
            go_wp2_with fail
            refine KBD.out.mono ?_
            rintro e w8 ⟨rfl, rfl⟩
            have HSP := Lib.hid (own_facts HR.out).1
            rw [HL.out] at HSP
            have hbw := HR.out.lt
            have hszr := HB.out.size
            go_wp2_with (at_builtin; refine wpList_app _ rfl (.tmp 47) (.tmp 48) 29 rfl wr.heap.size 46 i2 _ 2 Try.underlying29 hi2 hy0 hy1 hy2 rfl _ 0 [] rfl (own_empty wr (Nat.le_refl _) _) _ 600 600 (pv ps) rfl (HSP.out.alloc _) (pv_one ps) (by omega) (by omega) (by simp) ?_)
            intro A9 c9 w9 ho9 hg9
            obtain ⟨s9, _, _, l9⟩ := own_facts ho9
            have hb9 : Below wr.heap.size wr w9 := ((Below.refl _ _).alloc (Nat.le_refl _) _).trans (below_of_only hg9 (Nat.le_refl _) (by simp))
            have HS9 := Lib.hid s9
            have HA9 := Lib.hid (fun q o e => (l9 q o e).1)
            have HP9 := Lib.hid (HP.out.only (Only.of_below (S := fun _ => False) hb9) (fun i hi => hi.elim))
            have HR9 := Lib.hid (HR.out.only (Only.of_below (S := fun _ => False) hb9) (fun h => h))
            have HB9 := Lib.hid (below_trans HB.out hb9)
            clear ho9 hg9 s9 l9 hb9 HP HR HB HSP KBD
            generalize wr.heap.size = base at *
            go_wp2_with fail
            go_loopw [11] (fun i wr => ∃ (j : Nat), j ≤ m2 ∧ j ≤ 500 ∧ i = .int .i64 (j : Int) ∧ Pd wr g f lo xs none ∧ Row wr b ps 600 ∧ Sl wr A9 600 (pv ps) ∧ Below w.heap.size w wr) (fun i _ => m2 - (intOf i).toNat)
            case atStart => exact ⟨0, by omega, by omega, rfl, HP9.out, HR9.out, by simpa using HS9.out, HB9.out⟩
            case round =>
              clear HP9 HR9 HB9 HS9
              obtain ⟨j, hj, hj5, rfl, hp, hr, hs, hb⟩ := hrel
              have HP := Lib.hid hp
              have HR := Lib.hid hr
              have HS := Lib.hid hs
              have HB := Lib.hid hb
              clear hp hr hs hb
              by_cases hgo : j < m2 ∧ j < 500
              · obtain ⟨hjm, hj2⟩ := hgo
                obtain ⟨bq, oq, rfl, hbl, c0, c1, c2, c3⟩ := HSC2.out.cells HB.out hjm
                generalize hq : qs2 j = q at *
                obtain ⟨k, a, n, v⟩ := q
                dsimp only at c0 c1 c2 c3
                have HRT := Lib.hid (show Calls Try.prog 14 #[.agg #[.int .i64 k, .int .i64 a, .int .i64 n, .int .u32 v]] wr _ from right_any ⟨k, a, n, v⟩ wr)
                clear hq
                have i0 : (0 : Int) ≤ (j : Int) := by omega
                have i1 : (j : Int) < (m2 : Int) := by omega
                have i2 : (j : Int) < 500 := by omega
                go_wp2_with fail
                refine HRT.out.mono ?_
                rintro e w6 ⟨bb, rfl, hbb, hb6⟩
                have HB6 := Lib.hid (below_trans HB.out hb6)
                have hbw6 := Nat.lt_of_lt_of_le hbl HB.out.size
                have a0 := cell_on (w := wr) hb6 hbw6 c0
                have a1 := cell_on (w := wr) hb6 hbw6 c1
                have a2 := cell_on (w := wr) hb6 hbw6 c2
                have a3 := cell_on (w := wr) hb6 hbw6 c3
                have HP6 := Lib.hid (HP.out.only (Only.of_below (S := fun _ => False) hb6) (fun i hi => hi.elim))
                have HR6 := Lib.hid (HR.out.only (Only.of_below (S := fun _ => False) hb6) (fun h => h))
                have HS6 := Lib.hid (HS.out.below hb6)
                have HBB := Lib.hid hbb
                clear hb6 hbb HP HR HB HS c0 c1 c2 c3 HRT
                cases bb
                · go_wp2_with fail
                  go_roundw
                  case rel => exact ⟨j + 1, by omega, by omega, by go_num, HP6.out, HR6.out, HS6.out, HB6.out⟩
                  case measure => simp [intOf]; omega
                · have hq := HBB.out.1 rfl
                  have K := Lib.hid (show Calls Try.prog 15 #[.pointer (some ⟨g, 0, none⟩), .slice (some ⟨b, 0, none⟩) 600 600, .agg #[.int .i64 k, .int .i64 a, .int .i64 n, .int .u32 v]] w6 _ from ask_any (q := ⟨k, a, n, v⟩) HP6.out dcOk_none HR6.out HZ.out HL.out (.inr hgb) hq)
                  have hno := askD_none (rightD_of hq) HL.out
                  dsimp only at hno K
                  rw [hno] at K
                  clear HP6 HR6 HBB hq hno
                  go_wp2_with fail
                  refine K.out.mono ?_
                  rintro e w7 ⟨rfl, hP7, hR7, ho7⟩
                  have HP7 := Lib.hid hP7
                  have HR7 := Lib.hid hR7
                  have HS7 := Lib.hid (HS6.out.only ho7 (fun _ q o e h => by have := HA9.out q o e; rcases h with h | h | h <;> omega))
                  have HB7 := Lib.hid (below_only HB6.out ho7 (Nat.le_refl _) (fun i hi => by rcases hi with hi | hi | hi <;> omega))
                  clear hP7 hR7 ho7 HB6 HS6 K
                  go_wp2_with fail
                  go_roundw
                  case rel => exact ⟨j + 1, by omega, by omega, by go_num, HP7.out, HR7.out, HS7.out, HB7.out⟩
                  case measure => simp [intOf]; omega
              · have KB := Lib.hid (isBad_any HP.out)
                have KD := Lib.hid (isDone_any HP.out)
                have hsp := (own_facts HR.out).1
                rw [HL.out] at hsp
                have KS := Lib.hid (fun ca cb => same_any (ca := ca) (cb := cb) hsp HS.out (by omega))
                clear hsp
                by_cases hjm : j < m2
                · obtain rfl : j = 500 := by omega
                  have i1 : ((500 : Nat) : Int) < (m2 : Int) := by omega
                  go_wp2_with fail
                  refine KB.out.mono ?_
                  rintro e w8 ⟨rfl, rfl⟩
                  go_wp2_with fail
                  refine KD.out.mono ?_
                  rintro e w8 ⟨rfl, rfl⟩
                  go_wp2_with fail
                  refine (KS.out _ _).mono ?_
                  rintro e w8 ⟨rfl, dn, rfl⟩
                  go_wp2_with fail
                  go_ret
                  exact ⟨rfl, below_drewN HB.out dn⟩
                · obtain rfl : j = m2 := by omega
                  clear hjm hgo
                  go_wp2_with fail
                  refine KB.out.mono ?_
                  rintro e w8 ⟨rfl, rfl⟩
                  go_wp2_with fail
                  refine KD.out.mono ?_
                  rintro e w8 ⟨rfl, rfl⟩
                  go_wp2_with fail
                  refine (KS.out _ _).mono ?_
                  rintro e w8 ⟨rfl, dn, rfl⟩
                  go_wp2_with fail
                  go_ret
                  exact ⟨rfl, below_drewN HB.out dn⟩
  · have hbig' : (n : Int) > 4096 := by omega
    go_enter Try.func6, Try.ntmps6
    go_wp2_with fail
    refine (awake_any w).mono ?_
    rintro e w1 ⟨rfl, hb⟩
    go_wp2_with fail
    go_ret
    exact ⟨rfl, hb⟩

set_option maxRecDepth 100000 in
theorem lifted (os : Os) (started : os.Started) (H : Type) (enc : TypeId × Value → H) :
    ReturnsInHanded {} Try.checked os 6 .any (Rows.rdecBadSpec.pre6 enc Try.prog Try.f6 Rows.rdecBadRow.domain false) (Rows.rdecBadSpec.post enc Try.prog Try.f6 false true false false) := by
  refine returnsInHanded_of_change (C := Try.checked) own started (by kernel_rfl) Try.func6
    (ChangeSpec.witness6 (enc := enc) (C := Try.checked) false ⟨#[], #[.slice none 0 0, .slice none 0 0, .slice none 0 0], []⟩ 8 (by kernel_rfl) (by kernel_rfl) (by kernel_rfl) (by kernel_rfl)) ?_
  intro W base args ds gs before hval0 hW hcnd _
  have hval : ∀ (j : Nat) t v, Try.f6.params[j]? = some t → args[j]? = some v → Value.okWide Try.prog W .any base t v := hval0
  have hW' := hW
  obtain ⟨p, q, hA0, hV, rfl, hfz, hnd⟩ := hW
  have hA : DataW.TrodAll enc Try.prog W 0 (fun _ => true) true Try.f6.params.toList args.toList ds p := hA0
  rw [Try.params6] at hA hval
  obtain ⟨v0, vs0, d0, ds0, p0, q0, hargs, rfl, rfl, h0, r0⟩ := trodAll_cons hA
  obtain ⟨v1, vs1, d1, ds1, p1, q1, rfl, rfl, rfl, h1, r1⟩ := trodAll_cons r0
  obtain ⟨v2, vs2, d2, ds2, p2, q2, rfl, rfl, rfl, h2, r2⟩ := trodAll_cons r1
  obtain ⟨rfl, rfl, rfl⟩ := trodAll_nil r2
  obtain rfl : args = #[v0, v1, v2] := by cases args; simp_all
  obtain ⟨rfl, rfl⟩ := trodVars_none hV
  obtain ⟨a0, len0, cap0, rfl⟩ := okWide_slice Try.underlying22 (hval 0 22 v0 rfl rfl)
  have k0 := h0
  have lt0 : ∀ x ∈ p0, x.block < W.heap.size := by obtain ⟨m, hm⟩ := k0; exact DataW.trod_lt m _ _ _ hm
  obtain ⟨bs0, w0, hl0, hm0⟩ := open_bytes Try.underlying22 Try.underlying5 (by kernel_rfl) h0
  obtain ⟨a1, len1, cap1, rfl⟩ := okWide_slice Try.underlying23 (hval 1 23 v1 rfl rfl)
  have k1 := h1
  have lt1 : ∀ x ∈ p1, x.block < W.heap.size := by obtain ⟨m, hm⟩ := k1; exact DataW.trod_lt m _ _ _ hm
  obtain ⟨qs1, w1, hw1, hl1, hm1⟩ := open_asks Try.underlying23 Try.underlying36 (by kernel_rfl) rfl rfl rfl rfl (by kernel_rfl) (by kernel_rfl) (by kernel_rfl) (by kernel_rfl) Try.underlying3 Try.underlying3 Try.underlying3 Try.underlying34 h1
  obtain ⟨a2, len2, cap2, rfl⟩ := okWide_slice Try.underlying23 (hval 2 23 v2 rfl rfl)
  have k2 := h2
  have lt2 : ∀ x ∈ p2, x.block < W.heap.size := by obtain ⟨m, hm⟩ := k2; exact DataW.trod_lt m _ _ _ hm
  obtain ⟨qs2, w2, hw2, hl2, hm2⟩ := open_asks Try.underlying23 Try.underlying36 (by kernel_rfl) rfl rfl rfl rfl (by kernel_rfl) (by kernel_rfl) (by kernel_rfl) (by kernel_rfl) Try.underlying3 Try.underlying3 Try.underlying3 Try.underlying34 h2
  clear hA0 hval0
  refine (walk w0 (Nat.le_trans hl0 hm0) w1 hw1 (Nat.le_trans hl1 hm1) w2 hw2 (Nat.le_trans hl2 hm2)).mono fun e W' ⟨he, bel⟩ => ?_
  subst he
  exact ⟨_, rfl, _, _, _, [], _, [], hW', trodAll_mk1 (shut_bool Try.underlying4 _), (trodAll_cons_mk (Below.trod laidOut (by kernel_rfl) (of_decide_eq_true (by kernel_rfl)) k0 bel lt0) (trodAll_cons_mk (Below.trod laidOut (by kernel_rfl) (of_decide_eq_true (by kernel_rfl)) k1 bel lt1) (trodAll_cons_mk (Below.trod laidOut (by kernel_rfl) (of_decide_eq_true (by kernel_rfl)) k2 bel lt2) trodAll_mk0))), rfl, bel.frame _, fun h => by cases h⟩

theorem proved : Rows.RdecBadSaid :=
  OpenClaim.holds_of_wide 6 Try.f6 rfl rfl rfl rfl rfl rfl rfl ⟨rfl, rfl, rfl, rfl, rfl⟩ rfl rfl rfl rfl rfl (by kernel_rfl) Try.func6 (by kernel_rfl)
    (of_decide_eq_true (by kernel_rfl)) (by unfold Func.isWrapper; first | (rw [if_pos (by decide +kernel)]; kernel_rfl) | (rw [if_neg (by decide +kernel)]; exact ⟨rfl, rfl⟩))
    (fun os started H enc _ => lifted os started H enc)
#print axioms proved
end Go.Proofs.Ytjomenlegffmeaa.rdecBad
