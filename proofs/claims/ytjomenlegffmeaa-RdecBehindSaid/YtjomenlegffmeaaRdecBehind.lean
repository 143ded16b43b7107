/-
  The law RdecBehind returns true for every two rows of bytes and every list of questions, and leaves all that was there as it was. No condition.
-/
import Derived.Test.YtjomenlegffmeaaRdLaw
import Derived.ProofKit
import Derived.OpenShut
import Derived.ShutString
import Derived.ChangeOld
import Derived.Below
namespace Go.Proofs.Ytjomenlegffmeaa.rdecBehind
open Go.ChangeShapes Go.WideShapes Go.ChangeAt Go.RowKit
set_option linter.unusedVariables false

theorem own : ownKnob Try.prog.godebug = none := by kernel_rfl
theorem laidOut : laidOutB Try.prog = true := by kernel_rfl

theorem askD_zero {ps : List Nat} {d : Dc} {k a n : Nat} (h : (askD ps d k a n).2.2 = none) : (askD ps d k a n).1 = 0 := by
  unfold askD at *
  by_cases k0 : k = 0
  · rw [if_pos k0] at h ⊢
    dsimp only at h ⊢
    cases d with
    | none => rfl
    | some x =>
      obtain ⟨r, c, s⟩ := x
      unfold bitD at h ⊢
      simp only [] at h ⊢
      split
      · rfl
      · rename_i hc
        rw [if_neg hc] at h
        split
        · rfl
        · rename_i t ht
          rw [ht] at h
          cases h
  rw [if_neg k0] at h ⊢
  by_cases k3 : k = 3
  · rw [if_pos k3] at h ⊢
    dsimp only at h ⊢
    unfold straightD at h ⊢
    dsimp only at h ⊢
    rw [if_pos h]
  rw [if_neg k3] at h ⊢
  dsimp only at h ⊢
  rw [if_pos h]
theorem ext_done {ys : List UInt8} (d : Dc) : doneD (ext ys d) = doneD d := by cases d <;> rfl
theorem ext_isNone {ys : List UInt8} (d : Dc) : (ext ys d).isNone = d.isNone := by cases d <;> rfl

set_option maxRecDepth 100000 in
set_option maxHeartbeats 8000000 in
theorem walk {A : Option Addr} {n c : Nat} {xs : List UInt8} {A2 : Option Addr} {n2 c2 : Nat} {ys : List UInt8} {B : Option Addr} {m mc : Nat} {qs : Nat → Qn} {w : World} (hS : Sl w A n (bv xs)) (hn : n ≤ maxLen) (hS2 : Sl w A2 n2 (bv ys)) (hn2 : n2 ≤ maxLen) (hB : Asks w B m qs) (hqs : ∀ i, i < m → QnLit (qs i)) (hm : m ≤ maxLen) :
    Calls Try.prog 5 #[.slice A n c, .slice A2 n2 c2, .slice B m mc] w fun e w' => e = .returned (.bool true) ∧ Below w.heap.size w w' := by
  obtain ⟨i, hi, hz0, hz1, hz2⟩ := info_parts info_u8
  unfold maxLen at hm hn hn2
  have HSC := Lib.hid hB
  have HS := Lib.hid hS
  have HS2 := Lib.hid hS2
  clear hB hqs hS hS2
  by_cases hbig : n ≤ 32768
  · by_cases hbig2 : n2 ≤ 32768
    · have hbig' : ¬ (n : Int) > 32768 := by omega
      have hbig2' : ¬ (n2 : Int) > 32768 := by omega
      go_enter Try.func5, Try.ntmps5
      go_wp2_with fail
      refine (awake_any w).mono ?_
      rintro e w1 ⟨rfl, hb⟩
      have HB1 := Lib.hid hb
      have HS1 := Lib.hid (HS.out.below hb)
      clear hb
      go_wp2_with fail
      refine (newFeed_any HS1.out (by omega)).mono ?_
      rintro e w3 ⟨f, rfl, hf, hF, hb⟩
      have HB3 := Lib.hid (below_trans HB1.out hb)
      have HF3 := Lib.hid hF
      have hlo : w.heap.size ≤ w1.heap.size := HB1.out.size
      clear hF hb HB1 HS1
      generalize w1.heap.size = lo at *
      go_wp2_with fail
      refine (pnew_any HF3.out).mono ?_
      rintro e w4 ⟨rfl, hP, ho⟩
      have hfg := HF3.out.lt
      have HB4 := Lib.hid (below_only HB3.out ho (Nat.le_refl _) (fun i hi => by omega))
      have HP4 := Lib.hid hP
      clear hP ho HF3 HB3
      generalize w3.heap.size = g at *
      have HSb := Lib.hid (HS.out.below HB4.out)
      have HSm := Lib.hid (HS2.out.below HB4.out)
      have hg4 := HP4.out.lt
      have hszw := HB4.out.size
      clear HS HS2
      go_wp2_with (at_builtin; refine wpList_app _ rfl (.tmp 28) (.tmp 29) 22 rfl w4.heap.size 5 i _ 1 Try.underlying22 hi hz0 hz1 hz2 rfl _ 0 [] rfl (own_empty w4 (Nat.le_refl _) _) A n c (bv xs) rfl (HSb.out.alloc _) (bv_one xs) (by omega) (by omega) (by simp) ?_)
      intro A5 c5 w5 ho5 hg5
      have hb5 : Below w4.heap.size w4 w5 := ((Below.refl _ _).alloc (Nat.le_refl _) _).trans (below_of_only hg5 (Nat.le_refl _) (by simp))
      have HO5 := Lib.hid (show w5.ownsRow w4.heap.size 5 1 (.slice A5 n c5) n (bv xs) by simpa using ho5)
      have HG5 := Lib.hid hb5
      have HSm5 := Lib.hid (HSm.out.below hb5)
      clear ho5 hg5 hb5 HSm HSb
      go_wp2_with (at_builtin; refine wpList_app _ rfl (.tmp 30) (.tmp 31) 22 rfl w4.heap.size 5 i _ 1 Try.underlying22 hi hz0 hz1 hz2 rfl _ n (bv xs) rfl HO5.out A2 n2 c2 (bv ys) rfl HSm5.out (bv_one ys) (by omega) (by omega) HG5.out.size ?_)
      intro A6 c6 w6 ho6 hg6
      have hb6 : Below w4.heap.size w4 w6 := HG5.out.grown hg6 HG5.out.size (fun q e => (HO5.out.lt q e).1)
      rw [← bv_append] at ho6
      have HS6 := Lib.hid (own_facts ho6).1
      have HP6 := Lib.hid (HP4.out.only (Only.of_below (S := fun _ => False) hb6) (fun i hi => hi.elim))
      have HB6 := Lib.hid (below_trans HB4.out hb6)
      have hsz6 := hb6.size
      clear ho6 hg6 hb6 HO5 HG5 HSm5 HP4 HB4
      go_wp2_with fail
      refine (newFeed_any HS6.out (by omega)).mono ?_
      rintro e w7 ⟨f2, rfl, hf2, hF, hb⟩
      have HB7 := Lib.hid (below_trans HB6.out hb)
      have HP7 := Lib.hid (HP6.out.only (Only.of_below (S := fun _ => False) hb) (fun i hi => hi.elim))
      have HF7 := Lib.hid hF
      clear hF hb HB6 HP6 HS6
      have hlo2 : g < w6.heap.size := by omega
      generalize w6.heap.size = lo2 at *
      go_wp2_with fail
      refine (pnew_any HF7.out).mono ?_
      rintro e w8 ⟨rfl, hP, ho⟩
      have hfg2 := HF7.out.lt
      have HB8 := Lib.hid (below_only HB7.out ho (Nat.le_refl _) (fun i hi => by omega))
      have HP8 := Lib.hid (HP7.out.only ho (fun i hi => by omega))
      have HE8 := Lib.hid hP
      clear hP ho HF7 HB7 HP7
      generalize w7.heap.size = g2 at *
      go_wp2_with fail
      refine (fresh_any (n := 600) (by omega) w8).mono ?_
      rintro e w9 ⟨rfl, hR, hb⟩
      have hgb := HE8.out.lt
      have HB9 := Lib.hid (below_trans HB8.out hb)
      have HP9 := Lib.hid (HP8.out.only (Only.of_below (S := fun _ => False) hb) (fun i hi => hi.elim))
      have HE9 := Lib.hid (HE8.out.only (Only.of_below (S := fun _ => False) hb) (fun i hi => hi.elim))
      have HR9 := Lib.hid hR
      clear hR hb HB8 HP8 HE8
      generalize w8.heap.size = b at *
      go_wp2_with fail
      refine (fresh_any (n := 600) (by omega) w9).mono ?_
      rintro e w10 ⟨rfl, hR, hb⟩
      have hbb2 := HR9.out.lt
      have HB10 := Lib.hid (below_trans HB9.out hb)
      have HP10 := Lib.hid (HP9.out.only (Only.of_below (S := fun _ => False) hb) (fun i hi => hi.elim))
      have HE10 := Lib.hid (HE9.out.only (Only.of_below (S := fun _ => False) hb) (fun i hi => hi.elim))
      have HR10 := Lib.hid (HR9.out.only (Only.of_below (S := fun _ => False) hb) (fun h => h))
      have HRQ := Lib.hid hR
      clear hR hb HB9 HP9 HE9 HR9
      generalize w9.heap.size = b2 at *
      go_wp2_with fail
      go_loopw [11] (fun i wr => ∃ (j : Nat) (ps ps2 : List Nat) (d d2 : Dc), j ≤ m ∧ j ≤ 2000 ∧ i = .int .i64 (j : Int) ∧ Pd wr g f lo xs d ∧ Pd wr g2 f2 lo2 (xs ++ ys) d2 ∧ Row wr b ps 600 ∧ Row wr b2 ps2 600 ∧ ps.length = 600 ∧ ps2.length = 600 ∧ PsOk ps ∧ PsOk ps2 ∧ DcOk d ∧ DcOk d2 ∧ (d ≠ none → d2 = ext ys d ∧ ps2 = ps) ∧ Below w.heap.size w wr) (fun i _ => m - (intOf i).toNat)
      case atStart => exact ⟨0, _, _, _, _, by omega, by omega, rfl, HP10.out, HE10.out, HR10.out, HRQ.out, by simp, by simp, psOk_fresh 600, psOk_fresh 600, dcOk_started _, dcOk_started _, fun h => ⟨started_ext h, rfl⟩, HB10.out⟩
      case round =>
        clear HP10 HE10 HR10 HRQ HB10
        obtain ⟨j, ps, ps2, d, d2, hj, hj5, rfl, hp, hp2, hr, hr2, hl, hl2, hz, hz2, hd, hd2, hqq, hb⟩ := hrel
        have HP := Lib.hid hp
        have HP2 := Lib.hid hp2
        have HR := Lib.hid hr
        have HR2 := Lib.hid hr2
        have HL := Lib.hid hl
        have HL2 := Lib.hid hl2
        have HZ := Lib.hid hz
        have HZ2 := Lib.hid hz2
        have HD := Lib.hid hd
        have HD2 := Lib.hid hd2
        have HQ := Lib.hid hqq
        have HB := Lib.hid hb
        clear hp hp2 hr hr2 hl hl2 hz hz2 hd hd2 hqq hb
        by_cases hgo : j < m ∧ j < 2000
        · obtain ⟨hjm, hj2⟩ := hgo
          obtain ⟨bq, oq, rfl, hbl, c0, c1, c2, c3⟩ := HSC.out.cells HB.out hjm
          generalize hq : qs j = q at *
          obtain ⟨k, a, n, v⟩ := q
          dsimp only at c0 c1 c2 c3
          have HRT := Lib.hid (show Calls Try.prog 14 #[.agg #[.int .i64 k, .int .i64 a, .int .i64 n, .int .u32 v]] wr _ from right_any ⟨k, a, n, v⟩ wr)
          clear hq
          have i0 : (0 : Int) ≤ (j : Int) := by omega
          have i1 : (j : Int) < (m : Int) := by omega
          have i2 : (j : Int) < 2000 := by omega
          go_wp2_with fail
          refine HRT.out.mono ?_
          rintro e w6 ⟨bb, rfl, hbb, hb6⟩
          have HB6 := Lib.hid (below_trans HB.out hb6)
          have hbw := Nat.lt_of_lt_of_le hbl HB.out.size
          have hbw6 := Nat.lt_of_lt_of_le hbl HB6.out.size
          have a0 := cell_on (w := wr) hb6 hbw c0
          have a1 := cell_on (w := wr) hb6 hbw c1
          have a2 := cell_on (w := wr) hb6 hbw c2
          have a3 := cell_on (w := wr) hb6 hbw c3
          have HP6 := Lib.hid (HP.out.only (Only.of_below (S := fun _ => False) hb6) (fun i hi => hi.elim))
          have HE6 := Lib.hid (HP2.out.only (Only.of_below (S := fun _ => False) hb6) (fun i hi => hi.elim))
          have HR6 := Lib.hid (HR.out.only (Only.of_below (S := fun _ => False) hb6) (fun h => h))
          have HQ6 := Lib.hid (HR2.out.only (Only.of_below (S := fun _ => False) hb6) (fun h => h))
          have HBB := Lib.hid hbb
          clear hb6 hbb HP HP2 HR HR2 HB c0 c1 c2 c3 HRT
          cases bb
          · go_wp2_with fail
            go_roundw
            case rel => exact ⟨j + 1, ps, ps2, d, d2, by omega, by omega, by go_num, HP6.out, HE6.out, HR6.out, HQ6.out, HL.out, HL2.out, HZ.out, HZ2.out, HD.out, HD2.out, HQ.out, HB6.out⟩
            case measure => simp [intOf]; omega
          · have hq := HBB.out.1 rfl
            have hrd := rightD_of hq
            dsimp only at hrd
            have K := Lib.hid (show Calls Try.prog 15 #[.pointer (some ⟨g, 0, none⟩), .slice (some ⟨b, 0, none⟩) 600 600, .agg #[.int .i64 k, .int .i64 a, .int .i64 n, .int .u32 v]] w6 _ from ask_any (q := ⟨k, a, n, v⟩) HP6.out HD.out HR6.out HZ.out HL.out (.inr (by omega)) hq)
            have hok := askD_ok hrd HD.out HZ.out HL.out
            have hok2 := askD_ok hrd HD2.out HZ2.out HL2.out
            have K2 := Lib.hid (fun W (h1 : Pd W g2 f2 lo2 (xs ++ ys) d2) (h2 : Row W b2 ps2 600) => (show Calls Try.prog 15 #[.pointer (some ⟨g2, 0, none⟩), .slice (some ⟨b2, 0, none⟩) 600 600, .agg #[.int .i64 k, .int .i64 a, .int .i64 n, .int .u32 v]] W _ from ask_any (q := ⟨k, a, n, v⟩) h1 HD2.out h2 HZ2.out HL2.out (.inr (by omega)) hq))
            dsimp only at K K2
            obtain ⟨z1, z2, z3, _⟩ := hok
            obtain ⟨y1, y2, y3, _⟩ := hok2
            have HZ1 := Lib.hid z1
            have HZp := Lib.hid z2
            have HZ3 := Lib.hid z3
            have HY1 := Lib.hid y1
            have HYp := Lib.hid y2
            have HY3 := Lib.hid y3
            have H0 := Lib.hid (fun h => askD_zero (ps := ps) (d := d) (k := k.toNat) (a := a.toNat) (n := n.toNat) h)
            have hsame : (askD ps d k.toNat a.toNat n.toNat).2.2 ≠ none → (askD ps2 d2 k.toNat a.toNat n.toNat) = ((askD ps d k.toNat a.toNat n.toNat).1, (askD ps d k.toNat a.toNat n.toNat).2.1, ext ys (askD ps d k.toNat a.toNat n.toNat).2.2) := by
              intro h
              have hdn : d ≠ none := by
                intro h0
                rw [h0, askD_none hrd HL.out] at h
                exact h rfl
              obtain ⟨e1, e2⟩ := HQ.out hdn
              rw [e1, e2]
              exact askD_ext h
            have HSAME := Lib.hid hsame
            clear HL HL2 HZ HZ2 HD HD2 HQ HBB hq hrd z1 z2 z3 y1 y2 y3 hsame
            generalize askD ps d k.toNat a.toNat n.toNat = T1 at *
            generalize askD ps2 d2 k.toNat a.toNat n.toNat = T2 at *
            obtain ⟨x1, ps', d'⟩ := T1
            obtain ⟨x2, ps2', d2'⟩ := T2
            dsimp only at K K2 HZ1 HZp HZ3 HY1 HYp HY3 H0 HSAME
            go_wp2_with fail
            refine K.out.mono ?_
            rintro e w7 ⟨rfl, hP7, hR7, ho7⟩
            have HP7 := Lib.hid hP7
            have HR7 := Lib.hid hR7
            have HE7 := Lib.hid (HE6.out.only ho7 (fun i hi => by rcases hi with hi | hi | hi <;> omega))
            have HQ7 := Lib.hid (HQ6.out.only ho7 (fun hi => by rcases hi with hi | hi | hi <;> omega))
            have HB7 := Lib.hid (below_only HB6.out ho7 (Nat.le_refl _) (fun i hi => by rcases hi with hi | hi | hi <;> omega))
            have hS3 : ∀ i, three f g b i → ¬ i < w.heap.size := fun i hi => by rcases hi with hi | hi | hi <;> omega
            have d0 := (ho7.cell (p := ⟨bq, oq + j * 4, none⟩) hbw6 (fun h => hS3 _ h hbl)).trans a0
            have d1 := (ho7.cell (p := ⟨bq, oq + j * 4 + 1, none⟩) hbw6 (fun h => hS3 _ h hbl)).trans a1
            have d2c := (ho7.cell (p := ⟨bq, oq + j * 4 + 2, none⟩) hbw6 (fun h => hS3 _ h hbl)).trans a2
            have d3 := (ho7.cell (p := ⟨bq, oq + j * 4 + 3, none⟩) hbw6 (fun h => hS3 _ h hbl)).trans a3
            have KK := Lib.hid (K2.out w7 HE7.out HQ7.out)
            clear hP7 hR7 ho7 HB6 K a0 a1 a2 a3 hS3 HE6 HQ6 HE7 HQ7 K2 HP6 HR6
            go_wp2_with fail
            refine KK.out.mono ?_
            rintro e w8 ⟨rfl, hP8, hR8, ho8⟩
            have HE8 := Lib.hid hP8
            have HQ8 := Lib.hid hR8
            have HP8 := Lib.hid (HP7.out.only ho8 (fun i hi => by rcases hi with hi | hi | hi <;> omega))
            have HR8 := Lib.hid (HR7.out.only ho8 (fun hi => by rcases hi with hi | hi | hi <;> omega))
            have HB8 := Lib.hid (below_only HB7.out ho8 (Nat.le_refl _) (fun i hi => by rcases hi with hi | hi | hi <;> omega))
            have KB := Lib.hid (isBad_any HP8.out)
            have KB2 := Lib.hid (isBad_any HE8.out)
            have KD := Lib.hid (isDone_any HP8.out)
            have KD2 := Lib.hid (isDone_any HE8.out)
            clear hP8 hR8 ho8 HB7 HP7 HR7 KK d0 d1 d2c d3
            cases d' with
            | none =>
              have hx0 := H0.out rfl
              subst hx0
              clear HSAME KB2 KD KD2 H0
              go_wp2_with fail
              refine KB.out.mono ?_
              rintro e w9 ⟨rfl, rfl⟩
              go_wp2_with fail
              go_ret
              exact ⟨rfl, HB8.out⟩
            | some y =>
              have hs := HSAME.out (by simp)
              injection hs with e1 hs
              injection hs with e2 e3
              subst e1 e2 e3
              rw [ext_isNone] at KB2
              rw [ext_done] at KD2
              clear HSAME H0
              generalize doneD (some y) = z at *
              go_wp2_with fail
              refine KB.out.mono ?_
              rintro e w9 ⟨rfl, rfl⟩
              go_wp2_with fail
              refine KB2.out.mono ?_
              rintro e w9 ⟨rfl, rfl⟩
              go_wp2_with fail
              refine KD.out.mono ?_
              rintro e w9 ⟨rfl, rfl⟩
              go_wp2_with fail
              refine KD2.out.mono ?_
              rintro e w9 ⟨rfl, rfl⟩
              go_wp2_with fail
              go_roundw
              case rel => exact ⟨j + 1, ps2', ps2', some y, ext ys (some y), by omega, by omega, by go_num, HP8.out, HE8.out, HR8.out, HQ8.out, HZ3.out, HY3.out, HZp.out, HYp.out, HZ1.out, HY1.out, fun _ => ⟨rfl, rfl⟩, HB8.out⟩
              case measure => simp [intOf]; omega
        · by_cases hjm : j < m
          · obtain rfl : j = 2000 := by omega
            have i1 : ((2000 : Nat) : Int) < (m : Int) := by omega
            have KB := Lib.hid (isBad_any HP.out)
            cases d with
            | none =>
              go_wp2_with fail
              refine KB.out.mono ?_
              rintro e w8 ⟨rfl, rfl⟩
              go_wp2_with fail
              go_ret
              exact ⟨rfl, HB.out⟩
            | some y =>
              obtain ⟨_, hps⟩ := HQ.out (by simp)
              subst hps
              have hsp := (own_facts HR.out).1
              have hsq := (own_facts HR2.out).1
              rw [HL.out] at hsp hsq
              have KS := Lib.hid (fun ca cb => same_any (ca := ca) (cb := cb) hsp hsq (by omega))
              clear hsp hsq
              go_wp2_with fail
              refine KB.out.mono ?_
              rintro e w8 ⟨rfl, rfl⟩
              go_wp2_with fail
              refine (KS.out _ _).mono ?_
              rintro e w8 ⟨rfl, dn, rfl⟩
              go_wp2_with fail
              go_ret
              exact ⟨rfl, below_drewN HB.out dn⟩
          · obtain rfl : j = m := by omega
            clear hjm hgo
            have KB := Lib.hid (isBad_any HP.out)
            cases d with
            | none =>
              go_wp2_with fail
              refine KB.out.mono ?_
              rintro e w8 ⟨rfl, rfl⟩
              go_wp2_with fail
              go_ret
              exact ⟨rfl, HB.out⟩
            | some y =>
              obtain ⟨_, hps⟩ := HQ.out (by simp)
              subst hps
              have hsp := (own_facts HR.out).1
              have hsq := (own_facts HR2.out).1
              rw [HL.out] at hsp hsq
              have KS := Lib.hid (fun ca cb => same_any (ca := ca) (cb := cb) hsp hsq (by omega))
              clear hsp hsq
              go_wp2_with fail
              refine KB.out.mono ?_
              rintro e w8 ⟨rfl, rfl⟩
              go_wp2_with fail
              refine (KS.out _ _).mono ?_
              rintro e w8 ⟨rfl, dn, rfl⟩
              go_wp2_with fail
              go_ret
              exact ⟨rfl, below_drewN HB.out dn⟩
    · have hbig' : ¬ (n : Int) > 32768 := by omega
      have hbig2' : (n2 : Int) > 32768 := by omega
      go_enter Try.func5, Try.ntmps5
      go_wp2_with fail
      refine (awake_any w).mono ?_
      rintro e w1 ⟨rfl, hb⟩
      go_wp2_with fail
      go_ret
      exact ⟨rfl, hb⟩
  · have hbig' : (n : Int) > 32768 := by omega
    go_enter Try.func5, Try.ntmps5
    go_wp2_with fail
    refine (awake_any w).mono ?_
    rintro e w1 ⟨rfl, hb⟩
    go_wp2_with fail
    go_ret
    exact ⟨rfl, hb⟩

set_option maxRecDepth 100000 in
theorem lifted (os : Os) (started : os.Started) (H : Type) (enc : TypeId × Value → H) :
    ReturnsInHanded {} Try.checked os 5 .any (Rows.rdecBehindSpec.pre6 enc Try.prog Try.f5 Rows.rdecBehindRow.domain false) (Rows.rdecBehindSpec.post enc Try.prog Try.f5 false true false false) := by
  refine returnsInHanded_of_change (C := Try.checked) own started (by kernel_rfl) Try.func5
    (ChangeSpec.witness6 (enc := enc) (C := Try.checked) false ⟨#[], #[.slice none 0 0, .slice none 0 0, .slice none 0 0], []⟩ 8 (by kernel_rfl) (by kernel_rfl) (by kernel_rfl) (by kernel_rfl)) ?_
  intro W base args ds gs before hval0 hW hcnd _
  have hval : ∀ (j : Nat) t v, Try.f5.params[j]? = some t → args[j]? = some v → Value.okWide Try.prog W .any base t v := hval0
  have hW' := hW
  obtain ⟨p, q, hA0, hV, rfl, hfz, hnd⟩ := hW
  have hA : DataW.TrodAll enc Try.prog W 0 (fun _ => true) true Try.f5.params.toList args.toList ds p := hA0
  rw [Try.params5] at hA hval
  obtain ⟨v0, vs0, d0, ds0, p0, q0, hargs, rfl, rfl, h0, r0⟩ := trodAll_cons hA
  obtain ⟨v1, vs1, d1, ds1, p1, q1, rfl, rfl, rfl, h1, r1⟩ := trodAll_cons r0
  obtain ⟨v2, vs2, d2, ds2, p2, q2, rfl, rfl, rfl, h2, r2⟩ := trodAll_cons r1
  obtain ⟨rfl, rfl, rfl⟩ := trodAll_nil r2
  obtain rfl : args = #[v0, v1, v2] := by cases args; simp_all
  obtain ⟨rfl, rfl⟩ := trodVars_none hV
  obtain ⟨a0, len0, cap0, rfl⟩ := okWide_slice Try.underlying22 (hval 0 22 v0 rfl rfl)
  have k0 := h0
  have lt0 : ∀ x ∈ p0, x.block < W.heap.size := by obtain ⟨m, hm⟩ := k0; exact DataW.trod_lt m _ _ _ hm
  obtain ⟨bs0, w0, hl0, hm0⟩ := open_bytes Try.underlying22 Try.underlying5 (by kernel_rfl) h0
  obtain ⟨a1, len1, cap1, rfl⟩ := okWide_slice Try.underlying22 (hval 1 22 v1 rfl rfl)
  have k1 := h1
  have lt1 : ∀ x ∈ p1, x.block < W.heap.size := by obtain ⟨m, hm⟩ := k1; exact DataW.trod_lt m _ _ _ hm
  obtain ⟨bs1, w1, hl1, hm1⟩ := open_bytes Try.underlying22 Try.underlying5 (by kernel_rfl) h1
  obtain ⟨a2, len2, cap2, rfl⟩ := okWide_slice Try.underlying23 (hval 2 23 v2 rfl rfl)
  have k2 := h2
  have lt2 : ∀ x ∈ p2, x.block < W.heap.size := by obtain ⟨m, hm⟩ := k2; exact DataW.trod_lt m _ _ _ hm
  obtain ⟨qs2, w2, hw2, hl2, hm2⟩ := open_asks Try.underlying23 Try.underlying36 (by kernel_rfl) rfl rfl rfl rfl (by kernel_rfl) (by kernel_rfl) (by kernel_rfl) (by kernel_rfl) Try.underlying3 Try.underlying3 Try.underlying3 Try.underlying34 h2
  clear hA0 hval0
  refine (walk w0 (Nat.le_trans hl0 hm0) w1 (Nat.le_trans hl1 hm1) w2 hw2 (Nat.le_trans hl2 hm2)).mono fun e W' ⟨he, bel⟩ => ?_
  subst he
  exact ⟨_, rfl, _, _, _, [], _, [], hW', trodAll_mk1 (shut_bool Try.underlying4 _), (trodAll_cons_mk (Below.trod laidOut (by kernel_rfl) (of_decide_eq_true (by kernel_rfl)) k0 bel lt0) (trodAll_cons_mk (Below.trod laidOut (by kernel_rfl) (of_decide_eq_true (by kernel_rfl)) k1 bel lt1) (trodAll_cons_mk (Below.trod laidOut (by kernel_rfl) (of_decide_eq_true (by kernel_rfl)) k2 bel lt2) trodAll_mk0))), rfl, bel.frame _, fun h => by cases h⟩

theorem proved : Rows.RdecBehindSaid :=
  OpenClaim.holds_of_wide 5 Try.f5 rfl rfl rfl rfl rfl rfl rfl ⟨rfl, rfl, rfl, rfl, rfl⟩ rfl rfl rfl rfl rfl (by kernel_rfl) Try.func5 (by kernel_rfl)
    (of_decide_eq_true (by kernel_rfl)) (by unfold Func.isWrapper; first | (rw [if_pos (by decide +kernel)]; kernel_rfl) | (rw [if_neg (by decide +kernel)]; exact ⟨rfl, rfl⟩))
    (fun os started H enc _ => lifted os started H enc)
#print axioms proved
end Go.Proofs.Ytjomenlegffmeaa.rdecBehind
