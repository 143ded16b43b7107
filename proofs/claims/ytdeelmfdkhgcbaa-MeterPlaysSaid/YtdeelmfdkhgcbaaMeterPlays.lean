/-
  The law MeterPlays returns true for every quota and every script, and leaves all that was there as it was. No condition.
-/
import Derived.Test.YtdeelmfdkhgcbaaMtOpen
import Derived.ProofKit
import Derived.Test.YtdeelmfdkhgcbaaHeld
import Derived.OpenShut
import Derived.ShutString
import Derived.ChangeOld
import Derived.Below
namespace Go.Proofs.Ytdeelmfdkhgcbaa.meterPlays
open Go.ChangeShapes Go.WideShapes Go.ChangeAt Go.RowKit
set_option linter.unusedVariables false

theorem own : ownKnob Try.prog.godebug = none := by kernel_rfl
theorem laidOut : laidOutB Try.prog = true := by kernel_rfl

theorem cell_far {a w : World} {g b o : Nat} {v : Value} (h : a.grownBy w (some g)) (hb : b < a.heap.size) (hne : b ≠ g) (hc : a.cell? ⟨b, o, none⟩ = some v) : w.cell? ⟨b, o, none⟩ = some v :=
  (World.cell?_of_block (h.block b hb (fun e => hne (by injection e)))).trans hc
theorem ref_cells {w : World} {g : Nat} {q : Quo} {s : Tel} (h : MeterAt w 39 g q s) :
    w.cell? ⟨g, 5, none⟩ = some (.int .i64 s.mem) ∧ w.cell? ⟨g, 6, none⟩ = some (.int .i64 s.peak) ∧ w.cell? ⟨g, 7, none⟩ = some (.int .i64 s.out) ∧ w.cell? ⟨g, 8, none⟩ = some (.int .i64 s.files) ∧
      w.cell? ⟨g, 9, none⟩ = some (.int .i64 s.depth) ∧ w.cell? ⟨g, 10, none⟩ = some (.int .i64 s.steps) ∧ w.cell? ⟨g, 11, none⟩ = some (.int .i64 s.code) :=
  ⟨Blk.cell h 5, Blk.cell h 6, Blk.cell h 7, Blk.cell h 8, Blk.cell h 9, Blk.cell h 10, Blk.cell h 11⟩

set_option maxRecDepth 100000 in
set_option maxHeartbeats 4000000 in
theorem walk {q : Quo} {B : Option Addr} {m mc : Nat} {qs : Nat → Int × Int} {w : World} (hq : Lit64 q) (hB : Script w B m qs)
    (hqs : ∀ i, i < m → (-9223372036854775808 ≤ (qs i).1 ∧ (qs i).1 ≤ 9223372036854775807) ∧ (-9223372036854775808 ≤ (qs i).2 ∧ (qs i).2 ≤ 9223372036854775807)) (hm : m ≤ maxLen) :
    Calls Try.prog 3 #[.agg (qArr q), .slice B m mc] w fun e w' => e = .returned (.bool true) ∧ Below w.heap.size w w' := by
  have HF := Lib.hid (Fine.new hq)
  have HSC := Lib.hid hB
  have HQS := Lib.hid hqs
  have HAW := Lib.hid (mawake_any (w.alloc (.cells (qArr q) 23)))
  have HN := Lib.hid (fun w => mnew_any q w)
  have HR := Lib.hid (fun w => rnew_any q w)
  unfold maxLen at hm
  clear hq hB hqs
  unfold qArr at *
  go_enter Try.func3, Try.ntmps3
  go_wp2_with fail
  refine HAW.out.mono ?_
  rintro e w1 ⟨rfl, hb⟩
  have hq0 := quota_cells hb
  unfold qArr at hq0
  have c0 := hq0.cell 0
  have c1 := hq0.cell 1
  have c2 := hq0.cell 2
  have c3 := hq0.cell 3
  have c4 := hq0.cell 4
  simp at c0 c1 c2 c3 c4
  go_wp2_with fail
  refine (HN.out _).mono ?_
  rintro e w2 ⟨g, rfl, hm2, hg, hb2⟩
  have HB2 := Lib.hid hb2
  have HM := Lib.hid hm2
  have HG := Lib.hid hg
  have HQ2 := Lib.hid (hq0.below hb2)
  have HB1 := Lib.hid (((Below.refl w.heap.size w).alloc (Nat.le_refl _) _).trans (hb.mono (by simp)))
  clear c0 c1 c2 c3 c4 hq0 hb hb2 hm2 hg HAW
  have c0 := HQ2.out.cell 0
  have c1 := HQ2.out.cell 1
  have c2 := HQ2.out.cell 2
  have c3 := HQ2.out.cell 3
  have c4 := HQ2.out.cell 4
  simp at c0 c1 c2 c3 c4
  go_wp2_with fail
  refine (HR.out _).mono ?_
  rintro e w3 ⟨r, rfl, hr, hg', hb3⟩
  have HM1 := Lib.hid (HM.out.below hb3)
  have HR1 := Lib.hid hr
  have hne : g ≠ r := by have := HM.out.lt; omega
  have HB := Lib.hid (HB1.out.trans ((HB2.out.mono HB1.out.size).trans (hb3.mono (Nat.le_trans HB1.out.size HB2.out.size))))
  have hgl : w.heap.size ≤ g := Nat.le_trans HB1.out.size HG.out
  have hrl : w.heap.size ≤ r := Nat.le_trans HB1.out.size (Nat.le_trans HB2.out.size hg')
  clear hr hg' hb3 c0 c1 c2 c3 c4 HQ2 HM HG HB1 HB2 HN HR
  generalize q.up = Q at *
  go_wp2_with fail
  go_loopw [7] (fun x wr => ∃ (j : Nat) (s : Tel), j ≤ m ∧ x = .int .i64 j ∧ MeterAt wr 53 g Q s ∧ MeterAt wr 39 r Q s ∧ Fine Q s ∧ Below w.heap.size w wr) (fun x _ => m - (intOf x).toNat)
  case atStart => exact ⟨0, Tel.zero, Nat.zero_le _, rfl, HM1.out, HR1.out, HF.out, HB.out⟩
  case round =>
    clear HM1 HR1 HF HB
    obtain ⟨j, s, hj, rfl, hm1, hr1, hf, hb⟩ := hrel
    have HM := Lib.hid hm1
    have HR := Lib.hid hr1
    have HF := Lib.hid hf
    have HB := Lib.hid hb
    have HSr := Lib.hid (HSC.out.below hb)
    clear hm1 hr1 hf hb
    by_cases hjm : j < m
    · by_cases hj2 : j < 300
      · obtain ⟨b, o, rfl, hbl, hc⟩ := HSC.out (by omega)
        have c0 : wr.cell? ⟨b, o + j * 2, none⟩ = some (.int .i64 (qs j).1) := (HB.out.cell hbl).trans (hc j hjm).1
        have c1 : wr.cell? ⟨b, o + j * 2 + 1, none⟩ = some (.int .i64 (qs j).2) := (HB.out.cell hbl).trans (hc j hjm).2
        have hbg : b ≠ g := by omega
        have hbr : b ≠ r := by omega
        have hn := (HQS.out j hjm).2.2
        generalize (qs j).1 = k at c0
        generalize (qs j).2 = n at c1 hn
        have hbw : b < wr.heap.size := Nat.lt_of_lt_of_le hbl HB.out.size
        clear hc
        have KA := ask_any (k := k) (n := n) (HM.out.drewN 1) HF.out hn
        have KR : ∀ W, MeterAt W 39 r Q s → _ := fun W h => said_any (k := k) (n := n) h HF.out
        have HF2 := Lib.hid (HF.out.next k n)
        generalize s.said Q k n = bb at KA KR
        have HKA := Lib.hid KA
        have HKR := Lib.hid KR
        clear KA KR
        generalize hs' : s.next Q k n = s' at HKA HKR HF2
        go_wp2_with fail
        refine wp_region_held_drew (S := fun w' => w'.cell? ⟨b, o + j * 2, none⟩ = some (.int .i64 k) ∧ w'.cell? ⟨b, o + j * 2 + 1, none⟩ = some (.int .i64 n)) (by kernel_rfl) ⟨c0, c1⟩ (fun hHeld => ?_)
        refine wpAnyH_take (i := 0) (v := ?_) rfl (by kernel_rfl) (by kernel_rfl) (by kernel_rfl) (fun _ _ _ h => h) (Or.inl ⟨by rfl, ?_⟩) (by assumption) ?_
        rotate_left
        · (intro w hSw; (try dsimp only at hSw); go_simp; try with_reducible rfl)
        try simp only [Act.put, List.setIfInBounds_toArray, List.set_cons_zero, List.set_cons_succ, List.getElem_toArray, List.getElem_cons_zero, List.getElem_cons_succ]
        refine wpAnyH_take (i := 1) (v := ?_) rfl (by kernel_rfl) (by kernel_rfl) (by kernel_rfl) (fun _ _ _ h => h) (Or.inl ⟨by rfl, ?_⟩) (by assumption) ?_
        rotate_left
        · (intro w hSw; (try dsimp only at hSw); go_simp; try with_reducible rfl)
        try simp only [Act.put, List.setIfInBounds_toArray, List.set_cons_zero, List.set_cons_succ, List.getElem_toArray, List.getElem_cons_zero, List.getElem_cons_succ]
        refine wpAnyH_take (i := 2) (v := ?_) rfl (by kernel_rfl) (by kernel_rfl) (by kernel_rfl) (fun _ _ _ h => h) (Or.inl ⟨by rfl, ?_⟩) (by assumption) ?_
        rotate_left
        · (intro w hSw; (try dsimp only at hSw); go_simp; try with_reducible rfl)
        try simp only [Act.put, List.setIfInBounds_toArray, List.set_cons_zero, List.set_cons_succ, List.getElem_toArray, List.getElem_cons_zero, List.getElem_cons_succ]
        refine wpAnyH_take (i := 3) (v := ?_) rfl (by kernel_rfl) (by kernel_rfl) (by kernel_rfl) (fun _ _ _ h => h) (Or.inl ⟨by rfl, ?_⟩) (by assumption) ?_
        rotate_left
        · (intro w hSw; (try dsimp only at hSw); go_simp; try with_reducible rfl)
        try simp only [Act.put, List.setIfInBounds_toArray, List.set_cons_zero, List.set_cons_succ, List.getElem_toArray, List.getElem_cons_zero, List.getElem_cons_succ]
        refine wpAnyH_take (i := 4) (v := ?_) rfl (by kernel_rfl) (by kernel_rfl) (by kernel_rfl) (fun _ _ _ h => h) (Or.inl ⟨by rfl, ?_⟩) (by assumption) ?_
        rotate_left
        · (intro w hSw; (try dsimp only at hSw); go_simp; try with_reducible rfl)
        try simp only [Act.put, List.setIfInBounds_toArray, List.set_cons_zero, List.set_cons_succ, List.getElem_toArray, List.getElem_cons_zero, List.getElem_cons_succ]
        refine wpAnyH_take (i := 6) (v := ?_) rfl (by kernel_rfl) (by kernel_rfl) (by kernel_rfl) (fun _ _ _ h => h) (Or.inl ⟨by rfl, ?_⟩) (by assumption) ?_
        rotate_left
        · (intro w hSw; (try dsimp only at hSw); go_simp; try with_reducible rfl)
        try simp only [Act.put, List.setIfInBounds_toArray, List.set_cons_zero, List.set_cons_succ, List.getElem_toArray, List.getElem_cons_zero, List.getElem_cons_succ]
        refine wpAnyH_take (i := 7) (v := ?_) rfl (by kernel_rfl) (by kernel_rfl) (by kernel_rfl) (fun _ _ _ h => h) (Or.inl ⟨by rfl, ?_⟩) (by assumption) ?_
        rotate_left
        · (intro w hSw; (try dsimp only at hSw); go_simp; try with_reducible rfl)
        try simp only [Act.put, List.setIfInBounds_toArray, List.set_cons_zero, List.set_cons_succ, List.getElem_toArray, List.getElem_cons_zero, List.getElem_cons_succ]
        refine wpAnyH_take (i := 8) (v := ?_) rfl (by kernel_rfl) (by kernel_rfl) (by kernel_rfl) (fun _ _ _ h => h) (Or.inl ⟨by rfl, ?_⟩) (by assumption) ?_
        rotate_left
        · (intro w hSw; (try dsimp only at hSw); go_simp; try with_reducible rfl)
        try simp only [Act.put, List.setIfInBounds_toArray, List.set_cons_zero, List.set_cons_succ, List.getElem_toArray, List.getElem_cons_zero, List.getElem_cons_succ]
        refine wpAnyH_take (i := 9) (v := ?_) rfl (by kernel_rfl) (by kernel_rfl) (by kernel_rfl) (fun _ _ _ h => h) (Or.inl ⟨by rfl, ?_⟩) (by assumption) ?_
        rotate_left
        · (intro w hSw; (try dsimp only at hSw); go_simp; try with_reducible rfl)
        try simp only [Act.put, List.setIfInBounds_toArray, List.set_cons_zero, List.set_cons_succ, List.getElem_toArray, List.getElem_cons_zero, List.getElem_cons_succ]
        refine wpAnyH_take (i := 10) (v := ?_) rfl (by kernel_rfl) (by kernel_rfl) (by kernel_rfl) (fun _ _ _ h => h) (Or.inl ⟨by rfl, ?_⟩) (by assumption) ?_
        rotate_left
        · (intro w hSw; (try dsimp only at hSw); go_simp; try with_reducible rfl)
        try simp only [Act.put, List.setIfInBounds_toArray, List.set_cons_zero, List.set_cons_succ, List.getElem_toArray, List.getElem_cons_zero, List.getElem_cons_succ]
        refine wpAnyH_ready (rs := [5]) (by kernel_rfl) (by simp) (AllReadyH.cons (i := 5) rfl (fun K hK => ?_) AllReadyH.nil)
        try simp only [List.getElem_toArray, List.getElem_cons_zero, List.getElem_cons_succ]
        go_simp
        refine HKA.out.mono ?_
        rintro e w4 ⟨rfl, hm4, hg4⟩
        have a0 := cell_far hg4 hbw hbg c0
        have a1 := cell_far hg4 hbw hbg c1
        have HM4 := Lib.hid hm4
        have HR4 := Lib.hid (HR.out.grown (only_draw hg4) (by intro h; injection h with h; exact hne h.symm))
        have HG4 := Lib.hid hg4
        clear hm4 hg4
        refine hK.out _ _ ⟨a0, a1⟩ (fun hHeld => ?_)
        clear hK K
        try simp only [Act.put, List.setIfInBounds_toArray, List.set_cons_zero, List.set_cons_succ]
        refine wpAnyH_ready (rs := [11]) (by kernel_rfl) (by simp) (AllReadyH.cons (i := 11) rfl (fun K hK => ?_) AllReadyH.nil)
        try simp only [List.getElem_toArray, List.getElem_cons_zero, List.getElem_cons_succ]
        go_simp
        refine (HKR.out _ HR4.out).mono ?_
        rintro e w5 ⟨rfl, hm5, hg5⟩
        have d0 := cell_far hg5 (Nat.lt_of_lt_of_le hbw HG4.out.size) hbr a0
        have d1 := cell_far hg5 (Nat.lt_of_lt_of_le hbw HG4.out.size) hbr a1
        have HR5 := Lib.hid hm5
        have HM5 := Lib.hid (HM4.out.grown hg5 (by intro h; injection h with h; exact hne h))
        have HG5 := Lib.hid hg5
        have rc := ref_cells hm5
        clear hm5 hg5
        refine hK.out _ _ ⟨d0, d1⟩ (fun hHeld => ?_)
        clear hK K
        try simp only [Act.put, List.setIfInBounds_toArray, List.set_cons_zero, List.set_cons_succ]
        refine wpAnyH_strong (S' := fun w' => (w'.cell? ⟨b, o + j * 2, none⟩ = some (.int .i64 k) ∧ w'.cell? ⟨b, o + j * 2 + 1, none⟩ = some (.int .i64 n)) ∧ w'.cell? ⟨r, 5, none⟩ = some (.int .i64 s'.mem) ∧ w'.cell? ⟨r, 6, none⟩ = some (.int .i64 s'.peak) ∧ w'.cell? ⟨r, 7, none⟩ = some (.int .i64 s'.out) ∧ w'.cell? ⟨r, 8, none⟩ = some (.int .i64 s'.files) ∧ w'.cell? ⟨r, 9, none⟩ = some (.int .i64 s'.depth) ∧ w'.cell? ⟨r, 10, none⟩ = some (.int .i64 s'.steps) ∧ w'.cell? ⟨r, 11, none⟩ = some (.int .i64 s'.code)) (fun _ h => h.1) _ _ _ _ ?_
        have hHeld2 : (fun w' : World => (w'.cell? ⟨b, o + j * 2, none⟩ = some (.int .i64 k) ∧ w'.cell? ⟨b, o + j * 2 + 1, none⟩ = some (.int .i64 n)) ∧ w'.cell? ⟨r, 5, none⟩ = some (.int .i64 s'.mem) ∧ w'.cell? ⟨r, 6, none⟩ = some (.int .i64 s'.peak) ∧ w'.cell? ⟨r, 7, none⟩ = some (.int .i64 s'.out) ∧ w'.cell? ⟨r, 8, none⟩ = some (.int .i64 s'.files) ∧ w'.cell? ⟨r, 9, none⟩ = some (.int .i64 s'.depth) ∧ w'.cell? ⟨r, 10, none⟩ = some (.int .i64 s'.steps) ∧ w'.cell? ⟨r, 11, none⟩ = some (.int .i64 s'.code)) w5 := ⟨⟨d0, d1⟩, rc⟩
        clear hHeld rc
        refine wpAnyH_take (i := 12) (v := ?_) rfl (by kernel_rfl) (by kernel_rfl) (by kernel_rfl) (fun _ _ _ h => h) (Or.inl ⟨by rfl, ?_⟩) (by assumption) ?_
        rotate_left
        · (intro w hSw; (try dsimp only at hSw); go_simp; try with_reducible rfl)
        try simp only [Act.put, List.setIfInBounds_toArray, List.set_cons_zero, List.set_cons_succ, List.getElem_toArray, List.getElem_cons_zero, List.getElem_cons_succ]
        refine wpAnyH_take (i := 13) (v := ?_) rfl (by kernel_rfl) (by kernel_rfl) (by kernel_rfl) (fun _ _ _ h => h) (Or.inl ⟨by rfl, ?_⟩) (by assumption) ?_
        rotate_left
        · (intro w hSw; (try dsimp only at hSw); go_simp; try with_reducible rfl)
        try simp only [Act.put, List.setIfInBounds_toArray, List.set_cons_zero, List.set_cons_succ, List.getElem_toArray, List.getElem_cons_zero, List.getElem_cons_succ]
        refine wpAnyH_take (i := 14) (v := ?_) rfl (by kernel_rfl) (by kernel_rfl) (by kernel_rfl) (fun _ _ _ h => h) (Or.inl ⟨by rfl, ?_⟩) (by assumption) ?_
        rotate_left
        · (intro w hSw; (try dsimp only at hSw); go_simp; try with_reducible rfl)
        try simp only [Act.put, List.setIfInBounds_toArray, List.set_cons_zero, List.set_cons_succ, List.getElem_toArray, List.getElem_cons_zero, List.getElem_cons_succ]
        refine wpAnyH_take (i := 16) (v := ?_) rfl (by kernel_rfl) (by kernel_rfl) (by kernel_rfl) (fun _ _ _ h => h) (Or.inl ⟨by rfl, ?_⟩) (by assumption) ?_
        rotate_left
        · (intro w hSw; (try dsimp only at hSw); go_simp; try with_reducible rfl)
        try simp only [Act.put, List.setIfInBounds_toArray, List.set_cons_zero, List.set_cons_succ, List.getElem_toArray, List.getElem_cons_zero, List.getElem_cons_succ]
        refine wpAnyH_take (i := 17) (v := ?_) rfl (by kernel_rfl) (by kernel_rfl) (by kernel_rfl) (fun _ _ _ h => h) (Or.inl ⟨by rfl, ?_⟩) (by assumption) ?_
        rotate_left
        · (intro w hSw; (try dsimp only at hSw); go_simp; try with_reducible rfl)
        try simp only [Act.put, List.setIfInBounds_toArray, List.set_cons_zero, List.set_cons_succ, List.getElem_toArray, List.getElem_cons_zero, List.getElem_cons_succ]
        refine wpAnyH_take (i := 18) (v := ?_) rfl (by kernel_rfl) (by kernel_rfl) (by kernel_rfl) (fun _ _ _ h => h) (Or.inl ⟨by rfl, ?_⟩) (by assumption) ?_
        rotate_left
        · (intro w hSw; (try dsimp only at hSw); go_simp; try with_reducible rfl)
        try simp only [Act.put, List.setIfInBounds_toArray, List.set_cons_zero, List.set_cons_succ, List.getElem_toArray, List.getElem_cons_zero, List.getElem_cons_succ]
        refine wpAnyH_take (i := 19) (v := ?_) rfl (by kernel_rfl) (by kernel_rfl) (by kernel_rfl) (fun _ _ _ h => h) (Or.inl ⟨by rfl, ?_⟩) (by assumption) ?_
        rotate_left
        · (intro w hSw; (try dsimp only at hSw); go_simp; try with_reducible rfl)
        try simp only [Act.put, List.setIfInBounds_toArray, List.set_cons_zero, List.set_cons_succ, List.getElem_toArray, List.getElem_cons_zero, List.getElem_cons_succ]
        refine wpAnyH_ready (rs := [15]) (by kernel_rfl) (by simp) (AllReadyH.cons (i := 15) rfl (fun K hK => ?_) AllReadyH.nil)
        try simp only [List.getElem_toArray, List.getElem_cons_zero, List.getElem_cons_succ]
        go_simp
        have U := used_any HM5.out
        unfold uArr at U
        refine U.mono ?_
        clear U
        rintro e w6 ⟨rfl, hb6⟩
        have f0 := (hb6.cell (p := ⟨b, o + j * 2, none⟩) (Nat.lt_of_lt_of_le (Nat.lt_of_lt_of_le hbw HG4.out.size) HG5.out.size)).trans d0
        have f1 := (hb6.cell (p := ⟨b, o + j * 2 + 1, none⟩) (Nat.lt_of_lt_of_le (Nat.lt_of_lt_of_le hbw HG4.out.size) HG5.out.size)).trans d1
        have HR6 := Lib.hid (HR5.out.below hb6)
        have HM6 := Lib.hid (HM5.out.below hb6)
        have HB6 := Lib.hid hb6
        have rc := ref_cells (HR5.out.below hb6)
        clear hb6
        refine hK.out _ _ ⟨⟨f0, f1⟩, rc⟩ (fun hHeld => ?_)
        clear hK K
        try simp only [Act.put, List.setIfInBounds_toArray, List.set_cons_zero, List.set_cons_succ]
        clear hHeld2
        refine wpAnyH_take (i := 20) (v := ?_) rfl (by kernel_rfl) (by kernel_rfl) (by kernel_rfl) (fun _ _ _ h => h) (Or.inl ⟨by rfl, ?_⟩) (by assumption) ?_
        rotate_left
        · (intro w hSw; (try dsimp only at hSw); go_simp; try with_reducible rfl)
        try simp only [Act.put, List.setIfInBounds_toArray, List.set_cons_zero, List.set_cons_succ, List.getElem_toArray, List.getElem_cons_zero, List.getElem_cons_succ]
        refine wpAnyH_take (i := 21) (v := ?_) rfl (by kernel_rfl) (by kernel_rfl) (by kernel_rfl) (fun _ _ _ h => h) (Or.inl ⟨by rfl, ?_⟩) (by assumption) ?_
        rotate_left
        · (intro w hSw; (try dsimp only at hSw); go_simp; try with_reducible rfl)
        try simp only [Act.put, List.setIfInBounds_toArray, List.set_cons_zero, List.set_cons_succ, List.getElem_toArray, List.getElem_cons_zero, List.getElem_cons_succ]
        refine wpAnyH_take (i := 22) (v := ?_) rfl (by kernel_rfl) (by kernel_rfl) (by kernel_rfl) (fun _ _ _ h => h) (Or.inl ⟨by rfl, ?_⟩) (by assumption) ?_
        rotate_left
        · (intro w hSw; (try dsimp only at hSw); go_simp; try with_reducible rfl)
        try simp only [Act.put, List.setIfInBounds_toArray, List.set_cons_zero, List.set_cons_succ, List.getElem_toArray, List.getElem_cons_zero, List.getElem_cons_succ]
        refine wpAnyH_take (i := 23) (v := ?_) rfl (by kernel_rfl) (by kernel_rfl) (by kernel_rfl) (fun _ _ _ h => h) (Or.inl ⟨by rfl, ?_⟩) (by assumption) ?_
        rotate_left
        · (intro w hSw; (try dsimp only at hSw); go_simp; try with_reducible rfl)
        try simp only [Act.put, List.setIfInBounds_toArray, List.set_cons_zero, List.set_cons_succ, List.getElem_toArray, List.getElem_cons_zero, List.getElem_cons_succ]
        refine wpAnyH_take (i := 25) (v := ?_) rfl (by kernel_rfl) (by kernel_rfl) (by kernel_rfl) (fun _ _ _ h => h) (Or.inl ⟨by rfl, ?_⟩) (by assumption) ?_
        rotate_left
        · (intro w hSw; (try dsimp only at hSw); go_simp; try with_reducible rfl)
        try simp only [Act.put, List.setIfInBounds_toArray, List.set_cons_zero, List.set_cons_succ, List.getElem_toArray, List.getElem_cons_zero, List.getElem_cons_succ]
        refine wpAnyH_take (i := 26) (v := ?_) rfl (by kernel_rfl) (by kernel_rfl) (by kernel_rfl) (fun _ _ _ h => h) (Or.inl ⟨by rfl, ?_⟩) (by assumption) ?_
        rotate_left
        · (intro w hSw; (try dsimp only at hSw); go_simp; try with_reducible rfl)
        try simp only [Act.put, List.setIfInBounds_toArray, List.set_cons_zero, List.set_cons_succ, List.getElem_toArray, List.getElem_cons_zero, List.getElem_cons_succ]
        refine wpAnyH_take (i := 27) (v := ?_) rfl (by kernel_rfl) (by kernel_rfl) (by kernel_rfl) (fun _ _ _ h => h) (Or.inl ⟨by rfl, ?_⟩) (by assumption) ?_
        rotate_left
        · (intro w hSw; (try dsimp only at hSw); go_simp; try with_reducible rfl)
        try simp only [Act.put, List.setIfInBounds_toArray, List.set_cons_zero, List.set_cons_succ, List.getElem_toArray, List.getElem_cons_zero, List.getElem_cons_succ]
        refine wpAnyH_take (i := 28) (v := ?_) rfl (by kernel_rfl) (by kernel_rfl) (by kernel_rfl) (fun _ _ _ h => h) (Or.inl ⟨by rfl, ?_⟩) (by assumption) ?_
        rotate_left
        · (intro w hSw; (try dsimp only at hSw); go_simp; try with_reducible rfl)
        try simp only [Act.put, List.setIfInBounds_toArray, List.set_cons_zero, List.set_cons_succ, List.getElem_toArray, List.getElem_cons_zero, List.getElem_cons_succ]
        refine wpAnyH_ready (rs := [24]) (by kernel_rfl) (by simp) (AllReadyH.cons (i := 24) rfl (fun K hK => ?_) AllReadyH.nil)
        try simp only [List.getElem_toArray, List.getElem_cons_zero, List.getElem_cons_succ]
        go_simp
        refine (mcode_any HM6.out).mono ?_
        rintro e w7 ⟨rfl, rfl⟩
        refine hK.out _ _ ⟨⟨f0, f1⟩, rc⟩ (fun hHeld => ?_)
        clear hK K
        try simp only [Act.put, List.setIfInBounds_toArray, List.set_cons_zero, List.set_cons_succ]
        refine wpAnyH_take (i := 29) (v := ?_) rfl (by kernel_rfl) (by kernel_rfl) (by kernel_rfl) (fun _ _ _ h => h) (Or.inl ⟨by rfl, ?_⟩) (by assumption) ?_
        rotate_left
        · (intro w hSw; (try dsimp only at hSw); go_simp; try with_reducible rfl)
        try simp only [Act.put, List.setIfInBounds_toArray, List.set_cons_zero, List.set_cons_succ, List.getElem_toArray, List.getElem_cons_zero, List.getElem_cons_succ]
        refine wpAnyH_take (i := 30) (v := ?_) rfl (by kernel_rfl) (by kernel_rfl) (by kernel_rfl) (fun _ _ _ h => h) (Or.inl ⟨by rfl, ?_⟩) (by assumption) ?_
        rotate_left
        · (intro w hSw; (try dsimp only at hSw); go_simp; try with_reducible rfl)
        try simp only [Act.put, List.setIfInBounds_toArray, List.set_cons_zero, List.set_cons_succ, List.getElem_toArray, List.getElem_cons_zero, List.getElem_cons_succ]
        refine wpAnyH_done (by kernel_rfl) ?_ _
        have hs4 : w.heap.size ≤ w4.heap.size := Nat.le_trans HB.out.size HG4.out.size
        have hs5 : w.heap.size ≤ w5.heap.size := Nat.le_trans hs4 HG5.out.size
        have hbt : Below w.heap.size w w6 := (((below_drewN HB.out 1).trans (below_of_only HG4.out hgl HB.out.size)).trans (below_of_only HG5.out hrl hs4)).trans (HB6.out.mono hs5)
        have HBT := Lib.hid hbt
        clear hbt
        go_wp2_with fail
        go_roundw
        case rel => exact ⟨j + 1, s', by omega, by go_num, HM6.out, HR6.out, HF2.out, HBT.out⟩
        case measure => simp [intOf]; omega
      · go_wp2_with fail
        go_ret
        exact ⟨rfl, HB.out⟩
    · go_wp2_with fail
      go_ret
      exact ⟨rfl, HB.out⟩
set_option maxRecDepth 100000 in
theorem lifted (os : Os) (started : os.Started) (H : Type) (enc : TypeId × Value → H) :
    ReturnsInHanded {} Try.checked os 3 .any (Rows.meterPlaysSpec.pre6 enc Try.prog Try.f3 Rows.meterPlaysRow.domain false) (Rows.meterPlaysSpec.post enc Try.prog Try.f3 false true false false) := by
  refine returnsInHanded_of_change (C := Try.checked) own started (by kernel_rfl) Try.func3
    (ChangeSpec.witness6 (enc := enc) (C := Try.checked) false ⟨#[], #[.agg #[.int .i64 0, .int .i64 0, .int .i64 0, .int .i64 0, .int .i64 0], .slice none 0 0], []⟩ 8 (by kernel_rfl) (by kernel_rfl) (by kernel_rfl) (by kernel_rfl)) ?_
  intro W base args ds gs before hval0 hW hcnd _
  have hval : ∀ (j : Nat) t v, Try.f3.params[j]? = some t → args[j]? = some v → Value.okWide Try.prog W .any base t v := hval0
  have hW' := hW
  obtain ⟨p, q, hA0, hV, rfl, hfz, hnd⟩ := hW
  have hA : DataW.TrodAll enc Try.prog W 0 (fun _ => true) true Try.f3.params.toList args.toList ds p := hA0
  rw [Try.params3] at hA hval
  obtain ⟨v0, vs0, d0, ds0, p0, q0, hargs, rfl, rfl, h0, r0⟩ := trodAll_cons hA
  obtain ⟨v1, vs1, d1, ds1, p1, q1, rfl, rfl, rfl, h1, r1⟩ := trodAll_cons r0
  obtain ⟨rfl, rfl, rfl⟩ := trodAll_nil r1
  obtain rfl : args = #[v0, v1] := by cases args; simp_all
  obtain ⟨rfl, rfl⟩ := trodVars_none hV
  have k0 := h0
  have lt0 : ∀ x ∈ p0, x.block < W.heap.size := by obtain ⟨m, hm⟩ := k0; exact DataW.trod_lt m _ _ _ hm
  obtain ⟨qt0, rfl, w0⟩ := open_quota Try.underlying23 (by kernel_rfl) Try.underlying3 (by kernel_rfl) ⟨rfl, rfl⟩ ⟨rfl, rfl⟩ ⟨rfl, rfl⟩ ⟨rfl, rfl⟩ ⟨rfl, rfl⟩ (hval 0 23 v0 rfl rfl) h0
  obtain ⟨a1, len1, cap1, rfl⟩ := okWide_slice Try.underlying24 (hval 1 24 v1 rfl rfl)
  have k1 := h1
  have lt1 : ∀ x ∈ p1, x.block < W.heap.size := by obtain ⟨m, hm⟩ := k1; exact DataW.trod_lt m _ _ _ hm
  obtain ⟨qs1, w1, hw1, hl1, hm1⟩ := open_script Try.underlying24 Try.underlying32 (by kernel_rfl) rfl rfl (by kernel_rfl) (by kernel_rfl) Try.underlying3 Try.underlying3 h1
  clear hA0 hval0
  refine (walk w0 w1 (fun i hi => ⟨bounds_i64 (hw1 i hi).1, bounds_i64 (hw1 i hi).2⟩) (Nat.le_trans hl1 hm1)).mono fun e W' ⟨he, bel⟩ => ?_
  subst he
  exact ⟨_, rfl, _, _, _, [], _, [], hW', trodAll_mk1 (shut_bool Try.underlying4 _), (trodAll_cons_mk (Below.trod laidOut (by kernel_rfl) (of_decide_eq_true (by kernel_rfl)) k0 bel lt0) (trodAll_cons_mk (Below.trod laidOut (by kernel_rfl) (of_decide_eq_true (by kernel_rfl)) k1 bel lt1) trodAll_mk0)), rfl, bel.frame _, fun h => by cases h⟩

theorem proved : Rows.MeterPlaysSaid :=
  OpenClaim.holds_of_wide 3 Try.f3 rfl rfl rfl rfl rfl rfl rfl ⟨rfl, rfl, rfl, rfl, rfl⟩ rfl rfl rfl rfl rfl (by kernel_rfl) Try.func3 (by kernel_rfl)
    (of_decide_eq_true (by kernel_rfl)) (by unfold Func.isWrapper; first | (rw [if_pos (by decide +kernel)]; kernel_rfl) | (rw [if_neg (by decide +kernel)]; exact ⟨rfl, rfl⟩))
    (fun os started H enc _ => lifted os started H enc)
#print axioms proved
end Go.Proofs.Ytdeelmfdkhgcbaa.meterPlays
