/-
  RdNew, PkRen: put together.
-/
import Derived.Test.YtoencondpbkomaaGreatDoorT04
import Derived.Laws.MakeOwn
import Derived.Test.YtoencondpbkomaaGreatDoorT01
import Derived.Deep.RegionHeld3
set_option linter.unusedVariables false
set_option linter.unusedSimpArgs false
/-
  A decoder begins; fresh probabilities.
-/
namespace Go.Proofs.YtoencondpbkomaaGreatDoor
open Go.RowKit

/-- What stands behind the first byte and j shifts. -/
def OnWay (w : World) (g : Nat) (S : Sc) (bs : List UInt8) (j : Nat) : Prop :=
  ∃ at_ c bad, Blk w g 228 (pdCells S.f 4294967295 c bad) ∧ S.At w bs at_ ∧ c < 4294967296 ∧ ((bad = true ∧ started bs = none) ∨ (bad = false ∧ at_ = j + 1 ∧ Begun bs j c))

/-- A shift on the way. -/
theorem onway_any {w : World} {g j : Nat} {S : Sc} {bs : List UInt8} (hS : ScOk S) (h : OnWay w g S bs j) (hg : ¬ S.hold g) (hj : j < 4) :
    Calls Tryz.prog 176 #[.pointer (some ⟨g, 0, none⟩)] w fun e w' => e = .returned (.tuple #[]) ∧ OnWay w' g S bs (j + 1) ∧ Only (two S g) w w' := by
  obtain ⟨at_, c, bad, hB, hF, hc, h0⟩ := h
  rcases h0 with ⟨rfl, h0⟩ | ⟨rfl, rfl, h0⟩
  · refine (shift_bad hB).mono ?_
    rintro e w' ⟨rfl, rfl⟩
    exact ⟨rfl, ⟨at_, c, true, hB, hF, hc, .inl ⟨rfl, h0⟩⟩, Only.refl _ _⟩
  · have hc4 : c < 16777216 := Nat.lt_of_lt_of_le (begun_lt h0) (Nat.pow_le_pow_right (n := 256) (by omega) (show j ≤ 3 by omega))
    refine (shift_any hS hB hF hg hc4).mono ?_
    rintro e w' ⟨rfl, at', c', bad', h1, h2, h3, h4⟩
    refine ⟨rfl, ⟨at', c', bad', h1, h2, ?_, ?_⟩, h3⟩
    · rcases h4 with ⟨_, rfl, _⟩ | ⟨x, _, rfl, _⟩
      · exact hc
      · have := x.toNat_lt; omega
    · rcases h4 with ⟨rfl, rfl, h5⟩ | ⟨x, rfl, rfl, h5⟩
      · refine .inl ⟨rfl, started_short ?_⟩
        have := List.drop_eq_nil_iff.1 h5
        omega
      · refine .inr ⟨rfl, ?_, begun_next h0 h5⟩
        have hl := congrArg List.length h5
        simp only [List.length_cons, List.length_drop] at hl
        have := hS.le hF
        have := hS.le h2
        have := (begun_next h0 h5).1
        omega

set_option maxRecDepth 100000 in
set_option maxHeartbeats 4000000 in
theorem pnew_any {w : World} {S : Sc} {bs : List UInt8} (hS : ScOk S) (hF : S.At w bs 0) :
    Calls Tryz.prog 131 #[.iface 103 (.pointer (some ⟨S.f, 0, none⟩))] w fun e w' =>
      e = .returned (.pointer (some ⟨w.heap.size, 0, none⟩)) ∧ Pd w' w.heap.size S bs (started bs) ∧ Only S.turn w w' := by
  have hgh : ¬ S.hold w.heap.size := fun h => Nat.lt_irrefl _ (hS.old hF h)
  have HS := Lib.hid hS
  have hgt : ¬ S.turn w.heap.size := fun h => hgh (hS.tf _ h)
  have HF := Lib.hid hF
  clear hF hS
  go_enter Tryz.func131, Tryz.ntmps131
  go_wp2_with fail
  have hB0 : Blk (w.alloc (.cells #[.iface 103 (.pointer (some ⟨S.f, 0, none⟩)), .int .u32 4294967295, .int .u32 0, .bool false] 228)) w.heap.size 228 (pdCells S.f 4294967295 0 false) := Blk.fresh _ _ _
  have hO0 : Only S.turn w (w.alloc (.cells #[.iface 103 (.pointer (some ⟨S.f, 0, none⟩)), .int .u32 4294967295, .int .u32 0, .bool false] 228)) := (Only.refl _ w).alloc _
  have hF0 := HS.out.only HF.out ((Only.refl (fun _ => False) w).alloc (.cells #[.iface 103 (.pointer (some ⟨S.f, 0, none⟩)), .int .u32 4294967295, .int .u32 0, .bool false] 228)) (fun i hi => hi.elim)
  generalize hg : w.heap.size = g at *
  have HG := Lib.hid hg
  clear hg
  refine (shift_any HS.out hB0 hF0 hgh (by omega)).mono ?_
  rintro e w1 ⟨rfl, at1, c1, bad1, hB1, hF1, hO1, h1⟩
  have HO1 := Lib.hid (hO0.trans' hO1 (fun i hi => by have := HG.out; rcases hi with hi | hi; exact .inl hi; exact .inr (by omega)))
  have j2 : w1.cell? ⟨g, 2, none⟩ = some (.int .u32 (c1 : Int)) := hB1.cell 2
  have HB1 := Lib.hid (fun so => refuse_any (so := so) hB1)
  have HF1 := Lib.hid hF1
  have H1 := Lib.hid h1
  have hc1 : c1 < 4294967296 := by
    rcases h1 with ⟨_, rfl, _⟩ | ⟨x, _, rfl, _⟩
    · omega
    · have := x.toNat_lt; omega
  have HC1 := Lib.hid hc1
  clear hB0 hF0 hO0 hB1 hF1 hO1 h1 HF hc1
  go_wp2_with fail
  refine (HB1.out _).mono ?_
  rintro e w2 ⟨rfl, hB2, hg2⟩
  have hS2 := Only.of_grown (S := fun i => i = g) hg2 rfl
  have hw2 : OnWay w2 g S bs 0 := by
    have hF2 := HS.out.only HF1.out hS2 (fun i hi => by rcases hi with rfl; exact hgh)
    refine ⟨at1, c1, _, hB2, hF2, HC1.out, ?_⟩
    rcases H1.out with ⟨rfl, rfl, h⟩ | ⟨x, rfl, rfl, h⟩
    · refine .inl ⟨rfl, started_short ?_⟩
      have := congrArg List.length h
      simp only [List.length_drop, List.length_nil] at this
      omega
    · have hx : bs.getD 0 0 = x := by
        cases bs with
        | nil => cases h
        | cons y t => injection h with h _
      have hl := congrArg List.length h
      simp only [List.length_cons, List.length_drop] at hl
      have hle := HS.out.le hF2
      by_cases h0 : x.toNat = 0
      · refine .inr ⟨by simp [h0], by omega, by omega, by rw [hx]; exact h0, by simp [be, h0]⟩
      · exact .inl ⟨by simp; omega, started_head (by rw [hx]; exact h0)⟩
  have HW2 := Lib.hid hw2
  have HO2 := Lib.hid (HO1.out.trans' hS2 (fun i hi => .inr (by have := HG.out; omega)))
  clear hB2 hg2 hS2 HB1 HF1 H1 HO1 HC1 j2 hw2
  go_wp2_with fail
  go_loopw [18] (fun i wr => ∃ j : Nat, j ≤ 4 ∧ i = .int .i64 (j : Int) ∧ OnWay wr g S bs j ∧ Only S.turn w wr) (fun i _ => 4 - (intOf i).toNat)
  case atStart => exact ⟨0, by omega, rfl, HW2.out, HO2.out⟩
  case round =>
    clear HW2 HO2
    obtain ⟨j, hj, rfl, hw, ho⟩ := hrel
    by_cases hlt : j < 4
    · have K := Lib.hid (onway_any HS.out hw hgh hlt)
      have HO := Lib.hid ho
      have hlt' : (j : Int) < 4 := by omega
      clear hw ho
      go_wp2_with fail
      refine K.out.mono ?_
      rintro e w3 ⟨rfl, hw3, ho3⟩
      have HW3 := Lib.hid hw3
      have HO3 := Lib.hid (HO.out.trans' ho3 (fun i hi => by have := HG.out; rcases hi with hi | hi; exact .inl hi; exact .inr (by omega)))
      clear hw3 ho3
      go_wp2_with fail
      go_roundw
      case rel => exact ⟨j + 1, by omega, by go_num, HW3.out, HO3.out⟩
      case measure => simp [intOf]; omega
    · obtain rfl : j = 4 := by omega
      obtain ⟨at_, c, bad, hB, hF, hc, h0⟩ := hw
      have j1 : wr.drew.cell? ⟨g, 1, none⟩ = some (.int .u32 4294967295) := hB.cell 1
      have j2 : wr.drew.cell? ⟨g, 2, none⟩ = some (.int .u32 (c : Int)) := hB.cell 2
      have HB := Lib.hid (fun so => refuse_any (so := so) (show Blk wr.drew g 228 (pdCells S.f 4294967295 c bad) from hB))
      have HF := Lib.hid (show S.At wr.drew bs at_ from HS.out.only hF ((Only.refl (fun _ => False) wr).drew) (fun _ hh => hh.elim))
      have HO := Lib.hid (ho.drew)
      have H0 := Lib.hid h0
      have HC := Lib.hid hc
      clear hB hF ho h0 hc
      go_wp2_with fail
      go_still_tail 10, (by kernel_rfl)
      change wpList _ _ _ _ _ wr.drew
      generalize wr.drew = w2 at *
      go_wp2_with fail
      refine (HB.out _).mono ?_
      rintro e w3 ⟨rfl, hB3, hg3⟩
      have HB3 := Lib.hid hB3
      have HG3 := Lib.hid (Only.of_grown (S := fun i => i = g) hg3 rfl)
      clear hB3 hg3
      go_wp2_with fail
      go_ret
      rw [HG.out]
      refine ⟨rfl, ⟨at_, 4294967295, c, _, HB3.out, HS.out.only HF.out HG3.out (fun i hi => by rcases hi with rfl; exact hgh), HG.out ▸ hgh, HS.out.le HF.out, by omega, HC.out, ?_⟩, HO.out.trans' HG3.out (fun i hi => .inr (by have := HG.out; omega))⟩
      rcases H0.out with ⟨rfl, h⟩ | ⟨rfl, rfl, h⟩
      · exact .inl ⟨rfl, h⟩
      · rw [started_begun h]
        by_cases hcc : c < 4294967295
        · rw [if_pos hcc]
          exact .inr ⟨by simp; omega, rfl⟩
        · rw [if_neg hcc]
          exact .inl ⟨by simp; omega, rfl⟩


theorem madeNums (n : Nat) : (madeCells #[Value.int .u16 0] n).toList = pv (List.replicate n 0) := by
  rw [toList_madeCells_one]
  simp [pv]

set_option maxRecDepth 100000 in
set_option maxHeartbeats 2000000 in
theorem fresh_any {n : Nat} (hn : n ≤ 1000000) (w : World) :
    Calls Tryz.prog 88 #[.int .i64 (n : Int)] w fun e w' =>
      e = .returned (.slice (some ⟨w.heap.size, 0, none⟩) n n) ∧ Row w' w.heap.size (List.replicate n 1024) n ∧ Below w.heap.size w w' := by
  obtain ⟨i, hi, hz0, hz1, hz2⟩ := info_parts info_u16
  have h0 : ¬ (n : Int) < 0 := by omega
  have h1 : ¬ (n : Int) > 2147483647 := by omega
  go_enter Tryz.func88, Tryz.ntmps88
  go_wp2_with (first
      | (at_make; refine wpList_make_full _ rfl _ _ 62 rfl w.heap.size 35 i _ 1 Tryz.underlying62 hi hz0 hz1 _ _ _ _ n rfl rfl rfl rfl ?b1 ?b2 (by simp) ?_))
  case b1 => omega
  case b2 => unfold maxLen; omega
  intro w2 ho hg
  rw [madeNums] at ho
  have HO := Lib.hid ho
  have HG := Lib.hid (only_none hg)
  clear ho hg
  go_wp2_with fail
  go_loopw [4, 14] (fun _ k wr => ∃ j : Nat, j ≤ n ∧ k = .int .i64 (j : Int) ∧ wr.ownsRow w.heap.size 35 1 (.slice (some ⟨w.heap.size, 0, none⟩) n n) n (pv (List.replicate j 1024 ++ List.replicate (n - j) 0)) ∧ Below w.heap.size w wr) (fun _ k _ => n - (intOf k).toNat)
  case atStart => exact ⟨0, by omega, rfl, by simpa using HO.out, HG.out⟩
  case round =>
    clear HO HG
    obtain ⟨j, hj, rfl, ho, hb⟩ := hrel
    have HO := Lib.hid ho
    have HG := Lib.hid hb
    clear ho hb
    by_cases hlt : j < n
    · have hfree := HO.out.frozenAt j
      have hl2 : (pv (List.replicate j 1024 ++ List.replicate (n - j) 0)).length = n := by rw [pv_length]; simp; omega
      obtain ⟨old, hold⟩ : ∃ u, wr.cell? ⟨w.heap.size, j, none⟩ = some u := by
        rw [HO.out.cellAt j (by omega), List.getElem?_eq_getElem (by omega)]
        exact ⟨_, rfl⟩
      have i1 : (j : Int) < (n : Int) := by omega
      have i0 : (0 : Int) ≤ (j : Int) := by omega
      have HN := Lib.hid (show (pv (List.replicate j 1024 ++ List.replicate (n - j) 0)).set j (.int .u16 1024) = pv (List.replicate (j + 1) 1024 ++ List.replicate (n - (j + 1)) 0) by
        obtain ⟨m, hm⟩ : ∃ m, n - j = m + 1 := ⟨n - j - 1, by omega⟩
        rw [show n - (j + 1) = m by omega, hm, List.replicate_succ, show (Value.int .u16 1024) = .int .u16 ((1024 : Nat) : Int) from rfl, pv_set, List.set_append_right _ _ (by simp), List.length_replicate, Nat.sub_self, List.set_cons_zero, List.replicate_succ']
        simp)
      clear hl2
      go_wp2_with fail
      go_roundw
      case rel =>
        refine ⟨j + 1, by omega, by go_num, ?_, HG.out.setCell (by simp) _⟩
        have ho := (HO.out.stored j (.int .u16 1024)).1
        rw [HN.out] at ho
        exact ho
      case measure => simp [intOf]; omega
    · obtain rfl : j = n := by omega
      go_wp2_with fail
      go_ret
      refine ⟨rfl, ?_, HG.out⟩
      have ho := HO.out
      rw [Nat.sub_self, List.replicate_zero, List.append_nil] at ho
      unfold Row
      rw [List.length_replicate]
      exact own_mono ho (Nat.zero_le _)
end Go.Proofs.YtoencondpbkomaaGreatDoor

/-
  The program's probabilities of packets begin anew, wherever they lie.
-/
namespace Go.Proofs.YtoencondpbkomaaGreatDoor
open Go.RowKit

/-- since the world w0 the probabilities of D have begun -/
def RnAt (R : World → List Nat → Prop) (B : Nat → Prop) (w0 : World) (D : Nat → Prop) (w : World) : Prop :=
  ∃ ps, R w ps ∧ (∀ i, D i → ps.getD i 0 = 1024) ∧ Only B w0 w

section
variable {R : World → List Nat → Prop} {B : Nat → Prop} {ad : Nat → Nat × Nat} {L a b o n cap : Nat} {w w0 : World} {D : Nat → Prop}
theorem RnAt.mono {D' : Nat → Prop} (h : RnAt R B w0 D w) (hD : ∀ i, D' i → D i) : RnAt R B w0 D' w := by
  obtain ⟨ps, h1, h2, h3⟩ := h
  exact ⟨ps, h1, fun i hi => h2 i (hD i hi), h3⟩
theorem RnAt.quiet {w' : World} (h : RnAt R B w0 D w) (Z : Prb R B ad L) (hb : Below w.heap.size w w') : RnAt R B w0 D w' := by
  obtain ⟨ps, h1, h2, h3⟩ := h
  have ho : Only (fun _ => False) w w' := Only.of_below hb
  exact ⟨ps, Z.only h1 ho (fun _ _ h => h), h2, h3.trans (ho.mono fun _ h => h.elim)⟩
theorem RnAt.put (h : RnAt R B w0 D w) (Z : Prb R B ad L) (ha : a < L) (hab : ad a = (b, o)) : RnAt R B w0 (fun i => D i ∨ i = a) (w.setCell ⟨b, o, none⟩ (.int .u16 1024)) := by
  obtain ⟨ps, h1, h2, h3⟩ := h
  have hl := Z.len h1
  have hb := Z.blk ha
  have hp := Z.put h1 ha 1024
  rw [hab] at hp hb
  refine ⟨_, hp, fun i hi => ?_, h3.setCell (p := ⟨b, o, none⟩) (.inl hb) _⟩
  simp only [List.getD]
  by_cases hia : i = a
  · subst hia
    rw [List.getElem?_set]
    simp [hl, ha]
  · rw [List.getElem?_set_ne (fun e => hia e.symm)]
    rcases hi with hi | hi
    · exact h2 i hi
    · exact absurd hi hia
theorem RnAt.cell (h : RnAt R B w0 D w) (Z : Prb R B ad L) (ha : a < L) (hab : ad a = (b, o)) : ∃ u, w.cell? ⟨b, o, none⟩ = some u ∧ w.frozen? ⟨b, o, none⟩ = false ∧ b < w.heap.size := by
  obtain ⟨ps, h1, h2, h3⟩ := h
  have c := Z.cell h1 ha
  have f := Z.free h1 ha
  have l := Z.old h1 (Z.blk ha)
  rw [hab] at c f l
  exact ⟨_, c, f, l⟩

set_option maxRecDepth 100000 in
set_option maxHeartbeats 4000000 in
theorem renew_any (Z : Prb R B ad L) (had : ∀ j, j < n → ad (a + j) = (b, o + j)) (haL : a + n ≤ L) (hn : n ≤ 1000000) (h : RnAt R B w0 D w) :
    Calls Tryz.prog 97 #[.slice (some ⟨b, o, none⟩) n cap] w fun e w' => e = .returned (.tuple #[]) ∧ RnAt R B w0 (fun i => D i ∨ (a ≤ i ∧ i < a + n)) w' := by
  have KF := Lib.hid (fresh_any (n := 1) (by decide) w)
  have HR := Lib.hid h
  have HZ := Lib.hid Z
  have HAD := Lib.hid had
  clear h Z had
  go_enter Tryz.func97, Tryz.ntmps97
  go_wp2_with fail
  refine KF.out.mono ?_
  rintro e w1 ⟨rfl, hrow, hb⟩
  have x0 : w1.cell? ⟨w.heap.size, 0, none⟩ = some (.int .u16 1024) := hrow.cell (i := 0) (by decide)
  have HR1 := Lib.hid (HR.out.quiet HZ.out hb)
  clear hrow hb KF HR
  generalize w.heap.size = q at *
  go_wp2_with fail
  go_loopw [3, 9] (fun _ i wr => ∃ j : Nat, j ≤ n ∧ i = .int .i64 (j : Int) ∧ RnAt R B w0 (fun i => D i ∨ (a ≤ i ∧ i < a + j)) wr) (fun _ i _ => n - (intOf i).toNat)
  case atStart => exact ⟨0, by omega, rfl, HR1.out.mono (fun i hi => by rcases hi with h | h; exact h; omega)⟩
  case round =>
    clear HR1 x0
    obtain ⟨j, hj, rfl, hr⟩ := hrel
    by_cases hlt : j < n
    · obtain ⟨u, c0, f0, _⟩ := hr.cell HZ.out (by omega) (HAD.out j hlt)
      have i1 : (j : Int) < (n : Int) := by omega
      have i0 : (0 : Int) ≤ (j : Int) := by omega
      have HN := Lib.hid ((hr.put HZ.out (by omega) (HAD.out j hlt)).mono (D' := fun i => D i ∨ (a ≤ i ∧ i < a + (j + 1))) (fun i hi => by
        rcases hi with h | h
        · exact .inl (.inl h)
        · by_cases hi : i = a + j
          · exact .inr hi
          · exact .inl (.inr (by omega))))
      clear hr
      go_wp2_with fail
      go_roundw
      case rel => exact ⟨j + 1, by omega, by go_num, HN.out⟩
      case measure => simp [intOf]; omega
    · obtain rfl : j = n := by omega
      have HN := Lib.hid hr
      clear hr
      go_wp2_with fail
      first | go_end0 | refine bodyPost_ret (results_none rfl _ _ _) rfl ?_
      exact ⟨rfl, HN.out⟩
end

section
variable {R : World → List Nat → Prop} {B : Nat → Prop} {ad : Nat → Nat × Nat} {L g o0 : Nat} {w w0 : World} {D : Nat → Prop}

set_option maxRecDepth 100000 in
set_option maxHeartbeats 8000000 in
theorem lens_renew {A o : Nat} (Z : Prb R B ad L) (hy : Lay ad g o0) (hL : 1847 ≤ L) (hA : 688 ≤ A) (hA2 : A + 514 ≤ 1847) (hoA : o = o0 + (A - 256)) (h : RnAt R B w0 D w) :
    Calls Tryz.prog 116 #[.pointer (some ⟨g, o, none⟩)] w fun e w' => e = .returned (.tuple #[]) ∧ RnAt R B w0 (fun i => D i ∨ (A ≤ i ∧ i < A + 514)) w' := by
  have KF := Lib.hid (fresh_any (n := 2) (by decide) w)
  have HR := Lib.hid h
  have HZ := Lib.hid Z
  have HA := Lib.hid (And.intro hA (And.intro hA2 (And.intro hoA hL)))
  have HY := Lib.hid hy
  clear h Z hA hA2 hoA hL hy
  go_enter Tryz.func116, Tryz.ntmps116
  go_wp2_with fail
  refine KF.out.mono ?_
  rintro e w1 ⟨rfl, hrow, hb⟩
  obtain ⟨u0, d0, f0, l0⟩ := HR.out.cell (a := A) (b := g) (o := o) HZ.out (by have := HA.out; omega) (HY.out.rest HA.out.1 (by have := HA.out; omega) HA.out.2.2.1)
  have x0 : w1.cell? ⟨w.heap.size, 0, none⟩ = some (.int .u16 1024) := hrow.cell (i := 0) (by decide)
  have x1 : w1.cell? ⟨w.heap.size, 1, none⟩ = some (.int .u16 1024) := hrow.cell (i := 1) (by decide)
  have hr1 := HR.out.quiet HZ.out hb
  obtain ⟨u1, d1, f1, _⟩ := hr1.cell (a := A) (b := g) (o := o) HZ.out (by have := HA.out; omega) (HY.out.rest HA.out.1 (by have := HA.out; omega) HA.out.2.2.1)
  obtain ⟨u2, d2, f2, _⟩ := hr1.cell (a := A + 1) (b := g) (o := o + 1) HZ.out (by have := HA.out; omega) (HY.out.rest (by have := HA.out; omega) (by have := HA.out; omega) (by have := HA.out; omega))
  have HR2 := Lib.hid (((hr1.quiet HZ.out ((Below.refl w1.heap.size w1).drew)).put (a := A) (b := g) (o := o) HZ.out (by have := HA.out; omega) (HY.out.rest HA.out.1 (by have := HA.out; omega) HA.out.2.2.1)).put (a := A + 1) (b := g) (o := o + 1) HZ.out (by have := HA.out; omega) (HY.out.rest (by have := HA.out; omega) (by have := HA.out; omega) (by have := HA.out; omega)))
  clear hr1 hrow hb KF HR d0 f0
  have hne : w.heap.size ≠ g := by omega
  generalize w.heap.size = q at *
  go_wp2_with fail
  go_region
  all_goals go_wp2_with fail
  go_loopw [3, 17] (fun _ i wr => ∃ j : Nat, j ≤ 16 ∧ i = .int .i64 (j : Int) ∧ RnAt R B w0 (fun i => D i ∨ (A ≤ i ∧ i < A + 2 + 8 * j) ∨ (A + 130 ≤ i ∧ i < A + 130 + 8 * j)) wr) (fun _ i _ => 16 - (intOf i).toNat)
  case atStart => exact ⟨0, by omega, rfl, HR2.out.mono (fun i hi => by rcases hi with h | h | h; exact .inl (.inl h); by_cases e : i = A; exact .inl (.inr e); exact .inr (by omega); omega)⟩
  case round =>
    clear HR2 x0 x1 d1 d2 f1 f2
    obtain ⟨j, hj, rfl, hr⟩ := hrel
    by_cases hlt : j < 16
    · have KN := Lib.hid (renew_any (a := A + 2 + 8 * j) (b := g) (o := o + 2 + j * 8) (n := 8) (cap := 8) HZ.out (fun m hm => HY.out.rest (by have := HA.out; omega) (by have := HA.out; omega) (by have := HA.out; omega)) (by have := HA.out; omega) (by decide) hr)
      have KN2 := Lib.hid (fun (w2 : World) (D2 : Nat → Prop) (h2 : RnAt R B w0 D2 w2) => renew_any (a := A + 130 + 8 * j) (b := g) (o := o + 130 + j * 8) (n := 8) (cap := 8) HZ.out (fun m hm => HY.out.rest (by have := HA.out; omega) (by have := HA.out; omega) (by have := HA.out; omega)) (by have := HA.out; omega) (by decide) h2)
      have i1 : (j : Int) < 16 := by omega
      have i0 : (0 : Int) ≤ (j : Int) := by omega
      clear hr
      go_wp2_with fail
      refine KN.out.mono ?_
      rintro e w3 ⟨rfl, hr3⟩
      have KN3 := Lib.hid (KN2.out _ _ hr3)
      clear hr3 KN KN2
      go_wp2_with fail
      refine KN3.out.mono ?_
      rintro e w4 ⟨rfl, hr4⟩
      have HR4 := Lib.hid (hr4.mono (D' := fun i => D i ∨ (A ≤ i ∧ i < A + 2 + 8 * (j + 1)) ∨ (A + 130 ≤ i ∧ i < A + 130 + 8 * (j + 1))) (fun i hi => by
        rcases hi with h | h | h
        · exact .inl (.inl (.inl h))
        · by_cases h2 : i < A + 2 + 8 * j
          · exact .inl (.inl (.inr (.inl (by omega))))
          · exact .inl (.inr (by omega))
        · by_cases h2 : i < A + 130 + 8 * j
          · exact .inl (.inl (.inr (.inr (by omega))))
          · exact .inr (by omega)))
      clear hr4 KN3
      go_wp2_with fail
      go_roundw
      case rel => exact ⟨j + 1, by omega, by go_num, HR4.out⟩
      case measure => simp [intOf]; omega
    · obtain rfl : j = 16 := by omega
      have KN := Lib.hid (renew_any (a := A + 258) (b := g) (o := o + 258) (n := 256) (cap := 256) HZ.out (fun m hm => HY.out.rest (by have := HA.out; omega) (by have := HA.out; omega) (by have := HA.out; omega)) (by have := HA.out; omega) (by decide) hr)
      have i1 : ¬ ((16 : Nat) : Int) < 16 := by omega
      clear hr
      go_wp2_with fail
      refine KN.out.mono ?_
      rintro e w3 ⟨rfl, hr3⟩
      have HR3 := Lib.hid (hr3.mono (D' := fun i => D i ∨ (A ≤ i ∧ i < A + 514)) (fun i hi => by
        rcases hi with h | h
        · exact .inl (.inl h)
        · by_cases h2 : i < A + 130
          · exact .inl (.inr (.inl (by omega)))
          · by_cases h3 : i < A + 258
            · exact .inl (.inr (.inr (by omega)))
            · exact .inr (by omega)))
      clear hr3 KN
      go_wp2_with fail
      first | go_end0 | refine bodyPost_ret (results_none rfl _ _ _) rfl ?_
      exact ⟨rfl, HR3.out⟩

set_option maxRecDepth 100000 in
set_option maxHeartbeats 16000000 in
theorem chances_renew (Z : Prb R B ad L) (hy : Lay ad g o0) (hL : 1847 ≤ L) (h : RnAt R B w0 D w) :
    Calls Tryz.prog 87 #[.pointer (some ⟨g, o0, none⟩)] w fun e w' => e = .returned (.tuple #[]) ∧ RnAt R B w0 (fun i => D i ∨ i < 1847) w' := by
  have HR := Lib.hid h
  have HZ := Lib.hid Z
  have KR := Lib.hid (fun (a o n cap : Nat) (w2 : World) (D2 : Nat → Prop) (had : ∀ j, j < n → ad (a + j) = (g, o + j)) (haL : a + n ≤ 1847) (h2 : RnAt R B w0 D2 w2) => renew_any (a := a) (b := g) (o := o) (n := n) (cap := cap) Z had (by omega) (by omega) h2)
  have KL := Lib.hid (fun (A o : Nat) (w2 : World) (D2 : Nat → Prop) (h1 : 688 ≤ A) (h2 : A + 514 ≤ 1847) (h3 : o = o0 + (A - 256)) (h4 : RnAt R B w0 D2 w2) => lens_renew Z hy hL h1 h2 h3 h4)
  have HY := Lib.hid hy
  clear h Z hy hL
  go_enter Tryz.func87, Tryz.ntmps87
  go_wp2_with fail
  go_loopw [2, 4] (fun _ i wr => ∃ j : Nat, j ≤ 12 ∧ i = .int .i64 (j : Int) ∧ RnAt R B w0 (fun i => D i ∨ (i < 16 * j) ∨ (240 ≤ i ∧ i < 240 + 16 * j)) wr) (fun _ i _ => 12 - (intOf i).toNat)
  case atStart => exact ⟨0, by omega, rfl, HR.out.mono (fun i hi => by rcases hi with h | h | h; exact h; omega; omega)⟩
  case round =>
    clear HR
    obtain ⟨j, hj, rfl, hr⟩ := hrel
    by_cases hlt : j < 12
    · have KN := Lib.hid (KR.out (16 * j) (o0 + j * 16) 16 16 _ _ (fun m hm => HY.out.low (by omega) (by omega)) (by omega) hr)
      have KN2 := Lib.hid (fun (w2 : World) (D2 : Nat → Prop) (h2 : RnAt R B w0 D2 w2) => KR.out (240 + 16 * j) (o0 + 192 + j * 16) 16 16 _ _ (fun m hm => HY.out.long (by omega) (by omega) (by omega)) (by omega) h2)
      have i1 : (j : Int) < 12 := by omega
      have i0 : (0 : Int) ≤ (j : Int) := by omega
      clear hr
      go_wp2_with fail
      refine KN.out.mono ?_
      rintro e w3 ⟨rfl, hr3⟩
      have KN3 := Lib.hid (KN2.out _ _ hr3)
      clear hr3 KN KN2
      go_wp2_with fail
      refine KN3.out.mono ?_
      rintro e w4 ⟨rfl, hr4⟩
      have HR4 := Lib.hid (hr4.mono (D' := fun i => D i ∨ (i < 16 * (j + 1)) ∨ (240 ≤ i ∧ i < 240 + 16 * (j + 1))) (fun i hi => by
        rcases hi with h | h | h
        · exact .inl (.inl (.inl h))
        · by_cases h2 : i < 16 * j
          · exact .inl (.inl (.inr (.inl h2)))
          · exact .inl (.inr (by omega))
        · by_cases h2 : i < 240 + 16 * j
          · exact .inl (.inl (.inr (.inr (by omega))))
          · exact .inr (by omega)))
      clear hr4 KN3
      go_wp2_with fail
      go_roundw
      case rel => exact ⟨j + 1, by omega, by go_num, HR4.out⟩
      case measure => simp [intOf]; omega
    · obtain rfl : j = 12 := by omega
      have i1 : ¬ ((12 : Nat) : Int) < 12 := by omega
      have hq : RnAt R B w0 (fun i => D i ∨ i < 192 ∨ (240 ≤ i ∧ i < 432)) wr := hr.mono (fun i hi => by rcases hi with h | h | h; exact .inl h; exact .inr (.inl (by omega)); exact .inr (.inr (by omega)))
      have KN := Lib.hid (KR.out 192 (o0 + 384) 12 12 _ _ (fun m hm => HY.out.rep (by omega) (by omega) (by omega)) (by omega) hq)
      clear hr hq
      go_wp2_with fail
      refine KN.out.mono ?_
      rintro e w3 ⟨rfl, hr3⟩
      have KN := Lib.hid (KR.out 204 (o0 + 396) 12 12 _ _ (fun m hm => HY.out.rep (by omega) (by omega) (by omega)) (by omega) hr3)
      clear hr3
      go_wp2_with fail
      refine KN.out.mono ?_
      rintro e w4 ⟨rfl, hr3⟩
      have KN := Lib.hid (KR.out 216 (o0 + 408) 12 12 _ _ (fun m hm => HY.out.rep (by omega) (by omega) (by omega)) (by omega) hr3)
      clear hr3
      go_wp2_with fail
      refine KN.out.mono ?_
      rintro e w5 ⟨rfl, hr3⟩
      have KN := Lib.hid (KR.out 228 (o0 + 420) 12 12 _ _ (fun m hm => HY.out.rep (by omega) (by omega) (by omega)) (by omega) hr3)
      clear hr3
      go_wp2_with fail
      refine KN.out.mono ?_
      rintro e w6 ⟨rfl, hr3⟩
      have HR6 := Lib.hid (hr3.mono (D' := fun i => D i ∨ i < 432) (fun i hi => by
        rcases hi with h | h
        · exact .inl (.inl (.inl (.inl (.inl h))))
        · by_cases h1 : i < 192
          · exact .inl (.inl (.inl (.inl (.inr (.inl h1)))))
          · by_cases h2 : i < 204
            · exact .inl (.inl (.inl (.inr (by omega))))
            · by_cases h3 : i < 216
              · exact .inl (.inl (.inr (by omega)))
              · by_cases h4 : i < 228
                · exact .inl (.inr (by omega))
                · by_cases h5 : i < 240
                  · exact .inr (by omega)
                  · exact .inl (.inl (.inl (.inl (.inr (.inr (by omega))))))))
      clear hr3 KN
      go_wp2_with fail
      go_loopw [3, 42] (fun _ i wr => ∃ j : Nat, j ≤ 4 ∧ i = .int .i64 (j : Int) ∧ RnAt R B w0 (fun i => D i ∨ (i < 432 + 64 * j)) wr) (fun _ i _ => 4 - (intOf i).toNat)
      case atStart => exact ⟨0, by omega, rfl, HR6.out.mono (fun i hi => by rcases hi with h | h; exact .inl h; exact .inr (by omega))⟩
      case round =>
        clear HR6
        obtain ⟨j, hj, rfl, hr⟩ := hrel
        by_cases hlt2 : j < 4
        · have KN := Lib.hid (KR.out (432 + 64 * j) (o0 + 1591 + j * 64) 64 64 _ _ (fun m hm => HY.out.slot (by omega) (by omega) (by omega)) (by omega) hr)
          have i1 : (j : Int) < 4 := by omega
          have i0 : (0 : Int) ≤ (j : Int) := by omega
          clear hr
          go_wp2_with fail
          refine KN.out.mono ?_
          rintro e w7 ⟨rfl, hr4⟩
          have HR7 := Lib.hid (hr4.mono (D' := fun i => D i ∨ (i < 432 + 64 * (j + 1))) (fun i hi => by
            rcases hi with h | h
            · exact .inl (.inl h)
            · by_cases h2 : i < 432 + 64 * j
              · exact .inl (.inr h2)
              · exact .inr (by omega)))
          clear hr4 KN
          go_wp2_with fail
          go_roundw
          case rel => exact ⟨j + 1, by omega, by go_num, HR7.out⟩
          case measure => simp [intOf]; omega
        · obtain rfl : j = 4 := by omega
          have i2 : ¬ ((4 : Nat) : Int) < 4 := by omega
          have KN := Lib.hid (KR.out 688 (o0 + 432) 115 115 _ _ (fun m hm => HY.out.rest (by omega) (by omega) (by omega)) (by omega) hr)
          clear hr
          go_wp2_with fail
          refine KN.out.mono ?_
          rintro e w7 ⟨rfl, hr3⟩
          have KN := Lib.hid (KR.out 803 (o0 + 547) 16 16 _ _ (fun m hm => HY.out.rest (by omega) (by omega) (by omega)) (by omega) hr3)
          clear hr3
          go_wp2_with fail
          refine KN.out.mono ?_
          rintro e w8 ⟨rfl, hr3⟩
          have KN := Lib.hid (KL.out 819 (o0 + 563) _ _ (by omega) (by omega) (by omega) hr3)
          clear hr3
          go_wp2_with fail
          refine KN.out.mono ?_
          rintro e w9 ⟨rfl, hr3⟩
          have KN := Lib.hid (KL.out 1333 (o0 + 1077) _ _ (by omega) (by omega) (by omega) hr3)
          clear hr3
          go_wp2_with fail
          refine KN.out.mono ?_
          rintro e w10 ⟨rfl, hr3⟩
          have HR10 := Lib.hid (hr3.mono (D' := fun i => D i ∨ i < 1847) (fun i hi => by
            rcases hi with h | h
            · exact .inl (.inl (.inl (.inl (.inl h))))
            · by_cases h1 : i < 688
              · exact .inl (.inl (.inl (.inl (.inr (by omega)))))
              · by_cases h2 : i < 803
                · exact .inl (.inl (.inl (.inr (by omega))))
                · by_cases h3 : i < 819
                  · exact .inl (.inl (.inr (by omega)))
                  · by_cases h4 : i < 1333
                    · exact .inl (.inr (by omega))
                    · exact .inr (by omega)))
          clear hr3 KN
          go_wp2_with fail
          first | go_end0 | refine bodyPost_ret (results_none rfl _ _ _) rfl ?_
          exact ⟨rfl, HR10.out⟩
end
end Go.Proofs.YtoencondpbkomaaGreatDoor
