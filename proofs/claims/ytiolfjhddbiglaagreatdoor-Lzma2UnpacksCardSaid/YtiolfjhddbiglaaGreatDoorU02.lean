/-
  RdNew, PkRen, RcPure, LzPure, LzNum: put together.
-/
import Derived.Test.YtiolfjhddbiglaaGreatDoorU01
import Derived.Laws.MakeOwn
import Derived.Deep.RegionHeld3
set_option linter.unusedVariables false
set_option linter.unusedSimpArgs false
/-
  A decoder begins; fresh probabilities.
-/
namespace Go.Proofs.YtiolfjhddbiglaaGreatDoor
open Go.RowKit

/-- What stands behind the first byte and j shifts. -/
def OnWay (w : World) (g : Nat) (S : Sc) (bs : List UInt8) (j : Nat) : Prop :=
  ∃ at_ c bad, Blk w g 228 (pdCells S.f 4294967295 c bad) ∧ S.At w bs at_ ∧ c < 4294967296 ∧ ((bad = true ∧ started bs = none) ∨ (bad = false ∧ at_ = j + 1 ∧ Begun bs j c))

/-- A shift on the way. -/
theorem onway_any {w : World} {g j : Nat} {S : Sc} {bs : List UInt8} (hS : ScOk S) (h : OnWay w g S bs j) (hg : ¬ S.hold g) (hj : j < 4) :
    Calls Tryz.prog 176 #[.pointer (some ⟨g, 0, none⟩)] w fun e w' => e = .returned (.tuple #[]) ∧ OnWay w' g S bs (j + 1) ∧ Only (two S g) w w' := by
  obtain ⟨at_, c, bad, hB, hF, hc, h0⟩ := h
  rcases h0 with ⟨rfl, h0⟩ | ⟨rfl, rfl, h0⟩
  · refine (shift_bad hB).mono ?_
    rintro e w' ⟨rfl, rfl⟩
    exact ⟨rfl, ⟨at_, c, true, hB, hF, hc, .inl ⟨rfl, h0⟩⟩, Only.refl _ _⟩
  · have hc4 : c < 16777216 := Nat.lt_of_lt_of_le (begun_lt h0) (Nat.pow_le_pow_right (n := 256) (by omega) (show j ≤ 3 by omega))
    refine (shift_any hS hB hF hg hc4).mono ?_
    rintro e w' ⟨rfl, at', c', bad', h1, h2, h3, h4⟩
    refine ⟨rfl, ⟨at', c', bad', h1, h2, ?_, ?_⟩, h3⟩
    · rcases h4 with ⟨_, rfl, _⟩ | ⟨x, _, rfl, _⟩
      · exact hc
      · have := x.toNat_lt; omega
    · rcases h4 with ⟨rfl, rfl, h5⟩ | ⟨x, rfl, rfl, h5⟩
      · refine .inl ⟨rfl, started_short ?_⟩
        have := List.drop_eq_nil_iff.1 h5
        omega
      · refine .inr ⟨rfl, ?_, begun_next h0 h5⟩
        have hl := congrArg List.length h5
        simp only [List.length_cons, List.length_drop] at hl
        have := hS.le hF
        have := hS.le h2
        have := (begun_next h0 h5).1
        omega

set_option maxRecDepth 100000 in
set_option maxHeartbeats 4000000 in
theorem pnew_any {w : World} {S : Sc} {bs : List UInt8} (hS : ScOk S) (hF : S.At w bs 0) :
    Calls Tryz.prog 131 #[.iface 103 (.pointer (some ⟨S.f, 0, none⟩))] w fun e w' =>
      e = .returned (.pointer (some ⟨w.heap.size, 0, none⟩)) ∧ Pd w' w.heap.size S bs (started bs) ∧ Only S.turn w w' := by
  have hgh : ¬ S.hold w.heap.size := fun h => Nat.lt_irrefl _ (hS.old hF h)
  have HS := Lib.hid hS
  have hgt : ¬ S.turn w.heap.size := fun h => hgh (hS.tf _ h)
  have HF := Lib.hid hF
  clear hF hS
  go_enter Tryz.func131, Tryz.ntmps131
  go_wp2_with fail
  have hB0 : Blk (w.alloc (.cells #[.iface 103 (.pointer (some ⟨S.f, 0, none⟩)), .int .u32 4294967295, .int .u32 0, .bool false] 228)) w.heap.size 228 (pdCells S.f 4294967295 0 false) := Blk.fresh _ _ _
  have hO0 : Only S.turn w (w.alloc (.cells #[.iface 103 (.pointer (some ⟨S.f, 0, none⟩)), .int .u32 4294967295, .int .u32 0, .bool false] 228)) := (Only.refl _ w).alloc _
  have hF0 := HS.out.only HF.out ((Only.refl (fun _ => False) w).alloc (.cells #[.iface 103 (.pointer (some ⟨S.f, 0, none⟩)), .int .u32 4294967295, .int .u32 0, .bool false] 228)) (fun i hi => hi.elim)
  generalize hg : w.heap.size = g at *
  have HG := Lib.hid hg
  clear hg
  refine (shift_any HS.out hB0 hF0 hgh (by omega)).mono ?_
  rintro e w1 ⟨rfl, at1, c1, bad1, hB1, hF1, hO1, h1⟩
  have HO1 := Lib.hid (hO0.trans' hO1 (fun i hi => by have := HG.out; rcases hi with hi | hi; exact .inl hi; exact .inr (by omega)))
  have j2 : w1.cell? ⟨g, 2, none⟩ = some (.int .u32 (c1 : Int)) := hB1.cell 2
  have HB1 := Lib.hid (fun so => refuse_any (so := so) hB1)
  have HF1 := Lib.hid hF1
  have H1 := Lib.hid h1
  have hc1 : c1 < 4294967296 := by
    rcases h1 with ⟨_, rfl, _⟩ | ⟨x, _, rfl, _⟩
    · omega
    · have := x.toNat_lt; omega
  have HC1 := Lib.hid hc1
  clear hB0 hF0 hO0 hB1 hF1 hO1 h1 HF hc1
  go_wp2_with fail
  refine (HB1.out _).mono ?_
  rintro e w2 ⟨rfl, hB2, hg2⟩
  have hS2 := Only.of_grown (S := fun i => i = g) hg2 rfl
  have hw2 : OnWay w2 g S bs 0 := by
    have hF2 := HS.out.only HF1.out hS2 (fun i hi => by rcases hi with rfl; exact hgh)
    refine ⟨at1, c1, _, hB2, hF2, HC1.out, ?_⟩
    rcases H1.out with ⟨rfl, rfl, h⟩ | ⟨x, rfl, rfl, h⟩
    · refine .inl ⟨rfl, started_short ?_⟩
      have := congrArg List.length h
      simp only [List.length_drop, List.length_nil] at this
      omega
    · have hx : bs.getD 0 0 = x := by
        cases bs with
        | nil => cases h
        | cons y t => injection h with h _
      have hl := congrArg List.length h
      simp only [List.length_cons, List.length_drop] at hl
      have hle := HS.out.le hF2
      by_cases h0 : x.toNat = 0
      · refine .inr ⟨by simp [h0], by omega, by omega, by rw [hx]; exact h0, by simp [be, h0]⟩
      · exact .inl ⟨by simp; omega, started_head (by rw [hx]; exact h0)⟩
  have HW2 := Lib.hid hw2
  have HO2 := Lib.hid (HO1.out.trans' hS2 (fun i hi => .inr (by have := HG.out; omega)))
  clear hB2 hg2 hS2 HB1 HF1 H1 HO1 HC1 j2 hw2
  go_wp2_with fail
  go_loopw [18] (fun i wr => ∃ j : Nat, j ≤ 4 ∧ i = .int .i64 (j : Int) ∧ OnWay wr g S bs j ∧ Only S.turn w wr) (fun i _ => 4 - (intOf i).toNat)
  case atStart => exact ⟨0, by omega, rfl, HW2.out, HO2.out⟩
  case round =>
    clear HW2 HO2
    obtain ⟨j, hj, rfl, hw, ho⟩ := hrel
    by_cases hlt : j < 4
    · have K := Lib.hid (onway_any HS.out hw hgh hlt)
      have HO := Lib.hid ho
      have hlt' : (j : Int) < 4 := by omega
      clear hw ho
      go_wp2_with fail
      refine K.out.mono ?_
      rintro e w3 ⟨rfl, hw3, ho3⟩
      have HW3 := Lib.hid hw3
      have HO3 := Lib.hid (HO.out.trans' ho3 (fun i hi => by have := HG.out; rcases hi with hi | hi; exact .inl hi; exact .inr (by omega)))
      clear hw3 ho3
      go_wp2_with fail
      go_roundw
      case rel => exact ⟨j + 1, by omega, by go_num, HW3.out, HO3.out⟩
      case measure => simp [intOf]; omega
    · obtain rfl : j = 4 := by omega
      obtain ⟨at_, c, bad, hB, hF, hc, h0⟩ := hw
      have j1 : wr.drew.cell? ⟨g, 1, none⟩ = some (.int .u32 4294967295) := hB.cell 1
      have j2 : wr.drew.cell? ⟨g, 2, none⟩ = some (.int .u32 (c : Int)) := hB.cell 2
      have HB := Lib.hid (fun so => refuse_any (so := so) (show Blk wr.drew g 228 (pdCells S.f 4294967295 c bad) from hB))
      have HF := Lib.hid (show S.At wr.drew bs at_ from HS.out.only hF ((Only.refl (fun _ => False) wr).drew) (fun _ hh => hh.elim))
      have HO := Lib.hid (ho.drew)
      have H0 := Lib.hid h0
      have HC := Lib.hid hc
      clear hB hF ho h0 hc
      go_wp2_with fail
      go_still_tail 10, (by kernel_rfl)
      change wpList _ _ _ _ _ wr.drew
      generalize wr.drew = w2 at *
      go_wp2_with fail
      refine (HB.out _).mono ?_
      rintro e w3 ⟨rfl, hB3, hg3⟩
      have HB3 := Lib.hid hB3
      have HG3 := Lib.hid (Only.of_grown (S := fun i => i = g) hg3 rfl)
      clear hB3 hg3
      go_wp2_with fail
      go_ret
      rw [HG.out]
      refine ⟨rfl, ⟨at_, 4294967295, c, _, HB3.out, HS.out.only HF.out HG3.out (fun i hi => by rcases hi with rfl; exact hgh), HG.out ▸ hgh, HS.out.le HF.out, by omega, HC.out, ?_⟩, HO.out.trans' HG3.out (fun i hi => .inr (by have := HG.out; omega))⟩
      rcases H0.out with ⟨rfl, h⟩ | ⟨rfl, rfl, h⟩
      · exact .inl ⟨rfl, h⟩
      · rw [started_begun h]
        by_cases hcc : c < 4294967295
        · rw [if_pos hcc]
          exact .inr ⟨by simp; omega, rfl⟩
        · rw [if_neg hcc]
          exact .inl ⟨by simp; omega, rfl⟩


theorem madeNums (n : Nat) : (madeCells #[Value.int .u16 0] n).toList = pv (List.replicate n 0) := by
  rw [toList_madeCells_one]
  simp [pv]

set_option maxRecDepth 100000 in
set_option maxHeartbeats 2000000 in
theorem fresh_any {n : Nat} (hn : n ≤ 1000000) (w : World) :
    Calls Tryz.prog 88 #[.int .i64 (n : Int)] w fun e w' =>
      e = .returned (.slice (some ⟨w.heap.size, 0, none⟩) n n) ∧ Row w' w.heap.size (List.replicate n 1024) n ∧ Below w.heap.size w w' := by
  obtain ⟨i, hi, hz0, hz1, hz2⟩ := info_parts info_u16
  have h0 : ¬ (n : Int) < 0 := by omega
  have h1 : ¬ (n : Int) > 2147483647 := by omega
  go_enter Tryz.func88, Tryz.ntmps88
  go_wp2_with (first
      | (at_make; refine wpList_make_full _ rfl _ _ 62 rfl w.heap.size 35 i _ 1 Tryz.underlying62 hi hz0 hz1 _ _ _ _ n rfl rfl rfl rfl ?b1 ?b2 (by simp) ?_))
  case b1 => omega
  case b2 => unfold maxLen; omega
  intro w2 ho hg
  rw [madeNums] at ho
  have HO := Lib.hid ho
  have HG := Lib.hid (only_none hg)
  clear ho hg
  go_wp2_with fail
  go_loopw [4, 14] (fun _ k wr => ∃ j : Nat, j ≤ n ∧ k = .int .i64 (j : Int) ∧ wr.ownsRow w.heap.size 35 1 (.slice (some ⟨w.heap.size, 0, none⟩) n n) n (pv (List.replicate j 1024 ++ List.replicate (n - j) 0)) ∧ Below w.heap.size w wr) (fun _ k _ => n - (intOf k).toNat)
  case atStart => exact ⟨0, by omega, rfl, by simpa using HO.out, HG.out⟩
  case round =>
    clear HO HG
    obtain ⟨j, hj, rfl, ho, hb⟩ := hrel
    have HO := Lib.hid ho
    have HG := Lib.hid hb
    clear ho hb
    by_cases hlt : j < n
    · have hfree := HO.out.frozenAt j
      have hl2 : (pv (List.replicate j 1024 ++ List.replicate (n - j) 0)).length = n := by rw [pv_length]; simp; omega
      obtain ⟨old, hold⟩ : ∃ u, wr.cell? ⟨w.heap.size, j, none⟩ = some u := by
        rw [HO.out.cellAt j (by omega), List.getElem?_eq_getElem (by omega)]
        exact ⟨_, rfl⟩
      have i1 : (j : Int) < (n : Int) := by omega
      have i0 : (0 : Int) ≤ (j : Int) := by omega
      have HN := Lib.hid (show (pv (List.replicate j 1024 ++ List.replicate (n - j) 0)).set j (.int .u16 1024) = pv (List.replicate (j + 1) 1024 ++ List.replicate (n - (j + 1)) 0) by
        obtain ⟨m, hm⟩ : ∃ m, n - j = m + 1 := ⟨n - j - 1, by omega⟩
        rw [show n - (j + 1) = m by omega, hm, List.replicate_succ, show (Value.int .u16 1024) = .int .u16 ((1024 : Nat) : Int) from rfl, pv_set, List.set_append_right _ _ (by simp), List.length_replicate, Nat.sub_self, List.set_cons_zero, List.replicate_succ']
        simp)
      clear hl2
      go_wp2_with fail
      go_roundw
      case rel =>
        refine ⟨j + 1, by omega, by go_num, ?_, HG.out.setCell (by simp) _⟩
        have ho := (HO.out.stored j (.int .u16 1024)).1
        rw [HN.out] at ho
        exact ho
      case measure => simp [intOf]; omega
    · obtain rfl : j = n := by omega
      go_wp2_with fail
      go_ret
      refine ⟨rfl, ?_, HG.out⟩
      have ho := HO.out
      rw [Nat.sub_self, List.replicate_zero, List.append_nil] at ho
      unfold Row
      rw [List.length_replicate]
      exact own_mono ho (Nat.zero_le _)
end Go.Proofs.YtiolfjhddbiglaaGreatDoor

/-
  The program's probabilities of packets begin anew, wherever they lie.
-/
namespace Go.Proofs.YtiolfjhddbiglaaGreatDoor
open Go.RowKit

/-- since the world w0 the probabilities of D have begun -/
def RnAt (R : World → List Nat → Prop) (B : Nat → Prop) (w0 : World) (D : Nat → Prop) (w : World) : Prop :=
  ∃ ps, R w ps ∧ (∀ i, D i → ps.getD i 0 = 1024) ∧ Only B w0 w

section
variable {R : World → List Nat → Prop} {B : Nat → Prop} {ad : Nat → Nat × Nat} {L a b o n cap : Nat} {w w0 : World} {D : Nat → Prop}
theorem RnAt.mono {D' : Nat → Prop} (h : RnAt R B w0 D w) (hD : ∀ i, D' i → D i) : RnAt R B w0 D' w := by
  obtain ⟨ps, h1, h2, h3⟩ := h
  exact ⟨ps, h1, fun i hi => h2 i (hD i hi), h3⟩
theorem RnAt.quiet {w' : World} (h : RnAt R B w0 D w) (Z : Prb R B ad L) (hb : Below w.heap.size w w') : RnAt R B w0 D w' := by
  obtain ⟨ps, h1, h2, h3⟩ := h
  have ho : Only (fun _ => False) w w' := Only.of_below hb
  exact ⟨ps, Z.only h1 ho (fun _ _ h => h), h2, h3.trans (ho.mono fun _ h => h.elim)⟩
theorem RnAt.put (h : RnAt R B w0 D w) (Z : Prb R B ad L) (ha : a < L) (hab : ad a = (b, o)) : RnAt R B w0 (fun i => D i ∨ i = a) (w.setCell ⟨b, o, none⟩ (.int .u16 1024)) := by
  obtain ⟨ps, h1, h2, h3⟩ := h
  have hl := Z.len h1
  have hb := Z.blk ha
  have hp := Z.put h1 ha 1024
  rw [hab] at hp hb
  refine ⟨_, hp, fun i hi => ?_, h3.setCell (p := ⟨b, o, none⟩) (.inl hb) _⟩
  simp only [List.getD]
  by_cases hia : i = a
  · subst hia
    rw [List.getElem?_set]
    simp [hl, ha]
  · rw [List.getElem?_set_ne (fun e => hia e.symm)]
    rcases hi with hi | hi
    · exact h2 i hi
    · exact absurd hi hia
theorem RnAt.cell (h : RnAt R B w0 D w) (Z : Prb R B ad L) (ha : a < L) (hab : ad a = (b, o)) : ∃ u, w.cell? ⟨b, o, none⟩ = some u ∧ w.frozen? ⟨b, o, none⟩ = false ∧ b < w.heap.size := by
  obtain ⟨ps, h1, h2, h3⟩ := h
  have c := Z.cell h1 ha
  have f := Z.free h1 ha
  have l := Z.old h1 (Z.blk ha)
  rw [hab] at c f l
  exact ⟨_, c, f, l⟩

set_option maxRecDepth 100000 in
set_option maxHeartbeats 4000000 in
theorem renew_any (Z : Prb R B ad L) (had : ∀ j, j < n → ad (a + j) = (b, o + j)) (haL : a + n ≤ L) (hn : n ≤ 1000000) (h : RnAt R B w0 D w) :
    Calls Tryz.prog 97 #[.slice (some ⟨b, o, none⟩) n cap] w fun e w' => e = .returned (.tuple #[]) ∧ RnAt R B w0 (fun i => D i ∨ (a ≤ i ∧ i < a + n)) w' := by
  have KF := Lib.hid (fresh_any (n := 1) (by decide) w)
  have HR := Lib.hid h
  have HZ := Lib.hid Z
  have HAD := Lib.hid had
  clear h Z had
  go_enter Tryz.func97, Tryz.ntmps97
  go_wp2_with fail
  refine KF.out.mono ?_
  rintro e w1 ⟨rfl, hrow, hb⟩
  have x0 : w1.cell? ⟨w.heap.size, 0, none⟩ = some (.int .u16 1024) := hrow.cell (i := 0) (by decide)
  have HR1 := Lib.hid (HR.out.quiet HZ.out hb)
  clear hrow hb KF HR
  generalize w.heap.size = q at *
  go_wp2_with fail
  go_loopw [3, 9] (fun _ i wr => ∃ j : Nat, j ≤ n ∧ i = .int .i64 (j : Int) ∧ RnAt R B w0 (fun i => D i ∨ (a ≤ i ∧ i < a + j)) wr) (fun _ i _ => n - (intOf i).toNat)
  case atStart => exact ⟨0, by omega, rfl, HR1.out.mono (fun i hi => by rcases hi with h | h; exact h; omega)⟩
  case round =>
    clear HR1 x0
    obtain ⟨j, hj, rfl, hr⟩ := hrel
    by_cases hlt : j < n
    · obtain ⟨u, c0, f0, _⟩ := hr.cell HZ.out (by omega) (HAD.out j hlt)
      have i1 : (j : Int) < (n : Int) := by omega
      have i0 : (0 : Int) ≤ (j : Int) := by omega
      have HN := Lib.hid ((hr.put HZ.out (by omega) (HAD.out j hlt)).mono (D' := fun i => D i ∨ (a ≤ i ∧ i < a + (j + 1))) (fun i hi => by
        rcases hi with h | h
        · exact .inl (.inl h)
        · by_cases hi : i = a + j
          · exact .inr hi
          · exact .inl (.inr (by omega))))
      clear hr
      go_wp2_with fail
      go_roundw
      case rel => exact ⟨j + 1, by omega, by go_num, HN.out⟩
      case measure => simp [intOf]; omega
    · obtain rfl : j = n := by omega
      have HN := Lib.hid hr
      clear hr
      go_wp2_with fail
      first | go_end0 | refine bodyPost_ret (results_none rfl _ _ _) rfl ?_
      exact ⟨rfl, HN.out⟩
end

section
variable {R : World → List Nat → Prop} {B : Nat → Prop} {ad : Nat → Nat × Nat} {L g o0 : Nat} {w w0 : World} {D : Nat → Prop}

set_option maxRecDepth 100000 in
set_option maxHeartbeats 8000000 in
theorem lens_renew {A o : Nat} (Z : Prb R B ad L) (hy : Lay ad g o0) (hL : 1847 ≤ L) (hA : 688 ≤ A) (hA2 : A + 514 ≤ 1847) (hoA : o = o0 + (A - 256)) (h : RnAt R B w0 D w) :
    Calls Tryz.prog 116 #[.pointer (some ⟨g, o, none⟩)] w fun e w' => e = .returned (.tuple #[]) ∧ RnAt R B w0 (fun i => D i ∨ (A ≤ i ∧ i < A + 514)) w' := by
  have KF := Lib.hid (fresh_any (n := 2) (by decide) w)
  have HR := Lib.hid h
  have HZ := Lib.hid Z
  have HA := Lib.hid (And.intro hA (And.intro hA2 (And.intro hoA hL)))
  have HY := Lib.hid hy
  clear h Z hA hA2 hoA hL hy
  go_enter Tryz.func116, Tryz.ntmps116
  go_wp2_with fail
  refine KF.out.mono ?_
  rintro e w1 ⟨rfl, hrow, hb⟩
  obtain ⟨u0, d0, f0, l0⟩ := HR.out.cell (a := A) (b := g) (o := o) HZ.out (by have := HA.out; omega) (HY.out.rest HA.out.1 (by have := HA.out; omega) HA.out.2.2.1)
  have x0 : w1.cell? ⟨w.heap.size, 0, none⟩ = some (.int .u16 1024) := hrow.cell (i := 0) (by decide)
  have x1 : w1.cell? ⟨w.heap.size, 1, none⟩ = some (.int .u16 1024) := hrow.cell (i := 1) (by decide)
  have hr1 := HR.out.quiet HZ.out hb
  obtain ⟨u1, d1, f1, _⟩ := hr1.cell (a := A) (b := g) (o := o) HZ.out (by have := HA.out; omega) (HY.out.rest HA.out.1 (by have := HA.out; omega) HA.out.2.2.1)
  obtain ⟨u2, d2, f2, _⟩ := hr1.cell (a := A + 1) (b := g) (o := o + 1) HZ.out (by have := HA.out; omega) (HY.out.rest (by have := HA.out; omega) (by have := HA.out; omega) (by have := HA.out; omega))
  have HR2 := Lib.hid (((hr1.quiet HZ.out ((Below.refl w1.heap.size w1).drew)).put (a := A) (b := g) (o := o) HZ.out (by have := HA.out; omega) (HY.out.rest HA.out.1 (by have := HA.out; omega) HA.out.2.2.1)).put (a := A + 1) (b := g) (o := o + 1) HZ.out (by have := HA.out; omega) (HY.out.rest (by have := HA.out; omega) (by have := HA.out; omega) (by have := HA.out; omega)))
  clear hr1 hrow hb KF HR d0 f0
  have hne : w.heap.size ≠ g := by omega
  generalize w.heap.size = q at *
  go_wp2_with fail
  go_region
  all_goals go_wp2_with fail
  go_loopw [3, 17] (fun _ i wr => ∃ j : Nat, j ≤ 16 ∧ i = .int .i64 (j : Int) ∧ RnAt R B w0 (fun i => D i ∨ (A ≤ i ∧ i < A + 2 + 8 * j) ∨ (A + 130 ≤ i ∧ i < A + 130 + 8 * j)) wr) (fun _ i _ => 16 - (intOf i).toNat)
  case atStart => exact ⟨0, by omega, rfl, HR2.out.mono (fun i hi => by rcases hi with h | h | h; exact .inl (.inl h); by_cases e : i = A; exact .inl (.inr e); exact .inr (by omega); omega)⟩
  case round =>
    clear HR2 x0 x1 d1 d2 f1 f2
    obtain ⟨j, hj, rfl, hr⟩ := hrel
    by_cases hlt : j < 16
    · have KN := Lib.hid (renew_any (a := A + 2 + 8 * j) (b := g) (o := o + 2 + j * 8) (n := 8) (cap := 8) HZ.out (fun m hm => HY.out.rest (by have := HA.out; omega) (by have := HA.out; omega) (by have := HA.out; omega)) (by have := HA.out; omega) (by decide) hr)
      have KN2 := Lib.hid (fun (w2 : World) (D2 : Nat → Prop) (h2 : RnAt R B w0 D2 w2) => renew_any (a := A + 130 + 8 * j) (b := g) (o := o + 130 + j * 8) (n := 8) (cap := 8) HZ.out (fun m hm => HY.out.rest (by have := HA.out; omega) (by have := HA.out; omega) (by have := HA.out; omega)) (by have := HA.out; omega) (by decide) h2)
      have i1 : (j : Int) < 16 := by omega
      have i0 : (0 : Int) ≤ (j : Int) := by omega
      clear hr
      go_wp2_with fail
      refine KN.out.mono ?_
      rintro e w3 ⟨rfl, hr3⟩
      have KN3 := Lib.hid (KN2.out _ _ hr3)
      clear hr3 KN KN2
      go_wp2_with fail
      refine KN3.out.mono ?_
      rintro e w4 ⟨rfl, hr4⟩
      have HR4 := Lib.hid (hr4.mono (D' := fun i => D i ∨ (A ≤ i ∧ i < A + 2 + 8 * (j + 1)) ∨ (A + 130 ≤ i ∧ i < A + 130 + 8 * (j + 1))) (fun i hi => by
        rcases hi with h | h | h
        · exact .inl (.inl (.inl h))
        · by_cases h2 : i < A + 2 + 8 * j
          · exact .inl (.inl (.inr (.inl (by omega))))
          · exact .inl (.inr (by omega))
        · by_cases h2 : i < A + 130 + 8 * j
          · exact .inl (.inl (.inr (.inr (by omega))))
          · exact .inr (by omega)))
      clear hr4 KN3
      go_wp2_with fail
      go_roundw
      case rel => exact ⟨j + 1, by omega, by go_num, HR4.out⟩
      case measure => simp [intOf]; omega
    · obtain rfl : j = 16 := by omega
      have KN := Lib.hid (renew_any (a := A + 258) (b := g) (o := o + 258) (n := 256) (cap := 256) HZ.out (fun m hm => HY.out.rest (by have := HA.out; omega) (by have := HA.out; omega) (by have := HA.out; omega)) (by have := HA.out; omega) (by decide) hr)
      have i1 : ¬ ((16 : Nat) : Int) < 16 := by omega
      clear hr
      go_wp2_with fail
      refine KN.out.mono ?_
      rintro e w3 ⟨rfl, hr3⟩
      have HR3 := Lib.hid (hr3.mono (D' := fun i => D i ∨ (A ≤ i ∧ i < A + 514)) (fun i hi => by
        rcases hi with h | h
        · exact .inl (.inl h)
        · by_cases h2 : i < A + 130
          · exact .inl (.inr (.inl (by omega)))
          · by_cases h3 : i < A + 258
            · exact .inl (.inr (.inr (by omega)))
            · exact .inr (by omega)))
      clear hr3 KN
      go_wp2_with fail
      first | go_end0 | refine bodyPost_ret (results_none rfl _ _ _) rfl ?_
      exact ⟨rfl, HR3.out⟩

set_option maxRecDepth 100000 in
set_option maxHeartbeats 16000000 in
theorem chances_renew (Z : Prb R B ad L) (hy : Lay ad g o0) (hL : 1847 ≤ L) (h : RnAt R B w0 D w) :
    Calls Tryz.prog 87 #[.pointer (some ⟨g, o0, none⟩)] w fun e w' => e = .returned (.tuple #[]) ∧ RnAt R B w0 (fun i => D i ∨ i < 1847) w' := by
  have HR := Lib.hid h
  have HZ := Lib.hid Z
  have KR := Lib.hid (fun (a o n cap : Nat) (w2 : World) (D2 : Nat → Prop) (had : ∀ j, j < n → ad (a + j) = (g, o + j)) (haL : a + n ≤ 1847) (h2 : RnAt R B w0 D2 w2) => renew_any (a := a) (b := g) (o := o) (n := n) (cap := cap) Z had (by omega) (by omega) h2)
  have KL := Lib.hid (fun (A o : Nat) (w2 : World) (D2 : Nat → Prop) (h1 : 688 ≤ A) (h2 : A + 514 ≤ 1847) (h3 : o = o0 + (A - 256)) (h4 : RnAt R B w0 D2 w2) => lens_renew Z hy hL h1 h2 h3 h4)
  have HY := Lib.hid hy
  clear h Z hy hL
  go_enter Tryz.func87, Tryz.ntmps87
  go_wp2_with fail
  go_loopw [2, 4] (fun _ i wr => ∃ j : Nat, j ≤ 12 ∧ i = .int .i64 (j : Int) ∧ RnAt R B w0 (fun i => D i ∨ (i < 16 * j) ∨ (240 ≤ i ∧ i < 240 + 16 * j)) wr) (fun _ i _ => 12 - (intOf i).toNat)
  case atStart => exact ⟨0, by omega, rfl, HR.out.mono (fun i hi => by rcases hi with h | h | h; exact h; omega; omega)⟩
  case round =>
    clear HR
    obtain ⟨j, hj, rfl, hr⟩ := hrel
    by_cases hlt : j < 12
    · have KN := Lib.hid (KR.out (16 * j) (o0 + j * 16) 16 16 _ _ (fun m hm => HY.out.low (by omega) (by omega)) (by omega) hr)
      have KN2 := Lib.hid (fun (w2 : World) (D2 : Nat → Prop) (h2 : RnAt R B w0 D2 w2) => KR.out (240 + 16 * j) (o0 + 192 + j * 16) 16 16 _ _ (fun m hm => HY.out.long (by omega) (by omega) (by omega)) (by omega) h2)
      have i1 : (j : Int) < 12 := by omega
      have i0 : (0 : Int) ≤ (j : Int) := by omega
      clear hr
      go_wp2_with fail
      refine KN.out.mono ?_
      rintro e w3 ⟨rfl, hr3⟩
      have KN3 := Lib.hid (KN2.out _ _ hr3)
      clear hr3 KN KN2
      go_wp2_with fail
      refine KN3.out.mono ?_
      rintro e w4 ⟨rfl, hr4⟩
      have HR4 := Lib.hid (hr4.mono (D' := fun i => D i ∨ (i < 16 * (j + 1)) ∨ (240 ≤ i ∧ i < 240 + 16 * (j + 1))) (fun i hi => by
        rcases hi with h | h | h
        · exact .inl (.inl (.inl h))
        · by_cases h2 : i < 16 * j
          · exact .inl (.inl (.inr (.inl h2)))
          · exact .inl (.inr (by omega))
        · by_cases h2 : i < 240 + 16 * j
          · exact .inl (.inl (.inr (.inr (by omega))))
          · exact .inr (by omega)))
      clear hr4 KN3
      go_wp2_with fail
      go_roundw
      case rel => exact ⟨j + 1, by omega, by go_num, HR4.out⟩
      case measure => simp [intOf]; omega
    · obtain rfl : j = 12 := by omega
      have i1 : ¬ ((12 : Nat) : Int) < 12 := by omega
      have hq : RnAt R B w0 (fun i => D i ∨ i < 192 ∨ (240 ≤ i ∧ i < 432)) wr := hr.mono (fun i hi => by rcases hi with h | h | h; exact .inl h; exact .inr (.inl (by omega)); exact .inr (.inr (by omega)))
      have KN := Lib.hid (KR.out 192 (o0 + 384) 12 12 _ _ (fun m hm => HY.out.rep (by omega) (by omega) (by omega)) (by omega) hq)
      clear hr hq
      go_wp2_with fail
      refine KN.out.mono ?_
      rintro e w3 ⟨rfl, hr3⟩
      have KN := Lib.hid (KR.out 204 (o0 + 396) 12 12 _ _ (fun m hm => HY.out.rep (by omega) (by omega) (by omega)) (by omega) hr3)
      clear hr3
      go_wp2_with fail
      refine KN.out.mono ?_
      rintro e w4 ⟨rfl, hr3⟩
      have KN := Lib.hid (KR.out 216 (o0 + 408) 12 12 _ _ (fun m hm => HY.out.rep (by omega) (by omega) (by omega)) (by omega) hr3)
      clear hr3
      go_wp2_with fail
      refine KN.out.mono ?_
      rintro e w5 ⟨rfl, hr3⟩
      have KN := Lib.hid (KR.out 228 (o0 + 420) 12 12 _ _ (fun m hm => HY.out.rep (by omega) (by omega) (by omega)) (by omega) hr3)
      clear hr3
      go_wp2_with fail
      refine KN.out.mono ?_
      rintro e w6 ⟨rfl, hr3⟩
      have HR6 := Lib.hid (hr3.mono (D' := fun i => D i ∨ i < 432) (fun i hi => by
        rcases hi with h | h
        · exact .inl (.inl (.inl (.inl (.inl h))))
        · by_cases h1 : i < 192
          · exact .inl (.inl (.inl (.inl (.inr (.inl h1)))))
          · by_cases h2 : i < 204
            · exact .inl (.inl (.inl (.inr (by omega))))
            · by_cases h3 : i < 216
              · exact .inl (.inl (.inr (by omega)))
              · by_cases h4 : i < 228
                · exact .inl (.inr (by omega))
                · by_cases h5 : i < 240
                  · exact .inr (by omega)
                  · exact .inl (.inl (.inl (.inl (.inr (.inr (by omega))))))))
      clear hr3 KN
      go_wp2_with fail
      go_loopw [3, 42] (fun _ i wr => ∃ j : Nat, j ≤ 4 ∧ i = .int .i64 (j : Int) ∧ RnAt R B w0 (fun i => D i ∨ (i < 432 + 64 * j)) wr) (fun _ i _ => 4 - (intOf i).toNat)
      case atStart => exact ⟨0, by omega, rfl, HR6.out.mono (fun i hi => by rcases hi with h | h; exact .inl h; exact .inr (by omega))⟩
      case round =>
        clear HR6
        obtain ⟨j, hj, rfl, hr⟩ := hrel
        by_cases hlt2 : j < 4
        · have KN := Lib.hid (KR.out (432 + 64 * j) (o0 + 1591 + j * 64) 64 64 _ _ (fun m hm => HY.out.slot (by omega) (by omega) (by omega)) (by omega) hr)
          have i1 : (j : Int) < 4 := by omega
          have i0 : (0 : Int) ≤ (j : Int) := by omega
          clear hr
          go_wp2_with fail
          refine KN.out.mono ?_
          rintro e w7 ⟨rfl, hr4⟩
          have HR7 := Lib.hid (hr4.mono (D' := fun i => D i ∨ (i < 432 + 64 * (j + 1))) (fun i hi => by
            rcases hi with h | h
            · exact .inl (.inl h)
            · by_cases h2 : i < 432 + 64 * j
              · exact .inl (.inr h2)
              · exact .inr (by omega)))
          clear hr4 KN
          go_wp2_with fail
          go_roundw
          case rel => exact ⟨j + 1, by omega, by go_num, HR7.out⟩
          case measure => simp [intOf]; omega
        · obtain rfl : j = 4 := by omega
          have i2 : ¬ ((4 : Nat) : Int) < 4 := by omega
          have KN := Lib.hid (KR.out 688 (o0 + 432) 115 115 _ _ (fun m hm => HY.out.rest (by omega) (by omega) (by omega)) (by omega) hr)
          clear hr
          go_wp2_with fail
          refine KN.out.mono ?_
          rintro e w7 ⟨rfl, hr3⟩
          have KN := Lib.hid (KR.out 803 (o0 + 547) 16 16 _ _ (fun m hm => HY.out.rest (by omega) (by omega) (by omega)) (by omega) hr3)
          clear hr3
          go_wp2_with fail
          refine KN.out.mono ?_
          rintro e w8 ⟨rfl, hr3⟩
          have KN := Lib.hid (KL.out 819 (o0 + 563) _ _ (by omega) (by omega) (by omega) hr3)
          clear hr3
          go_wp2_with fail
          refine KN.out.mono ?_
          rintro e w9 ⟨rfl, hr3⟩
          have KN := Lib.hid (KL.out 1333 (o0 + 1077) _ _ (by omega) (by omega) (by omega) hr3)
          clear hr3
          go_wp2_with fail
          refine KN.out.mono ?_
          rintro e w10 ⟨rfl, hr3⟩
          have HR10 := Lib.hid (hr3.mono (D' := fun i => D i ∨ i < 1847) (fun i hi => by
            rcases hi with h | h
            · exact .inl (.inl (.inl (.inl (.inl h))))
            · by_cases h1 : i < 688
              · exact .inl (.inl (.inl (.inl (.inr (by omega)))))
              · by_cases h2 : i < 803
                · exact .inl (.inl (.inl (.inr (by omega))))
                · by_cases h3 : i < 819
                  · exact .inl (.inl (.inr (by omega)))
                  · by_cases h4 : i < 1333
                    · exact .inl (.inr (by omega))
                    · exact .inr (by omega)))
          clear hr3 KN
          go_wp2_with fail
          first | go_end0 | refine bodyPost_ret (results_none rfl _ _ _) rfl ?_
          exact ⟨rfl, HR10.out⟩
end
end Go.Proofs.YtiolfjhddbiglaaGreatDoor

/-
  The range coder as numbers: its bytes as one great number, how many they are, its range; and what the decoder tells of what it coded.
-/
namespace Go.Proofs.YtiolfjhddbiglaaGreatDoor

structure En where
  n : Nat
  l : Nat
  r : Nat

def En.new : En := ⟨0, 5, 4294967295⟩
/-- evened out -/
def En.even (e : En) : En := if e.r < 16777216 then ⟨e.n * 256, e.l + 1, e.r * 256⟩ else e
def En.bit (e : En) (p b : Nat) : En := if b = 0 then En.even ⟨e.n, e.l, e.r / 2048 * p⟩ else En.even ⟨e.n + e.r / 2048 * p, e.l, e.r - e.r / 2048 * p⟩
def En.one (e : En) (b : Nat) : En := if b = 0 then En.even ⟨e.n, e.l, e.r / 2⟩ else En.even ⟨e.n + e.r / 2, e.l, e.r / 2⟩

/-- its number and its range are within the bytes, a first byte 0 left -/
def EnIn (e : En) : Prop := 5 ≤ e.l ∧ e.n + e.r ≤ 4294967295 * 256 ^ (e.l - 5)
def EnOk (e : En) : Prop := 16777216 ≤ e.r ∧ e.r < 4294967296 ∧ EnIn e
theorem enOk_new : EnOk En.new := ⟨by decide, by decide, by decide, by decide⟩

/-- e' is further on than e -/
def Reach (e e' : En) : Prop := ∃ k, e'.l = e.l + k ∧ e.n * 256 ^ k ≤ e'.n ∧ e'.n + e'.r ≤ (e.n + e.r) * 256 ^ k
theorem Reach.refl (e : En) : Reach e e := ⟨0, rfl, by simp, by simp⟩
theorem Reach.trans {a b c : En} (h : Reach a b) (k : Reach b c) : Reach a c := by
  obtain ⟨x, h1, h2, h3⟩ := h
  obtain ⟨y, k1, k2, k3⟩ := k
  refine ⟨x + y, by omega, ?_, ?_⟩
  · rw [Nat.pow_add, ← Nat.mul_assoc]
    exact Nat.le_trans (Nat.mul_le_mul_right _ h2) k2
  · rw [Nat.pow_add, ← Nat.mul_assoc]
    exact Nat.le_trans k3 (Nat.mul_le_mul_right _ h3)
theorem reach_even (e : En) : Reach e e.even := by
  unfold En.even
  split
  · exact ⟨1, rfl, by simp, by show e.n * 256 + e.r * 256 ≤ _; rw [Nat.pow_one, Nat.add_mul]; omega⟩
  · exact Reach.refl e
theorem enIn_even {e : En} (h : EnIn e) : EnIn e.even := by
  unfold En.even
  split
  · obtain ⟨h1, h2⟩ := h
    refine ⟨by show 5 ≤ e.l + 1; omega, ?_⟩
    show e.n * 256 + e.r * 256 ≤ 4294967295 * 256 ^ (e.l + 1 - 5)
    rw [show e.l + 1 - 5 = (e.l - 5) + 1 by omega, Nat.pow_succ, ← Nat.mul_assoc]
    omega
  · exact h
theorem enOk_even {e : En} (h : EnIn e) (h0 : 65536 ≤ e.r) (h1 : e.r < 4294967296) : EnOk e.even := by
  refine ⟨?_, ?_, enIn_even h⟩
  · unfold En.even
    split
    · show 16777216 ≤ e.r * 256; omega
    · omega
  · unfold En.even
    split
    · show e.r * 256 < 4294967296; omega
    · exact h1

theorem reach_low {e : En} {z : Nat} (hz : z ≤ e.r) : Reach e ⟨e.n, e.l, z⟩ := ⟨0, rfl, by simp, by simp; omega⟩
theorem reach_high {e : En} {z y : Nat} (hz : z + y ≤ e.r) : Reach e ⟨e.n + z, e.l, y⟩ := ⟨0, rfl, by simp, by simp; omega⟩

theorem bit_reach {e : En} {p b : Nat} (h : EnOk e) (hp : POk p) : Reach e (e.bit p b) := by
  obtain ⟨b0, b1⟩ := bound_in h.1 h.2.1 hp
  unfold En.bit
  split
  · exact (reach_low (by omega)).trans (reach_even _)
  · exact (reach_high (by omega)).trans (reach_even _)
theorem bit_ok {e : En} {p b : Nat} (h : EnOk e) (hp : POk p) : EnOk (e.bit p b) := by
  obtain ⟨b0, b1⟩ := bound_in h.1 h.2.1 hp
  obtain ⟨h0, h1, h2, h3⟩ := h
  unfold En.bit
  split
  · exact enOk_even ⟨h2, by show e.n + e.r / 2048 * p ≤ 4294967295 * 256 ^ (e.l - 5); omega⟩ (by show 65536 ≤ e.r / 2048 * p; omega) (by show e.r / 2048 * p < _; omega)
  · exact enOk_even ⟨h2, by show e.n + e.r / 2048 * p + (e.r - e.r / 2048 * p) ≤ 4294967295 * 256 ^ (e.l - 5); omega⟩ (by show 65536 ≤ e.r - e.r / 2048 * p; omega) (by show e.r - e.r / 2048 * p < _; omega)
theorem one_reach {e : En} {b : Nat} : Reach e (e.one b) := by
  unfold En.one
  split
  · exact (reach_low (Nat.div_le_self _ _)).trans (reach_even _)
  · exact (reach_high (by omega)).trans (reach_even _)
theorem one_ok {e : En} {b : Nat} (h : EnOk e) : EnOk (e.one b) := by
  obtain ⟨h0, h1, h2, h3⟩ := h
  unfold En.one
  split
  · exact enOk_even ⟨h2, by show e.n + e.r / 2 ≤ 4294967295 * 256 ^ (e.l - 5); omega⟩ (by show 65536 ≤ e.r / 2; omega) (by show e.r / 2 < _; omega)
  · exact enOk_even ⟨h2, by show e.n + e.r / 2 + e.r / 2 ≤ 4294967295 * 256 ^ (e.l - 5); omega⟩ (by show 65536 ≤ e.r / 2; omega) (by show e.r / 2 < _; omega)

/-- the bytes that a coder gives in the end -/
structure Ends (bs : List UInt8) (f : En) : Prop where
  num : be bs = f.n
  len : bs.length = f.l
  pos : 0 < f.r

/-- the decoder that has come as far as e -/
def decAt (bs more : List UInt8) (e : En) : Dc := some (e.r, be (bs.take e.l) - e.n, bs.drop e.l ++ more)

section
variable {bs more : List UInt8} {f : En}

theorem between {e : En} (hf : Ends bs f) (h : Reach e f) : e.n ≤ be (bs.take e.l) ∧ be (bs.take e.l) < e.n + e.r ∧ e.l ≤ bs.length := by
  obtain ⟨k, h1, h2, h3⟩ := h
  have hl := hf.len
  obtain ⟨t1, t2⟩ := be_take bs e.l
  rw [hf.num, show bs.length - e.l = k by omega] at t1 t2
  have hp := hf.pos
  have hk : 0 < 256 ^ k := Nat.pow_pos (by omega)
  refine ⟨?_, ?_, by omega⟩
  · have : e.n * 256 ^ k < (be (bs.take e.l) + 1) * 256 ^ k := by omega
    have := Nat.lt_of_mul_lt_mul_right this
    omega
  · have : be (bs.take e.l) * 256 ^ k < (e.n + e.r) * 256 ^ k := by omega
    exact Nat.lt_of_mul_lt_mul_right this

theorem even_dec {e : En} (hf : Ends bs f) (h : Reach e.even f) : lvl e.r (be (bs.take e.l) - e.n) (bs.drop e.l ++ more) = decAt bs more e.even := by
  have h0 := between hf ((reach_even e).trans h)
  unfold lvl decAt
  by_cases hr : e.r < 16777216
  · have he : e.even = ⟨e.n * 256, e.l + 1, e.r * 256⟩ := by unfold En.even; rw [if_pos hr]
    obtain ⟨_, _, h3⟩ := between hf h
    rw [he] at h3 ⊢
    have hlt : e.l < bs.length := h3
    rw [if_pos hr, List.drop_eq_getElem_cons hlt]
    show some (e.r * 256, (be (bs.take e.l) - e.n) * 256 + (bs[e.l]).toNat, bs.drop (e.l + 1) ++ more) = some (e.r * 256, be (bs.take (e.l + 1)) - e.n * 256, bs.drop (e.l + 1) ++ more)
    rw [be_take_succ hlt]
    congr 3
    omega
  · have he : e.even = e := by unfold En.even; rw [if_neg hr]
    rw [if_neg hr, he]

def upOf (p b : Nat) : Nat := if b = 0 then up0 p else up1 p
theorem pOk_upOf {p b : Nat} (h : POk p) : POk (upOf p b) := by unfold upOf; split; exact pOk_up0 h; exact pOk_up1 h

theorem bit_dec {e : En} {p b : Nat} (hf : Ends bs f) (he : EnOk e) (hp : POk p) (hb : b ≤ 1) (h : Reach (e.bit p b) f) : bitD (decAt bs more e) p = (b, upOf p b, decAt bs more (e.bit p b)) := by
  obtain ⟨b0, b1⟩ := bound_in he.1 he.2.1 hp
  unfold En.bit at h ⊢
  unfold bitD decAt upOf
  simp only []
  by_cases hb0 : b = 0
  · subst hb0
    rw [if_pos rfl] at h ⊢
    obtain ⟨t1, t2, t3⟩ := between hf ((reach_even _).trans h)
    simp only [] at t1 t2 t3
    rw [if_pos (by omega), if_pos rfl]
    have := even_dec (more := more) hf h
    unfold decAt at this
    simp only [] at this
    rw [this]
  · obtain rfl : b = 1 := by omega
    rw [if_neg hb0] at h ⊢
    obtain ⟨t1, t2, t3⟩ := between hf ((reach_even _).trans h)
    simp only [] at t1 t2 t3
    rw [if_neg (by omega), if_neg hb0]
    have := even_dec (more := more) hf h
    unfold decAt at this
    simp only [] at this
    rw [Nat.sub_sub, this]

theorem one_dec {e : En} {b : Nat} (hf : Ends bs f) (hb : b ≤ 1) (h : Reach (e.one b) f) : oneD (decAt bs more e) = (b, decAt bs more (e.one b)) := by
  unfold En.one at h ⊢
  unfold oneD decAt
  simp only []
  by_cases hb0 : b = 0
  · subst hb0
    rw [if_pos rfl] at h ⊢
    obtain ⟨t1, t2, t3⟩ := between hf ((reach_even _).trans h)
    simp only [] at t1 t2 t3
    rw [if_pos (by omega)]
    have := even_dec (more := more) hf h
    unfold decAt at this
    simp only [] at this
    rw [this]
  · obtain rfl : b = 1 := by omega
    rw [if_neg hb0] at h ⊢
    obtain ⟨t1, t2, t3⟩ := between hf ((reach_even _).trans h)
    simp only [] at t1 t2 t3
    rw [if_neg (by omega), if_pos (by omega)]
    have := even_dec (more := more) hf h
    unfold decAt at this
    simp only [] at this
    rw [Nat.sub_sub, this]

/-! ### numbers told straight -/

/-- bit number i of v, from the least -/
def bitOf (v i : Nat) : Nat := v / 2 ^ i % 2
theorem bitOf_le (v i : Nat) : bitOf v i ≤ 1 := by unfold bitOf; omega
def strE (e : En) (v n : Nat) : Nat → En
  | 0 => e
  | j + 1 => (strE e v n j).one (bitOf v (n - 1 - j))
theorem strE_reach (e : En) (v n : Nat) : ∀ i j, Reach (strE e v n i) (strE e v n (i + j))
  | _, 0 => Reach.refl _
  | i, j + 1 => (strE_reach e v n i j).trans one_reach
theorem strE_ok {e : En} (h : EnOk e) (v n : Nat) : ∀ j, EnOk (strE e v n j)
  | 0 => h
  | j + 1 => one_ok (strE_ok h v n j)
theorem top_bits (v n j : Nat) (hj : j < n) : 2 * (v % 2 ^ n / 2 ^ (n - j)) + bitOf v (n - 1 - j) = v % 2 ^ n / 2 ^ (n - (j + 1)) := by
  obtain ⟨i, hi⟩ : ∃ i, i = n - 1 - j := ⟨_, rfl⟩
  rw [show n - j = i + 1 by omega, show n - (j + 1) = i by omega, ← hi]
  unfold bitOf
  have e1 : v / 2 ^ i % 2 = v % 2 ^ n / 2 ^ i % 2 := by
    have hp : 2 ^ n = 2 ^ i * 2 ^ (n - i) := by rw [← Nat.pow_add]; congr 1; omega
    rw [hp, Nat.mod_mul_right_div_self]
    have h2 : 2 ^ (n - i) = 2 * 2 ^ (n - i - 1) := by rw [Nat.mul_comm, ← Nat.pow_succ]; congr 1; omega
    rw [h2, Nat.mod_mul_right_mod]
  rw [e1, Nat.pow_succ, ← Nat.div_div_eq_div_mul]
  omega
theorem straight_dec {e : En} {v n : Nat} (hf : Ends bs f) (h : Reach (strE e v n n) f) : ∀ j, j ≤ n → straightGo (decAt bs more e) j = (v % 2 ^ n / 2 ^ (n - j), decAt bs more (strE e v n j))
  | 0, _ => by
    show (0, decAt bs more e) = _
    rw [Nat.sub_zero, Nat.div_eq_of_lt (Nat.mod_lt _ (Nat.two_pow_pos n))]
    rfl
  | j + 1, hj => by
    have ih := straight_dec hf h j (by omega)
    have hr : Reach ((strE e v n j).one (bitOf v (n - 1 - j))) f := by
      have := strE_reach e v n (j + 1) (n - (j + 1))
      rw [show j + 1 + (n - (j + 1)) = n by omega] at this
      exact this.trans h
    show (2 * (straightGo (decAt bs more e) j).1 + (oneD (straightGo (decAt bs more e) j).2).1, (oneD (straightGo (decAt bs more e) j).2).2) = _
    rw [ih, one_dec hf (bitOf_le _ _) hr]
    show (2 * (v % 2 ^ n / 2 ^ (n - j)) + bitOf v (n - 1 - j), _) = _
    rw [top_bits v n j hj]
    rfl

/-! ### trees -/

structure Et where
  m : Nat
  ps : List Nat
  e : En
def Et.step (a b : Nat) (t : Et) : Et := ⟨2 * t.m + b, t.ps.set (a + t.m) (upOf (t.ps.getD (a + t.m) 0) b), t.e.bit (t.ps.getD (a + t.m) 0) b⟩
def treE (bits : Nat → Nat) (a : Nat) (ps : List Nat) (e : En) : Nat → Et
  | 0 => ⟨1, ps, e⟩
  | j + 1 => (treE bits a ps e j).step a (bits j)

theorem treE_ok {bits : Nat → Nat} {a n : Nat} {ps : List Nat} {e : En} (hb : ∀ i, bits i ≤ 1) (he : EnOk e) (hp : PsOk ps) (hl : a + 2 ^ n ≤ ps.length) :
    ∀ j, j ≤ n → EnOk (treE bits a ps e j).e ∧ PsOk (treE bits a ps e j).ps ∧ (treE bits a ps e j).ps.length = ps.length ∧ 2 ^ j ≤ (treE bits a ps e j).m ∧ (treE bits a ps e j).m < 2 ^ (j + 1) := by
  intro j
  induction j with
  | zero => intro _; exact ⟨he, hp, rfl, by simp [treE], by simp [treE]⟩
  | succ j ih =>
    intro hj
    obtain ⟨h1, h2, h3, h4, h5⟩ := ih (by omega)
    show EnOk (Et.step a _ _).e ∧ PsOk (Et.step a _ _).ps ∧ (Et.step a _ _).ps.length = _ ∧ _ ≤ (Et.step a _ _).m ∧ (Et.step a _ _).m < _
    generalize treE bits a ps e j = t at *
    have hpow : 2 ^ (j + 1) ≤ 2 ^ n := Nat.pow_le_pow_right (by omega) hj
    have hg := getD_ok h2 (show a + t.m < t.ps.length by omega)
    have hbj := hb j
    have e1 : 2 ^ (j + 1) = 2 * 2 ^ j := by rw [Nat.pow_succ, Nat.mul_comm]
    have e2 : 2 ^ (j + 1 + 1) = 2 * 2 ^ (j + 1) := by rw [Nat.pow_succ, Nat.mul_comm]
    refine ⟨bit_ok h1 hg, psOk_set h2 _ (pOk_upOf hg), by simp [Et.step, h3], ?_, ?_⟩
    · show _ ≤ 2 * t.m + bits j; omega
    · show 2 * t.m + bits j < _; omega
theorem treE_reach {bits : Nat → Nat} {a n : Nat} {ps : List Nat} {e : En} (hb : ∀ i, bits i ≤ 1) (he : EnOk e) (hp : PsOk ps) (hl : a + 2 ^ n ≤ ps.length) (i : Nat) :
    ∀ j, i + j ≤ n → Reach (treE bits a ps e i).e (treE bits a ps e (i + j)).e := by
  intro j
  induction j with
  | zero => intro _; exact Reach.refl _
  | succ j ih =>
    intro hj
    obtain ⟨h1, h2, h3, h4, h5⟩ := treE_ok hb he hp hl (i + j) (by omega)
    have hpow : 2 ^ (i + j + 1) ≤ 2 ^ n := Nat.pow_le_pow_right (by omega) (by omega)
    have hlt : a + (treE bits a ps e (i + j)).m < (treE bits a ps e (i + j)).ps.length := by omega
    exact (ih (by omega)).trans (bit_reach h1 (getD_ok h2 hlt))

theorem tree_dec {bits : Nat → Nat} {a n : Nat} {ps : List Nat} {e : En} (hf : Ends bs f) (hb : ∀ i, bits i ≤ 1) (he : EnOk e) (hp : PsOk ps) (hl : a + 2 ^ n ≤ ps.length) (h : Reach (treE bits a ps e n).e f) :
    ∀ j, j ≤ n → (Tr.go a (Tr.begin ps (decAt bs more e)) j).m = (treE bits a ps e j).m ∧ (Tr.go a (Tr.begin ps (decAt bs more e)) j).ps = (treE bits a ps e j).ps ∧ (Tr.go a (Tr.begin ps (decAt bs more e)) j).d = decAt bs more (treE bits a ps e j).e ∧
      (Tr.go a (Tr.begin ps (decAt bs more e)) j).v = 2 ^ j := by
  intro j
  induction j with
  | zero => intro _; exact ⟨rfl, rfl, rfl, rfl⟩
  | succ j ih =>
    intro hj
    obtain ⟨i1, i2, i3, i4⟩ := ih (by omega)
    obtain ⟨h1, h2, h3, h4, h5⟩ := treE_ok hb he hp hl j (by omega)
    have hpow : 2 ^ (j + 1) ≤ 2 ^ n := Nat.pow_le_pow_right (by omega) hj
    have hr : Reach ((treE bits a ps e j).e.bit ((treE bits a ps e j).ps.getD (a + (treE bits a ps e j).m) 0) (bits j)) f := by
      have := treE_reach hb he hp hl (j + 1) (n - (j + 1)) (by omega)
      rw [show j + 1 + (n - (j + 1)) = n by omega] at this
      exact this.trans h
    have hd := bit_dec (more := more) hf h1 (getD_ok h2 (show a + (treE bits a ps e j).m < (treE bits a ps e j).ps.length by omega)) (hb j) hr
    show (Tr.step a _).m = (Et.step a _ _).m ∧ (Tr.step a _).ps = (Et.step a _ _).ps ∧ (Tr.step a _).d = decAt bs more (Et.step a _ _).e ∧ (Tr.step a _).v = _
    generalize Tr.go a (Tr.begin ps (decAt bs more e)) j = T at *
    generalize treE bits a ps e j = t at *
    have hbit : T.bit a = (bits j, upOf (t.ps.getD (a + t.m) 0) (bits j), decAt bs more (t.e.bit (t.ps.getD (a + t.m) 0) (bits j))) := by
      unfold Tr.bit
      rw [i1, i2, i3, hd]
    refine ⟨?_, ?_, ?_, ?_⟩
    · show 2 * T.m + (T.bit a).1 = 2 * t.m + bits j
      rw [hbit, i1]
    · show T.ps.set (a + T.m) (T.bit a).2.1 = t.ps.set (a + t.m) _
      rw [hbit, i1, i2]
    · show (T.bit a).2.2 = _
      rw [hbit]
      rfl
    · show 2 * T.v = _
      rw [i4, Nat.pow_succ, Nat.mul_comm]
theorem tree_o {bits : Nat → Nat} {a n : Nat} {ps : List Nat} {e : En} (hf : Ends bs f) (hb : ∀ i, bits i ≤ 1) (he : EnOk e) (hp : PsOk ps) (hl : a + 2 ^ n ≤ ps.length) (h : Reach (treE bits a ps e n).e f) :
    ∀ j, j < n → (Tr.go a (Tr.begin ps (decAt bs more e)) (j + 1)).o = (Tr.go a (Tr.begin ps (decAt bs more e)) j).o + bits j * 2 ^ j := by
  intro j hj
  obtain ⟨i1, i2, i3, i4⟩ := tree_dec (more := more) hf hb he hp hl h j (by omega)
  obtain ⟨k1, _⟩ := tree_dec (more := more) hf hb he hp hl h (j + 1) (by omega)
  have e1 : (Tr.go a (Tr.begin ps (decAt bs more e)) (j + 1)).m = 2 * (Tr.go a (Tr.begin ps (decAt bs more e)) j).m + ((Tr.go a (Tr.begin ps (decAt bs more e)) j).bit a).1 := rfl
  have e2 : (treE bits a ps e (j + 1)).m = 2 * (treE bits a ps e j).m + bits j := rfl
  have hbit : ((Tr.go a (Tr.begin ps (decAt bs more e)) j).bit a).1 = bits j := by omega
  show (Tr.go a (Tr.begin ps (decAt bs more e)) j).o + ((Tr.go a (Tr.begin ps (decAt bs more e)) j).bit a).1 * (Tr.go a (Tr.begin ps (decAt bs more e)) j).v = _
  rw [hbit, i4]

/-- the greatest bit first -/
def topBits (v n : Nat) (j : Nat) : Nat := bitOf v (n - 1 - j)
theorem tree_m {v a n : Nat} {ps : List Nat} {e : En} : ∀ j, j ≤ n → (treE (topBits v n) a ps e j).m = 2 ^ j + v % 2 ^ n / 2 ^ (n - j)
  | 0, _ => by
    rw [Nat.sub_zero, Nat.div_eq_of_lt (Nat.mod_lt _ (Nat.two_pow_pos n))]
    rfl
  | j + 1, hj => by
    show 2 * (treE (topBits v n) a ps e j).m + bitOf v (n - 1 - j) = _
    rw [tree_m j (by omega), ← top_bits v n j hj, Nat.pow_succ]
    omega
theorem low_bits (v j : Nat) : v % 2 ^ j + bitOf v j * 2 ^ j = v % 2 ^ (j + 1) := by
  unfold bitOf
  rw [Nat.pow_succ, Nat.mod_mul, Nat.mul_comm]
theorem rev_o {v a n : Nat} {ps : List Nat} {e : En} (hf : Ends bs f) (he : EnOk e) (hp : PsOk ps) (hl : a + 2 ^ n ≤ ps.length) (h : Reach (treE (bitOf v) a ps e n).e f) :
    ∀ j, j ≤ n → (Tr.go a (Tr.begin ps (decAt bs more e)) j).o = v % 2 ^ j
  | 0, _ => by rw [Nat.pow_zero, Nat.mod_one]; rfl
  | j + 1, hj => by rw [tree_o hf (bitOf_le v) he hp hl h j hj, rev_o hf he hp hl h j (by omega), low_bits]

/-! ### questions -/

/-- what is coded of a question: the probabilities then, and the coder -/
def askE (ps : List Nat) (e : En) (k a n v : Nat) : List Nat × En :=
  if k = 0 then (ps.set a (upOf (ps.getD a 0) (v % 2)), e.bit (ps.getD a 0) (v % 2))
  else if k = 3 then (ps, strE e v n n)
  else if k = 1 then ((treE (topBits v n) a ps e n).ps, (treE (topBits v n) a ps e n).e)
  else ((treE (bitOf v) a ps e n).ps, (treE (bitOf v) a ps e n).e)
def wantOf (k n v : Nat) : Nat := if k = 0 then v % 2 else v % 2 ^ n

end

/-! ### lengths -/
theorem even_len (e : En) : e.even.l ≤ e.l + 1 := by unfold En.even; split; exact Nat.le_refl _; omega
theorem bit_len (e : En) (p b : Nat) : (e.bit p b).l ≤ e.l + 1 := by unfold En.bit; split; exact even_len _; exact even_len _
theorem one_len (e : En) (b : Nat) : (e.one b).l ≤ e.l + 1 := by unfold En.one; split; exact even_len _; exact even_len _
theorem strE_len (e : En) (v n : Nat) : ∀ j, (strE e v n j).l ≤ e.l + j
  | 0 => Nat.le_refl _
  | j + 1 => by have := one_len (strE e v n j) (bitOf v (n - 1 - j)); have := strE_len e v n j; show ((strE e v n j).one _).l ≤ _; omega
theorem treE_len (bits : Nat → Nat) (a : Nat) (ps : List Nat) (e : En) : ∀ j, (treE bits a ps e j).e.l ≤ e.l + j
  | 0 => Nat.le_refl _
  | j + 1 => by
    have := treE_len bits a ps e j
    have := bit_len (treE bits a ps e j).e ((treE bits a ps e j).ps.getD (a + (treE bits a ps e j).m) 0) (bits j)
    show ((treE bits a ps e j).e.bit _ _).l ≤ _
    omega
/-! ### bits 0, one behind the other, with one probability -/

def likely : Nat → Nat × En
  | 0 => (1024, En.new)
  | k + 1 => (up0 (likely k).1, (likely k).2.bit (likely k).1 0)
/-- the same, as its range and its length alone -/
def likR (s : Nat × Nat × Nat) : Nat × Nat × Nat := if s.2.1 / 2048 * s.1 < 16777216 then (up0 s.1, s.2.1 / 2048 * s.1 * 256, s.2.2 + 1) else (up0 s.1, s.2.1 / 2048 * s.1, s.2.2)
/-- k bits from s on, the i-th of them all: as many bytes as may be, at each -/
def likOk : Nat → Nat → Nat × Nat × Nat → Bool
  | 0, _, _ => true
  | f + 1, i, s => Nat.ble s.2.2 (12 + i / 40) && likOk f (i + 1) (likR s)
theorem likely_ok : ∀ k, EnOk (likely k).2 ∧ POk (likely k).1
  | 0 => ⟨enOk_new, pOk_fresh⟩
  | k + 1 => ⟨bit_ok (likely_ok k).1 (likely_ok k).2, pOk_up0 (likely_ok k).2⟩
end Go.Proofs.YtiolfjhddbiglaaGreatDoor

/-
  The packets of LZMA as numbers: one walk through the probabilities, over a machine that tells bits, or codes them.
-/
namespace Go.Proofs.YtiolfjhddbiglaaGreatDoor

/-- What tells a bit with a probability, or codes the wanted one: the bit, the probability then, the machine; and so many bits straight. -/
structure Mach (σ : Type) where
  bit : σ → Nat → Int → Nat × Nat × σ
  str : σ → Nat → Nat → Nat × σ
  bad : σ → Bool
  enc : Bool
def decM : Mach Dc := ⟨fun d p _ => bitD d p, fun d n _ => straightD n d, fun d => d.isNone, false⟩
def encM : Mach En := ⟨fun e p b => (b.toNat, upOf p b.toNat, e.bit p b.toNat), fun e n v => (v, strE e v n n), fun _ => false, true⟩

/-- probabilities, and a machine -/
structure Pm (σ : Type) where
  ps : List Nat
  x : σ
/-- what is wanted may be -/
def Mach.may {σ : Type} (M : Mach σ) (w : Int) : Prop := M.enc = true → w = 0 ∨ w = 1
def Mach.mayN {σ : Type} (M : Mach σ) (v : Int) : Prop := M.enc = true → 0 ≤ v
/-- bit number i of what is wanted -/
def want (v : Int) (i : Nat) : Int := (v.tdiv ((2 ^ i : Nat) : Int)).tmod 2
theorem want_nat (v i : Nat) : want (v : Int) i = ((bitOf v i : Nat) : Int) := by
  unfold want bitOf
  rw [Int.tdiv_eq_ediv_of_nonneg (by omega), ← Int.natCast_ediv]
  generalize v / 2 ^ i = y
  rw [Int.tmod_eq_emod_of_nonneg (by omega)]
  omega
theorem want_may {σ : Type} {M : Mach σ} {v : Int} (h : M.mayN v) (i : Nat) : M.may (want v i) := by
  intro he
  obtain ⟨n, rfl⟩ := Int.eq_ofNat_of_zero_le (h he)
  rw [want_nat]
  have := bitOf_le n i
  omega

/-- A machine that keeps its bounds; ok k: k bits more may be asked for. -/
structure MachOk {σ : Type} (M : Mach σ) (ok : Nat → σ → Prop) : Prop where
  mono : ∀ {x k k'}, ok k x → k' ≤ k → ok k' x
  bit : ∀ {x k p w}, ok (k + 1) x → POk p → M.may w → (M.bit x p w).1 ≤ 1 ∧ POk (M.bit x p w).2.1 ∧ ok k (M.bit x p w).2.2
  tell : ∀ {x p w}, M.enc = true → (M.bit x p w).1 = w.toNat
  str : ∀ {x k n v}, ok (k + 1) x → n ≤ 32 → (M.enc = true → v < 2 ^ n) → (M.str x n v).1 < 2 ^ n ∧ ok k (M.str x n v).2
def okD : Nat → Dc → Prop := fun _ d => DcOk d
def okE : Nat → En → Prop := fun k e => EnOk e ∧ e.l + 32 * k ≤ 900000000
theorem decM_ok : MachOk decM okD := ⟨fun h _ => h, fun hx hp _ => bitD_ok hx hp, fun h => (by cases h), fun hx _ _ => ⟨(straightD_ok hx).2, (straightD_ok hx).1⟩⟩
/-- probabilities in their bounds, so many, and a machine that may be asked for k bits -/
structure PmOk {σ : Type} (ok : Nat → σ → Prop) (L k : Nat) (t : Pm σ) : Prop where
  ps : PsOk t.ps
  len : t.ps.length = L
  x : ok k t.x

section
variable {σ : Type} (M : Mach σ)

def bitP (t : Pm σ) (a : Nat) (w : Int) : Nat × Pm σ := ((M.bit t.x (t.ps.getD a 0) w).1, ⟨t.ps.set a (M.bit t.x (t.ps.getD a 0) w).2.1, (M.bit t.x (t.ps.getD a 0) w).2.2⟩)

theorem bitP_ok {M : Mach σ} {ok : Nat → σ → Prop} (h : MachOk M ok) {L k a : Nat} {w : Int} {t : Pm σ} (ht : PmOk ok L (k + 1) t) (ha : a < L) (hw : M.may w) : (bitP M t a w).1 ≤ 1 ∧ PmOk ok L k (bitP M t a w).2 := by
  obtain ⟨h1, h2, h3⟩ := h.bit ht.x (getD_ok ht.ps (show a < t.ps.length by rw [ht.len]; exact ha)) hw
  exact ⟨h1, psOk_set ht.ps _ h2, by show (t.ps.set _ _).length = L; rw [List.length_set]; exact ht.len, h3⟩
theorem PmOk.mono {M : Mach σ} {ok : Nat → σ → Prop} (h : MachOk M ok) {L k k' : Nat} {t : Pm σ} (ht : PmOk ok L k t) (hk : k' ≤ k) : PmOk ok L k' t := ⟨ht.ps, ht.len, h.mono ht.x hk⟩

/-- a number of bits on its way: m leads through the tree, o is the number with the least bit first -/
structure Tg (σ : Type) where
  m : Nat
  o : Nat
  t : Pm σ
def tgStep (a i : Nat) (w : Int) (s : Tg σ) : Tg σ := ⟨2 * s.m + (bitP M s.t (a + s.m) w).1, s.o + (bitP M s.t (a + s.m) w).1 * 2 ^ i, (bitP M s.t (a + s.m) w).2⟩
/-- behind the first j of n bits, the greatest first -/
def treeG (t : Pm σ) (a n : Nat) (v : Int) : Nat → Tg σ
  | 0 => ⟨1, 0, t⟩
  | j + 1 => tgStep M a j (want v (n - 1 - j)) (treeG t a n v j)
def treeP (t : Pm σ) (a n : Nat) (v : Int) : Nat × Pm σ := ((treeG M t a n v n).m - 2 ^ n, (treeG M t a n v n).t)
theorem tgStep_ok {M : Mach σ} {ok : Nat → σ → Prop} (h : MachOk M ok) {L k a i : Nat} {w : Int} {s : Tg σ} (ht : PmOk ok L (k + 1) s.t) (ha : a + s.m < L) (hw : M.may w) :
    PmOk ok L k (tgStep M a i w s).t ∧ 2 * s.m ≤ (tgStep M a i w s).m ∧ (tgStep M a i w s).m ≤ 2 * s.m + 1 ∧ (tgStep M a i w s).o ≤ s.o + 2 ^ i := by
  obtain ⟨h1, h2⟩ := bitP_ok h ht ha hw
  refine ⟨h2, Nat.le_add_right _ _, by show 2 * s.m + _ ≤ _; omega, ?_⟩
  show s.o + (bitP M s.t (a + s.m) w).1 * 2 ^ i ≤ _
  have := Nat.mul_le_mul_right (2 ^ i) h1
  omega
theorem treeG_ok {M : Mach σ} {ok : Nat → σ → Prop} (h : MachOk M ok) {L k a n : Nat} {v : Int} {t : Pm σ} (ht : PmOk ok L (k + n) t) (ha : a + 2 ^ n ≤ L) (hv : M.mayN v) :
    ∀ j, j ≤ n → PmOk ok L (k + n - j) (treeG M t a n v j).t ∧ 2 ^ j ≤ (treeG M t a n v j).m ∧ (treeG M t a n v j).m < 2 ^ (j + 1)
  | 0, _ => ⟨ht, Nat.le_refl _, by show 1 < 2 ^ 1; decide⟩
  | j + 1, hj => by
    obtain ⟨h1, h2, h3⟩ := treeG_ok h ht ha hv j (by omega)
    have hp : 2 ^ (j + 1) ≤ 2 ^ n := Nat.pow_le_pow_right (by omega) hj
    obtain ⟨k1, k2, k3, _⟩ := tgStep_ok (i := j) h (k := k + n - (j + 1)) (a := a) (w := want v (n - 1 - j)) (by rw [show k + n - (j + 1) + 1 = k + n - j by omega]; exact h1) (by omega) (want_may hv _)
    refine ⟨k1, ?_, ?_⟩
    · show 2 ^ (j + 1) ≤ (tgStep M a j _ _).m
      rw [Nat.pow_succ]; omega
    · show (tgStep M a j _ _).m < 2 ^ (j + 1 + 1)
      rw [Nat.pow_succ 2 (j + 1)]; omega
theorem treeP_ok {M : Mach σ} {ok : Nat → σ → Prop} (h : MachOk M ok) {L k a n : Nat} {v : Int} {t : Pm σ} (ht : PmOk ok L (k + n) t) (ha : a + 2 ^ n ≤ L) (hv : M.mayN v) : (treeP M t a n v).1 < 2 ^ n ∧ PmOk ok L k (treeP M t a n v).2 := by
  obtain ⟨h1, h2, h3⟩ := treeG_ok h ht ha hv n (Nat.le_refl _)
  rw [show k + n - n = k by omega] at h1
  refine ⟨?_, h1⟩
  show (treeG M t a n v n).m - 2 ^ n < 2 ^ n
  rw [Nat.pow_succ] at h3
  omega

/-- the least first -/
def revG (t : Pm σ) (a : Nat) (v : Int) : Nat → Tg σ
  | 0 => ⟨1, 0, t⟩
  | j + 1 => tgStep M a j (want v j) (revG t a v j)
def revP (t : Pm σ) (a n : Nat) (v : Int) : Nat × Pm σ := ((revG M t a v n).o, (revG M t a v n).t)

theorem revG_ok {M : Mach σ} {ok : Nat → σ → Prop} (h : MachOk M ok) {L k a n : Nat} {v : Int} {t : Pm σ} (ht : PmOk ok L (k + n) t) (ha : a + 2 ^ n ≤ L) (hv : M.mayN v) :
    ∀ j, j ≤ n → PmOk ok L (k + n - j) (revG M t a v j).t ∧ 2 ^ j ≤ (revG M t a v j).m ∧ (revG M t a v j).m < 2 ^ (j + 1) ∧ (revG M t a v j).o < 2 ^ j
  | 0, _ => ⟨ht, Nat.le_refl _, by show 1 < 2 ^ 1; decide, by show 0 < 1; decide⟩
  | j + 1, hj => by
    obtain ⟨h1, h2, h3, h4⟩ := revG_ok h ht ha hv j (by omega)
    have hp : 2 ^ (j + 1) ≤ 2 ^ n := Nat.pow_le_pow_right (by omega) hj
    obtain ⟨k1, k2, k3, k4⟩ := tgStep_ok (i := j) h (k := k + n - (j + 1)) (a := a) (w := want v j) (by rw [show k + n - (j + 1) + 1 = k + n - j by omega]; exact h1) (by omega) (want_may hv _)
    refine ⟨k1, ?_, ?_, ?_⟩
    · show 2 ^ (j + 1) ≤ (tgStep M a j _ _).m
      rw [Nat.pow_succ]; omega
    · show (tgStep M a j _ _).m < 2 ^ (j + 1 + 1)
      rw [Nat.pow_succ 2 (j + 1)]; omega
    · show (tgStep M a j _ _).o < 2 ^ (j + 1)
      rw [Nat.pow_succ]; omega
theorem revP_ok {M : Mach σ} {ok : Nat → σ → Prop} (h : MachOk M ok) {L k a n : Nat} {v : Int} {t : Pm σ} (ht : PmOk ok L (k + n) t) (ha : a + 2 ^ n ≤ L) (hv : M.mayN v) : (revP M t a n v).1 < 2 ^ n ∧ PmOk ok L k (revP M t a n v).2 := by
  obtain ⟨h1, _, _, h4⟩ := revG_ok h ht ha hv n (Nat.le_refl _)
  rw [show k + n - n = k by omega] at h1
  exact ⟨h4, h1⟩

/-- what is told, and where, but for probabilities and machine -/
structure Lzs where
  lc : Nat
  lp : Nat
  pb : Nat
  dict : Nat
  out : List UInt8
  st : Nat
  r0 : Nat
  r1 : Nat
  r2 : Nat
  r3 : Nat
  ended : Bool
  bad : Bool

/-- the byte at a distance -/
def Lzs.has (z : Lzs) (d : Nat) : Bool := decide (d < z.out.length ∧ d < z.dict)
def Lzs.back (z : Lzs) (d : Nat) : UInt8 := if z.has d = true then z.out.getD (z.out.length - 1 - d) 0 else 0

/-- the places of the probabilities -/
def litAt (z : Lzs) : Nat := 1847 + 768 * (z.out.length % 2 ^ z.lp * 2 ^ z.lc + (z.back 0).toNat / 2 ^ (8 - z.lc))
def litSt (s : Nat) : Nat := if s < 4 then 0 else if s < 10 then s - 3 else s - 6

/-- a literal on its way: whether its bits still are those of the other byte -/
structure Lg (σ : Type) where
  m : Nat
  same : Bool
  t : Pm σ
def lgStep (a : Nat) (y w : Int) (s : Lg σ) : Lg σ :=
  if s.same = true then
    ⟨2 * s.m + (bitP M s.t (a + 256 * (1 + y.toNat) + s.m) w).1, decide ((bitP M s.t (a + 256 * (1 + y.toNat) + s.m) w).1 = y.toNat), (bitP M s.t (a + 256 * (1 + y.toNat) + s.m) w).2⟩
  else ⟨2 * s.m + (bitP M s.t (a + s.m) w).1, false, (bitP M s.t (a + s.m) w).2⟩
def litG (t : Pm σ) (a : Nat) (other v : UInt8) (same : Bool) : Nat → Lg σ
  | 0 => ⟨1, same, t⟩
  | j + 1 => lgStep M a (want (other.toNat : Int) (7 - j)) (want (v.toNat : Int) (7 - j)) (litG t a other v same j)
def litP (z : Lzs) (t : Pm σ) (v : UInt8) : Nat × Pm σ :=
  ((litG M t (litAt z) (z.back z.r0) v (decide (7 ≤ z.st)) 8).m, (litG M t (litAt z) (z.back z.r0) v (decide (7 ≤ z.st)) 8).t)

/-- a length, by the lengths at a place: behind the second bit, behind the first, all -/
def lenB (b : Nat × Pm σ) (a s : Nat) (v : Int) : Nat × Pm σ :=
  if b.1 = 0 then (8 + (treeP M b.2 (a + 130 + 8 * s) 3 (v - 8)).1, (treeP M b.2 (a + 130 + 8 * s) 3 (v - 8)).2)
  else (16 + (treeP M b.2 (a + 258) 8 (v - 16)).1, (treeP M b.2 (a + 258) 8 (v - 16)).2)
def lenA (b : Nat × Pm σ) (a s : Nat) (v : Int) : Nat × Pm σ :=
  if b.1 = 0 then treeP M b.2 (a + 2 + 8 * s) 3 v else lenB M (bitP M b.2 (a + 1) (min (v.tdiv 16) 1)) a s v
def lenP (t : Pm σ) (a s : Nat) (v : Int) : Nat × Pm σ := lenA M (bitP M t a (min (v.tdiv 8) 1)) a s v

theorem may_min {M : Mach σ} {v c : Int} (hc : 1 ≤ c) (h : M.mayN v) : M.may (min (v.tdiv c) 1) := by
  intro he
  have h0 := h he
  rw [Int.tdiv_eq_ediv_of_nonneg h0]
  have := Int.ediv_nonneg h0 (show 0 ≤ c by omega)
  omega
/-- where the bit that was wanted is told, what is left may be wanted -/
theorem may_less {M : Mach σ} {ok : Nat → σ → Prop} (h : MachOk M ok) {t : Pm σ} {a : Nat} {v c : Int} (hc : 1 ≤ c) (hv : M.mayN v) (hb : ¬ (bitP M t a (min (v.tdiv c) 1)).1 = 0) : M.mayN (v - c) := by
  intro he
  have h0 := hv he
  have ht : (bitP M t a (min (v.tdiv c) 1)).1 = (min (v.tdiv c) 1).toNat := h.tell he
  rw [ht, Int.tdiv_eq_ediv_of_nonneg h0] at hb
  have h1 : 1 ≤ v / c := by omega
  have h2 := (Int.le_ediv_iff_mul_le (show 0 < c by omega)).1 h1
  omega
theorem lenP_ok {M : Mach σ} {ok : Nat → σ → Prop} (h : MachOk M ok) {L k a s : Nat} {v : Int} {t : Pm σ} (ht : PmOk ok L (k + 10) t) (ha : a + 514 ≤ L) (hs : s ≤ 15) (hv : M.mayN v) : (lenP M t a s v).1 < 272 ∧ PmOk ok L k (lenP M t a s v).2 := by
  obtain ⟨b1, p1⟩ := bitP_ok h (k := k + 9) ht (show a < L by omega) (may_min (c := 8) (by decide) hv)
  unfold lenP lenA
  split
  · obtain ⟨h1, h2⟩ := treeP_ok h (k := k) (n := 3) (a := a + 2 + 8 * s) (p1.mono h (show k + 3 ≤ k + 9 by omega)) (by show a + 2 + 8 * s + 8 ≤ L; omega) hv
    have h1 : _ < 8 := h1
    exact ⟨by omega, h2⟩
  · rename_i hb
    have hv8 := may_less h (by decide) hv hb
    obtain ⟨b2, p2⟩ := bitP_ok h (k := k + 8) p1 (show a + 1 < L by omega) (may_min (c := 16) (by decide) hv)
    unfold lenB
    split
    · obtain ⟨h1, h2⟩ := treeP_ok h (k := k) (n := 3) (a := a + 130 + 8 * s) (p2.mono h (show k + 3 ≤ k + 8 by omega)) (by show a + 130 + 8 * s + 8 ≤ L; omega) hv8
      have h1 : _ < 8 := h1
      exact ⟨by show 8 + _ < 272; omega, h2⟩
    · rename_i hb2
      have hv16 := may_less h (by decide) hv hb2
      obtain ⟨h1, h2⟩ := treeP_ok h (k := k) (n := 8) (a := a + 258) p2 (by show a + 258 + 256 ≤ L; omega) hv16
      have h1 : _ < 256 := h1
      exact ⟨by show 16 + _ < 272; omega, h2⟩

/-- the slot of a distance: what is left of it, and how often it was halved -/
def slotGo : Nat → Nat × Nat → Nat × Nat
  | 0, s => s
  | f + 1, s => if 4 ≤ s.1 then slotGo f (s.1 / 2, s.2 + 1) else s
def slotOf (d : Nat) : Nat := 2 * (slotGo 32 (d, 0)).2 + (slotGo 32 (d, 0)).1

/-- a distance: behind the straight bits, behind the slot, all -/
def distC (b : Nat × σ) (ps : List Nat) (base v : Nat) : Nat × Pm σ :=
  (base + 16 * b.1 + (revP M ⟨ps, b.2⟩ 803 4 ((v % 16 : Nat) : Int)).1, (revP M ⟨ps, b.2⟩ 803 4 ((v % 16 : Nat) : Int)).2)
def distB (b : Nat × Pm σ) (v : Nat) : Nat × Pm σ :=
  if b.1 < 4 then b
  else if b.1 < 14 then
    ((2 + b.1 % 2) * 2 ^ (b.1 / 2 - 1) + (revP M b.2 (688 + (2 + b.1 % 2) * 2 ^ (b.1 / 2 - 1) - b.1) (b.1 / 2 - 1) ((v : Int) - ((2 + b.1 % 2) * 2 ^ (b.1 / 2 - 1) : Nat))).1,
      (revP M b.2 (688 + (2 + b.1 % 2) * 2 ^ (b.1 / 2 - 1) - b.1) (b.1 / 2 - 1) ((v : Int) - ((2 + b.1 % 2) * 2 ^ (b.1 / 2 - 1) : Nat))).2)
  else distC M (M.str b.2.x (b.1 / 2 - 1 - 4) ((v + 4294967296 - (2 + b.1 % 2) * 2 ^ (b.1 / 2 - 1)) % 4294967296 / 16)) b.2.ps ((2 + b.1 % 2) * 2 ^ (b.1 / 2 - 1)) v
def distP (t : Pm σ) (l v : Nat) : Nat × Pm σ := distB M (treeP M t (432 + 64 * min l 3) 6 (slotOf v : Int)) v

/-- which packet it is, bit by bit from the last one: the kind, whether it is bad, what is left -/
def chI (c : Prop) [Decidable c] : Int := if c then 0 else 1
def kd5 (b : Nat × Pm σ) : Nat × Bool × Pm σ := (if b.1 = 0 then 4 else 5, false, b.2)
def kd4 (b : Nat × Pm σ) (st : Nat) (k : Int) : Nat × Bool × Pm σ := if b.1 = 0 then (3, false, b.2) else kd5 (bitP M b.2 (228 + st) (chI (k = 4)))
def kdL (b : Nat × Pm σ) : Nat × Bool × Pm σ := (if b.1 = 0 then 6 else 2, false, b.2)
def kd3 (b : Nat × Pm σ) (st s : Nat) (k : Int) : Nat × Bool × Pm σ := if b.1 = 0 then kdL (bitP M b.2 (240 + 16 * st + s) (chI (k = 6))) else kd4 M (bitP M b.2 (216 + st) (chI (k = 3))) st k
def kd2 (b : Nat × Pm σ) (empty : Bool) (st s : Nat) (k : Int) : Nat × Bool × Pm σ := if b.1 = 0 then (1, false, b.2) else if empty = true then (6, true, b.2) else kd3 M (bitP M b.2 (204 + st) (chI (k = 2 ∨ k = 6))) st s k
def kd1 (b : Nat × Pm σ) (empty : Bool) (st s : Nat) (k : Int) : Nat × Bool × Pm σ := if b.1 = 0 then (0, false, b.2) else kd2 M (bitP M b.2 (192 + st) (chI (k = 1 ∨ k = 7))) empty st s k
def kindP (t : Pm σ) (empty : Bool) (st s : Nat) (k : Int) : Nat × Bool × Pm σ := kd1 M (bitP M t (16 * st + s) (min k 1)) empty st s k
end
theorem chI_may {σ : Type} {M : Mach σ} (c : Prop) [Decidable c] : M.may (chI c) := fun _ => by unfold chI; split <;> simp
end Go.Proofs.YtiolfjhddbiglaaGreatDoor

/-
  The packets of LZMA as numbers: a packet whole, a stream, its bounds.
-/
namespace Go.Proofs.YtiolfjhddbiglaaGreatDoor

section
variable {σ : Type} {M : Mach σ} {ok : Nat → σ → Prop} {t : Pm σ} {z : Lzs}
theorem want_byte (v : UInt8) (i : Nat) : ∃ b : Nat, want (v.toNat : Int) i = (b : Int) ∧ b ≤ 1 := ⟨bitOf v.toNat i, want_nat _ _, bitOf_le _ _⟩
theorem lgStep_ok (Z : MachOk M ok) {L k a j : Nat} {y b : Nat} {s : Lg σ} (ht : PmOk ok L (k + 1) s.t) (ha : a + 768 ≤ L) (h0 : s.m < 2 ^ (j + 1)) (hj : j < 8) (hy : y ≤ 1) (hb : b ≤ 1) :
    PmOk ok L k (lgStep M a (y : Int) (b : Int) s).t ∧ 2 * s.m ≤ (lgStep M a (y : Int) (b : Int) s).m ∧ (lgStep M a (y : Int) (b : Int) s).m ≤ 2 * s.m + 1 := by
  have hp : 2 ^ (j + 1) ≤ 256 := Nat.le_trans (Nat.pow_le_pow_right (by omega) (show j + 1 ≤ 8 by omega)) (by decide)
  have hm : M.may (b : Int) := fun _ => by omega
  unfold lgStep
  split
  · obtain ⟨h1, h2⟩ := bitP_ok Z ht (a := a + 256 * (1 + (y : Int).toNat) + s.m) (by rw [Int.toNat_natCast]; omega) hm
    exact ⟨h2, Nat.le_add_right _ _, by show 2 * s.m + _ ≤ _; omega⟩
  · obtain ⟨h1, h2⟩ := bitP_ok Z ht (a := a + s.m) (by omega) hm
    exact ⟨h2, Nat.le_add_right _ _, by show 2 * s.m + _ ≤ _; omega⟩
theorem litG_ok (Z : MachOk M ok) {L k a : Nat} {o v : UInt8} {same : Bool} (ht : PmOk ok L (k + 8) t) (ha : a + 768 ≤ L) :
    ∀ j, j ≤ 8 → PmOk ok L (k + 8 - j) (litG M t a o v same j).t ∧ 2 ^ j ≤ (litG M t a o v same j).m ∧ (litG M t a o v same j).m < 2 ^ (j + 1)
  | 0, _ => ⟨ht, Nat.le_refl _, by show 1 < 2 ^ 1; decide⟩
  | j + 1, hj => by
    obtain ⟨h1, h2, h3⟩ := litG_ok Z ht ha j (by omega)
    obtain ⟨y, hy, hy1⟩ := want_byte o (7 - j)
    obtain ⟨b, hb, hb1⟩ := want_byte v (7 - j)
    show PmOk ok L _ (lgStep M a (want (o.toNat : Int) (7 - j)) (want (v.toNat : Int) (7 - j)) _).t ∧ _ ≤ (lgStep M a _ _ _).m ∧ (lgStep M a _ _ _).m < _
    rw [hy, hb]
    obtain ⟨k1, k2, k3⟩ := lgStep_ok Z (k := k + 8 - (j + 1)) (a := a) (j := j) (by rw [show k + 8 - (j + 1) + 1 = k + 8 - j by omega]; exact h1) ha h3 (by omega) hy1 hb1
    refine ⟨k1, ?_, ?_⟩
    · rw [Nat.pow_succ]; omega
    · rw [Nat.pow_succ 2 (j + 1)]; omega
/-- settings that may be, and what else keeps the numbers small -/
structure ZFine (z : Lzs) (L : Nat) : Prop where
  lc : z.lc ≤ 8
  lp : z.lp ≤ 4
  pb : z.pb ≤ 4
  dict : z.dict < 4294967296
  out : z.out.length ≤ 1000000
  st : z.st ≤ 11
  r0 : z.r0 < 4294967296
  r1 : z.r1 < 4294967296
  r2 : z.r2 < 4294967296
  r3 : z.r3 < 4294967296
  len : L = 1847 + 768 * 2 ^ (z.lc + z.lp)
theorem pow_le_of {n m : Nat} (h : n ≤ m) : 2 ^ n ≤ 2 ^ m := Nat.pow_le_pow_right (by omega) h
theorem ZFine.small {L : Nat} (h : ZFine z L) : L ≤ 100000000 ∧ litAt z + 768 ≤ L := by
  have hL := h.len
  have h1 : 2 ^ (z.lc + z.lp) ≤ 2 ^ 12 := pow_le_of (by have := h.lc; have := h.lp; omega)
  refine ⟨by omega, ?_⟩
  unfold litAt
  have h2 : z.out.length % 2 ^ z.lp + 1 ≤ 2 ^ z.lp := Nat.mod_lt _ (Nat.two_pow_pos _)
  have h3 : (z.out.length % 2 ^ z.lp + 1) * 2 ^ z.lc ≤ 2 ^ z.lp * 2 ^ z.lc := Nat.mul_le_mul_right _ h2
  rw [← Nat.pow_add, Nat.add_mul, Nat.one_mul, Nat.add_comm z.lp] at h3
  have h4 : (z.back 0).toNat / 2 ^ (8 - z.lc) + 1 ≤ 2 ^ z.lc := by
    have hb := (z.back 0).toNat_lt
    have : (z.back 0).toNat < 2 ^ (8 - z.lc) * 2 ^ z.lc := by
      rw [← Nat.pow_add, show 8 - z.lc + z.lc = 8 by have := h.lc; omega]; exact hb
    exact (Nat.div_lt_iff_lt_mul (Nat.two_pow_pos _)).2 (by rw [Nat.mul_comm]; exact this)
  omega
theorem slotGo_spec : ∀ (f x c : Nat), x < 2 ^ (f + 2) → ∃ m, slotGo f (x, c) = (x / 2 ^ m, c + m) ∧ x / 2 ^ m < 4 ∧ (m = 0 ∨ 2 ≤ x / 2 ^ m) ∧ m ≤ f
  | 0, x, c, h => ⟨0, by simp [slotGo], by simpa using h, .inl rfl, Nat.le_refl _⟩
  | f + 1, x, c, h => by
    by_cases h4 : 4 ≤ x
    · obtain ⟨m, h1, h2, h3, h5⟩ := slotGo_spec f (x / 2) (c + 1) (by rw [show f + 1 + 2 = (f + 2) + 1 by omega, Nat.pow_succ] at h; omega)
      have hd : x / 2 / 2 ^ m = x / 2 ^ (m + 1) := by rw [Nat.div_div_eq_div_mul, Nat.pow_succ, Nat.mul_comm]
      rw [hd] at h1 h2 h3
      refine ⟨m + 1, ?_, h2, .inr ?_, by omega⟩
      · show (if 4 ≤ x then slotGo f (x / 2, c + 1) else (x, c)) = _
        rw [if_pos h4, h1, show c + 1 + m = c + (m + 1) by omega]
      · rcases h3 with h3 | h3
        · subst h3
          show 2 ≤ x / 2 ^ 1
          omega
        · exact h3
    · refine ⟨0, ?_, by simp; omega, .inl rfl, Nat.zero_le _⟩
      show (if 4 ≤ x then slotGo f (x / 2, c + 1) else (x, c)) = _
      rw [if_neg h4]
      simp
/-- what a slot leaves: the base, and how many bits -/
theorem slot_spec {v : Nat} (hv : v < 4294967296) : slotOf v < 64 ∧ (slotOf v < 4 → v = slotOf v) ∧
    (4 ≤ slotOf v → (2 + slotOf v % 2) * 2 ^ (slotOf v / 2 - 1) ≤ v ∧ v < (2 + slotOf v % 2) * 2 ^ (slotOf v / 2 - 1) + 2 ^ (slotOf v / 2 - 1)) := by
  obtain ⟨m, h1, h2, h3, h4⟩ := slotGo_spec 32 v 0 (by omega)
  have hs : slotOf v = 2 * m + v / 2 ^ m := by unfold slotOf; rw [h1]; simp
  have hm : m ≤ 30 := by
    rcases h3 with h | h
    · omega
    · have h5 := Nat.mul_le_of_le_div _ _ _ h
      rcases Nat.lt_or_ge m 31 with h6 | h6
      · omega
      · have := pow_le_of h6
        omega
  refine ⟨by omega, fun h => ?_, fun h => ?_⟩
  · rcases h3 with h0 | h0
    · subst h0; simp at hs; omega
    · obtain rfl : m = 0 := by omega
      simp at hs; omega
  · have hm1 : 1 ≤ m := by
      rcases Nat.eq_zero_or_pos m with h0 | h0
      · subst h0; simp at hs h2; omega
      · exact h0
    have ht : 2 ≤ v / 2 ^ m := by rcases h3 with h0 | h0; omega; exact h0
    have e1 : slotOf v / 2 - 1 = m := by omega
    have e2 : 2 + slotOf v % 2 = v / 2 ^ m := by omega
    rw [e1, e2]
    have hp := Nat.two_pow_pos m
    have h5 := Nat.div_mul_le_self v (2 ^ m)
    have h6 := Nat.div_add_mod v (2 ^ m)
    have h7 := Nat.mod_lt v hp
    rw [Nat.mul_comm] at h6
    omega
/-- a coder tells what is wanted -/
theorem tree_tell {M : Mach σ} {ok : Nat → σ → Prop} (h : MachOk M ok) (he : M.enc = true) {t : Pm σ} {a n v : Nat} : ∀ j, j ≤ n → (treeG M t a n (v : Int) j).m = 2 ^ j + v % 2 ^ n / 2 ^ (n - j)
  | 0, _ => by
    rw [Nat.sub_zero, Nat.div_eq_of_lt (Nat.mod_lt _ (Nat.two_pow_pos n))]
    rfl
  | j + 1, hj => by
    have ih := tree_tell h he (t := t) (a := a) (n := n) (v := v) j (by omega)
    show 2 * (treeG M t a n (v : Int) j).m + (bitP M _ _ (want (v : Int) (n - 1 - j))).1 = _
    have hb : (bitP M (treeG M t a n (v : Int) j).t (a + (treeG M t a n (v : Int) j).m) (want (v : Int) (n - 1 - j))).1 = bitOf v (n - 1 - j) := by
      rw [want_nat]
      exact (h.tell he).trans (Int.toNat_natCast _)
    rw [hb, ih, Nat.pow_succ, ← top_bits v n j (by omega)]
    omega
theorem treeP_tell {M : Mach σ} {ok : Nat → σ → Prop} (h : MachOk M ok) (he : M.enc = true) {t : Pm σ} {a n v : Nat} (hv : v < 2 ^ n) : (treeP M t a n (v : Int)).1 = v := by
  show (treeG M t a n (v : Int) n).m - 2 ^ n = v
  rw [tree_tell h he n (Nat.le_refl n), Nat.sub_self, Nat.pow_zero, Nat.div_one, Nat.mod_eq_of_lt hv]
  omega
end


theorem special_in : ∀ s : Fin 14, 4 ≤ s.val → (2 + s.val % 2) * 2 ^ (s.val / 2 - 1) + 2 ^ (s.val / 2 - 1) ≤ 115 + s.val ∧ s.val ≤ 688 ∧ s.val / 2 - 1 ≤ 5 := by decide +kernel

/-- a packet that is wanted -/
structure Pk where
  kind : Int
  dist : Nat
  len : Int
  byte : UInt8

def Lzs.push (z : Lzs) (b : UInt8) : Lzs := { z with out := z.out ++ [b] }
/-- bytes at the first distance, one behind the other: how many, and the state then -/
def copyG : Nat → Nat → Lzs → Nat × Lzs
  | 0, n, z => (n, z)
  | f + 1, n, z => if z.has z.r0 = true then copyG f (n + 1) (z.push (z.back z.r0)) else (n, { z with bad := true })
theorem copyG_zero (n : Nat) (z : Lzs) : copyG 0 n z = (n, z) := rfl
theorem copyG_go {f n : Nat} {z : Lzs} (h : z.has z.r0 = true) : copyG (f + 1) n z = copyG f (n + 1) (z.push (z.back z.r0)) := if_pos h
theorem copyG_stop {f n : Nat} {z : Lzs} (h : ¬ z.has z.r0 = true) : copyG (f + 1) n z = (n, { z with bad := true }) := if_neg h

def aft (a b s : Nat) : Nat := if s < 7 then a else b
def Lzs.rep (z : Lzs) (j : Nat) : Nat := if j = 0 then z.r0 else if j = 1 then z.r1 else if j = 2 then z.r2 else z.r3
/-- the distances where the one with the number j is used again -/
def Lzs.again (z : Lzs) (j : Nat) : Lzs := { z with r0 := z.rep j, r1 := if j = 0 then z.r1 else z.r0, r2 := if j ≤ 1 then z.r2 else z.r1, r3 := if j ≤ 2 then z.r3 else z.r2 }

section
variable {σ : Type} (M : Mach σ)

/-- behind the numbers of a packet: the bytes -/
def tailP (many : Nat) (z : Lzs) (t : Pm σ) : Nat × Lzs × Pm σ :=
  if (z.bad || M.bad t.x || z.ended) = true then (0, { z with bad := z.bad || M.bad t.x }, t)
  else ((copyG many 0 z).1, (copyG many 0 z).2, t)
def packL (b : Nat × Pm σ) (z : Lzs) : Nat × Lzs × Pm σ :=
  if M.bad b.2.x = true then (0, { z with st := litSt z.st, bad := true }, b.2) else (1, { z with st := litSt z.st }.push (UInt8.ofNat b.1), b.2)
def packD (l : Nat) (b : Nat × Pm σ) (z : Lzs) : Nat × Lzs × Pm σ := tailP M (l + 2) { z with r0 := b.1, ended := decide (b.1 = 4294967295) && !M.bad b.2.x } b.2
def packM (b : Nat × Pm σ) (z : Lzs) (want : Nat) : Nat × Lzs × Pm σ :=
  packD M b.1 (distP M b.2 b.1 want) { z with r0 := 0, r1 := z.r0, r2 := z.r1, r3 := z.r2, st := aft 7 10 z.st }
def packR (b : Nat × Pm σ) (z : Lzs) (j : Nat) : Nat × Lzs × Pm σ := tailP M (b.1 + 2) { z.again j with st := aft 8 11 z.st } b.2
def packK (kb : Nat × Bool × Pm σ) (z : Lzs) (s : Nat) (p : Pk) : Nat × Lzs × Pm σ :=
  if kb.1 = 0 then packL M (litP M { z with bad := z.bad || kb.2.1 } kb.2.2 p.byte) { z with bad := z.bad || kb.2.1 }
  else if kb.1 = 1 then packM M (lenP M kb.2.2 819 s (if p.kind = 7 then 0 else p.len - 2)) { z with bad := z.bad || kb.2.1 } (if p.kind = 7 then 4294967295 else p.dist)
  else if kb.1 = 6 then tailP M 1 { z with bad := z.bad || kb.2.1, st := aft 9 11 z.st } kb.2.2
  else packR M (lenP M kb.2.2 1333 s (p.len - 2)) { z with bad := z.bad || kb.2.1 } (kb.1 - 2)
def packP (z : Lzs) (t : Pm σ) (p : Pk) : Nat × Lzs × Pm σ :=
  packK M (kindP M t (decide (z.out.length = 0)) z.st (z.out.length % 2 ^ z.pb) p.kind) z (z.out.length % 2 ^ z.pb) p

/-- what kind may be told, and what it leaves -/
theorem kindP_ok {M : Mach σ} {ok : Nat → σ → Prop} (h : MachOk M ok) {L k s st : Nat} {em : Bool} {kd : Int} {t : Pm σ} (ht : PmOk ok L (k + 5) t) (hL : 1847 ≤ L) (hs : s ≤ 15) (hst : st ≤ 11) (hk : M.mayN kd) :
    (kindP M t em st s kd).1 ≤ 6 ∧ PmOk ok L k (kindP M t em st s kd).2.2 := by
  have hmay : M.may (min kd 1) := fun he => by have := hk he; omega
  obtain ⟨b1, p1⟩ := bitP_ok h (k := k + 4) (a := 16 * st + s) (w := min kd 1) ht (by omega) hmay
  unfold kindP kd1
  split
  · exact ⟨by dsimp only; omega, p1.mono h (by omega)⟩
  obtain ⟨b2, p2⟩ := bitP_ok h (k := k + 3) (a := 192 + st) (w := chI (kd = 1 ∨ kd = 7)) p1 (by omega) (chI_may _)
  unfold kd2
  split
  · exact ⟨by dsimp only; omega, p2.mono h (by omega)⟩
  split
  · exact ⟨by dsimp only; omega, p2.mono h (by omega)⟩
  obtain ⟨b3, p3⟩ := bitP_ok h (k := k + 2) (a := 204 + st) (w := chI (kd = 2 ∨ kd = 6)) p2 (by omega) (chI_may _)
  unfold kd3
  split
  · obtain ⟨b4, p4⟩ := bitP_ok h (k := k + 1) (a := 240 + 16 * st + s) (w := chI (kd = 6)) p3 (by omega) (chI_may _)
    unfold kdL
    exact ⟨by dsimp only; split <;> omega, p4.mono h (by omega)⟩
  obtain ⟨b4, p4⟩ := bitP_ok h (k := k + 1) (a := 216 + st) (w := chI (kd = 3)) p3 (by omega) (chI_may _)
  unfold kd4
  split
  · exact ⟨by dsimp only; omega, p4.mono h (by omega)⟩
  obtain ⟨b5, p5⟩ := bitP_ok h (k := k) (a := 228 + st) (w := chI (kd = 4)) p4 (by omega) (chI_may _)
  unfold kd5
  exact ⟨by dsimp only; split <;> omega, p5⟩
theorem litP_ok {M : Mach σ} {ok : Nat → σ → Prop} (h : MachOk M ok) {L k : Nat} {z : Lzs} {v : UInt8} {t : Pm σ} (ht : PmOk ok L (k + 8) t) (ha : litAt z + 768 ≤ L) : PmOk ok L k (litP M z t v).2 := by
  have h1 := (litG_ok h (k := k) (o := z.back z.r0) (v := v) (same := decide (7 ≤ z.st)) ht ha 8 (Nat.le_refl _)).1
  rw [Nat.add_sub_cancel] at h1
  exact h1
end

section
variable {σ : Type} {M : Mach σ} {ok : Nat → σ → Prop}

theorem distP_ok (h : MachOk M ok) {L k l v : Nat} {t : Pm σ} (ht : PmOk ok L (k + 12) t) (hL0 : 1847 ≤ L) (hv : v < 4294967296) : (distP M t l v).1 < 4294967296 ∧ PmOk ok L k (distP M t l v).2 := by
  obtain ⟨s1, s2, s3⟩ := slot_spec hv
  obtain ⟨a, ha⟩ : ∃ a, a = 432 + 64 * min l 3 := ⟨_, rfl⟩
  have hmv : M.mayN ((slotOf v : Nat) : Int) := fun _ => by omega
  have hT := treeP_ok h (k := k + 6) (n := 6) (a := a) (v := ((slotOf v : Nat) : Int)) (t := t) ht (by show a + 64 ≤ L; omega) hmv
  have htell : M.enc = true → (treeP M t a 6 ((slotOf v : Nat) : Int)).1 = slotOf v := fun he => treeP_tell h he s1
  have hdef : distP M t l v = distB M (treeP M t a 6 ((slotOf v : Nat) : Int)) v := by rw [ha]; rfl
  rw [hdef]
  obtain ⟨sl, hsl⟩ : ∃ sl, sl = treeP M t a 6 ((slotOf v : Nat) : Int) := ⟨_, rfl⟩
  rw [← hsl] at hT htell ⊢
  have hs64 : sl.1 < 64 := hT.1
  have hp1 := hT.2
  unfold distB
  by_cases h4 : sl.1 < 4
  · rw [if_pos h4]
    exact ⟨by omega, hp1.mono h (by omega)⟩
  rw [if_neg h4]
  obtain ⟨n, hn⟩ : ∃ n, n = sl.1 / 2 - 1 := ⟨_, rfl⟩
  obtain ⟨r, hr⟩ : ∃ r, r = sl.1 % 2 := ⟨_, rfl⟩
  obtain ⟨P, hP⟩ : ∃ P, P = 2 ^ n := ⟨_, rfl⟩
  obtain ⟨base, hb⟩ : ∃ b, b = (2 + r) * P := ⟨_, rfl⟩
  have hn30 : n ≤ 30 := by omega
  have hP30 : P ≤ 2 ^ 30 := by rw [hP]; exact pow_le_of hn30
  have hb3 : base ≤ 3 * P := by rw [hb]; exact Nat.mul_le_mul_right P (by omega)
  have hspec : M.enc = true → base ≤ v ∧ v < base + P := fun he => by
    have h1 := htell he
    have h2 := s3 (by omega)
    rw [← h1, ← hn, ← hr, ← hP, ← hb] at h2
    exact h2
  by_cases h14 : sl.1 < 14
  · rw [if_pos h14, ← hn, ← hr, ← hP, ← hb]
    obtain ⟨c1, c2, c3⟩ := special_in ⟨sl.1, h14⟩ (by show 4 ≤ sl.1; omega)
    dsimp only at c1 c2 c3
    rw [← hn, ← hr, ← hP, ← hb] at c1
    rw [← hn] at c3
    have hmu : M.mayN ((v : Int) - (base : Int)) := fun he => by have := (hspec he).1; omega
    obtain ⟨h1, h2⟩ := revP_ok h (k := k) (n := n) (a := 688 + base - sl.1) (v := (v : Int) - (base : Int)) (hp1.mono h (show k + n ≤ k + 6 by omega)) (by rw [← hP]; omega) hmu
    rw [← hP] at h1
    exact ⟨by dsimp only; omega, h2⟩
  · rw [if_neg h14, ← hn, ← hr, ← hP, ← hb]
    have hn5 : 6 ≤ n := by omega
    obtain ⟨rest, hrest⟩ : ∃ x, x = (v + 4294967296 - base) % 4294967296 / 16 := ⟨_, rfl⟩
    obtain ⟨P4, hP4⟩ : ∃ P, P = 2 ^ (n - 4) := ⟨_, rfl⟩
    have hPP : P = 16 * P4 := by rw [hP, hP4, show (16 : Nat) = 2 ^ 4 from rfl, ← Nat.pow_add, show 4 + (n - 4) = n by omega]
    have hst : M.enc = true → rest < 2 ^ (n - 4) := fun he => by
      have := hspec he
      rw [← hP4]
      omega
    rw [← hrest]
    have hS := h.str (k := k + 5) (n := n - 4) (v := rest) hp1.x (by omega) hst
    rw [← hP4] at hS
    unfold distC
    have hmr : M.mayN ((v % 16 : Nat) : Int) := fun _ => by omega
    have hp2 : PmOk ok L (k + 5) (⟨sl.2.ps, (M.str sl.2.x (n - 4) rest).2⟩ : Pm σ) := ⟨hp1.ps, hp1.len, hS.2⟩
    obtain ⟨h1, h2⟩ := revP_ok h (k := k) (n := 4) (a := 803) (v := ((v % 16 : Nat) : Int)) (hp2.mono h (show k + 4 ≤ k + 5 by omega)) (by show 803 + 16 ≤ L; omega) hmr
    have h16 : (2 : Nat) ^ 4 = 16 := rfl
    rw [h16] at h1
    have := hS.1
    exact ⟨by dsimp only; omega, h2⟩

/-- a coder's kind is the one that is wanted -/
theorem kindP_tell (h : MachOk M ok) (he : M.enc = true) {s st : Nat} {em : Bool} {kd : Int} {t : Pm σ} (h0 : 0 ≤ kd) (h1 : kd ≤ 7) (hem : em = true → kd = 0 ∨ kd = 1 ∨ kd = 7) :
    (((kindP M t em st s kd).1 : Nat) : Int) = (if kd = 7 then 1 else kd) ∧ (kindP M t em st s kd).2.1 = false := by
  have tell : ∀ (t : Pm σ) (a : Nat) (w : Int), (bitP M t a w).1 = w.toNat := fun t a w => h.tell he
  have m0 : min (0 : Int) 1 = 0 := by decide
  have m1 : min (1 : Int) 1 = 1 := by decide
  have m2 : min (2 : Int) 1 = 1 := by decide
  have m3 : min (3 : Int) 1 = 1 := by decide
  have m4 : min (4 : Int) 1 = 1 := by decide
  have m5 : min (5 : Int) 1 = 1 := by decide
  have m6 : min (6 : Int) 1 = 1 := by decide
  have m7 : min (7 : Int) 1 = 1 := by decide
  have hk : kd = 0 ∨ kd = 1 ∨ kd = 2 ∨ kd = 3 ∨ kd = 4 ∨ kd = 5 ∨ kd = 6 ∨ kd = 7 := by omega
  cases em
  · rcases hk with rfl | rfl | rfl | rfl | rfl | rfl | rfl | rfl <;> simp [kindP, kd1, kd2, kd3, kdL, kd4, kd5, tell, chI, m0, m1, m2, m3, m4, m5, m6, m7]
  · rcases hem rfl with rfl | rfl | rfl <;> simp [kindP, kd1, kd2, tell, chI, m0, m1, m7]

/-- what is wanted of a coder may be -/
def PkMay (M : Mach σ) (z : Lzs) (p : Pk) : Prop :=
  M.enc = true → 0 ≤ p.kind ∧ p.kind ≤ 7 ∧ (z.out.length = 0 → p.kind = 0 ∨ p.kind = 1 ∨ p.kind = 7) ∧ (1 ≤ p.kind ∧ p.kind ≤ 5 → 2 ≤ p.len)
/-- its numbers -/
structure PkFine (p : Pk) : Prop where
  k0 : -1000000 ≤ p.kind
  k1 : p.kind ≤ 1000000
  d : p.dist < 4294967296
/-- a length that is used may be -/
def PkLen (M : Mach σ) (p : Pk) : Prop := (-900000 ≤ p.len ∧ p.len ≤ 900000) ∨ (M.enc = true ∧ (p.kind = 0 ∨ p.kind = 6 ∨ p.kind = 7))

/-- the bounds that copying keeps -/
structure Like (z z' : Lzs) : Prop where
  lc : z'.lc = z.lc
  lp : z'.lp = z.lp
  pb : z'.pb = z.pb
  dict : z'.dict = z.dict
theorem Like.refl (z : Lzs) : Like z z := ⟨rfl, rfl, rfl, rfl⟩
theorem Like.trans {a b c : Lzs} (h : Like a b) (k : Like b c) : Like a c := ⟨k.lc.trans h.lc, k.lp.trans h.lp, k.pb.trans h.pb, k.dict.trans h.dict⟩

/-- like ZFine, with room for so many bytes more -/
structure ZNear (z : Lzs) (L n : Nat) : Prop where
  lc : z.lc ≤ 8
  lp : z.lp ≤ 4
  pb : z.pb ≤ 4
  dict : z.dict < 4294967296
  out : z.out.length ≤ n
  st : z.st ≤ 11
  r0 : z.r0 < 4294967296
  r1 : z.r1 < 4294967296
  r2 : z.r2 < 4294967296
  r3 : z.r3 < 4294967296
  len : L = 1847 + 768 * 2 ^ (z.lc + z.lp)
theorem ZNear.fine {z : Lzs} {L n : Nat} (h : ZNear z L n) (hn : n ≤ 1000000) : ZFine z L := ⟨h.lc, h.lp, h.pb, h.dict, Nat.le_trans h.out hn, h.st, h.r0, h.r1, h.r2, h.r3, h.len⟩
theorem ZNear.more {z : Lzs} {L n m : Nat} (h : ZNear z L n) (hn : n ≤ m) : ZNear z L m := ⟨h.lc, h.lp, h.pb, h.dict, Nat.le_trans h.out hn, h.st, h.r0, h.r1, h.r2, h.r3, h.len⟩

theorem copyG_near {L : Nat} : ∀ (f n N : Nat) {z : Lzs}, ZNear z L N → ZNear (copyG f n z).2 L (N + f) ∧ (copyG f n z).1 ≤ n + f
  | 0, n, N, z, h => ⟨h, Nat.le_refl _⟩
  | f + 1, n, N, z, h => by
    by_cases hz : z.has z.r0 = true
    · rw [copyG_go hz]
      have h2 : ZNear (z.push (z.back z.r0)) L (N + 1) := ⟨h.lc, h.lp, h.pb, h.dict, by show (z.out ++ [_]).length ≤ _; have := h.out; simp; omega, h.st, h.r0, h.r1, h.r2, h.r3, h.len⟩
      obtain ⟨a, b⟩ := copyG_near f (n + 1) (N + 1) h2
      exact ⟨a.more (by omega), by omega⟩
    · rw [copyG_stop hz]
      exact ⟨⟨h.lc, h.lp, h.pb, h.dict, by have := h.out; show z.out.length ≤ _; omega, h.st, h.r0, h.r1, h.r2, h.r3, h.len⟩, by dsimp only; omega⟩
theorem tailP_near {L k N many : Nat} {z : Lzs} {t : Pm σ} (h : ZNear z L N) (ht : PmOk ok L k t) : ZNear (tailP M many z t).2.1 L (N + many) ∧ PmOk ok L k (tailP M many z t).2.2 ∧ (tailP M many z t).1 ≤ many := by
  unfold tailP
  split
  · exact ⟨⟨h.lc, h.lp, h.pb, h.dict, by have := h.out; show z.out.length ≤ _; omega, h.st, h.r0, h.r1, h.r2, h.r3, h.len⟩, ht, by dsimp only; omega⟩
  · obtain ⟨a, b⟩ := copyG_near many 0 N h
    exact ⟨a, ht, by dsimp only; omega⟩

theorem aft_le {a b s : Nat} (ha : a ≤ 11) (hb : b ≤ 11) : aft a b s ≤ 11 := by unfold aft; split <;> omega
theorem litSt_le {s : Nat} (h : s ≤ 11) : litSt s ≤ 11 := by unfold litSt; split <;> (try split) <;> omega
theorem rep_lt {z : Lzs} {L n : Nat} (h : ZNear z L n) (j : Nat) : z.rep j < 4294967296 := by
  have h0 := h.r0
  have h1 := h.r1
  have h2 := h.r2
  have h3 := h.r3
  unfold Lzs.rep
  split
  · exact h0
  split
  · exact h1
  split
  · exact h2
  · exact h3

/-- the place of a literal's probabilities is in -/
theorem lit_in {z : Lzs} {L n : Nat} {b : Bool} (h : ZNear z L n) : litAt { z with bad := b } + 768 ≤ L := by
  have hL := h.len
  unfold litAt
  have h2 : z.out.length % 2 ^ z.lp + 1 ≤ 2 ^ z.lp := Nat.mod_lt _ (Nat.two_pow_pos _)
  have h3 : (z.out.length % 2 ^ z.lp + 1) * 2 ^ z.lc ≤ 2 ^ z.lp * 2 ^ z.lc := Nat.mul_le_mul_right _ h2
  rw [← Nat.pow_add, Nat.add_mul, Nat.one_mul, Nat.add_comm z.lp] at h3
  have h4 : (Lzs.back { z with bad := b } 0).toNat / 2 ^ (8 - z.lc) + 1 ≤ 2 ^ z.lc := by
    have hb := (Lzs.back { z with bad := b } 0).toNat_lt
    have hp : 2 ^ z.lc * 2 ^ (8 - z.lc) = 256 := by rw [← Nat.pow_add, show z.lc + (8 - z.lc) = 8 by have := h.lc; omega]
    have : (Lzs.back { z with bad := b } 0).toNat / 2 ^ (8 - z.lc) < 2 ^ z.lc := Nat.div_lt_of_lt_mul (by rw [Nat.mul_comm, hp]; omega)
    omega
  dsimp only
  omega

/-- the numbers that the lengths are wanted of -/
def lenM (p : Pk) : Int := if p.kind = 7 then 0 else p.len - 2
def distM (p : Pk) : Nat := if p.kind = 7 then 4294967295 else p.dist

/-- what a packet leaves is near what was there -/
theorem packP_near (h : MachOk M ok) {L k N : Nat} {z : Lzs} {t : Pm σ} {p : Pk} (hz : ZNear z L N) (ht : PmOk ok L (k + 27) t) (hp : PkFine p) (hm : PkMay M z p) :
    ZNear (packP M z t p).2.1 L (N + 273) ∧ PmOk ok L k (packP M z t p).2.2 ∧ (packP M z t p).1 ≤ 273 := by
  have hL0 : 1847 ≤ L := by have := hz.len; omega
  obtain ⟨s, hs⟩ : ∃ s, s = z.out.length % 2 ^ z.pb := ⟨_, rfl⟩
  have hs15 : s ≤ 15 := by
    have h1 : z.out.length % 2 ^ z.pb < 2 ^ z.pb := Nat.mod_lt _ (Nat.two_pow_pos _)
    have h2 : 2 ^ z.pb ≤ 2 ^ 4 := pow_le_of hz.pb
    omega
  have hkm : M.mayN p.kind := fun he => (hm he).1
  obtain ⟨k1, k2⟩ := kindP_ok h (k := k + 22) (em := decide (z.out.length = 0)) (kd := p.kind) (t := t) ht hL0 hs15 hz.st hkm
  have ktell : M.enc = true → (((kindP M t (decide (z.out.length = 0)) z.st s p.kind).1 : Nat) : Int) = (if p.kind = 7 then 1 else p.kind) := fun he => by
    obtain ⟨a, b, c, _⟩ := hm he
    exact (kindP_tell h he a b (fun e => c (of_decide_eq_true e))).1
  unfold packP
  rw [← hs]
  generalize kindP M t (decide (z.out.length = 0)) z.st s p.kind = kb at *
  unfold packK
  split
  · rename_i hk0
    unfold packL
    have hl := litP_ok h (k := k) (z := { z with bad := z.bad || kb.2.1 }) (v := p.byte) (k2.mono h (show k + 8 ≤ k + 22 by omega)) (lit_in (b := z.bad || kb.2.1) hz)
    split
    · exact ⟨⟨hz.lc, hz.lp, hz.pb, hz.dict, by have := hz.out; show z.out.length ≤ _; omega, litSt_le hz.st, hz.r0, hz.r1, hz.r2, hz.r3, hz.len⟩, hl, by dsimp only; omega⟩
    · exact ⟨⟨hz.lc, hz.lp, hz.pb, hz.dict, by have := hz.out; show (z.out ++ [_]).length ≤ _; simp; omega, litSt_le hz.st, hz.r0, hz.r1, hz.r2, hz.r3, hz.len⟩, hl, by dsimp only; omega⟩
  split
  · rename_i hk0 hk1
    unfold packM
    have hlm : M.mayN (if p.kind = 7 then 0 else p.len - 2) := fun he => by
      have h1 := ktell he
      rw [hk1] at h1
      obtain ⟨a, b, c, d⟩ := hm he
      split
      · omega
      · rename_i h7
        rw [if_neg h7] at h1
        have := d (by omega)
        omega
    obtain ⟨l1, l2⟩ := lenP_ok h (k := k + 12) (a := 819) (s := s) (v := if p.kind = 7 then 0 else p.len - 2) k2 (by omega) hs15 hlm
    generalize lenP M kb.2.2 819 s (if p.kind = 7 then 0 else p.len - 2) = b at *
    unfold packD
    obtain ⟨d1, d2⟩ := distP_ok h (k := k) (l := b.1) (v := if p.kind = 7 then 4294967295 else p.dist) l2 hL0 (by split; decide; exact hp.d)
    generalize distP M b.2 b.1 (if p.kind = 7 then 4294967295 else p.dist) = dd at *
    have hz2 : ZNear { z with bad := z.bad || kb.2.1, r0 := dd.1, r1 := z.r0, r2 := z.r1, r3 := z.r2, st := aft 7 10 z.st, ended := decide (dd.1 = 4294967295) && !M.bad dd.2.x } L N :=
      ⟨hz.lc, hz.lp, hz.pb, hz.dict, hz.out, aft_le (by decide) (by decide), d1, hz.r0, hz.r1, hz.r2, hz.len⟩
    obtain ⟨t1, t2, t3⟩ := tailP_near (M := M) (many := b.1 + 2) hz2 d2
    exact ⟨t1.more (by omega), t2, Nat.le_trans t3 (by omega)⟩
  split
  · have hz2 : ZNear { z with bad := z.bad || kb.2.1, st := aft 9 11 z.st } L N := ⟨hz.lc, hz.lp, hz.pb, hz.dict, hz.out, aft_le (by decide) (by decide), hz.r0, hz.r1, hz.r2, hz.r3, hz.len⟩
    obtain ⟨t1, t2, t3⟩ := tailP_near (M := M) (many := 1) hz2 (k2.mono h (show k ≤ k + 22 by omega))
    exact ⟨t1.more (by omega), t2, Nat.le_trans t3 (by omega)⟩
  · rename_i hk0 hk1 hk6
    unfold packR
    have hlm : M.mayN (p.len - 2) := fun he => by
      have h1 := ktell he
      obtain ⟨a, b, c, d⟩ := hm he
      have h7 : ¬ p.kind = 7 := fun h7 => by rw [if_pos h7] at h1; omega
      rw [if_neg h7] at h1
      have := d (by omega)
      omega
    obtain ⟨l1, l2⟩ := lenP_ok h (k := k + 12) (a := 1333) (s := s) (v := p.len - 2) k2 (by omega) hs15 hlm
    generalize lenP M kb.2.2 1333 s (p.len - 2) = b at *
    have hr := rep_lt hz
    have hz2 : ZNear { (Lzs.again { z with bad := z.bad || kb.2.1 } (kb.1 - 2)) with st := aft 8 11 z.st } L N := by
      refine ⟨hz.lc, hz.lp, hz.pb, hz.dict, hz.out, aft_le (by decide) (by decide), hr (kb.1 - 2), ?_, ?_, ?_, hz.len⟩
      · show (if kb.1 - 2 = 0 then z.r1 else z.r0) < _
        split
        · exact hz.r1
        · exact hz.r0
      · show (if kb.1 - 2 ≤ 1 then z.r2 else z.r1) < _
        split
        · exact hz.r2
        · exact hz.r1
      · show (if kb.1 - 2 ≤ 2 then z.r3 else z.r2) < _
        split
        · exact hz.r3
        · exact hz.r2
    obtain ⟨t1, t2, t3⟩ := tailP_near (M := M) (many := b.1 + 2) hz2 (l2.mono h (show k ≤ k + 12 by omega))
    exact ⟨t1.more (by omega), t2, Nat.le_trans t3 (by omega)⟩
end

/-- all is read, and the code is 0 -/
def leftD : Dc → Bool
  | none => false
  | some (_, k, rest) => decide (k = 0) && decide (rest = [])

/-- a setting that may be -/
def maySet (a b c d : Int) : Bool := decide (0 ≤ a ∧ a ≤ 8 ∧ 0 ≤ b ∧ b ≤ 4 ∧ 0 ≤ c ∧ c ≤ 4 ∧ 4096 ≤ d ∧ d ≤ 4294967295)
theorem may_iff {a b c d : Int} : maySet a b c d = true ↔ 0 ≤ a ∧ a ≤ 8 ∧ 0 ≤ b ∧ b ≤ 4 ∧ 0 ≤ c ∧ c ≤ 4 ∧ 4096 ≤ d ∧ d ≤ 4294967295 := by
  unfold maySet
  simp
def probsOf (a b c d : Int) : Int := if maySet a b c d = true then 1847 + 768 * ((2 ^ (a + b).toNat : Nat) : Int) else 0
/-- a new one's state -/
def Lzs.start (lc lp pb dict : Nat) : Lzs := ⟨lc, lp, pb, dict, [], 0, 0, 0, 0, 0, false, false⟩
/-- settings that may be -/
def SetOk (lc lp pb dict : Nat) : Prop := lc ≤ 8 ∧ lp ≤ 4 ∧ pb ≤ 4 ∧ 4096 ≤ dict ∧ dict < 4294967296
def probsN (lc lp : Nat) : Nat := 1847 + 768 * 2 ^ (lc + lp)
theorem setOk_may {lc lp pb dict : Nat} (h : SetOk lc lp pb dict) : maySet lc lp pb dict = true := by
  obtain ⟨h1, h2, h3, h4, h5⟩ := h
  exact may_iff.2 ⟨by omega, by omega, by omega, by omega, by omega, by omega, by omega, by omega⟩
theorem probsN_is {lc lp pb dict : Nat} (h : SetOk lc lp pb dict) : probsOf lc lp pb dict = (probsN lc lp : Int) ∧ probsN lc lp ≤ 4000000 ∧ 1847 ≤ probsN lc lp := by
  have hm := setOk_may h
  obtain ⟨h1, h2, h3, h4, h5⟩ := h
  have hp : 2 ^ (lc + lp) ≤ 2 ^ 12 := pow_le_of (by omega)
  refine ⟨?_, by unfold probsN; omega, by unfold probsN; omega⟩
  unfold probsOf
  rw [if_pos hm]
  unfold probsN
  rw [show ((lc : Int) + (lp : Int)).toNat = lc + lp by omega]
  simp

def pk0 : Pk := ⟨0, 0, 0, 0⟩
/-- whether a packet was the last that may be -/
def stopD (size : Int) (r : Nat × Lzs × Pm Dc) : Bool := r.2.1.bad || (r.2.1.ended || (decM.bad r.2.2.x || decide (size < (r.2.1.out.length : Int))))
/-- packets, until there are so many bytes -/
def upG (size : Int) : Nat → Lzs → Pm Dc → Option (Lzs × Pm Dc)
  | 0, z, t => some (z, t)
  | f + 1, z, t => if (z.out.length : Int) < size then (if stopD size (packP decM z t pk0) = true then none else upG size f (packP decM z t pk0).2.1 (packP decM z t pk0).2.2) else some (z, t)
theorem upG_done {size : Int} {f : Nat} {z : Lzs} {t : Pm Dc} (h : ¬ (z.out.length : Int) < size) : upG size f z t = some (z, t) := by
  cases f with
  | zero => rfl
  | succ f => exact if_neg h
theorem upG_stop {size : Int} {f : Nat} {z : Lzs} {t : Pm Dc} (h : (z.out.length : Int) < size) (hs : stopD size (packP decM z t pk0) = true) : upG size (f + 1) z t = none := by
  show (if _ then _ else _) = _
  rw [if_pos h, if_pos hs]
theorem upG_go {size : Int} {f : Nat} {z : Lzs} {t : Pm Dc} (h : (z.out.length : Int) < size) (hs : ¬ stopD size (packP decM z t pk0) = true) : upG size (f + 1) z t = upG size f (packP decM z t pk0).2.1 (packP decM z t pk0).2.2 := by
  show (if _ then _ else _) = _
  rw [if_pos h, if_neg hs]
/-- whether the stream doesn't end behind one packet more -/
def endD (n : Nat) (r : Nat × Lzs × Pm Dc) : Bool := !r.2.1.ended || (r.2.1.bad || (decide (r.2.1.out.length ≠ n) || !leftD r.2.2.x))
def finD (z : Lzs) (t : Pm Dc) : Option (List UInt8) :=
  if leftD t.x = true then some z.out
  else if endD z.out.length (packP decM z t pk0) = true then none else some (packP decM z t pk0).2.1.out
def finU : Option (Lzs × Pm Dc) → Option (List UInt8)
  | none => none
  | some zt => finD zt.1 zt.2
/-- what a stream of a size is -/
def unpackN (bs : List UInt8) (lc lp pb dict : Nat) (size : Int) : Option (List UInt8) :=
  finU (upG size size.toNat (Lzs.start lc lp pb dict) ⟨List.replicate (probsN lc lp) 1024, started bs⟩)

/-- a packet that isn't the last tells a byte at least -/
theorem pack_more {size : Int} {z : Lzs} {t : Pm Dc} (h : stopD size (packP decM z t pk0) = false) : z.out.length < (packP decM z t pk0).2.1.out.length := by
  have hb : (packP decM z t pk0).2.1.bad = false := by
    unfold stopD at h
    revert h
    cases (packP decM z t pk0).2.1.bad <;> simp
  have hen : (packP decM z t pk0).2.1.ended = false := by
    unfold stopD at h
    revert h
    cases (packP decM z t pk0).2.1.ended <;> simp
  have hcopy : ∀ (f n : Nat) (z : Lzs), (copyG f n z).2.bad = false → z.out.length + f = (copyG f n z).2.out.length := by
    intro f
    induction f with
    | zero => intro n z _; rfl
    | succ f ih =>
      intro n z hb
      by_cases hz : z.has z.r0 = true
      · rw [copyG_go hz] at hb ⊢
        have := ih _ _ hb
        have hl : (z.push (z.back z.r0)).out.length = z.out.length + 1 := by show (z.out ++ [_]).length = _; simp
        omega
      · rw [copyG_stop hz] at hb
        cases hb
  have htail : ∀ (many : Nat) (z : Lzs) (t : Pm Dc), 1 ≤ many → (tailP decM many z t).2.1.bad = false → (tailP decM many z t).2.1.ended = false → z.out.length < (tailP decM many z t).2.1.out.length := by
    intro many z t hm h1 h2
    unfold tailP at h1 h2 ⊢
    split at h1
    · rename_i hc
      rw [if_pos hc] at h2
      exfalso
      have h1 : (z.bad || decM.bad t.x) = false := h1
      have h2 : z.ended = false := h2
      rw [h1, h2] at hc
      cases hc
    · rename_i hc
      rw [if_neg hc]
      have := hcopy many 0 z h1
      show z.out.length < (copyG many 0 z).2.out.length
      omega
  revert hb hen
  unfold packP packK
  split
  · unfold packL
    split
    · intro hb; cases hb
    · intro _ _
      show z.out.length < (z.out ++ [_]).length
      simp
  split
  · intro hb hen
    exact htail _ _ _ (by omega) hb hen
  split
  · intro hb hen
    exact htail _ _ _ (by omega) hb hen
  · intro hb hen
    exact htail _ _ _ (by omega) hb hen

theorem pk0_fine : PkFine pk0 := ⟨by decide, by decide, by decide⟩
theorem pk0_may (z : Lzs) : PkMay decM z pk0 := fun h => by cases h
theorem pk0_len : PkLen decM pk0 := .inl ⟨by decide, by decide⟩
end Go.Proofs.YtiolfjhddbiglaaGreatDoor
