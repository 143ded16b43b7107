/-
  RdNew: put together.
-/
import Derived.Test.YtdnkoeafnnohnaaV09
import Derived.Test.YtdnkoeafnnohnaaV03
import Derived.Laws.MakeOwn
import Derived.Test.YtdnkoeafnnohnaaV16
set_option linter.unusedVariables false
set_option linter.unusedSimpArgs false
/-
  A decoder begins; fresh probabilities.
-/
namespace Go.Proofs.Ytdnkoeafnnohnaa
open Go.RowKit

/-- What stands behind the first byte and j shifts. -/
def OnWay (w : World) (g : Nat) (S : Sc) (bs : List UInt8) (j : Nat) : Prop :=
  ∃ at_ c bad, Blk w g 91 (pdCells S.f 4294967295 c bad) ∧ S.At w bs at_ ∧ c < 4294967296 ∧ ((bad = true ∧ started bs = none) ∨ (bad = false ∧ at_ = j + 1 ∧ Begun bs j c))

/-- A shift on the way. -/
theorem onway_any {w : World} {g j : Nat} {S : Sc} {bs : List UInt8} (hS : ScOk S) (h : OnWay w g S bs j) (hg : ¬ S.hold g) (hj : j < 4) :
    Calls Try.prog 46 #[.pointer (some ⟨g, 0, none⟩)] w fun e w' => e = .returned (.tuple #[]) ∧ OnWay w' g S bs (j + 1) ∧ Only (two S g) w w' := by
  obtain ⟨at_, c, bad, hB, hF, hc, h0⟩ := h
  rcases h0 with ⟨rfl, h0⟩ | ⟨rfl, rfl, h0⟩
  · refine (shift_bad hB).mono ?_
    rintro e w' ⟨rfl, rfl⟩
    exact ⟨rfl, ⟨at_, c, true, hB, hF, hc, .inl ⟨rfl, h0⟩⟩, Only.refl _ _⟩
  · have hc4 : c < 16777216 := Nat.lt_of_lt_of_le (begun_lt h0) (Nat.pow_le_pow_right (n := 256) (by omega) (show j ≤ 3 by omega))
    refine (shift_any hS hB hF hg hc4).mono ?_
    rintro e w' ⟨rfl, at', c', bad', h1, h2, h3, h4⟩
    refine ⟨rfl, ⟨at', c', bad', h1, h2, ?_, ?_⟩, h3⟩
    · rcases h4 with ⟨_, rfl, _⟩ | ⟨x, _, rfl, _⟩
      · exact hc
      · have := x.toNat_lt; omega
    · rcases h4 with ⟨rfl, rfl, h5⟩ | ⟨x, rfl, rfl, h5⟩
      · refine .inl ⟨rfl, started_short ?_⟩
        have := List.drop_eq_nil_iff.1 h5
        omega
      · refine .inr ⟨rfl, ?_, begun_next h0 h5⟩
        have hl := congrArg List.length h5
        simp only [List.length_cons, List.length_drop] at hl
        have := hS.le hF
        have := hS.le h2
        have := (begun_next h0 h5).1
        omega

set_option maxRecDepth 100000 in
set_option maxHeartbeats 4000000 in
theorem pnew_any {w : World} {S : Sc} {bs : List UInt8} (hS : ScOk S) (hF : S.At w bs 0) :
    Calls Try.prog 29 #[.iface 37 (.pointer (some ⟨S.f, 0, none⟩))] w fun e w' =>
      e = .returned (.pointer (some ⟨w.heap.size, 0, none⟩)) ∧ Pd w' w.heap.size S bs (started bs) ∧ Only S.turn w w' := by
  have hgh : ¬ S.hold w.heap.size := fun h => Nat.lt_irrefl _ (hS.old hF h)
  have HS := Lib.hid hS
  have hgt : ¬ S.turn w.heap.size := fun h => hgh (hS.tf _ h)
  have HF := Lib.hid hF
  clear hF hS
  go_enter Try.func29, Try.ntmps29
  go_wp2_with fail
  have hB0 : Blk (w.alloc (.cells #[.iface 37 (.pointer (some ⟨S.f, 0, none⟩)), .int .u32 4294967295, .int .u32 0, .bool false] 91)) w.heap.size 91 (pdCells S.f 4294967295 0 false) := Blk.fresh _ _ _
  have hO0 : Only S.turn w (w.alloc (.cells #[.iface 37 (.pointer (some ⟨S.f, 0, none⟩)), .int .u32 4294967295, .int .u32 0, .bool false] 91)) := (Only.refl _ w).alloc _
  have hF0 := HS.out.only HF.out ((Only.refl (fun _ => False) w).alloc (.cells #[.iface 37 (.pointer (some ⟨S.f, 0, none⟩)), .int .u32 4294967295, .int .u32 0, .bool false] 91)) (fun i hi => hi.elim)
  generalize hg : w.heap.size = g at *
  have HG := Lib.hid hg
  clear hg
  refine (shift_any HS.out hB0 hF0 hgh (by omega)).mono ?_
  rintro e w1 ⟨rfl, at1, c1, bad1, hB1, hF1, hO1, h1⟩
  have HO1 := Lib.hid (hO0.trans' hO1 (fun i hi => by have := HG.out; rcases hi with hi | hi; exact .inl hi; exact .inr (by omega)))
  have j2 : w1.cell? ⟨g, 2, none⟩ = some (.int .u32 (c1 : Int)) := hB1.cell 2
  have HB1 := Lib.hid (fun so => refuse_any (so := so) hB1)
  have HF1 := Lib.hid hF1
  have H1 := Lib.hid h1
  have hc1 : c1 < 4294967296 := by
    rcases h1 with ⟨_, rfl, _⟩ | ⟨x, _, rfl, _⟩
    · omega
    · have := x.toNat_lt; omega
  have HC1 := Lib.hid hc1
  clear hB0 hF0 hO0 hB1 hF1 hO1 h1 HF hc1
  go_wp2_with fail
  refine (HB1.out _).mono ?_
  rintro e w2 ⟨rfl, hB2, hg2⟩
  have hS2 := Only.of_grown (S := fun i => i = g) hg2 rfl
  have hw2 : OnWay w2 g S bs 0 := by
    have hF2 := HS.out.only HF1.out hS2 (fun i hi => by rcases hi with rfl; exact hgh)
    refine ⟨at1, c1, _, hB2, hF2, HC1.out, ?_⟩
    rcases H1.out with ⟨rfl, rfl, h⟩ | ⟨x, rfl, rfl, h⟩
    · refine .inl ⟨rfl, started_short ?_⟩
      have := congrArg List.length h
      simp only [List.length_drop, List.length_nil] at this
      omega
    · have hx : bs.getD 0 0 = x := by
        cases bs with
        | nil => cases h
        | cons y t => injection h with h _
      have hl := congrArg List.length h
      simp only [List.length_cons, List.length_drop] at hl
      have hle := HS.out.le hF2
      by_cases h0 : x.toNat = 0
      · refine .inr ⟨by simp [h0], by omega, by omega, by rw [hx]; exact h0, by simp [be, h0]⟩
      · exact .inl ⟨by simp; omega, started_head (by rw [hx]; exact h0)⟩
  have HW2 := Lib.hid hw2
  have HO2 := Lib.hid (HO1.out.trans' hS2 (fun i hi => .inr (by have := HG.out; omega)))
  clear hB2 hg2 hS2 HB1 HF1 H1 HO1 HC1 j2 hw2
  go_wp2_with fail
  go_loopw [18] (fun i wr => ∃ j : Nat, j ≤ 4 ∧ i = .int .i64 (j : Int) ∧ OnWay wr g S bs j ∧ Only S.turn w wr) (fun i _ => 4 - (intOf i).toNat)
  case atStart => exact ⟨0, by omega, rfl, HW2.out, HO2.out⟩
  case round =>
    clear HW2 HO2
    obtain ⟨j, hj, rfl, hw, ho⟩ := hrel
    by_cases hlt : j < 4
    · have K := Lib.hid (onway_any HS.out hw hgh hlt)
      have HO := Lib.hid ho
      have hlt' : (j : Int) < 4 := by omega
      clear hw ho
      go_wp2_with fail
      refine K.out.mono ?_
      rintro e w3 ⟨rfl, hw3, ho3⟩
      have HW3 := Lib.hid hw3
      have HO3 := Lib.hid (HO.out.trans' ho3 (fun i hi => by have := HG.out; rcases hi with hi | hi; exact .inl hi; exact .inr (by omega)))
      clear hw3 ho3
      go_wp2_with fail
      go_roundw
      case rel => exact ⟨j + 1, by omega, by go_num, HW3.out, HO3.out⟩
      case measure => simp [intOf]; omega
    · obtain rfl : j = 4 := by omega
      obtain ⟨at_, c, bad, hB, hF, hc, h0⟩ := hw
      have j1 : wr.drew.cell? ⟨g, 1, none⟩ = some (.int .u32 4294967295) := hB.cell 1
      have j2 : wr.drew.cell? ⟨g, 2, none⟩ = some (.int .u32 (c : Int)) := hB.cell 2
      have HB := Lib.hid (fun so => refuse_any (so := so) (show Blk wr.drew g 91 (pdCells S.f 4294967295 c bad) from hB))
      have HF := Lib.hid (show S.At wr.drew bs at_ from HS.out.only hF ((Only.refl (fun _ => False) wr).drew) (fun _ hh => hh.elim))
      have HO := Lib.hid (ho.drew)
      have H0 := Lib.hid h0
      have HC := Lib.hid hc
      clear hB hF ho h0 hc
      go_wp2_with fail
      go_still_tail 10, (by kernel_rfl)
      change wpList _ _ _ _ _ wr.drew
      generalize wr.drew = w2 at *
      go_wp2_with fail
      refine (HB.out _).mono ?_
      rintro e w3 ⟨rfl, hB3, hg3⟩
      have HB3 := Lib.hid hB3
      have HG3 := Lib.hid (Only.of_grown (S := fun i => i = g) hg3 rfl)
      clear hB3 hg3
      go_wp2_with fail
      go_ret
      rw [HG.out]
      refine ⟨rfl, ⟨at_, 4294967295, c, _, HB3.out, HS.out.only HF.out HG3.out (fun i hi => by rcases hi with rfl; exact hgh), HG.out ▸ hgh, HS.out.le HF.out, by omega, HC.out, ?_⟩, HO.out.trans' HG3.out (fun i hi => .inr (by have := HG.out; omega))⟩
      rcases H0.out with ⟨rfl, h⟩ | ⟨rfl, rfl, h⟩
      · exact .inl ⟨rfl, h⟩
      · rw [started_begun h]
        by_cases hcc : c < 4294967295
        · rw [if_pos hcc]
          exact .inr ⟨by simp; omega, rfl⟩
        · rw [if_neg hcc]
          exact .inl ⟨by simp; omega, rfl⟩


theorem madeNums (n : Nat) : (madeCells #[Value.int .u16 0] n).toList = pv (List.replicate n 0) := by
  rw [toList_madeCells_one]
  simp [pv]

set_option maxRecDepth 100000 in
set_option maxHeartbeats 2000000 in
theorem fresh_any {n : Nat} (hn : n ≤ 1000000) (w : World) :
    Calls Try.prog 24 #[.int .i64 (n : Int)] w fun e w' =>
      e = .returned (.slice (some ⟨w.heap.size, 0, none⟩) n n) ∧ Row w' w.heap.size (List.replicate n 1024) n ∧ Below w.heap.size w w' := by
  obtain ⟨i, hi, hz0, hz1, hz2⟩ := info_parts info_u16
  have h0 : ¬ (n : Int) < 0 := by omega
  have h1 : ¬ (n : Int) > 2147483647 := by omega
  go_enter Try.func24, Try.ntmps24
  go_wp2_with (first
      | (at_make; refine wpList_make_full _ rfl _ _ 43 rfl w.heap.size 46 i _ 1 Try.underlying43 hi hz0 hz1 _ _ _ _ n rfl rfl rfl rfl ?b1 ?b2 (by simp) ?_))
  case b1 => omega
  case b2 => unfold maxLen; omega
  intro w2 ho hg
  rw [madeNums] at ho
  have HO := Lib.hid ho
  have HG := Lib.hid (only_none hg)
  clear ho hg
  go_wp2_with fail
  go_loopw [4, 14] (fun _ k wr => ∃ j : Nat, j ≤ n ∧ k = .int .i64 (j : Int) ∧ wr.ownsRow w.heap.size 46 1 (.slice (some ⟨w.heap.size, 0, none⟩) n n) n (pv (List.replicate j 1024 ++ List.replicate (n - j) 0)) ∧ Below w.heap.size w wr) (fun _ k _ => n - (intOf k).toNat)
  case atStart => exact ⟨0, by omega, rfl, by simpa using HO.out, HG.out⟩
  case round =>
    clear HO HG
    obtain ⟨j, hj, rfl, ho, hb⟩ := hrel
    have HO := Lib.hid ho
    have HG := Lib.hid hb
    clear ho hb
    by_cases hlt : j < n
    · have hfree := HO.out.frozenAt j
      have hl2 : (pv (List.replicate j 1024 ++ List.replicate (n - j) 0)).length = n := by rw [pv_length]; simp; omega
      obtain ⟨old, hold⟩ : ∃ u, wr.cell? ⟨w.heap.size, j, none⟩ = some u := by
        rw [HO.out.cellAt j (by omega), List.getElem?_eq_getElem (by omega)]
        exact ⟨_, rfl⟩
      have i1 : (j : Int) < (n : Int) := by omega
      have i0 : (0 : Int) ≤ (j : Int) := by omega
      have HN := Lib.hid (show (pv (List.replicate j 1024 ++ List.replicate (n - j) 0)).set j (.int .u16 1024) = pv (List.replicate (j + 1) 1024 ++ List.replicate (n - (j + 1)) 0) by
        obtain ⟨m, hm⟩ : ∃ m, n - j = m + 1 := ⟨n - j - 1, by omega⟩
        rw [show n - (j + 1) = m by omega, hm, List.replicate_succ, show (Value.int .u16 1024) = .int .u16 ((1024 : Nat) : Int) from rfl, pv_set, List.set_append_right _ _ (by simp), List.length_replicate, Nat.sub_self, List.set_cons_zero, List.replicate_succ']
        simp)
      clear hl2
      go_wp2_with fail
      go_roundw
      case rel =>
        refine ⟨j + 1, by omega, by go_num, ?_, HG.out.setCell (by simp) _⟩
        have ho := (HO.out.stored j (.int .u16 1024)).1
        rw [HN.out] at ho
        exact ho
      case measure => simp [intOf]; omega
    · obtain rfl : j = n := by omega
      go_wp2_with fail
      go_ret
      refine ⟨rfl, ?_, HG.out⟩
      have ho := HO.out
      rw [Nat.sub_self, List.replicate_zero, List.append_nil] at ho
      unfold Row
      rw [List.length_replicate]
      exact own_mono ho (Nat.zero_le _)
end Go.Proofs.Ytdnkoeafnnohnaa
