/-
  Rows that are read: readRow, allHold.
-/
import Derived.Test.YtolkgljbphgacaaPutRow
import Derived.Test.YtolkgljbphgacaaArithB
namespace Go.Proofs.Ytolkgljbphgacaa
open Go.RowKit

theorem madeBools (n : Nat) : (madeCells #[Value.bool false] n).toList = fv (List.replicate n false) := by
  rw [toList_madeCells_one]
  simp [fv]

set_option maxHeartbeats 1000000 in
theorem allHold_any {n : Nat} {x : Int} {w : World} (hx : x = (n : Int)) (hn : n ≤ 1000000000) :
    Calls Try.prog 56 #[.int .i64 x] w fun e w' =>
      ∃ A' c', e = .returned (.slice A' n c') ∧ w'.ownsRow w.heap.size 4 1 (.slice A' n c') n (fv (List.replicate n true)) ∧ Below w.heap.size w w' := by
  subst hx
  obtain ⟨i, hi, hz0, hz1, hz2⟩ := info_parts info_bool
  go_enter Try.func56, Try.ntmps56
  go_wp2_with (at_make; refine wpList_make_full _ rfl _ _ 39 rfl w.heap.size 4 i _ 1 Try.underlying39 hi hz0 hz1 _ _ _ _ n rfl rfl rfl rfl ?b1 ?b2 ?b3 ?_)
  case b1 => rw [hz2]; omega
  case b2 => unfold maxLen; omega
  case b3 => omega
  intro w1 ho hg
  rw [madeBools] at ho
  have HO := Lib.hid ho
  have HB := Lib.hid (only_none hg)
  clear ho hg
  go_wp2
  go_loopw [8] (fun i wr => ∃ k : Nat, k ≤ n ∧ i = .int .i64 k ∧ wr.ownsRow w.heap.size 4 1 (.slice (some ⟨w.heap.size, 0, none⟩) n n) n (fv (List.replicate k true ++ List.replicate (n - k) false)) ∧ Below w.heap.size w wr) (fun i _ => n - (intOf i).toNat)
  case atStart => exact ⟨0, Nat.zero_le _, rfl, by simpa using HO.out, HB.out⟩
  case round =>
    clear HO HB
    obtain ⟨k, hk, rfl, ho, hb⟩ := hrel
    have HO := Lib.hid ho
    have HB := Lib.hid hb
    clear ho hb
    by_cases hlt : k < n
    · have hfree := HO.out.frozenAt k
      have hcell : wr.cell? ⟨w.heap.size, k, none⟩ = some (.bool false) := by
        rw [HO.out.cellAt k (by omega)]
        simp [fv, hlt, List.getElem?_append]
        rw [List.getElem?_replicate, if_pos (by omega)]
      go_wp2
      go_roundw
      case rel =>
        refine ⟨k + 1, by omega, by go_num, ?_, HB.out.setCell (by simp) _⟩
        have ho := (HO.out.stored k (.bool true)).1
        have e : (fv (List.replicate k true ++ List.replicate (n - k) false)).set k (.bool true) = fv (List.replicate (k + 1) true ++ List.replicate (n - (k + 1)) false) := by
          obtain ⟨m, hm⟩ : ∃ m, n - k = m + 1 := ⟨n - k - 1, by omega⟩
          rw [show n - (k + 1) = m by omega, hm, List.replicate_succ' (n := k), List.replicate_succ (n := m)]
          simp [fv, List.set_append_right]
        rw [e] at ho
        exact ho
      case measure => simp [intOf]; omega
    · obtain rfl : k = n := by omega
      go_wp2
      go_ret
      exact ⟨_, _, rfl, by simpa using HO.out, HB.out⟩
theorem set_next (bs : List UInt8) (k n : Nat) (h : k < n) : (fv (rowOf bs k ++ List.replicate (n - k) false)).set k (.bool (bitAt bs k)) = fv (rowOf bs (k + 1) ++ List.replicate (n - (k + 1)) false) := by
  obtain ⟨m, hm⟩ : ∃ m, n - k = m + 1 := ⟨n - k - 1, by omega⟩
  rw [show n - (k + 1) = m by omega, hm, rowOf_succ, List.replicate_succ (n := m), fv_append, fv_append, List.set_append_right _ _ (by simp [fv, rowOf_length])]
  simp [fv, rowOf_length]

set_option maxHeartbeats 1000000 in
theorem readRow_short {B : Option Addr} {m c : Nat} {x : Int} {w : World} (hm : m ≤ 1000000000) (hx : x < 0 ∨ ∃ n : Nat, x = (n : Int) ∧ n ≤ 9223372036854775807 ∧ m < rowLenN n) :
    Calls Try.prog 54 #[.slice B m c, .int .i64 x] w fun e w' => e = .returned (.tuple #[.slice none 0 0, .int .i64 3]) ∧ w = w' := by
  rcases hx with h | ⟨n, rfl, hn, hlt⟩
  · go_enter Try.func54, Try.ntmps54
    go_wp2
    go_ret2
    exact ⟨rfl, rfl⟩
  · have HL := Lib.hid (fun W => rowLen_any (n := n) (x := (n : Int)) (w := W) rfl hn)
    generalize rowLenN n = L at HL hlt
    go_enter Try.func54, Try.ntmps54
    go_wp2_with (go_at_call 55; refine (HL.out _).mono ?_; rintro e w1 ⟨rfl, rfl⟩)
    go_ret2
    exact ⟨rfl, rfl⟩

set_option maxHeartbeats 1000000 in
theorem readRow_bad {B : Option Addr} {m c n : Nat} {bs : List UInt8} {w : World} (hS : Sl w B m (bv bs)) (hm : m ≤ 1000000000) (hL : rowLenN n ≤ m) (hbad : tailBad bs n = true) :
    Calls Try.prog 54 #[.slice B m c, .int .i64 (n : Int)] w fun e w' => e = .returned (.tuple #[.slice none 0 0, .int .i64 5]) ∧ w = w' := by
  have h8 : n % 8 ≠ 0 := fun h => by rw [tailBad_none bs n h] at hbad; cases hbad
  have hn : n ≤ 8000000000 := by unfold rowLenN at hL; omega
  have hdm : n / 8 < m := by unfold rowLenN at hL; omega
  have hbl : bs.length = m := by rw [← hS.1, bv_length]
  have HL := Lib.hid (fun W => rowLen_any (n := n) (x := (n : Int)) (w := W) rfl (by omega))
  obtain ⟨b, o, rfl, _, hc⟩ := hS.2 (by omega)
  have hcell : w.cell? ⟨b, o + n / 8, none⟩ = some (.int .u8 ((bs.getD (n / 8) 0).toNat : Int)) := by rw [hc (n / 8) hdm, bv_get _ _ (by omega)]
  have hx := (tailBad_iff bs n h8).1 hbad
  generalize bs.getD (n / 8) 0 = x at hcell hx
  obtain ⟨z, t1, t2, t3, t4⟩ := tail_test x.toNat (n % 8) x.toNat_lt (by omega)
  have hz : ¬ z = 0 := fun h => hx (t4.1 h)
  have hz2 : ((z : Int) == 0) = false := by simp; omega
  have q3 : (n : Int) % 8 = ((n % 8 : Nat) : Int) := by omega
  have q1 : (n : Int) / 8 = ((n / 8 : Nat) : Int) := by omega
  generalize rowLenN n = L at HL hL
  clear hS hc hx t4 hbl hbad
  generalize n % 8 = tt at q3 t1 t2 h8
  generalize n / 8 = jj at q1 hcell hdm
  have hn8 : ((tt : Int) != 0) = true := by simp; omega
  have hz8 : ((z : Int) != 0) = true := by simp; omega
  clear hz2
  go_enter Try.func54, Try.ntmps54
  go_wp2_with (go_at_call 55; refine (HL.out _).mono ?_; rintro e w1 ⟨rfl, rfl⟩)
  go_ret2
  exact ⟨rfl, rfl⟩

/-- the last part: the row is made, bit by bit -/
theorem readRow_ok {B : Option Addr} {m c n : Nat} {bs : List UInt8} {w : World} (hS : Sl w B m (bv bs)) (hm : m ≤ 1000000000) (hL : rowLenN n ≤ m) (hgood : tailBad bs n = false) :
    Calls Try.prog 54 #[.slice B m c, .int .i64 (n : Int)] w fun e w' =>
      ∃ A' c', e = .returned (.tuple #[.slice A' n c', .int .i64 0]) ∧ w'.ownsRow w.heap.size 4 1 (.slice A' n c') n (fv (rowOf bs n)) ∧ Below w.heap.size w w' := by
  obtain ⟨i, hi, hz0, hz1, hz2⟩ := info_parts info_bool
  have hn : n ≤ 8000000000 := by unfold rowLenN at hL; omega
  have hdm : ∀ k, k < n → k / 8 < m := by unfold rowLenN at hL; omega
  have hbl : bs.length = m := by rw [← hS.1, bv_length]
  have HL := Lib.hid (fun W => rowLen_any (n := n) (x := (n : Int)) (w := W) rfl (by omega))
  have HDM := Lib.hid hdm
  have HBL := Lib.hid hbl
  have HS := Lib.hid hS
  have hcase : n % 8 = 0 ∨ n % 8 ≠ 0 ∧ ∃ b o x z : Nat, B = some ⟨b, o, none⟩ ∧ w.cell? ⟨b, o + n / 8, none⟩ = some (.int .u8 (x : Int)) ∧ x < 256 ∧ n / 8 < m ∧ IntKind.u8.wrap ((x : Int) * 2 ^ (n % 8)) = (z : Int) ∧ ((x : Int) * 2 ^ (n % 8) % 256) = (z : Int) ∧ z = 0 := by
    by_cases h8 : n % 8 = 0
    · exact .inl h8
    · right
      have hd : n / 8 < m := by unfold rowLenN at hL; omega
      obtain ⟨b, o, rfl, _, hc⟩ := hS.2 (by omega)
      have hcell : w.cell? ⟨b, o + n / 8, none⟩ = some (.int .u8 ((bs.getD (n / 8) 0).toNat : Int)) := by rw [hc (n / 8) hd, bv_get _ _ (by omega)]
      obtain ⟨z, t1, t2, t3, t4⟩ := tail_test (bs.getD (n / 8) 0).toNat (n % 8) (bs.getD (n / 8) 0).toNat_lt (by omega)
      refine ⟨h8, b, o, _, z, rfl, hcell, (bs.getD (n / 8) 0).toNat_lt, hd, t1, t2, t4.2 ?_⟩
      have := tailBad_iff bs n h8
      rw [hgood] at this
      exact Classical.not_not.1 (fun h => by simpa using this.2 h)
  generalize rowLenN n = L at HL hL
  clear hS hdm hbl hgood
  have HCASE := Lib.hid hcase
  clear hcase
  rcases HCASE.out with h8 | ⟨h8, b0, o0, x, z, rfl, hcell, hx, hd, t1, t2, rfl⟩
  · have q3 : (n : Int) % 8 = 0 := by omega
    clear h8
    go_enter Try.func54, Try.ntmps54
    go_wp2_with (first
      | (go_at_call 55; refine (HL.out _).mono ?_; rintro e w1 ⟨rfl, rfl⟩)
      | (at_make; refine wpList_make_full _ rfl _ _ 39 rfl w.heap.size 4 i _ 1 Try.underlying39 hi hz0 hz1 _ _ _ _ n rfl rfl rfl rfl (by rw [hz2]; omega) (by unfold maxLen; omega) (by omega) ?_))
    intro w1 ho hg
    rw [madeBools] at ho
    have HO1 := Lib.hid ho
    have HB1 := Lib.hid (only_none hg)
    clear ho hg
    go_wp2_with fail
    go_loopw [34] (fun i wr => ∃ k : Nat, k ≤ n ∧ i = .int .i64 k ∧ wr.ownsRow w.heap.size 4 1 (.slice (some ⟨w.heap.size, 0, none⟩) n n) n (fv (rowOf bs k ++ List.replicate (n - k) false)) ∧ Below w.heap.size w wr) (fun i _ => n - (intOf i).toNat)
    case atStart => exact ⟨0, Nat.zero_le _, rfl, by simpa [rowOf] using HO1.out, HB1.out⟩
    case round =>
      clear HO1 HB1
      obtain ⟨k, hk, rfl, ho, hb⟩ := hrel
      have HO := Lib.hid ho
      have HB := Lib.hid hb
      clear ho hb
      by_cases hlt : k < n
      · have hkd := HDM.out k hlt
        have hfree := HO.out.frozenAt k
        have hcellO : wr.cell? ⟨w.heap.size, k, none⟩ = some (.bool false) := by
          rw [HO.out.cellAt k (by omega)]
          simp [fv, rowOf_length, List.getElem?_append]
          rw [List.getElem?_replicate, if_pos (by omega)]
        obtain ⟨b, o, hBe, hbw, hc⟩ := HS.out.2 (by omega)
        have hcellB : wr.cell? ⟨b, o + k / 8, none⟩ = some (.int .u8 ((bs.getD (k / 8) 0).toNat : Int)) := by
          rw [HB.out.cell hbw, hc (k / 8) hkd, bv_get _ _ (by have := HBL.out; omega)]
        obtain ⟨zz, a1, a2, a3, a4⟩ := and_bit (bs.getD (k / 8) 0).toNat (k % 8) (bs.getD (k / 8) 0).toNat_lt (by omega)
        have hba : ((bs.getD (k / 8) 0).toNat / 2 ^ (7 - k % 8) % 2 == 1) = bitAt bs k := rfl
        rw [hba] at a3 a4
        have HN := Lib.hid (set_next bs k n hlt)
        generalize bs.getD (k / 8) 0 = xx at hcellB a1
        generalize bitAt bs k = bit at a3 a4 HN
        have r1 : IntKind.i64.wrap ((k : Int) / 8) = ((k / 8 : Nat) : Int) := by rw [IntWalk.i64_in _ (by omega)]; omega
        have r3 : (k : Int).tmod 8 = ((k % 8 : Nat) : Int) := by rw [IntWalk.rem_in _ _ (by omega)]; omega
        have r4 : IntKind.i64.wrap ((k % 8 : Nat) : Int) = ((k % 8 : Nat) : Int) := IntWalk.i64_in _ (by omega)
        have r5 : ((k / 8 : Nat) : Int) < (m : Int) := by omega
        have r6 : (0 : Int) ≤ ((k / 8 : Nat) : Int) := by omega
        have r7 : k % 8 < 8 := by omega
        have HSB := Lib.hid hc
        first | subst hBe | (simp only [Option.some.injEq, Addr.mk.injEq] at hBe; obtain ⟨rfl, rfl, -⟩ := hBe)
        clear hc hba
        generalize k / 8 = kj at r1 r5 r6 hcellB hkd
        generalize k % 8 = kt at r3 r4 r7 a1
        go_wp2_with fail
        go_still_tail 13, (by kernel_rfl)
        change wpList _ _ _ _ _ wr.drew
        go_wp2
        go_roundw
        case rel =>
          refine ⟨k + 1, by omega, by go_num, ?_, (HB.out.drew).setCell (by simp) _⟩
          have ho := (HO.out.drew.stored k (.bool bit)).1
          rw [HN.out] at ho
          exact ho
        case measure => simp [intOf]; omega
      · obtain rfl : k = n := by omega
        go_wp2
        go_ret2
        exact ⟨_, _, rfl, by simpa using HO.out, HB.out⟩
  · have q3 : (n : Int) % 8 = ((n % 8 : Nat) : Int) := by omega
    have q1 : (n : Int) / 8 = ((n / 8 : Nat) : Int) := by omega
    generalize n % 8 = tt at q3 t1 t2 h8
    generalize n / 8 = jj at q1 hcell hd
    have hn8 : ((tt : Int) != 0) = true := by simp; omega
    go_enter Try.func54, Try.ntmps54
    go_wp2_with (first
      | (go_at_call 55; refine (HL.out _).mono ?_; rintro e w1 ⟨rfl, rfl⟩)
      | (at_make; refine wpList_make_full _ rfl _ _ 39 rfl w.heap.size 4 i _ 1 Try.underlying39 hi hz0 hz1 _ _ _ _ n rfl rfl rfl rfl (by rw [hz2]; omega) (by unfold maxLen; omega) (by omega) ?_))
    intro w1 ho hg
    rw [madeBools] at ho
    have HO1 := Lib.hid ho
    have HB1 := Lib.hid (only_none hg)
    clear ho hg
    go_wp2_with fail
    go_loopw [34] (fun i wr => ∃ k : Nat, k ≤ n ∧ i = .int .i64 k ∧ wr.ownsRow w.heap.size 4 1 (.slice (some ⟨w.heap.size, 0, none⟩) n n) n (fv (rowOf bs k ++ List.replicate (n - k) false)) ∧ Below w.heap.size w wr) (fun i _ => n - (intOf i).toNat)
    case atStart => exact ⟨0, Nat.zero_le _, rfl, by simpa [rowOf] using HO1.out, HB1.out⟩
    case round =>
      clear HO1 HB1
      obtain ⟨k, hk, rfl, ho, hb⟩ := hrel
      have HO := Lib.hid ho
      have HB := Lib.hid hb
      clear ho hb
      by_cases hlt : k < n
      · have hkd := HDM.out k hlt
        have hfree := HO.out.frozenAt k
        have hcellO : wr.cell? ⟨w.heap.size, k, none⟩ = some (.bool false) := by
          rw [HO.out.cellAt k (by omega)]
          simp [fv, rowOf_length, List.getElem?_append]
          rw [List.getElem?_replicate, if_pos (by omega)]
        obtain ⟨b, o, hBe, hbw, hc⟩ := HS.out.2 (by omega)
        have hcellB : wr.cell? ⟨b, o + k / 8, none⟩ = some (.int .u8 ((bs.getD (k / 8) 0).toNat : Int)) := by
          rw [HB.out.cell hbw, hc (k / 8) hkd, bv_get _ _ (by have := HBL.out; omega)]
        obtain ⟨zz, a1, a2, a3, a4⟩ := and_bit (bs.getD (k / 8) 0).toNat (k % 8) (bs.getD (k / 8) 0).toNat_lt (by omega)
        have hba : ((bs.getD (k / 8) 0).toNat / 2 ^ (7 - k % 8) % 2 == 1) = bitAt bs k := rfl
        rw [hba] at a3 a4
        have HN := Lib.hid (set_next bs k n hlt)
        generalize bs.getD (k / 8) 0 = xx at hcellB a1
        generalize bitAt bs k = bit at a3 a4 HN
        have r1 : IntKind.i64.wrap ((k : Int) / 8) = ((k / 8 : Nat) : Int) := by rw [IntWalk.i64_in _ (by omega)]; omega
        have r3 : (k : Int).tmod 8 = ((k % 8 : Nat) : Int) := by rw [IntWalk.rem_in _ _ (by omega)]; omega
        have r4 : IntKind.i64.wrap ((k % 8 : Nat) : Int) = ((k % 8 : Nat) : Int) := IntWalk.i64_in _ (by omega)
        have r5 : ((k / 8 : Nat) : Int) < (m : Int) := by omega
        have r6 : (0 : Int) ≤ ((k / 8 : Nat) : Int) := by omega
        have r7 : k % 8 < 8 := by omega
        have HSB := Lib.hid hc
        first | subst hBe | (simp only [Option.some.injEq, Addr.mk.injEq] at hBe; obtain ⟨rfl, rfl, -⟩ := hBe)
        clear hc hba
        generalize k / 8 = kj at r1 r5 r6 hcellB hkd
        generalize k % 8 = kt at r3 r4 r7 a1
        go_wp2_with fail
        go_still_tail 13, (by kernel_rfl)
        change wpList _ _ _ _ _ wr.drew
        go_wp2
        go_roundw
        case rel =>
          refine ⟨k + 1, by omega, by go_num, ?_, (HB.out.drew).setCell (by simp) _⟩
          have ho := (HO.out.drew.stored k (.bool bit)).1
          rw [HN.out] at ho
          exact ho
        case measure => simp [intOf]; omega
      · obtain rfl : k = n := by omega
        go_wp2
        go_ret2
        exact ⟨_, _, rfl, by simpa using HO.out, HB.out⟩
end Go.Proofs.Ytolkgljbphgacaa
