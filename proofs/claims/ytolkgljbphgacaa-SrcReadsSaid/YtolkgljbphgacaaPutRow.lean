/-
  Rows of bits that are put.
-/
import Derived.Test.YtolkgljbphgacaaPut
import Derived.Test.YtolkgljbphgacaaZeros
import Derived.Test.YtolkgljbphgacaaRowPure
import Derived.StillTailTactics
namespace Go.Proofs.Ytolkgljbphgacaa
open Go.RowKit

set_option maxHeartbeats 400000 in
theorem rowLen_any {n : Nat} {x : Int} {w : World} (hx : x = (n : Int)) (hn : n ≤ 9223372036854775807) :
    Calls Try.prog 55 #[.int .i64 x] w fun e w' => e = .returned (.int .i64 ((rowLenN n : Nat) : Int)) ∧ w = w' := by
  subst hx
  by_cases h : n % 8 = 0
  · have hr : rowLenN n = n / 8 := by unfold rowLenN; omega
    have ht : (n : Int) % 8 = 0 := by omega
    have HR := Lib.hid hr
    clear hr h
    go_enter Try.func55, Try.ntmps55
    go_wp2
    go_ret
    exact ⟨ret_int (by rw [HR.out]; omega), rfl⟩
  · have hr : rowLenN n = n / 8 + 1 := by unfold rowLenN; omega
    have ht : ((n : Int) % 8 == 0) = false := by simp; omega
    have HR := Lib.hid hr
    clear hr h
    go_enter Try.func55, Try.ntmps55
    go_wp2
    go_ret
    exact ⟨ret_int (by rw [HR.out]; omega), rfl⟩

set_option maxHeartbeats 1000000 in
theorem putRow_any {A R : Option Addr} {n c base rc : Nat} {bs : List UInt8} {row : List Bool} {w : World} (hO : w.ownsRow base 5 1 (.slice A n c) n (bv bs)) (hb : base ≤ w.heap.size) (hm : n ≤ 1000000000)
    (hR : Sl w R row.length (fv row)) (hr : row.length ≤ 1000000000) (hlo : 0 < row.length → ∀ b o, R = some ⟨b, o, none⟩ → b < base) :
    Calls Try.prog 59 #[.slice A n c, .slice R row.length rc] w fun e w' =>
      ∃ A' c', e = .returned (.slice A' (n + rowLenN row.length) c') ∧ w'.ownsRow base 5 1 (.slice A' (n + rowLenN row.length) c') (n + rowLenN row.length) (bv (bs ++ rowBytes row)) ∧ Below base w w' := by
  obtain ⟨i, hi, hz0, hz1, hz2⟩ := info_parts info_u8
  have hL : rowLenN row.length ≤ 1000000000 := by unfold rowLenN; omega
  have hLl : rowLenN row.length * 8 ≥ row.length := by unfold rowLenN; omega
  have hbl : bs.length = n := by have := hO.1; rw [bv_length] at this; omega
  generalize hLN : rowLenN row.length = L at hL hLl
  have HLN := Lib.hid hLN
  have HRL := fun W => rowLen_any (n := row.length) (x := (row.length : Int)) (w := W) rfl (by omega)
  rw [hLN] at HRL
  have HR := Lib.hid hR
  have HO := Lib.hid hO
  have HL := Lib.hid HRL
  have HBL := Lib.hid hbl
  have HLO := Lib.hid hlo
  clear hR hO HRL hLN hbl hlo
  go_enter Try.func59, Try.ntmps59
  go_wp2_with (first
    | (go_at_call 55; refine (HL.out _).mono ?_; rintro e w1 ⟨rfl, rfl⟩)
    | (at_builtin; refine wpList_app_zeros _ rfl (.tmp 10) (.tmp 13) 22 3 rfl base 5 i _ 1 .i64 .i64 Try.underlying22 Try.underlying3 hi hz0 hz1 hz2 rfl rfl _ n _ rfl HO.out L _ rfl rfl (by omega) (by omega) hb ?_))
  intro A1 c1 w1 ho hg
  have e0 : bv bs ++ List.replicate L (Value.int .u8 0) = bv (bs ++ rowB L (row.take 0)) := by
    rw [List.take_zero, rowB_nil, bv_append]
    congr 1
    simp [bv]
  rw [e0] at ho
  have HO1 := Lib.hid ho
  have HB1 := Lib.hid ((Below.refl base w).grown hg hb (fun k e => (HO.out.lt k e).1))
  clear ho hg e0
  go_wp2_with fail
  go_loopw [17] (fun i wr => ∃ k : Nat, k ≤ row.length ∧ i = .int .i64 k ∧ wr.ownsRow base 5 1 (.slice A1 (n + L) c1) (n + L) (bv (bs ++ rowB L (row.take k))) ∧ Below base w wr) (fun i _ => row.length - (intOf i).toNat)
  case atStart => exact ⟨0, Nat.zero_le _, rfl, HO1.out, HB1.out⟩
  case round =>
    clear HO1 HB1 HO
    obtain ⟨k, hk, rfl, ho, hbw⟩ := hrel
    have HOr := Lib.hid ho
    have HBr := Lib.hid hbw
    clear ho hbw
    by_cases hlt : k < row.length
    · obtain ⟨rb, ro, rfl, hrb, hc⟩ := HR.out.2 (by omega)
      have hrbase : rb < base := HLO.out (by omega) rb ro rfl
      have hcell : wr.cell? ⟨rb, ro + k, none⟩ = some (.bool (row.getD k false)) := by
        rw [HBr.out.cell hrbase, hc k hlt, fv_get _ _ hlt]
      rcases hbit : row.getD k false with _ | _
      · rw [hbit] at hcell
        have HN := Lib.hid (rowB_off L row k hbit)
        clear hc hbit
        go_wp2
        go_roundw
        case rel => exact ⟨k + 1, by omega, by go_num, by rw [HN.out]; exact HOr.out, HBr.out⟩
        case measure => simp [intOf]; omega
      · rw [hbit] at hcell
        have HN := Lib.hid (rowB_on L row k hbit (by omega))
        clear hc hbit
        obtain ⟨gb, cap, hv, hgb, _⟩ := HOr.out.form (by omega)
        simp only [Value.slice.injEq] at hv
        obtain ⟨rfl, -, rfl⟩ := hv
        have hl2 : (bv (bs ++ rowB L (row.take k))).length = n + L := by rw [bv_length, List.length_append, HBL.out, rowB_length]
        have hold : wr.cell? ⟨gb, n + k / 8, none⟩ = some (.int .u8 (byteOf (row.take k) (k / 8) : Int)) := by
          rw [HOr.out.cellAt (n + k / 8) (by omega), bv_get _ _ (by rw [bv_length] at hl2; omega)]
          have e1 : (bs ++ rowB L (row.take k)).getD (n + k / 8) 0 = UInt8.ofNat (byteOf (row.take k) (k / 8)) := by
            rw [← rowB_get L _ (k / 8) (by omega)]
            simp only [List.getD]
            rw [List.getElem?_append_right (by rw [HBL.out]; omega), HBL.out]
            congr 2
            omega
          have e2 : (UInt8.ofNat (byteOf (row.take k) (k / 8))).toNat = byteOf (row.take k) (k / 8) := by
            rw [UInt8.toNat_ofNat']
            have := byteOf_lt (row.take k) (k / 8)
            omega
          rw [e1, e2]
        have hfree := HOr.out.frozenAt (n + k / 8)
        have hlow := byteOf_low row k
        have hbl := byteOf_lt (row.take k) (k / 8)
        have q1 : IntKind.i64.wrap ((k : Int) / 8) = ((k / 8 : Nat) : Int) := by rw [IntWalk.i64_in _ (by omega)]; omega
        have q3 : (k : Int).tmod 8 = ((k % 8 : Nat) : Int) := by rw [IntWalk.rem_in _ _ (by omega)]; omega
        have q4 : IntKind.i64.wrap ((k % 8 : Nat) : Int) = ((k % 8 : Nat) : Int) := IntWalk.i64_in _ (by omega)
        have q2 : IntKind.i64.wrap ((n : Int) + ((k / 8 : Nat) : Int)) = ((n + k / 8 : Nat) : Int) := by rw [IntWalk.i64_in _ (by omega)]; omega
        have q5 : ((n + k / 8 : Nat) : Int) < ((n + L : Nat) : Int) := by omega
        have q7 : ((n + k / 8 : Nat) : Int) < (n : Int) + (L : Int) := by omega
        have q8 : (0 : Int) ≤ ((n + k / 8 : Nat) : Int) := by omega
        have q6 : n + k / 8 < n + L := by omega
        have HLO2 := Lib.hid hlow
        generalize byteOf (row.take k) (k / 8) = old at hold hbl HN HLO2
        generalize hm' : n + k / 8 = mm at hold hfree q2 q5 q6 q7 q8
        have HM := Lib.hid hm'
        generalize hj' : k / 8 = jj at q1 q2 HN HM
        generalize ht' : k % 8 = tt at q3 q4 HN HLO2
        have HT := Lib.hid ht'
        have htt : tt < 8 := by omega
        clear hlow hl2 hm' hj' ht'
        go_wp2_with fail
        go_still_tail 12, (by kernel_rfl)
        change wpList _ _ _ _ _ wr.drew
        go_wp2
        go_roundw
        case rel =>
          refine ⟨k + 1, by omega, by go_num, ?_, (HBr.out.drew).setCell (by simp; omega) _⟩
          have ho := (HOr.out.drew.stored mm (Value.int .u8 (bits .or .u8 (old : Int) (128 / 2 ^ tt)))).1
          rw [or_bit old tt hbl htt HLO2.out] at ho ⊢
          have e : (bv (bs ++ rowB L (row.take k))).set mm (Value.int .u8 ((UInt8.ofNat (old + 2 ^ (7 - tt))).toNat : Int)) = bv (bs ++ rowB L (row.take (k + 1))) := by
            rw [HN.out, bv_append, bv_append, List.set_append_right _ _ (by rw [bv_length, HBL.out]; have := HM.out; omega), bv_length, HBL.out]
            congr 1
            rw [show mm - n = jj by have := HM.out; omega]
            simp [bv]
          rw [e] at ho
          exact ho
        case measure => simp [intOf]; omega
    · obtain rfl : k = row.length := by omega
      go_wp2
      go_ret
      have ho := HOr.out
      rw [List.take_of_length_le (Nat.le_refl _)] at ho
      refine ⟨A1, c1, rfl, ?_, HBr.out⟩
      unfold rowBytes
      rw [HLN.out]
      exact ho
end Go.Proofs.Ytolkgljbphgacaa
