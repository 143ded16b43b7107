/-
  The reference's told rows of bits that are put.
-/
import Derived.Test.YtolkgljbphgacaaRefBits
namespace Go.Proofs.Ytolkgljbphgacaa
open Go.RowKit

/-- are the first k bits all 1? -/
def allB (row : List Bool) (k : Nat) : Bool := (row.take k).all id
theorem allB_zero (row : List Bool) : allB row 0 = true := rfl
theorem allB_succ (row : List Bool) (k : Nat) (h : k < row.length) : allB row (k + 1) = (allB row k && row.getD k false) := by
  unfold allB
  rw [take_snoc row k h false, List.all_append]
  simp
theorem allB_all (row : List Bool) : allB row row.length = !decide (false ∈ row) := by
  unfold allB
  rw [List.take_of_length_le (Nat.le_refl _), Bool.eq_iff_iff]
  simp only [List.all_eq_true, id, Bool.not_eq_true', decide_eq_false_iff_not]
  refine ⟨fun h hf => ?_, fun h b hb => ?_⟩
  · exact Bool.noConfusion (h _ hf)
  · cases b
    · exact absurd hb h
    · rfl

set_option maxHeartbeats 1000000 in
theorem refPutTold_any {A R : Option Addr} {n c rc : Nat} {bs : List UInt8} {row : List Bool} {w : World} (hS : Sl w A n (bv bs)) (hm : n ≤ 10000000) (hR : Sl w R row.length (fv row)) (hr : row.length ≤ 10000000) :
    Calls Try.prog 34 #[.slice A n c, .slice R row.length rc] w fun e w' =>
      ∃ A' c', e = .returned (.slice A' (n + (toldBytes row).length) c') ∧ w'.ownsRow w.heap.size 5 1 (.slice A' (n + (toldBytes row).length) c') (n + (toldBytes row).length) (bv (bs ++ toldBytes row)) ∧ Below w.heap.size w w' := by
  obtain ⟨i, hi, hz0, hz1, hz2⟩ := info_parts info_u8
  have HS := Lib.hid hS
  have HR := Lib.hid hR
  have HA := Lib.hid (allB_all row)
  clear hS hR
  go_enter Try.func34, Try.ntmps34
  go_wp2
  go_loop [6, 5] (fun x v => ∃ k : Nat, k ≤ row.length ∧ x = .int .i64 k ∧ v = .bool (allB row k)) (fun x _ => row.length - (intOf x).toNat)
  case atStart => exact ⟨0, Nat.zero_le _, rfl, rfl⟩
  case round =>
    obtain ⟨k, hk, rfl, rfl⟩ := hrel
    by_cases hlt : k < row.length
    · have HN := Lib.hid (allB_succ row k hlt)
      obtain ⟨b, o, rfl, _, hc⟩ := HR.out.2 (by omega)
      have hcell := hc k hlt
      rw [fv_get _ _ hlt] at hcell
      clear hc
      generalize row.getD k false = bit at hcell HN
      generalize allB row k = al at HN
      rcases al with _ | _
      · go_wp2
        go_round
        case rel => exact ⟨k + 1, by omega, by go_num, by rw [HN.out]; rfl⟩
        case measure => simp [intOf]; omega
      · go_wp2
        go_round
        case rel => exact ⟨k + 1, by omega, by go_num, by rw [HN.out]; rfl⟩
        case measure => simp [intOf]; omega
    · obtain rfl : k = row.length := by omega
      have hA := HA.out
      by_cases hin : false ∈ row
      · rw [decide_eq_true hin] at hA
        have htb : toldBytes row = 0 :: rowBytes row := by simp [toldBytes, hin]
        have htl : (toldBytes row).length = 1 + rowLenN row.length := by rw [htb, List.length_cons, rowBytes_length]; omega
        have HTB := Lib.hid htb
        have HTL := Lib.hid htl
        clear hin htb htl
        generalize allB row row.length = al at hA
        subst hA
        go_wp2_with (at_builtin; refine wpList_app _ rfl (.tmp 26) (.tmp 27) 22 rfl w.heap.size 5 i _ 1 Try.underlying22 hi hz0 hz1 hz2 rfl _ 0 [] rfl (own_empty w (Nat.le_refl _) _) A n c (bv bs) rfl (HS.out.alloc _) (bv_one bs) (by omega) (by omega) (by simp) ?_)
        intro A1 c1 w1 ho hg
        have HO := Lib.hid ho
        have HB := Lib.hid (((Below.refl w.heap.size w).alloc (Nat.le_refl _) _).grown hg (by simp) (fun k e => by simp [Value.ownBlock] at e; omega))
        clear ho hg
        go_wp2_with (at_builtin; refine wpList_app _ rfl (.tmp 28) (.tmp 29) 22 rfl w.heap.size 5 i _ 1 Try.underlying22 hi hz0 hz1 hz2 rfl _ n _ rfl (HO.out.alloc _) _ 1 1 _ rfl (sl_one _ _ _) (one_one _ _) (by omega) (by omega) (by have := HB.out.size; simp; omega) ?_)
        intro A2 c2 w2 ho hg
        have HO2 := Lib.hid (show w2.ownsRow w.heap.size 5 1 (.slice A2 (n + 1) c2) (n + 1) (bv (bs ++ [0])) by rw [bv_append]; exact ho)
        have HB2 := Lib.hid ((HB.out.alloc HB.out.size _).grown hg (by have := HB.out.size; simp; omega) (fun k e => (HO.out.lt k e).1))
        clear ho hg
        go_wp2_with fail
        refine (refPutBits_any (rc := rc) (Sl.of_own HO2.out) (by omega) (HR.out.below HB2.out) (by omega)).mono ?_
        rintro e w3 ⟨A3, c3, rfl, ho, hb⟩
        have HO3 := Lib.hid (own_mono ho HB2.out.size)
        have HB3 := Lib.hid (HB2.out.trans (hb.mono HB2.out.size))
        clear ho hb
        go_wp2
        go_ret
        rw [HTL.out, HTB.out, show n + (1 + rowLenN row.length) = n + 1 + rowLenN row.length by omega]
        refine ⟨A3, c3, rfl, ?_, HB3.out⟩
        have ho := HO3.out
        rw [List.append_assoc] at ho
        exact ho
      · rw [decide_eq_false hin] at hA
        have htb : toldBytes row = [1] := by simp [toldBytes, hin]
        have HTB := Lib.hid htb
        clear hin htb
        generalize allB row row.length = al at hA
        subst hA
        go_wp2_with (at_builtin; refine wpList_app _ rfl (.tmp 21) (.tmp 22) 22 rfl w.heap.size 5 i _ 1 Try.underlying22 hi hz0 hz1 hz2 rfl _ 0 [] rfl (own_empty w (Nat.le_refl _) _) A n c (bv bs) rfl (HS.out.alloc _) (bv_one bs) (by omega) (by omega) (by simp) ?_)
        intro A1 c1 w1 ho hg
        have HO := Lib.hid ho
        have HB := Lib.hid (((Below.refl w.heap.size w).alloc (Nat.le_refl _) _).grown hg (by simp) (fun k e => by simp [Value.ownBlock] at e; omega))
        clear ho hg
        go_wp2_with (at_builtin; refine wpList_app _ rfl (.tmp 23) (.tmp 24) 22 rfl w.heap.size 5 i _ 1 Try.underlying22 hi hz0 hz1 hz2 rfl _ n _ rfl (HO.out.alloc _) _ 1 1 _ rfl (sl_one _ _ _) (one_one _ _) (by omega) (by omega) (by have := HB.out.size; simp; omega) ?_)
        intro A2 c2 w2 ho hg
        have HO2 := Lib.hid (show w2.ownsRow w.heap.size 5 1 (.slice A2 (n + 1) c2) (n + 1) (bv (bs ++ [1])) by rw [bv_append]; exact ho)
        have HB2 := Lib.hid ((HB.out.alloc HB.out.size _).grown hg (by have := HB.out.size; simp; omega) (fun k e => (HO.out.lt k e).1))
        clear ho hg
        go_wp2
        go_ret
        rw [HTB.out]
        exact ⟨A2, c2, rfl, HO2.out, HB2.out⟩
end Go.Proofs.Ytolkgljbphgacaa
