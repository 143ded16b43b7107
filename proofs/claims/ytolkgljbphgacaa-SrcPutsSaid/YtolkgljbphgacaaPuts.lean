/-
  PutBits, PutTold and Put: what is behind the bytes that were handed in.
-/
import Derived.Test.YtolkgljbphgacaaPutRow
namespace Go.Proofs.Ytolkgljbphgacaa
open Go.RowKit

set_option maxHeartbeats 1000000 in
theorem putBits_any {A R : Option Addr} {n c rc : Nat} {bs : List UInt8} {row : List Bool} {w : World} (hS : Sl w A n (bv bs)) (hm : n ≤ 100000000) (hR : Sl w R row.length (fv row)) (hr : row.length ≤ 100000000) :
    Calls Try.prog 31 #[.slice A n c, .slice R row.length rc] w fun e w' =>
      ∃ A' c', e = .returned (.slice A' (n + rowLenN row.length) c') ∧ w'.ownsRow w.heap.size 5 1 (.slice A' (n + rowLenN row.length) c') (n + rowLenN row.length) (bv (bs ++ rowBytes row)) ∧ Below w.heap.size w w' := by
  have hL : rowLenN row.length ≤ 100000000 := by unfold rowLenN; omega
  have hlo : 0 < row.length → ∀ b o, R = some ⟨b, o, none⟩ → b < w.heap.size := by
    intro h b o e
    obtain ⟨b', o', e', hb, _⟩ := hR.2 h
    rw [e] at e'
    injection e' with e'
    injection e' with e'
    omega
  have HL := Lib.hid (fun W => rowLen_any (n := row.length) (x := (row.length : Int)) (w := W) rfl (by omega))
  have HP := Lib.hid (fun W A' c' h1 h2 h3 => putRow_any (A := A') (R := R) (n := n) (c := c') (base := w.heap.size) (rc := rc) (bs := bs) (row := row) (w := W) h1 h2 (by omega) h3 (by omega) hlo)
  generalize rowLenN row.length = L at hL HL HP
  have HS := Lib.hid hS
  have HR := Lib.hid hR
  clear hS hR hlo
  go_enter Try.func31, Try.ntmps31
  go_wp2_with fail
  refine (HL.out _).mono ?_
  rintro e w1 ⟨rfl, rfl⟩
  go_wp2_with fail
  refine (withRoom_any (m := L) HS.out (by omega) rfl (by omega)).mono ?_
  rintro e w1 ⟨A1, c1, rfl, ho, hb⟩
  have HO := Lib.hid ho
  have HB := Lib.hid hb
  clear ho hb
  go_wp2_with fail
  refine (HP.out _ _ _ HO.out HB.out.size (HR.out.below HB.out)).mono ?_
  rintro e w2 ⟨A2, c2, rfl, ho, hb⟩
  have HO2 := Lib.hid ho
  have HB2 := Lib.hid (HB.out.trans hb)
  clear ho hb
  go_wp2
  go_ret
  exact ⟨A2, c2, rfl, HO2.out, HB2.out⟩

theorem notMem_take_succ (row : List Bool) (k : Nat) (h : k < row.length) (hk : false ∉ row.take k) (hb : row.getD k false = true) : false ∉ row.take (k + 1) := by
  rw [take_snoc row k h false, hb]
  simp [hk]

set_option maxHeartbeats 1000000 in
theorem index_any {R : Option Addr} {rc : Nat} {row : List Bool} {w : World} (hR : Sl w R row.length (fv row)) (hr : row.length ≤ 100000000) :
    Calls Try.prog 64 #[.slice R row.length rc, .bool false] w fun e w' => (∃ x : Int, e = .returned (.int .i64 x) ∧ (0 ≤ x ↔ false ∈ row)) ∧ w = w' := by
  have HR := Lib.hid hR
  clear hR
  go_enter Try.func64, Try.ntmps64
  go_wp2
  go_loop [8] (fun i => ∃ k : Nat, k ≤ row.length ∧ i = .int .i64 k ∧ false ∉ row.take k) (fun i => row.length - (intOf i).toNat)
  case atStart => exact ⟨0, Nat.zero_le _, rfl, by simp⟩
  case round =>
    obtain ⟨k, hk, rfl, hnm⟩ := hrel
    have HN := Lib.hid hnm
    clear hnm
    by_cases hlt : k < row.length
    · obtain ⟨b, o, rfl, _, hc⟩ := HR.out.2 (by omega)
      have hcell : w.cell? ⟨b, o + k, none⟩ = some (.bool (row.getD k false)) := by rw [hc k hlt, fv_get _ _ hlt]
      rcases hbit : row.getD k false with _ | _
      · rw [hbit] at hcell
        have hin : false ∈ row := by
          have e := hbit
          rw [List.getD, List.getElem?_eq_getElem hlt] at e
          exact List.mem_of_getElem (i := k) (h := hlt) (by simpa using e)
        have HI := Lib.hid hin
        clear hc hbit hin
        go_wp2
        go_ret
        exact ⟨⟨_, rfl, ⟨fun _ => HI.out, fun _ => by omega⟩⟩, rfl⟩
      · rw [hbit] at hcell
        have HN2 := Lib.hid (notMem_take_succ row k hlt HN.out hbit)
        clear hc hbit
        go_wp2
        go_round
        case rel => exact ⟨k + 1, by omega, by go_num, HN2.out⟩
        case measure => simp [intOf]; omega
    · obtain rfl : k = row.length := by omega
      have hn := HN.out
      rw [List.take_of_length_le (Nat.le_refl _)] at hn
      have HN2 := Lib.hid hn
      clear hn
      go_wp2
      go_ret
      exact ⟨⟨_, rfl, ⟨fun h => absurd h (by omega), fun h => absurd h HN2.out⟩⟩, rfl⟩

set_option maxHeartbeats 1000000 in
theorem contains_any {R : Option Addr} {rc : Nat} {row : List Bool} {w : World} (hR : Sl w R row.length (fv row)) (hr : row.length ≤ 100000000) :
    Calls Try.prog 60 #[.slice R row.length rc, .bool false] w fun e w' => e = .returned (.bool (decide (false ∈ row))) ∧ w = w' := by
  have HI := Lib.hid (index_any (rc := rc) hR hr)
  clear hR
  go_enter Try.func60, Try.ntmps60
  go_wp2_with (go_at_call 64; refine HI.out.mono ?_; rintro e w1 ⟨⟨x, rfl, hx⟩, rfl⟩; have HX := Lib.hid hx; clear hx)
  go_ret
  refine ⟨ret_bool ?_, rfl⟩
  rw [Bool.eq_iff_iff]
  simp [HX.out]

/-- a told row as bytes -/
def toldBytes (row : List Bool) : List UInt8 := if false ∈ row then 0 :: rowBytes row else [1]
theorem rowBytes_length (row : List Bool) : (rowBytes row).length = rowLenN row.length := rowB_length _ _

set_option maxHeartbeats 1000000 in
theorem putTold_any {A R : Option Addr} {n c rc : Nat} {bs : List UInt8} {row : List Bool} {w : World} (hS : Sl w A n (bv bs)) (hm : n ≤ 100000000) (hR : Sl w R row.length (fv row)) (hr : row.length ≤ 100000000) :
    Calls Try.prog 33 #[.slice A n c, .slice R row.length rc] w fun e w' =>
      ∃ A' c', e = .returned (.slice A' (n + (toldBytes row).length) c') ∧ w'.ownsRow w.heap.size 5 1 (.slice A' (n + (toldBytes row).length) c') (n + (toldBytes row).length) (bv (bs ++ toldBytes row)) ∧ Below w.heap.size w w' := by
  obtain ⟨i, hi, hz0, hz1, hz2⟩ := info_parts info_u8
  have hL : rowLenN row.length ≤ 100000000 := by unfold rowLenN; omega
  have hlo : 0 < row.length → ∀ b o, R = some ⟨b, o, none⟩ → b < w.heap.size := by
    intro h b o e
    obtain ⟨b', o', e', hb, _⟩ := hR.2 h
    rw [e] at e'
    injection e' with e'
    injection e' with e'
    omega
  have HL := Lib.hid (fun W => rowLen_any (n := row.length) (x := (row.length : Int)) (w := W) rfl (by omega))
  have HP := Lib.hid (fun W A' c' h1 h2 h3 => putRow_any (A := A') (R := R) (n := n + 1) (c := c') (base := w.heap.size) (rc := rc) (bs := bs ++ [0]) (row := row) (w := W) h1 h2 (by omega) h3 (by omega) hlo)
  have hC := fun W h => contains_any (R := R) (rc := rc) (row := row) (w := W) h (by omega)
  have hLB := rowBytes_length row
  generalize rowLenN row.length = L at hL HL HP hLB
  have HS := Lib.hid hS
  have HR := Lib.hid hR
  have HLB := Lib.hid hLB
  clear hS hR hlo hLB
  by_cases hin : false ∈ row
  · rw [decide_eq_true hin] at hC
    have htb : toldBytes row = 0 :: rowBytes row := by simp [toldBytes, hin]
    have htl : (toldBytes row).length = 1 + L := by rw [htb, List.length_cons, HLB.out]; omega
    rw [htl, htb]
    have HC := Lib.hid hC
    clear hC hin htb htl
    go_enter Try.func33, Try.ntmps33
    go_wp2_with fail
    refine (HL.out _).mono ?_
    rintro e w1 ⟨rfl, rfl⟩
    go_wp2_with fail
    refine (withRoom_any (m := 1 + L) HS.out (by omega) (by omega) (by omega)).mono ?_
    rintro e w1 ⟨A1, c1, rfl, ho, hb⟩
    have HO := Lib.hid ho
    have HB := Lib.hid hb
    clear ho hb
    go_wp2_with fail
    refine (HC.out _ (HR.out.below HB.out)).mono ?_
    rintro e w2 ⟨rfl, rfl⟩
    go_wp2_with (at_builtin; refine wpList_app _ rfl (.tmp 18) (.tmp 19) 22 rfl w.heap.size 5 i _ 1 Try.underlying22 hi hz0 hz1 hz2 rfl _ n _ rfl (HO.out.alloc _) _ 1 1 _ rfl (sl_one _ _ _) (one_one _ _) (by omega) (by omega) (by have := HB.out.size; simp; omega) ?_)
    intro A2 c2 w2 ho hg
    have HO2 := Lib.hid (show w2.ownsRow w.heap.size 5 1 (.slice A2 (n + 1) c2) (n + 1) (bv (bs ++ [0])) by rw [bv_append]; exact ho)
    have HB2 := Lib.hid ((HB.out.alloc HB.out.size _).grown hg (by have := HB.out.size; simp; omega) (fun k e => (HO.out.lt k e).1))
    clear ho hg
    go_wp2_with fail
    refine (HP.out _ _ _ HO2.out HB2.out.size (HR.out.below HB2.out)).mono ?_
    rintro e w3 ⟨A3, c3, rfl, ho, hb⟩
    have HO3 := Lib.hid ho
    have HB3 := Lib.hid (HB2.out.trans hb)
    clear ho hb
    go_wp2
    go_ret
    rw [show n + (1 + L) = n + 1 + L by omega]
    refine ⟨A3, c3, rfl, ?_, HB3.out⟩
    have ho := HO3.out
    rw [List.append_assoc] at ho
    exact ho
  · rw [decide_eq_false hin] at hC
    have htb : toldBytes row = [1] := by simp [toldBytes, hin]
    rw [htb]
    have HC := Lib.hid hC
    clear hC hin htb
    go_enter Try.func33, Try.ntmps33
    go_wp2_with fail
    refine (HL.out _).mono ?_
    rintro e w1 ⟨rfl, rfl⟩
    go_wp2_with fail
    refine (withRoom_any (m := 1 + L) HS.out (by omega) (by omega) (by omega)).mono ?_
    rintro e w1 ⟨A1, c1, rfl, ho, hb⟩
    have HO := Lib.hid ho
    have HB := Lib.hid hb
    clear ho hb
    go_wp2_with fail
    refine (HC.out _ (HR.out.below HB.out)).mono ?_
    rintro e w2 ⟨rfl, rfl⟩
    go_wp2_with (at_builtin; refine wpList_app _ rfl (.tmp 15) (.tmp 16) 22 rfl w.heap.size 5 i _ 1 Try.underlying22 hi hz0 hz1 hz2 rfl _ n _ rfl (HO.out.alloc _) _ 1 1 _ rfl (sl_one _ _ _) (one_one _ _) (by omega) (by omega) (by have := HB.out.size; simp; omega) ?_)
    intro A2 c2 w2 ho hg
    have HO2 := Lib.hid (show w2.ownsRow w.heap.size 5 1 (.slice A2 (n + 1) c2) (n + 1) (bv (bs ++ [1])) by rw [bv_append]; exact ho)
    have HB2 := Lib.hid ((HB.out.alloc HB.out.size _).grown hg (by have := HB.out.size; simp; omega) (fun k e => (HO.out.lt k e).1))
    clear ho hg
    go_wp2
    go_ret
    exact ⟨A2, c2, rfl, HO2.out, HB2.out⟩

/-- a number of a size as bytes -/
def putM (size : Int) (v : Nat) : List UInt8 := if size = 1 ∨ size = 2 ∨ size = 4 ∨ size = 8 then leBytes size.toNat v else []

set_option maxHeartbeats 1000000 in
theorem put_any {A : Option Addr} {n c v : Nat} {x : Int} {bs : List UInt8} {w : World} (hS : Sl w A n (bv bs)) (hm : n ≤ 100000000) (hv : v < 18446744073709551616) :
    Calls Try.prog 35 #[.slice A n c, .int .i64 x, .int .u64 (v : Int)] w fun e w' =>
      ∃ A' c', e = .returned (.slice A' (n + (putM x v).length) c') ∧ w'.ownsRow w.heap.size 5 1 (.slice A' (n + (putM x v).length) c') (n + (putM x v).length) (bv (bs ++ putM x v)) ∧ Below w.heap.size w w' := by
  have HS := Lib.hid hS
  clear hS
  have hz := fun w => isSize_any x w
  by_cases hs : x = 1 ∨ x = 2 ∨ x = 4 ∨ x = 8
  · obtain ⟨size, rfl⟩ := Int.eq_ofNat_of_zero_le (show 0 ≤ x by omega)
    rw [decide_eq_true hs] at hz
    have hp : putM (size : Int) v = leBytes size v := by simp [putM, hs]
    rw [hp, leBytes_length]
    have h8 : size ≤ 8 := by omega
    have HZ := Lib.hid hz
    clear hz hs hp
    go_enter Try.func35, Try.ntmps35
    go_wp2_with fail
    refine (withRoom_any (m := 8) HS.out (by omega) rfl (by omega)).mono ?_
    rintro e w1 ⟨A1, c1, rfl, ho, hb⟩
    have HO := Lib.hid ho
    have HB := Lib.hid hb
    clear ho hb
    go_wp2_with fail
    refine (HZ.out _).mono ?_
    rintro e w2 ⟨rfl, rfl⟩
    go_wp2_with fail
    refine (putLeast_any (size := size) HO.out HB.out.size (by omega) rfl h8 hv).mono ?_
    rintro e w2 ⟨A2, c2, rfl, ho, hb⟩
    have HO2 := Lib.hid ho
    have HB2 := Lib.hid (HB.out.trans hb)
    clear ho hb
    go_wp2
    go_ret
    exact ⟨A2, c2, rfl, HO2.out, HB2.out⟩
  · rw [decide_eq_false hs] at hz
    have hp : putM x v = [] := by simp [putM, hs]
    rw [hp]
    have HZ := Lib.hid hz
    clear hz hs hp
    go_enter Try.func35, Try.ntmps35
    go_wp2_with fail
    refine (withRoom_any (m := 8) HS.out (by omega) rfl (by omega)).mono ?_
    rintro e w1 ⟨A1, c1, rfl, ho, hb⟩
    have HO := Lib.hid ho
    have HB := Lib.hid hb
    clear ho hb
    go_wp2_with fail
    refine (HZ.out _).mono ?_
    rintro e w2 ⟨rfl, rfl⟩
    go_wp2
    go_ret
    exact ⟨A1, c1, rfl, by simpa using HO.out, HB.out⟩
end Go.Proofs.Ytolkgljbphgacaa
