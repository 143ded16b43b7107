/-
  The document's own filter: each side.
-/
import Derived.Test.YtnmihkimkbiakaaDlMay
import Derived.Test.YtnmihkimkbiakaaBytN
namespace Go.Proofs.Ytnmihkimkbiakaa
set_option linter.unusedVariables false
set_option linter.unusedSimpArgs false
open Go.RowKit

def RefPost (w : World) (n : Nat) (out : List UInt8) (e : Ending) (w' : World) : Prop :=
  ∃ A c, e = .returned (.tuple #[.slice A n c, .int .i64 0]) ∧ Sl w' A n (bv out) ∧ (∀ b o, A = some ⟨b, o, none⟩ → w.heap.size ≤ b) ∧ Below w.heap.size w w'
theorem dtake_next {l : List UInt8} {j : Nat} (h : j < l.length) : bv (l.take (j + 1)) = bv (l.take j) ++ [.int .u8 ((l.getD j 0).toNat : Int)] := by
  rw [List.take_add_one, List.getElem?_eq_getElem h, bv_append, List.getD_eq_getElem?_getD, List.getElem?_eq_getElem h]
  rfl
theorem du8_addI (x y : UInt8) : ((x.toNat : Int) + (y.toNat : Int)) % 256 = ((x + y).toNat : Int) := by
  rw [← du8_add]
  rfl
theorem meas_step {n j : Nat} (h : j < n) : n - (intOf (Value.int .i64 ((j : Int) + 1))).toNat < n - (intOf (Value.int .i64 (j : Int))).toNat := by
  simp [intOf]
  omega
theorem u8_tmod (y : UInt8) : (y.toNat : Int).tmod 256 = (y.toNat : Int) := by
  have := y.toNat_lt
  rw [Int.tmod_eq_emod_of_nonneg (Int.natCast_nonneg _)]
  exact Int.emod_eq_of_lt (Int.natCast_nonneg _) (by omega)
theorem w_u8 (x : UInt8) : wrap64 (x.toNat : Int) = (x.toNat : Int) := IntWalk.wrap64_in _ (by have := x.toNat_lt; omega)
theorem du8_addW (x y : UInt8) : (wrap64 (wrap64 (x.toNat : Int) + wrap64 (y.toNat : Int))).tmod 256 % 256 = ((x + y).toNat : Int) := by
  have h : wrap64 ((x.toNat : Int) + (y.toNat : Int)) = (x.toNat : Int) + (y.toNat : Int) := IntWalk.wrap64_in _ (by have := x.toNat_lt; have := y.toNat_lt; omega)
  rw [w_u8, w_u8, h, Int.tmod_eq_emod_of_nonneg (Int.add_nonneg (Int.natCast_nonneg _) (Int.natCast_nonneg _)), Int.emod_emod_of_dvd _ (Int.dvd_refl 256)]
  exact du8_addI x y
set_option maxRecDepth 100000 in
set_option maxHeartbeats 4000000 in
theorem rdecode_any {A : Option Addr} {n c d : Nat} {b : List UInt8} {w : World} (hS : Sl w A n (bv b)) (hn : n ≤ 1000000000) (hd : mayD (d : Int) = true) :
    Calls Try.prog 12 #[.slice A n c, .int .i64 (d : Int)] w (RefPost w n (decN d b)) := by
  obtain ⟨i, hi, hz0, hz1, hz2⟩ := info_parts info_u8
  have hdd : 1 ≤ (d : Int) ∧ (d : Int) ≤ 256 := of_decide_eq_true hd
  have hbl : b.length = n := by rw [← bv_length]; exact hS.1
  have HS := Lib.hid hS
  have HN := Lib.hid (And.intro hn hbl)
  have HD := Lib.hid (And.intro (show 0 < d by omega) (decN_len d b))
  have g1 : ¬ (d : Int) < 1 := by omega
  have g2 : ¬ (d : Int) > 256 := by omega
  clear hS hn hd hbl hdd
  go_enter Try.func12, Try.ntmps12
  go_wp2_with fail
  go_loopw [6, 7] (fun v x wr => ∃ j : Nat, j ≤ n ∧ x = .int .i64 (j : Int) ∧ wr.ownsRow w.heap.size 5 1 v j (bv ((decN d b).take j)) ∧ Below w.heap.size w wr) (fun _ x _ => n - (intOf x).toNat)
  case atStart => exact ⟨0, Nat.zero_le _, rfl, World.ownsRow_nil _ _ _ _, Below.refl _ _⟩
  case round =>
    obtain ⟨j, hj, rfl, hown, hb⟩ := hrel
    have HB := Lib.hid hb
    obtain ⟨A0, c0, rfl, hown⟩ := own_form hown
    have HOW := Lib.hid hown
    by_cases hlt : j < n
    · have hS := HS.out.below hb
      obtain ⟨ba, oa, rfl, hba, hca⟩ := hS.2 (by omega)
      have k1 : wr.cell? ⟨ba, oa + j, none⟩ = some (.int .u8 ((b.getD j 0).toNat : Int)) := by rw [hca j hlt, bv_get b _ (by have := HN.out; omega)]
      have i0 : (0 : Int) ≤ (j : Int) := by omega
      have i1 : (j : Int) < (n : Int) := by omega
      have e1 : wrap64 ((j : Int) + 1) = (j : Int) + 1 := IntWalk.wrap64_in _ (by have := HN.out; omega)
      have hget := decN_get (b := b) HD.out.1 (show j < b.length by have := HN.out; omega)
      have htk := dtake_next (l := decN d b) (show j < (decN d b).length by rw [HD.out.2]; have := HN.out; omega)
      have hxb := (b.getD j 0).toNat_lt
      have HLT := Lib.hid hlt
      clear hca hba hS hb hj hlt
      by_cases hjd : d ≤ j
      · have ha : aheadN (decN d b) d j = (decN d b).getD (j - d) 0 := by unfold aheadN; rw [if_pos hjd]
        rw [ha] at hget
        rw [hget] at htk
        have HTK := Lib.hid htk
        have gj : (j : Int) ≥ (d : Int) := by omega
        have hso := (own_facts hown).1
        obtain ⟨bo, oo, rfl, hbo, hco⟩ := hso.2 (by have := HD.out; omega)
        obtain ⟨m, hm⟩ : ∃ m, m = j - d := ⟨_, rfl⟩
        have hd0 := HD.out.1
        have k2 : wr.cell? ⟨bo, oo + m, none⟩ = some (.int .u8 (((decN d b).getD m 0).toNat : Int)) := by
          rw [hco m (by omega), bv_get _ _ (by rw [List.length_take, HD.out.2]; have := HN.out; have := HLT.out; omega), List.getD_eq_getElem?_getD, List.getElem?_take_of_lt (by omega), ← List.getD_eq_getElem?_getD]
        rw [← hm] at HTK
        have e2 : wrap64 ((j : Int) - (d : Int)) = (m : Int) := by rw [IntWalk.wrap64_in _ (by have := HN.out; have := HLT.out; omega)]; omega
        have m0 : (0 : Int) ≤ (m : Int) := by omega
        have m1 : (m : Int) < (j : Int) := by omega
        have hxo := ((decN d b).getD m 0).toNat_lt
        generalize (decN d b).getD m 0 = x at *
        generalize b.getD j 0 = y at *
        have HE := Lib.hid (du8_addW y x)
        have hyx := (y + x).toNat_lt
        generalize y + x = v at *
        clear hyx
        clear htk hget ha hjd hso hco hbo hm hd0 hown hxo hxb
        go_wp2_with (at_builtin; refine wpList_app _ rfl (.tmp 38) (.tmp 42) 22 rfl w.heap.size 5 i _ 1 Try.underlying22 hi hz0 hz1 hz2 rfl _ j _ rfl (HOW.out.alloc _) _ 1 1 _ rfl (sl_one _ _ _) (one_one _ _) (by have := HN.out; omega) (by omega) (by have := HB.out.size; simp; omega) ?_)
        intro A2 c2 w4 ho hg
        rw [HE.out, ← HTK.out] at ho
        have HO4 := Lib.hid ho
        have HB4 := Lib.hid (show Below w.heap.size w w4 from (HB.out.alloc HB.out.size _).grown hg (by have := HB.out.size; simp; omega) (fun k e => by have := (HOW.out.lt k e).1; omega))
        clear ho hg HOW HB
        go_wp2_with fail
        go_roundw
        case rel => exact ⟨j + 1, HLT.out, by go_num, HO4.out, HB4.out⟩
        case measure => first | exact meas_step HLT.out | (rw [e1]; exact meas_step HLT.out)
      · have ha : aheadN (decN d b) d j = 0 := by unfold aheadN; rw [if_neg hjd]
        rw [ha, UInt8.add_zero] at hget
        rw [hget] at htk
        have HTK := Lib.hid htk
        have gj : ¬ (j : Int) ≥ (d : Int) := by omega
        clear htk hget ha hjd
        generalize (b.getD j 0) = y at *
        have m1 : (y.toNat : Int).tmod 256 = (y.toNat : Int) := u8_tmod y
        clear hown
        go_wp2_with (at_builtin; refine wpList_app _ rfl (.tmp 38) (.tmp 42) 22 rfl w.heap.size 5 i _ 1 Try.underlying22 hi hz0 hz1 hz2 rfl _ j _ rfl (HOW.out.alloc _) _ 1 1 _ rfl (sl_one _ _ _) (one_one _ _) (by have := HN.out; omega) (by omega) (by have := HB.out.size; simp; omega) ?_)
        intro A2 c2 w4 ho hg
        rw [← HTK.out] at ho
        have HO4 := Lib.hid ho
        have HB4 := Lib.hid (show Below w.heap.size w w4 from (HB.out.alloc HB.out.size _).grown hg (by have := HB.out.size; simp; omega) (fun k e => by have := (HOW.out.lt k e).1; omega))
        clear ho hg HOW HB
        go_wp2_with fail
        go_roundw
        case rel => exact ⟨j + 1, HLT.out, by go_num, HO4.out, HB4.out⟩
        case measure => first | exact meas_step HLT.out | (rw [e1]; exact meas_step HLT.out)
    · obtain rfl : j = n := by omega
      have ho : wr.ownsRow w.heap.size 5 1 (.slice A0 j c0) j (bv (decN d b)) := by
        have := HOW.out
        rwa [List.take_of_length_le (by rw [decN_len]; exact Nat.le_of_eq HN.out.2)] at this
      have HO4 := Lib.hid (own_facts ho)
      clear ho hown hb hj hlt
      go_wp2_with fail
      go_ret2
      exact ⟨A0, c0, rfl, HO4.out.1, fun b o e => (HO4.out.2.2.2 b o e).1, HB.out⟩
end Go.Proofs.Ytnmihkimkbiakaa
