/-
  The law DeltaFlat: its walk.
-/
import Derived.Test.YtnmihkimkbiakaaDlAwk
namespace Go.Proofs.Ytnmihkimkbiakaa
set_option linter.unusedVariables false
set_option linter.unusedSimpArgs false
open Go.RowKit

/-- a piece again and again -/
def timesN (p : List UInt8) : Nat → List UInt8
  | 0 => []
  | k + 1 => timesN p k ++ p
theorem timesN_len (p : List UInt8) : ∀ k, (timesN p k).length = k * p.length
  | 0 => by simp [timesN]
  | k + 1 => by rw [timesN, List.length_append, timesN_len p k, Nat.succ_mul]
theorem timesN_get (p : List UInt8) : ∀ k i, i < k * p.length → (timesN p k).getD i 0 = p.getD (i % p.length) 0
  | 0, i, h => by omega
  | k + 1, i, h => by
    have hl := timesN_len p k
    rw [Nat.succ_mul] at h
    by_cases hi : i < k * p.length
    · rw [← timesN_get p k i hi, timesN, List.getD_eq_getElem?_getD, List.getD_eq_getElem?_getD, List.getElem?_append_left (by omega)]
    · obtain ⟨j, rfl⟩ : ∃ j, i = j + k * p.length := ⟨i - k * p.length, by omega⟩
      rw [Nat.add_mul_mod_self_right, Nat.mod_eq_of_lt (by omega), timesN, List.getD_eq_getElem?_getD, List.getD_eq_getElem?_getD, List.getElem?_append_right (by omega), hl, Nat.add_sub_cancel]
theorem flat_get {p : List UInt8} {k i : Nat} (hp : 0 < p.length) (h : i < k * p.length) : (codN p.length (timesN p k)).getD i 0 = if i < p.length then p.getD i 0 else 0 := by
  rw [codN_get (by rw [timesN_len]; exact h), timesN_get p k i h]
  unfold aheadN
  by_cases hi : i < p.length
  · rw [if_neg (by omega), if_pos hi, Nat.mod_eq_of_lt hi]
    exact UInt8.sub_zero _
  · rw [if_pos (by omega), if_neg hi, timesN_get p k _ (by omega), ← Nat.mod_eq_sub_mod (by omega)]
    exact UInt8.sub_self _
theorem flat_fits {n L : Nat} (h : n ≤ 256) (hL : L ≤ 70000) : (L + n) * 1 ≤ 140737488355328 := by omega
theorem flat_step {m j : Nat} (h : j ≤ m) : m + 1 - (intOf (Value.int .i64 ((j : Int) + 1))).toNat < m + 1 - (intOf (Value.int .i64 (j : Int))).toNat := by
  simp [intOf]
  omega
set_option maxRecDepth 100000 in
set_option maxHeartbeats 4000000 in
theorem deltaFlat_walk {A : Option Addr} {n c m : Nat} {bs : List UInt8} {w : World} (hS : Sl w A n (bv bs)) (hnc : n ≤ c) (hc : c ≤ maxLen) (hm : m < 2 ^ 8) :
    Calls Try.prog 7 #[.slice A n c, .int .u8 (m : Int)] w fun e w' => e = .returned (.bool true) ∧ Below w.heap.size w w' := by
  unfold maxLen at hc
  obtain ⟨i, hi, hz0, hz1, hz2⟩ := info_parts info_u8
  have HS := Lib.hid hS
  have KA := Lib.hid (awake13_any w)
  have hbl : bs.length = n := by rw [← bv_length]; exact hS.1
  by_cases h1 : 1 ≤ n ∧ n ≤ 256
  · have HN := Lib.hid (And.intro h1 (And.intro hbl hm))
    have g1 : ¬ (n : Int) < 1 := by omega
    have g2 : ¬ (n : Int) > 256 := by omega
    have e0 : wrap64 (m : Int) = (m : Int) := IntWalk.wrap64_in _ (by omega)
    have hmay : mayD (n : Int) = true := decide_eq_true (by omega)
    have HMAY := Lib.hid hmay
    have HE0 := Lib.hid e0
    clear hS hnc hc h1 hbl hm hmay
    go_enter Try.func7, Try.ntmps7
    go_wp2_with fail
    refine KA.out.mono ?_
    rintro e w1 ⟨rfl, hb⟩
    have HB := Lib.hid hb
    clear hb
    go_wp2_with fail
    go_loopw [6, 7] (fun v x wr => ∃ j L : Nat, j ≤ m + 1 ∧ L = j * n ∧ x = .int .i64 (j : Int) ∧ wr.ownsRow w.heap.size 5 1 v L (bv (timesN bs j)) ∧ Below w.heap.size w wr) (fun _ x _ => m + 1 - (intOf x).toNat)
    case atStart => exact ⟨0, 0, Nat.zero_le _, (Nat.zero_mul n).symm, rfl, World.ownsRow_nil _ _ _ _, HB.out⟩
    case round =>
      clear HB e0
      obtain ⟨j, L, hj, hL, rfl, hown, hb⟩ := hrel
      have HB := Lib.hid hb
      have hsz := hb.size
      obtain ⟨A0, c0, rfl, hown⟩ := own_form hown
      have HOW := Lib.hid hown
      have hLb : L ≤ 70000 := by
        rw [hL]
        exact Nat.le_trans (Nat.mul_le_mul (show j ≤ 256 by have := HN.out; omega) HN.out.1.2) (by decide)
      by_cases hlt : j ≤ m
      · have hS := HS.out.below hb
        have e1 : wrap64 ((j : Int) + 1) = (j : Int) + 1 := IntWalk.wrap64_in _ (by have := HN.out; omega)
        have hjm : (j : Int) ≤ (m : Int) := by omega
        have HL := Lib.hid (show L + n = (j + 1) * n by rw [Nat.succ_mul, hL])
        have HLT := Lib.hid hlt
        have HSZ := Lib.hid hsz
        have HLB := Lib.hid hLb
        have e0 := HE0.out
        clear hb hown hL hlt hj hsz hLb
        go_wp2_with (at_builtin; refine wpList_app _ rfl (.tmp 27) (.tmp 28) 22 rfl w.heap.size 5 i _ 1 Try.underlying22 hi hz0 hz1 hz2 rfl _ L _ rfl HOW.out A n c (bv bs) rfl hS (bv_one bs) (flat_fits HN.out.1.2 HLB.out) Nat.one_pos HSZ.out ?_)
        intro A2 c2 w4 ho hg
        have HO4 := Lib.hid (show w4.ownsRow w.heap.size 5 1 (.slice A2 (L + n) c2) (L + n) (bv (timesN bs (j + 1))) by rw [timesN, bv_append]; exact ho)
        have HB4 := Lib.hid (show Below w.heap.size w w4 from HB.out.grown hg HSZ.out (fun k e => (HOW.out.lt k e).1))
        clear ho hg HOW HB hS
        go_wp2_with fail
        go_roundw
        case rel => exact ⟨j + 1, L + n, Nat.succ_le_succ HLT.out, HL.out, by go_num, HO4.out, HB4.out⟩
        case measure => first | exact flat_step HLT.out | (rw [e1]; exact flat_step HLT.out)
      · obtain rfl : j = m + 1 := by omega
        have hjm : ¬ ((m + 1 : Nat) : Int) ≤ (m : Int) := by omega
        have HO := Lib.hid (own_facts hown)
        have hn1 := HN.out.1.1
        have HLL := Lib.hid (And.intro hL hLb)
        have K := Lib.hid (dCode_any (c := c0) HO.out.1 (by omega) HMAY.out)
        clear hb hown hL hlt hj hsz hLb HOW hn1
        have e0 := HE0.out
        go_wp2_with fail
        refine K.out.mono ?_
        rintro e w4 ⟨q, rfl, hq, _, b4⟩
        have HB4 := Lib.hid (HB.out.trans (b4.mono HB.out.size))
        have HQ := Lib.hid hq
        have HS4 := Lib.hid (HS.out.below HB4.out)
        clear hq b4 HB K HS HO e0 hjm
        go_wp2_with fail
        go_loopw [10] (fun x wr => ∃ j k : Nat, j ≤ L ∧ x = .int .i64 (j : Int) ∧ wr = w4.drewN k) (fun x _ => L - (intOf x).toNat)
        case atStart => exact ⟨0, 0, Nat.zero_le _, rfl, rfl⟩
        case round =>
          obtain ⟨j, k, hj, rfl, rfl⟩ := hrel
          by_cases hlt : j < L
          · have hbl := HN.out.2.1
            have hlen : (codN n (timesN bs (m + 1))).length = L := by rw [codN_len, timesN_len, hbl, HLL.out.1]
            have hval := flat_get (p := bs) (k := m + 1) (i := j) (by rw [hbl]; exact HN.out.1.1) (by rw [hbl, ← HLL.out.1]; exact hlt)
            rw [hbl] at hval
            obtain ⟨bq, oq, eq, hbq, hcq⟩ := HQ.out.2 (by omega)
            injection eq with eq
            injection eq with eq1 eq2
            subst eq1 eq2
            have k1 : w4.cell? ⟨q, 0 + j, none⟩ = some (.int .u8 (((codN n (timesN bs (m + 1))).getD j 0).toNat : Int)) := by rw [hcq j hlt, bv_get _ _ (by rw [hlen]; exact hlt)]
            rw [Nat.zero_add] at k1
            rw [hval] at k1
            have i0 : (0 : Int) ≤ (j : Int) := by omega
            have i1 : (j : Int) < (L : Int) := by omega
            have i2 : decide ((L : Int) ≤ (j : Int)) = false := decide_eq_false (by omega)
            have i3 : decide (L ≤ j) = false := decide_eq_false (by omega)
            have HLT := Lib.hid hlt
            by_cases hn : j < n
            · rw [if_pos hn] at k1
              obtain ⟨ba, oa, rfl, hba, hca⟩ := HS4.out.2 (by omega)
              have k2 : w4.cell? ⟨ba, oa + j, none⟩ = some (.int .u8 ((bs.getD j 0).toNat : Int)) := by rw [hca j hn, bv_get bs _ (by omega)]
              generalize bs.getD j 0 = y at *
              have n1 : (j : Int) < (n : Int) := by omega
              have n2 : decide ((n : Int) ≤ (j : Int)) = false := decide_eq_false (by omega)
              have n3 : decide (n ≤ j) = false := decide_eq_false (by omega)
              have e1 : wrap64 ((j : Int) + 1) = (j : Int) + 1 := IntWalk.wrap64_in _ (by have := HLL.out; omega)
              clear hlt hj hn hval hlen hca hba hcq hbq hbl
              go_wp2_with fail
              go_quiet (fail)
              go_wp2_with fail
              go_roundw
              case rel => exact ⟨j + 1, k + _, HLT.out, by go_num, rfl⟩
              case measure => first | exact meas_step HLT.out | (rw [e1]; exact meas_step HLT.out)
            · rw [if_neg hn] at k1
              have n1 : ¬ (j : Int) < (n : Int) := by omega
              have n2 : (n : Int) ≤ (j : Int) := by omega
              have n3 : decide ((j : Int) < (n : Int)) = false := decide_eq_false (by omega)
              have n4 : decide (j < n) = false := decide_eq_false (by omega)
              have k1 : w4.cell? ⟨q, j, none⟩ = some (.int .u8 0) := k1
              have e1 : wrap64 ((j : Int) + 1) = (j : Int) + 1 := IntWalk.wrap64_in _ (by have := HLL.out; omega)
              clear hlt hj hn hval hlen hcq hbq hbl
              go_wp2_with fail
              go_quiet (fail)
              go_wp2_with fail
              go_roundw
              case rel => exact ⟨j + 1, k + _, HLT.out, by go_num, rfl⟩
              case measure => first | exact meas_step HLT.out | (rw [e1]; exact meas_step HLT.out)
          · obtain rfl : j = L := by omega
            clear hlt hj
            go_wp2_with fail
            go_ret
            exact ⟨by simp, below_drewN HB4.out k⟩
  · by_cases h2 : 1 ≤ n
    · have g1 : ¬ (n : Int) < 1 := by omega
      have g2 : (n : Int) > 256 := by omega
      clear hS hnc hc h1 hbl hm
      go_enter Try.func7, Try.ntmps7
      go_wp2_with fail
      refine KA.out.mono ?_
      rintro e w1 ⟨rfl, hb⟩
      have HB := Lib.hid hb
      clear hb
      go_wp2_with fail
      go_ret
      exact ⟨rfl, HB.out⟩
    · have g1 : (n : Int) < 1 := by omega
      clear hS hnc hc h1 hbl hm
      go_enter Try.func7, Try.ntmps7
      go_wp2_with fail
      refine KA.out.mono ?_
      rintro e w1 ⟨rfl, hb⟩
      have HB := Lib.hid hb
      clear hb
      go_wp2_with fail
      go_ret
      exact ⟨rfl, HB.out⟩
end Go.Proofs.Ytnmihkimkbiakaa
