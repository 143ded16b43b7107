/-
  ZqBad, ZqSizW: put together.
-/
import Derived.Test.YtoencondpbkomaaGreatDoorS35
set_option linter.unusedVariables false
set_option linter.unusedSimpArgs false
/-
  The program's Unpack of LZMA2 refuses properties beyond 40.
-/
namespace Go.Proofs.YtoencondpbkomaaGreatDoor
open Go.RowKit
set_option linter.unusedVariables false

set_option maxRecDepth 100000 in
set_option maxHeartbeats 4000000 in
theorem zunp_bad {w : World} {p m : Nat} {v : Value} {size : Int} (hp : 40 < p) (hp2 : p < 256) :
    Calls Tryz.prog 9 #[v, .int .u8 (p : Int), .int .i64 size, .pointer (some ⟨m, 0, none⟩)] w fun e w' => e = .returned (.tuple #[.slice none 0 0, .int .i64 11]) ∧ Only (fun _ => False) w w' := by
  have KD := qdict_any hp2 w
  have hdc : dictC p = 11 := by unfold dictC; rw [if_pos (by omega)]
  rw [hdc] at KD
  have KN : Calls Tryz.prog 17 #[.int .u8 (p : Int), .int .i64 size, .pointer (some ⟨m, 0, none⟩)] w fun e w' => e = .returned (.tuple #[.pointer none, .int .i64 11]) ∧ w = w' := by
    generalize dictN p = dict at *
    have KD := Lib.hid KD
    clear hp hp2 hdc
    go_enter Tryz.func17, Tryz.ntmps17
    go_wp2_with fail
    refine KD.out.mono ?_
    rintro e w1 ⟨rfl, rfl⟩
    clear KD
    go_wp2_with fail
    go_ret2
    exact ⟨rfl, rfl⟩
  have KN := Lib.hid KN
  clear KD hp hp2 hdc
  go_enter_defers Tryz.func9, Tryz.ntmps9
  go_wp2_with fail
  refine KN.out.mono ?_
  rintro e w1 ⟨rfl, rfl⟩
  clear KN
  go_wp2_with fail
  exact ⟨_, results_tmp2 rfl _ _ _, rfl, Only.refl _ _⟩
/-- what the program's Unpack owes, whatever the property -/
def unpR (L0 : Nat) (p : Nat) (bs : List UInt8) (size : Int) : Option (List UInt8) := if p ≤ 40 then (rs0 L0 (dictN p) bs).tells size.toNat else none
def unpC (L0 : Nat) (p : Nat) (bs : List UInt8) (size : Int) : Int := if p ≤ 40 then codeU ((rs0 L0 (dictN p) bs).tells size.toNat) else 11
end Go.Proofs.YtoencondpbkomaaGreatDoor

/-
  The law Lzma2Sizes, walked.
-/
namespace Go.Proofs.YtoencondpbkomaaGreatDoor
open Go.RowKit
set_option linter.unusedVariables false

/-- Unpack under the great quota, for whatever property: its code -/
theorem unp_code {A : Option Addr} {n c L0 p m : Nat} {bs : List UInt8} {w W : World} {size : Int} (hL0 : L0 = 1847 + 768 * 2 ^ (4 + 0)) (hT : TabQ w) (hS : Sl w A n (bv bs)) (hO : Only (fun _ => False) w W) (hm : w.heap.size ≤ m) (hM : MeterAt W 83 m muchQ Tel.zero) (hn : n ≤ 10000000) (hp : p < 256) (h1 : size ≤ 100000) (h0 : -9223372036854775808 ≤ size) :
    Calls Tryz.prog 9 #[.slice A n c, .int .u8 (p : Int), .int .i64 size, .pointer (some ⟨m, 0, none⟩)] W fun e w' => ∃ v, e = .returned (.tuple #[v, .int .i64 (unpC L0 p bs size)]) ∧ Only (fun _ => False) w w' := by
  have hnb : n = bs.length := by rw [← bv_length]; exact hS.1.symm
  have hSW : Sl W A n (bv bs) := hS.only hO (fun _ _ _ _ h => h)
  have hTW : TabQ W := hT.only hO (fun e => e)
  have hpos := hT.pos
  unfold unpC
  by_cases h40 : p ≤ 40
  · rw [if_pos h40]
    refine (zunp_ok (c := c) (size := size) hnb hSW (fun h q o e => ?_) hn hM h40 h1 h0 hL0 (by omega) hTW).mono ?_
    · obtain ⟨b', o', e', hlt, _⟩ := hS.2 h
      rw [e] at e'
      injection e' with e'
      injection e' with e1 e2
      omega
    · rintro e w' ⟨_, hO2, A2, c2, rfl, _⟩
      exact ⟨_, rfl, hO.trans' hO2 (fun i hi => .inr (by have hi : i = m := hi; omega))⟩
  · rw [if_neg h40]
    refine (zunp_bad (by omega) hp).mono ?_
    rintro e w' ⟨rfl, hO2⟩
    exact ⟨_, rfl, hO.trans hO2⟩
theorem codes_one {L0 p n k : Nat} {bs : List UInt8} (hn : n ≠ k) (h : unpC L0 p bs (n : Int) = 0) : unpC L0 p bs (k : Int) = 12 := by
  unfold unpC at h ⊢
  by_cases h40 : p ≤ 40
  · rw [if_pos h40] at h ⊢
    rw [Int.toNat_natCast] at h ⊢
    cases ho : (rs0 L0 (dictN p) bs).tells n with
    | none => rw [ho] at h; cases h
    | some x => rw [tells_one ho hn]; rfl
  · rw [if_neg h40] at h
    cases h
theorem siz_nums {a n : Nat} (ha : a < 65536) (hn : n = a % 5000) : wrap64 (a : Int) = (a : Int) ∧ (a : Int).tmod 5000 = (n : Int) ∧ (a : Int) % 5000 = (n : Int) := by
  refine ⟨IntWalk.wrap64_in _ (by omega), ?_, by omega⟩
  rw [Int.tmod_eq_emod_of_nonneg (by omega)]
  omega

set_option maxRecDepth 100000 in
set_option maxHeartbeats 8000000 in
theorem lzma2Sizes_walk {A : Option Addr} {nn c p s0 s1 : Nat} {bs : List UInt8} {w : World} (hS : Sl w A nn (bv bs)) (hp : p < 256) (h0 : s0 < 65536) (h1 : s1 < 65536) (hT : TabQ w) :
    Calls Tryz.prog 5 #[.slice A nn c, .int .u8 (p : Int), .agg #[.int .u16 (s0 : Int), .int .u16 (s1 : Int)]] w fun e w' => e = .returned (.bool true) ∧ Below w.heap.size w w' := by
  obtain ⟨L0, hL0⟩ : ∃ L0, L0 = 1847 + 768 * 2 ^ (4 + 0) := ⟨_, rfl⟩
  obtain ⟨n, hn⟩ : ∃ n, n = s0 % 5000 := ⟨_, rfl⟩
  obtain ⟨k, hk⟩ : ∃ k, k = s1 % 5000 := ⟨_, rfl⟩
  obtain ⟨w1, hw1⟩ : ∃ w1, w1 = w.alloc (.cells #[.int .u16 (s0 : Int), .int .u16 (s1 : Int)] 36) := ⟨_, rfl⟩
  obtain ⟨B, hB⟩ : ∃ B, B = w.heap.size := ⟨_, rfl⟩
  have hO1 : Only (fun _ => False) w w1 := by rw [hw1]; exact (Only.refl _ _).alloc _
  have hk1 : Blk w1 B 36 #[.int .u16 (s0 : Int), .int .u16 (s1 : Int)] := by rw [hw1, hB]; exact Blk.fresh w _ _
  have KA := Lib.hid (awake11_any (hT.only hO1 (fun e => e)))
  have HW1 := Lib.hid (And.intro hw1 hB)
  have HI := Lib.hid (And.intro hS (And.intro hp (And.intro hL0 hT)))
  have H1 := Lib.hid (And.intro hO1 hk1)
  have HA := Lib.hid (siz_nums h0 hn)
  have HB := Lib.hid (siz_nums h1 hk)
  have HNK := Lib.hid (show n < 5000 ∧ k < 5000 from ⟨by omega, by omega⟩)
  clear hL0 hn hk hw1 hB hO1 hk1 hS hp h0 h1 hT
  go_enter Tryz.func5, Tryz.ntmps5
  go_upto_region 1 with fail
  rw [← HW1.out.1, ← HW1.out.2]
  clear HW1
  go_wp2_with fail
  refine KA.out.mono ?_
  rintro e w2 ⟨rfl, hb2⟩
  have hk2 := H1.out.2.below hb2
  have d0 : w2.cell? ⟨B, 0, none⟩ = some (.int .u16 (s0 : Int)) := hk2.cell 0
  have d1 : w2.cell? ⟨B, 1, none⟩ = some (.int .u16 (s1 : Int)) := hk2.cell 1
  have HO2 := Lib.hid (show Only (fun _ => False) w w2 from H1.out.1.then hb2)
  obtain ⟨a0, a1, a2⟩ := HA.out
  obtain ⟨b0, b1, b2⟩ := HB.out
  clear hb2 hk2 KA H1
  by_cases hbig : nn > 8192
  · have g1 : (nn : Int) > 8192 := by omega
    clear hbig
    go_wp2_with fail
    go_ret
    exact ⟨rfl, below_of HO2.out⟩
  have g1 : ¬ (nn : Int) > 8192 := by omega
  have HNN := Lib.hid (show nn ≤ 8192 by omega)
  clear hbig
  by_cases hnk : n = k
  · subst hnk
    have g2 : ((n : Int) == (n : Int)) = true := by simp
    go_wp2_with fail
    go_ret
    exact ⟨rfl, below_of HO2.out⟩
  have g2 : ((n : Int) == (k : Int)) = false := by simp; omega
  have HNE := Lib.hid hnk
  clear hnk
  go_wp2_with fail
  refine (much_any _).mono ?_
  rintro e w3 ⟨gm, rfl, hM, hg, hb⟩
  have KU := Lib.hid (unp_code (c := c) (size := (n : Int)) (p := p) HI.out.2.2.1 (HI.out.2.2.2) HI.out.1 (HO2.out.then hb) (Nat.le_trans HO2.out.size hg) hM (by have := HNN.out; omega) HI.out.2.1 (by have := HNK.out; omega) (by omega))
  clear hM hg hb a0 a1 a2 b0 b1 b2 d0 d1 g1 g2
  generalize hc1 : unpC L0 p bs (n : Int) = e1 at *
  have HC1 := Lib.hid hc1
  clear hc1
  go_wp2_with fail
  refine KU.out.mono ?_
  rintro e w4 ⟨v4, rfl, hO4⟩
  have HO4 := Lib.hid hO4
  clear hO4 KU
  go_wp2_with fail
  refine (much_any _).mono ?_
  rintro e w5 ⟨gm2, rfl, hM, hg, hb⟩
  have KU := Lib.hid (unp_code (c := c) (size := (k : Int)) (p := p) HI.out.2.2.1 (HI.out.2.2.2) HI.out.1 (HO4.out.then hb) (Nat.le_trans HO4.out.size hg) hM (by have := HNN.out; omega) HI.out.2.1 (by have := HNK.out; omega) (by omega))
  clear hM hg hb
  generalize hc2 : unpC L0 p bs (k : Int) = e2 at *
  have HC2 := Lib.hid hc2
  clear hc2
  go_wp2_with fail
  refine KU.out.mono ?_
  rintro e w6 ⟨v6, rfl, hO6⟩
  have HO6 := Lib.hid hO6
  clear hO6 KU
  by_cases hz : e1 = 0
  · subst hz
    obtain rfl : e2 = 12 := by rw [← HC2.out]; exact codes_one HNE.out HC1.out
    go_wp2_with fail
    go_ret
    exact ⟨rfl, below_of HO6.out⟩
  · have g3 : (e1 != 0) = true := by simp [hz]
    clear hz
    go_wp2_with fail
    go_ret
    exact ⟨rfl, below_of HO6.out⟩
end Go.Proofs.YtoencondpbkomaaGreatDoor
