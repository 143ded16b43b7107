/-
  The law DeltaBack: its walk.
-/
import Derived.Test.YtnmihkimkbiakaaDlAwk
namespace Go.Proofs.Ytnmihkimkbiakaa
set_option linter.unusedVariables false
set_option linter.unusedSimpArgs false
open Go.RowKit

theorem dmin2_int {P : Program} (ts : Array TypeId) (t : TypeId) (x y k : Int) (hk : k = min x y) : ∀ w, (Builtin.min_ ts t #[.int .i64 x, .int .i64 y]).run P w = .ok (.int .i64 k) w := by
  intro w
  subst hk
  by_cases h : x ≤ y
  · rw [Int.min_eq_left h]
    simp [Builtin.min_, Builtin.min2]; omega
  · rw [Int.min_eq_right (by omega)]
    simp [Builtin.min_, Builtin.min2]; omega
set_option maxRecDepth 100000 in
set_option maxHeartbeats 4000000 in
theorem deltaBack_walk {A : Option Addr} {n c m : Nat} {bs : List UInt8} {w : World} (hS : Sl w A n (bv bs)) (hnc : n ≤ c) (hc : c ≤ maxLen) (hm : m < 2 ^ 8) :
    Calls Try.prog 4 #[.slice A n c, .int .u8 (m : Int)] w fun e w' => e = .returned (.bool true) ∧ Below w.heap.size w w' := by
  unfold maxLen at hc
  have HS := Lib.hid hS
  have HC := Lib.hid (And.intro hnc hc)
  have KA := Lib.hid (awake13_any w)
  by_cases h1 : (n : Int) > 32768
  · clear hS hnc hc
    go_enter Try.func4, Try.ntmps4
    go_wp2_with fail
    refine KA.out.mono ?_
    rintro e w1 ⟨rfl, hb⟩
    have HB := Lib.hid hb
    clear hb
    go_wp2_with fail
    go_ret
    exact ⟨rfl, HB.out⟩
  · obtain ⟨d, hd⟩ : ∃ d : Nat, d = m + 1 := ⟨_, rfl⟩
    have e0 : wrap64 (m : Int) = (m : Int) := IntWalk.wrap64_in _ (by omega)
    have e1 : wrap64 ((m : Int) + 1) = (d : Int) := by rw [IntWalk.wrap64_in _ (by omega)]; omega
    have hmay : mayD (d : Int) = true := decide_eq_true (by omega)
    have HD := Lib.hid (And.intro hmay (And.intro (show 0 < d by omega) (show n ≤ 32768 by omega)))
    obtain ⟨k, hk⟩ : ∃ k, k = min d n := ⟨_, rfl⟩
    have HM2 := dmin2_int (P := Try.prog) #[3, 3] 3 (d : Int) (n : Int) (k : Int) (by omega)
    have HK := Lib.hid (show k ≤ d ∧ k ≤ n by omega)
    have g1 : ¬ (n : Int) > 32768 := by omega
    clear hS hnc hc hd hm hmay h1 hk
    go_enter Try.func4, Try.ntmps4
    go_wp2_with fail
    refine KA.out.mono ?_
    rintro e w1 ⟨rfl, hb⟩
    have HB := Lib.hid hb
    clear hb
    go_wp2_with fail
    refine (dCode_any (c := c) (HS.out.below HB.out) (by have := HD.out; omega) HD.out.1).mono ?_
    rintro e w2 ⟨q2, rfl, h2, _, b2⟩
    have HB2 := Lib.hid (HB.out.trans (b2.mono HB.out.size))
    have H2 := Lib.hid h2
    clear h2 b2 HB
    go_wp2_with fail
    refine (dDecode_any (c := n) H2.out (by have := HD.out; omega) HD.out.1).mono ?_
    rintro e w3 ⟨q3, rfl, h3, _, b3⟩
    rw [dec_cod HD.out.2.1] at h3
    have HB3 := Lib.hid (HB2.out.trans (b3.mono HB2.out.size))
    have H2 := Lib.hid (H2.out.below b3)
    have H3 := Lib.hid h3
    clear h3 b3 HB2
    go_wp2_with fail
    refine (dDecode_any (c := c) (HS.out.below HB3.out) (by have := HD.out; omega) HD.out.1).mono ?_
    rintro e w4 ⟨q4, rfl, h4, _, b4⟩
    have HB4 := Lib.hid (HB3.out.trans (b4.mono HB3.out.size))
    have H2 := Lib.hid (H2.out.below b4)
    have H3 := Lib.hid (H3.out.below b4)
    have H4 := Lib.hid h4
    clear h4 b4 HB3
    go_wp2_with fail
    refine (dCode_any (c := n) H4.out (by have := HD.out; omega) HD.out.1).mono ?_
    rintro e w5 ⟨q5, rfl, h5, _, b5⟩
    rw [cod_dec HD.out.2.1] at h5
    have HB5 := Lib.hid (HB4.out.trans (b5.mono HB4.out.size))
    have H2 := H2.out.below b5
    have H3 := H3.out.below b5
    have H4 := H4.out.below b5
    have HSS := HS.out.below HB5.out
    have K1 := Lib.hid (fun j => bytesSame_any (ca := n) (cb := c) (H3.drewN j) (HSS.drewN j) (by have := HD.out; omega))
    have K2 := Lib.hid (fun j => bytesSame_any (ca := n) (cb := c) (h5.drewN j) (HSS.drewN j) (by have := HD.out; omega))
    have f0 := HSS.first HK.out.2
    have f1 := H2.first HK.out.2
    have f2 := H4.first HK.out.2
    rw [← bv_take] at f0 f1 f2
    rw [cod_first d bs HK.out.1] at f1
    rw [dec_first HD.out.2.1 bs HK.out.1] at f2
    have K3 := Lib.hid (fun j => bytesSame_any (ca := n) (cb := c) (f1.drewN j) (f0.drewN j) (by have := HK.out; have := HD.out; omega))
    have K4 := Lib.hid (fun j => bytesSame_any (ca := n) (cb := c) (f2.drewN j) (f0.drewN j) (by have := HK.out; have := HD.out; omega))
    have i0 : (0 : Int) ≤ (k : Int) := by omega
    have i1 : (k : Int) ≤ (n : Int) := by have := HK.out; omega
    have i2 : (k : Int) ≤ (c : Int) := by have := HK.out; have := HC.out; omega
    clear h5 b5 HB4 H2 H3 H4 HSS f0 f1 f2
    go_wp2_with fail
    go_quiet ((first
      | (go_at_call 15; with_reducible exact quiet_drew_at (K1.out _))
      | (go_at_call 15; with_reducible exact quiet_drew_at (K2.out _))
      | (go_at_call 15; with_reducible exact quiet_drew_at (K3.out _))
      | (go_at_call 15; with_reducible exact quiet_drew_at (K4.out _))))
    go_wp2_with fail
    go_ret
    exact ⟨rfl, below_drewN HB5.out _⟩
end Go.Proofs.Ytnmihkimkbiakaa
