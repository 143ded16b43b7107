/-
  What the laws of stage 7 ask first, over what the program's window owes.
-/
import Derived.Test.YtnokbibkjhhcoaaWnCon
import Derived.LoopN
import Derived.Tactics2
import Derived.Deep.RegionLaw
namespace Go.Proofs.Ytnokbibkjhhcoaa
open Go.RowKit

theorem WinCon.drewN {Pw : World → Nat → (Nat → Prop) → Nat → Ws → Prop} (C : WinCon Pw) {w : World} {g m : Nat} {G : Nat → Prop} {s : Ws} (h : Pw w g G m s) (n : Nat) : Pw (w.drewN n) g G m s :=
  C.only h ((Only.refl (fun _ => False) w).drewN n) (fun _ _ h => h)

section
variable {Pw : World → Nat → (Nat → Prop) → Nat → Ws → Prop} {w : World} {g m : Nat} {G : Nat → Prop} {s : Ws}
/-- the quiet calls, behind draws -/
theorem WinCon.has_at (C : WinCon Pw) {d : Int} (h : Pw w g G m s) (hz : s.sz ≤ 1048576) (h0 : -9223372036854775808 ≤ d) (h1 : d ≤ 9223372036854775807) (n : Nat) :
    Calls Try.prog 18 #[.pointer (some ⟨g, 0, none⟩), .int .i64 d] (w.drewN n) fun x w' => x = .returned (.bool (s.has d)) ∧ ∃ k, w.drewN k = w' :=
  (C.has (C.drewN h n) hz h0 h1).mono fun _ _ ⟨hx, k, hk⟩ => ⟨hx, n + k, by rw [← hk, World.drewN_drewN]⟩
theorem WinCon.at_at (C : WinCon Pw) {d : Int} (h : Pw w g G m s) (hz : s.sz ≤ 1048576) (h0 : -9223372036854775808 ≤ d) (h1 : d ≤ 9223372036854775807) (n : Nat) :
    Calls Try.prog 19 #[.pointer (some ⟨g, 0, none⟩), .int .i64 d] (w.drewN n) fun x w' => x = .returned (.int .u8 ((s.at_ d).toNat : Int)) ∧ ∃ k, w.drewN k = w' :=
  (C.at_ (C.drewN h n) hz h0 h1).mono fun _ _ ⟨hx, k, hk⟩ => ⟨hx, n + k, by rw [← hk, World.drewN_drewN]⟩
theorem WinCon.count_at (C : WinCon Pw) (h : Pw w g G m s) (hz : s.sz ≤ 1048576) (n : Nat) :
    Calls Try.prog 20 #[.pointer (some ⟨g, 0, none⟩)] (w.drewN n) fun x w' => x = .returned (.int .i64 (s.count : Int)) ∧ ∃ k, w.drewN k = w' :=
  (C.count (C.drewN h n) hz).mono fun _ _ ⟨hx, k, hk⟩ => ⟨hx, n + k, by rw [← hk, World.drewN_drewN]⟩
end

/-- the bytes of the example are put -/
def exW : Nat → Ws
  | 0 => Ws.new 3
  | j + 1 => (exW j).put (UInt8.ofNat (97 + j))
theorem exW_small : ∀ j, (exW j).sz ≤ 1048576 ∧ (exW j).l.length ≤ j
  | 0 => ⟨by decide, Nat.le_refl _⟩
  | j + 1 => by
    obtain ⟨h1, h2⟩ := exW_small j
    refine ⟨?_, ?_⟩
    · show ((exW j).put _).sz ≤ _
      rw [put_sz]
      exact h1
    · have := put_len (s := exW j) (UInt8.ofNat (97 + j))
      show ((exW j).put _).l.length ≤ _
      omega
theorem exW_len (j : Nat) (h : j ≤ 1000 := by decide) : (exW j).l.length ≤ 1000000000 := by have := (exW_small j).2; omega
theorem exW_at0 : (((exW 4).at_ 0).toNat : Int) = 100 := by decide
theorem exW_at2 : (((exW 4).at_ 2).toNat : Int) = 98 := by decide
theorem exW_has : (exW 4).has 3 = false := by decide
theorem exW_at1 : (((exW 4).at_ 1).toNat : Int) = 99 := by decide
theorem exW_count : ((((exW 4).copy 1).count : Nat) : Int) = 3 := by decide

set_option maxRecDepth 100000 in
set_option maxHeartbeats 4000000 in
theorem awake7_any {Pw : World → Nat → (Nat → Prop) → Nat → Ws → Prop} (C : WinCon Pw) : AwakeCon7 := by
  intro w
  go_enter Try.func7, Try.ntmps7
  go_wp2_with fail
  refine (mnew_any ⟨3, 0, 0, 0, 0⟩ w).mono ?_
  rintro x w1 ⟨m, rfl, hM, hm, hb⟩
  have K := Lib.hid (C.new (n := 3) hM (Fine.new ⟨by decide, by decide, by decide, by decide, by decide⟩) (by decide) (by decide) (by decide))
  have HB1 := Lib.hid hb
  have HM := Lib.hid hm
  clear hM hm hb
  go_wp2_with fail
  refine K.out.mono ?_
  rintro x w2 ⟨g, G, rfl, hP, _, hG, hO⟩
  have HP2 := Lib.hid (show Pw w2 g G m (exW 0) from hP)
  have HG2 := Lib.hid (show ∀ i, G i → w.heap.size ≤ i from fun i hi => by have := hG i hi; have := HB1.out.size; omega)
  have hmw : Below w.heap.size w w2 := HB1.out.trans (hO.below HB1.out.size (fun i hi => by have := HM.out; omega))
  have HB2 := Lib.hid hmw
  clear hP hG hO hmw K
  go_wp2_with fail
  go_loopw [3] (fun i wr => ∃ (j : Nat) (G' : Nat → Prop), j ≤ 4 ∧ i = .int .u8 (j : Int) ∧ Pw wr g G' m (exW j) ∧ (∀ i, G' i → w.heap.size ≤ i) ∧ Below w.heap.size w wr) (fun i _ => 4 - (intOf i).toNat)
  case atStart => exact ⟨0, G, Nat.zero_le _, rfl, HP2.out, HG2.out, HB2.out⟩
  case round =>
    clear HP2 HG2 HB2
    obtain ⟨j, G', hj, rfl, hP, hG, hB⟩ := hrel
    obtain ⟨s1, s2⟩ := exW_small j
    have HG := Lib.hid hG
    have HB := Lib.hid hB
    by_cases hlt : j < 4
    · have K := Lib.hid (C.put (b := UInt8.ofNat (97 + j)) hP s1 (by omega))
      have hx : (UInt8.ofNat (97 + j)).toNat = 97 + j := by simp; omega
      rw [hx] at K
      have e1 : IntKind.u8.wrap (97 + (j : Int)) = ((97 + j : Nat) : Int) := by simp [IntKind.wrap, IntKind.bits, IntKind.signed]; omega
      have e2 : IntKind.u8.wrap ((j : Int) + 1) = (j : Int) + 1 := by simp [IntKind.wrap, IntKind.bits, IntKind.signed]; omega
      have hlt' : (j : Int) < 4 := by omega
      clear hP hG hB hx s1 s2
      go_wp2_with fail
      refine K.out.mono ?_
      rintro x w3 ⟨rfl, G3, hP3, hG3, hO3⟩
      have HP3 := Lib.hid (show Pw w3 g G3 m (exW (j + 1)) from hP3)
      have HG3 := Lib.hid (con_new (Nat.le_refl _) HB.out HG.out hG3)
      have HB3 := Lib.hid (con_below (Nat.le_refl _) HB.out HG.out hO3)
      clear hP3 hG3 hO3 K HG HB
      go_wp2_with fail
      go_roundw
      case rel => exact ⟨j + 1, G3, by omega, by go_num, HP3.out, HG3.out, HB3.out⟩
      case measure => simp [intOf]; omega
    · obtain rfl : j = 4 := by omega
      have hirr : ¬ ((4 : Nat) : Int) < 4 := by omega
      have K0 := Lib.hid (C.at_ (d := 0) hP s1 (by decide) (by decide))
      have K2 := Lib.hid (C.at_at (d := 2) hP s1 (by decide) (by decide))
      have K3 := Lib.hid (C.has_at (d := 3) hP s1 (by decide) (by decide))
      have K4 := Lib.hid (fun n => C.copy (d := 1) (C.drewN hP n) s1 (exW_len 4) (by decide) (by decide))
      rw [exW_at0] at K0
      rw [exW_at2] at K2
      rw [exW_has] at K3
      rw [exW_at1] at K4
      have HS1 := Lib.hid s1
      clear hP hG hB s1 s2
      go_wp2_with fail
      refine K0.out.mono ?_
      rintro x w3 ⟨rfl, k3, rfl⟩
      clear K0
      go_wp2_with fail
      refine (K2.out _).mono ?_
      rintro x w3 ⟨rfl, k4, rfl⟩
      clear K2
      go_wp2_with fail
      refine (K3.out _).mono ?_
      rintro x w3 ⟨rfl, k5, rfl⟩
      clear K3
      go_wp2_with fail
      refine (K4.out _).mono ?_
      rintro x w6 ⟨rfl, G6, hP6, hG6, hO6⟩
      have HB6 := Lib.hid (con_below (Nat.le_refl _) (below_drewN HB.out _) HG.out hO6)
      have K5 := Lib.hid (C.count hP6 (by rw [copy_sz]; exact HS1.out))
      rw [exW_count] at K5
      clear hP6 hG6 hO6 K4
      go_wp2_with fail
      refine K5.out.mono ?_
      rintro x w7 ⟨rfl, k7, rfl⟩
      go_wp2_with fail
      go_ret
      exact ⟨rfl, below_drewN HB6.out k7⟩
end Go.Proofs.Ytnokbibkjhhcoaa
