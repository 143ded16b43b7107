/-
  The reference's decoder of shares: a place, a share taken.
-/
import Derived.Test.YtkjhdpfomofggaaPrLevel
import Derived.Test.YtkjhdpfomofggaaOnly
import Derived.StillTailTactics
namespace Go.Proofs.Ytkjhdpfomofggaa
open Go.RowKit

/-- Block g is the reference's decoder over bs, in the state d. -/
def Dr (w : World) (g : Nat) (A : Option Addr) (bs : List UInt8) (d : Dc) : Prop :=
  ∃ c at_ r k bad, Blk w g 40 (decCells A bs.length c at_ r k bad) ∧ Sl w A bs.length (bv bs) ∧ (0 < bs.length → ∀ b o, A = some ⟨b, o, none⟩ → b ≠ g) ∧ Tells bs d at_ r k bad
def DrPost (w : World) (g : Nat) (A : Option Addr) (bs : List UInt8) (v : Value) (d : Dc) (e : Ending) (w' : World) : Prop := e = .returned v ∧ Dr w' g A bs d ∧ w.grownBy w' (some g)
theorem Dr.lt {w : World} {g : Nat} {A : Option Addr} {bs : List UInt8} {d : Dc} (h : Dr w g A bs d) : g < w.heap.size := by
  obtain ⟨c, at_, r, k, bad, hB, _⟩ := h
  exact hB.lt

theorem Dr.only {S : Nat → Prop} {w w' : World} {g : Nat} {A : Option Addr} {bs : List UInt8} {d : Dc} (h : Dr w g A bs d) (hO : Only S w w') (hg : ¬ S g) (hA : 0 < bs.length → ∀ b o, A = some ⟨b, o, none⟩ → ¬ S b) : Dr w' g A bs d := by
  obtain ⟨c, at_, r, k, bad, hB, hS, hne, ht⟩ := h
  exact ⟨c, at_, r, k, bad, hB.only hO hg, hS.only hO hA, hne, ht⟩

section
variable {g : Nat} {w : World} {A : Option Addr} {bs : List UInt8} {d : Dc}

set_option maxHeartbeats 1000000 in
theorem rplace_bad {n c at_ r k : Nat} {t : Int} (hB : Blk w g 40 (decCells A n c at_ r k true)) :
    Calls Try.prog 16 #[.pointer (some ⟨g, 0, none⟩), .int .u32 t] w fun e w' => e = .returned (.int .u32 0) ∧ w = w' := by
  have h4 : w.cell? ⟨g, 4, none⟩ = some (.bool true) := hB.cell 4
  clear hB
  go_enter Try.func16, Try.ntmps16
  go_wp2_with fail
  go_ret
  exact ⟨rfl, rfl⟩

set_option maxHeartbeats 4000000 in
theorem rplace_any {t : Nat} (h : Dr w g A bs d) (hd : DcOk d) (h1 : 1 ≤ t) (h2 : t ≤ 1048576) :
    Calls Try.prog 16 #[.pointer (some ⟨g, 0, none⟩), .int .u32 (t : Int)] w (DrPost w g A bs (.int .u32 ((placeD d t).1 : Int)) (placeD d t).2) := by
  obtain ⟨c, at_, r, k, bad, hB, hS, hne, ht⟩ := h
  obtain ⟨ha, hr, hk, hc⟩ := ht
  rcases hc with ⟨rfl, rfl⟩ | ⟨rfl, rfl⟩
  · refine (rplace_bad hB).mono ?_
    rintro e w' ⟨rfl, rfl⟩
    exact ⟨rfl, ⟨c, at_, r, k, true, hB, hS, hne, ha, hr, hk, .inl ⟨rfl, rfl⟩⟩, World.grownBy.refl w _⟩
  · obtain ⟨a1, a2, a3⟩ := hd _ _ _ rfl
    have hr16 : 16 ≤ r / t := (Nat.le_div_iff_mul_le (by omega)).2 (by omega)
    have hle : r / t ≤ r := Nat.div_le_self _ _
    have hpl : k / (r / t) ≤ k := Nat.div_le_self _ _
    have q2 : w.cell? ⟨g, 2, none⟩ = some (.int .u64 (r : Int)) := hB.cell 2
    have q3 : w.cell? ⟨g, 3, none⟩ = some (.int .u64 (k : Int)) := hB.cell 3
    have q4 : w.cell? ⟨g, 4, none⟩ = some (.bool false) := hB.cell 4
    have f2 : w.frozen? ⟨g, 2, none⟩ = false := hB.free 2
    have f4 : w.frozen? ⟨g, 4, none⟩ = false := hB.free 4
    obtain ⟨R, hR⟩ : ∃ R, R = r / t := ⟨_, rfl⟩
    obtain ⟨v, hv⟩ : ∃ v, v = k / R := ⟨_, rfl⟩
    have e0 : IntKind.u64.wrap (t : Int) = (t : Int) := u64_in _ (by omega)
    have e1 : (r : Int) / (t : Int) = (R : Int) := by rw [hR]; exact (Int.natCast_ediv r t).symm
    have e2 : (r : Int).tdiv (t : Int) = (R : Int) := by rw [Int.tdiv_eq_ediv_of_nonneg (by omega)]; exact e1
    have e3 : IntKind.u64.wrap (R : Int) = (R : Int) := u64_in _ (by omega)
    have t0 : ¬ (t : Int) = 0 := by omega
    have e4 : (k : Int) / (R : Int) = (v : Int) := by rw [hv]; exact (Int.natCast_ediv k R).symm
    have e5 : (k : Int).tdiv (R : Int) = (v : Int) := by rw [Int.tdiv_eq_ediv_of_nonneg (by omega)]; exact e4
    have e6 : IntKind.u64.wrap (v : Int) = (v : Int) := u64_in _ (by rw [hv, hR]; omega)
    have r0 : ¬ (R : Int) = 0 := by omega
    have hpd : placeD (some (r, k, bs.drop at_)) t = if v < t then (v, some (R, k, bs.drop at_)) else (0, none) := by rw [hv, hR]; rfl
    have HPD := Lib.hid hpd
    have HB := Lib.hid hB
    have HS := Lib.hid hS
    have HNE := Lib.hid hne
    have HF := Lib.hid (show at_ ≤ bs.length ∧ R < 4294967296 ∧ k < 4294967296 by omega)
    have hv32 : v < t → IntKind.u32.wrap (v : Int) = (v : Int) := fun h => by simp [IntKind.wrap, IntKind.bits, IntKind.signed]; omega
    by_cases hlt : v < t
    · have e7 := hv32 hlt
      have c1 : ¬ (v : Int) ≥ (t : Int) := by omega
      rw [hpd, if_pos hlt]
      clear hB hS hne ha hr hk a1 a2 a3 hr16 hle hpl hR hv hpd hv32 h1 h2 hlt hd
      go_enter Try.func16, Try.ntmps16
      go_wp2_with fail
      go_quiet (fail)
      go_wp2_with fail
      go_ret
      have hg : w.grownBy ((w.setCell ⟨g, 2, none⟩ (.int .u64 (R : Int))).drewN nq) (some g) := only_drewN (only_setCell (World.grownBy.refl w _) (.inl rfl) _) nq
      exact ⟨rfl, ⟨c, at_, R, k, false, (HB.out.put 2 (.int .u64 (R : Int))).drewN nq, HS.out.grown hg HNE.out, HNE.out, HF.out.1, HF.out.2.1, HF.out.2.2, .inr ⟨rfl, rfl⟩⟩, hg⟩
    · have c1 : (v : Int) ≥ (t : Int) := by omega
      rw [hpd, if_neg hlt]
      clear hB hS hne ha hr hk a1 a2 a3 hr16 hle hpl hR hv hpd hv32 h1 h2 hlt hd
      go_enter Try.func16, Try.ntmps16
      go_wp2_with fail
      go_quiet (fail)
      go_wp2_with fail
      go_ret
      have hg : w.grownBy (((w.setCell ⟨g, 2, none⟩ (.int .u64 (R : Int))).drewN nq).setCell ⟨g, 4, none⟩ (.bool true)) (some g) := only_setCell (g := g) (p := ⟨g, 4, none⟩) (only_drewN (only_setCell (g := g) (p := ⟨g, 2, none⟩) (World.grownBy.refl w _) (.inl rfl) _) nq) (.inl rfl) _
      exact ⟨rfl, ⟨c, at_, R, k, true, ((HB.out.put 2 (.int .u64 (R : Int))).drewN nq).put 4 (.bool true), HS.out.grown hg HNE.out, HNE.out, HF.out.1, HF.out.2.1, HF.out.2.2, .inl ⟨rfl, rfl⟩⟩, hg⟩

set_option maxHeartbeats 1000000 in
theorem rtake_bad {n c at_ r k : Nat} {a z : Int} (hB : Blk w g 40 (decCells A n c at_ r k true)) :
    Calls Try.prog 18 #[.pointer (some ⟨g, 0, none⟩), .int .u32 a, .int .u32 z] w fun e w' => e = .returned (.tuple #[]) ∧ w = w' := by
  have h4 : w.cell? ⟨g, 4, none⟩ = some (.bool true) := hB.cell 4
  clear hB
  go_enter Try.func18, Try.ntmps18
  go_wp2_with fail
  first | go_end0 | refine bodyPost_ret (results_none rfl _ _ _) rfl ?_
  exact ⟨rfl, rfl⟩

set_option maxHeartbeats 4000000 in
theorem rtake_any {a z : Nat} (h : Dr w g A bs d) (hn : bs.length ≤ 1000000000) (ha32 : a < 4294967296) (hz32 : z < 4294967296) (hm : ∀ r k s, d = some (r, k, s) → a * r ≤ k ∧ k - a * r < r * z ∧ r * z < 4294967296 ∧ 1 ≤ r * z) :
    Calls Try.prog 18 #[.pointer (some ⟨g, 0, none⟩), .int .u32 (a : Int), .int .u32 (z : Int)] w (DrPost w g A bs (.tuple #[]) (takeD d a z)) := by
  obtain ⟨c, at_, r, k, bad, hB, hS, hne, ht⟩ := h
  obtain ⟨hat, hr, hk, hc⟩ := ht
  rcases hc with ⟨rfl, rfl⟩ | ⟨rfl, rfl⟩
  · refine (rtake_bad hB).mono ?_
    rintro e w' ⟨rfl, rfl⟩
    exact ⟨rfl, ⟨c, at_, r, k, true, hB, hS, hne, hat, hr, hk, .inl ⟨rfl, rfl⟩⟩, World.grownBy.refl w _⟩
  · obtain ⟨m1, m2, m3, m4⟩ := hm _ _ _ rfl
    have q2 : w.cell? ⟨g, 2, none⟩ = some (.int .u64 (r : Int)) := hB.cell 2
    have q3 : w.cell? ⟨g, 3, none⟩ = some (.int .u64 (k : Int)) := hB.cell 3
    have q4 : w.cell? ⟨g, 4, none⟩ = some (.bool false) := hB.cell 4
    have f2 : w.frozen? ⟨g, 2, none⟩ = false := hB.free 2
    have f3 : w.frozen? ⟨g, 3, none⟩ = false := hB.free 3
    obtain ⟨p, hp⟩ : ∃ p, p = a * r := ⟨_, rfl⟩
    obtain ⟨R, hR⟩ : ∃ R, R = r * z := ⟨_, rfl⟩
    obtain ⟨y, hy⟩ : ∃ y, y = k - p := ⟨_, rfl⟩
    obtain ⟨X, hX⟩ : ∃ X : Int, X = (k : Int) + 4611686018427387904 := ⟨_, rfl⟩
    obtain ⟨Y, hY⟩ : ∃ Y : Int, Y = X - (p : Int) := ⟨_, rfl⟩
    rw [← hp] at m1 m2
    rw [← hR] at m2 m3 m4
    rw [← hy] at m2
    have e0 : IntKind.u64.wrap (a : Int) = (a : Int) := u64_in _ (by omega)
    have e0' : IntKind.u64.wrap (z : Int) = (z : Int) := u64_in _ (by omega)
    have e1 : IntKind.u64.wrap ((k : Int) + 4611686018427387904) = X := by rw [hX, show (k : Int) + 4611686018427387904 = ((k + 4611686018427387904 : Nat) : Int) by omega]; exact u64_in _ (by omega)
    have e2 : IntKind.u64.wrap ((a : Int) * (r : Int)) = (p : Int) := by rw [← Int.natCast_mul, ← hp]; exact u64_in _ (by omega)
    have e3 : IntKind.u64.wrap (X - (p : Int)) = Y := by rw [← hY, show Y = ((k + 4611686018427387904 - p : Nat) : Int) by omega]; exact u64_in _ (by omega)
    have e4 : Y.tmod 4294967296 = (y : Int) := by rw [Int.tmod_eq_emod_of_nonneg (by omega)]; omega
    have e5 : IntKind.u64.wrap ((r : Int) * (z : Int)) = (R : Int) := by rw [← Int.natCast_mul, ← hR]; exact u64_in _ (by omega)
    have e6 : (R : Int).tmod 4294967296 = (R : Int) := by rw [Int.tmod_eq_emod_of_nonneg (by omega)]; omega
    have hg1 : ∀ m, w.grownBy (((w.setCell ⟨g, 3, none⟩ (.int .u64 (y : Int))).setCell ⟨g, 2, none⟩ (.int .u64 (R : Int))).drewN m) (some g) := fun m => only_drewN (only_setCell (g := g) (p := ⟨g, 2, none⟩) (only_setCell (g := g) (p := ⟨g, 3, none⟩) (World.grownBy.refl w _) (.inl rfl) _) (.inl rfl) _) m
    have K := Lib.hid (fun m => level6_any (Blk.drewN ((hB.put 3 (.int .u64 (y : Int))).put 2 (.int .u64 (R : Int))) m : Blk _ g 40 (decCells A bs.length c at_ R y false)) (hS.grown (hg1 m) hne) hat hn hne m4 m3 m2)
    have HTK := Lib.hid (show takeD (some (r, k, bs.drop at_)) a z = plv3 R y (bs.drop at_) by rw [hR, hy, hp]; rfl)
    have HG1 := Lib.hid hg1
    have HS := Lib.hid hS
    have HNE := Lib.hid hne
    clear hB hS hne hg1 hm hat hr hk hn m1 m2 m3 m4 hp hR hy hX hY ha32 hz32
    go_enter Try.func18, Try.ntmps18
    go_wp2_with fail
    go_still_tail 17, (by kernel_rfl)
    change wpList _ _ _ _ _ w.drew
    go_wp2_with fail
    refine (K.out 1).mono ?_
    rintro e w1 ⟨rfl, at', r', k', bad', hB1, ht1, hg1⟩
    have HB1 := Lib.hid hB1
    have HT1 := Lib.hid ht1
    have HG2 := Lib.hid (only_trans (HG1.out 1) hg1)
    clear hB1 ht1 hg1 K HG1 q2 q3 q4 f2 f3
    go_wp2_with fail
    first | go_end0 | refine bodyPost_ret (results_none rfl _ _ _) rfl ?_
    exact ⟨rfl, ⟨c, at', r', k', bad', HB1.out, HS.out.grown HG2.out HNE.out, HNE.out, by rw [HTK.out]; exact HT1.out⟩, HG2.out⟩
end
end Go.Proofs.Ytkjhdpfomofggaa
