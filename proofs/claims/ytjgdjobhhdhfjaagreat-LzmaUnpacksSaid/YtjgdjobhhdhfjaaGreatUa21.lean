/-
  RdBegin, LzBegin, LzLeft, LzUnpW, LzCon: put together.
-/
import Derived.Test.YtjgdjobhhdhfjaaGreatUa18
import Derived.Test.YtjgdjobhhdhfjaaGreatUa01
import Derived.Test.YtjgdjobhhdhfjaaGreatUa03
import Derived.Test.YtjgdjobhhdhfjaaGreatUa02
import Derived.Deep.AppendLies
import Derived.Test.YtjgdjobhhdhfjaaGreatUa14
import Derived.Test.YtjgdjobhhdhfjaaGreatUa20
import Derived.Deep.RegionLaw
import Derived.Test.YtjgdjobhhdhfjaaGreatUa15
set_option linter.unusedVariables false
set_option linter.unusedSimpArgs false
/-
  The reference's decoder begins; its fresh probabilities (cut out of RdSaid, RdFresh).
-/
namespace Go.Proofs.YtjgdjobhhdhfjaaGreat
open Go.RowKit

/-- What a byte that is asked for is, and leaves. -/
def Nexted (bs : List UInt8) (at_ : Nat) (bad : Bool) (x at' : Nat) (bad' : Bool) : Prop :=
  (bad' = false ∧ bad = false ∧ at' = at_ + 1 ∧ ∃ y : UInt8, x = y.toNat ∧ bs.drop at_ = y :: bs.drop at') ∨ (bad' = true ∧ x = 0 ∧ (bad = true ∨ bs.drop at_ = []) ∧ at' = at_)

theorem next_one {g c at_ r k : Nat} {A : Option Addr} {w : World} {bs : List UInt8} {bad : Bool} (hB : Blk w g 79 (decCells A bs.length c at_ r k bad)) (hS : Sl w A bs.length (bv bs)) (ha : at_ ≤ bs.length) (hn : bs.length ≤ 1000000000)
    (hne : 0 < bs.length → ∀ b o, A = some ⟨b, o, none⟩ → b ≠ g) :
    Calls Tryz.prog 71 #[.pointer (some ⟨g, 0, none⟩)] w fun e w' =>
      ∃ (x at' : Nat) (bad' : Bool), e = .returned (.int .u64 (x : Int)) ∧ x < 256 ∧ Blk w' g 79 (decCells A bs.length c at' r k bad') ∧ at' ≤ bs.length ∧ Nexted bs at_ bad x at' bad' ∧ w.grownBy w' (some g) := by
  refine (next_any hB hS ha hn hne).mono ?_
  rintro e w' (⟨x, t, h1, h2, rfl, h4, h5, h6, h7⟩ | ⟨h1, rfl, h2, h3⟩)
  · exact ⟨x.toNat, at_ + 1, false, rfl, x.toNat_lt, h4, h5, .inl ⟨rfl, h1, rfl, x, rfl, by rw [h2, h6]⟩, h7⟩
  · exact ⟨0, at_, true, rfl, by omega, h2, ha, .inr ⟨rfl, rfl, h1, rfl⟩, h3⟩

def OnWayR (w : World) (g c : Nat) (A : Option Addr) (bs : List UInt8) (j : Nat) : Prop :=
  ∃ at_ k bad, Blk w g 79 (decCells A bs.length c at_ 4294967295 k bad) ∧ at_ ≤ bs.length ∧ k < 256 ^ j ∧ ((bad = true ∧ started bs = none) ∨ (bad = false ∧ at_ = j + 1 ∧ Begun bs j k))

theorem onwayR_next {bs : List UInt8} {at_ k j x at' : Nat} {bad bad' : Bool} (h : (bad = true ∧ started bs = none) ∨ (bad = false ∧ at_ = j + 1 ∧ Begun bs j k)) (hj : j < 4) (hn : Nexted bs at_ bad x at' bad') :
    (bad' = true ∧ started bs = none) ∨ (bad' = false ∧ at' = j + 1 + 1 ∧ Begun bs (j + 1) (k * 256 + x)) := by
  rcases hn with ⟨rfl, rfl, rfl, y, rfl, hy⟩ | ⟨rfl, rfl, hb, rfl⟩
  · rcases h with ⟨h, _⟩ | ⟨_, rfl, h⟩
    · cases h
    · exact .inr ⟨rfl, rfl, begun_next h hy⟩
  · left
    refine ⟨rfl, ?_⟩
    rcases h with ⟨_, h⟩ | ⟨rfl, rfl, h⟩
    · exact h
    · rcases hb with hb | hb
      · cases hb
      · refine started_short ?_
        have := List.drop_eq_nil_iff.1 hb
        omega

set_option maxRecDepth 100000 in
set_option maxHeartbeats 4000000 in
theorem refnew_any {n c : Nat} {A : Option Addr} {w : World} {bs : List UInt8} (hl : n = bs.length) (hS : Sl w A bs.length (bv bs)) (hn : bs.length ≤ 1000000000) :
    Calls Tryz.prog 33 #[.slice A n c] w fun e w' => e = .returned (.pointer (some ⟨w.heap.size, 0, none⟩)) ∧ Rf w' w.heap.size A c bs (started bs) ∧ Below w.heap.size w w' := by
  subst hl
  have hne : 0 < bs.length → ∀ b o, A = some ⟨b, o, none⟩ → b ≠ w.heap.size := by
    intro h0 b o e
    obtain ⟨b', o', e', hlt, _⟩ := hS.2 h0
    rw [e'] at e
    injection e with e
    injection e with e
    omega
  have hB0 : Blk (w.alloc (.cells #[.slice A bs.length c, .int .i64 0, .int .u64 4294967295, .int .u64 0, .bool false] 79)) w.heap.size 79 (decCells A bs.length c 0 4294967295 0 false) := Blk.fresh _ _ _
  have hb0 : Below w.heap.size w (w.alloc (.cells #[.slice A bs.length c, .int .i64 0, .int .u64 4294967295, .int .u64 0, .bool false] 79)) := (Below.refl _ _).alloc (Nat.le_refl _) _
  have K0 := Lib.hid (next_one hB0 (hS.below hb0) (Nat.zero_le _) hn hne)
  have HB0 := Lib.hid hb0
  have HS := Lib.hid hS
  have HNE := Lib.hid hne
  clear hB0 hb0 hS hne
  go_enter Tryz.func33, Tryz.ntmps33
  go_wp2_with fail
  generalize hg : w.heap.size = g at *
  have HGW := Lib.hid hg
  clear hg
  refine K0.out.mono ?_
  rintro e w1 ⟨x, at1, bad1, rfl, hx, hB1, hat1, hnx, hg1⟩
  have HB1 := Lib.hid hB1
  have HNX := Lib.hid hnx
  have HG1 := Lib.hid (HB0.out.grown hg1 (Nat.le_trans (Nat.le_of_eq HGW.out.symm) (by have := HB0.out.size; omega)) (fun q e => by injection e with e; omega))
  have f4 : w1.frozen? ⟨g, 4, none⟩ = false := hB1.free 4
  have j4 : w1.cell? ⟨g, 4, none⟩ = some (.bool bad1) := hB1.cell 4
  clear hB1 hnx hg1 K0 HB0
  by_cases hx0 : x = 0
  · have hw2 : OnWayR w1 g c A bs 0 := by
      refine ⟨at1, 0, bad1, HB1.out, hat1, by omega, ?_⟩
      rcases HNX.out with ⟨rfl, _, rfl, y, rfl, hy⟩ | ⟨rfl, _, hb, rfl⟩
      · refine .inr ⟨rfl, rfl, hat1, ?_, by simp [be]⟩
        cases bs with
        | nil => cases hy
        | cons z t => injection hy with hy _; rw [← hy] at hx0; exact hx0
      · refine .inl ⟨rfl, started_short ?_⟩
        rcases hb with hb | hb
        · cases hb
        · have := congrArg List.length hb
          simp only [List.length_drop, List.length_nil] at this
          omega
    have HW2 := Lib.hid hw2
    have HB2 := Lib.hid HG1.out
    clear hw2 HB1 HNX HG1
    subst hx0
    go_wp2_with fail
    go_loopw [5] (fun i wr => ∃ j : Nat, j ≤ 4 ∧ i = .int .i64 (j : Int) ∧ OnWayR wr g c A bs j ∧ Below g w wr) (fun i _ => 4 - (intOf i).toNat)
    case atStart => exact ⟨0, by omega, rfl, HW2.out, HB2.out⟩
    case round =>
      clear HW2 HB2
      obtain ⟨j, hj, rfl, ⟨at_, k, bad, hB, hat, hk, h0⟩, hb⟩ := hrel
      have HBr := Lib.hid hB
      have HB := Lib.hid hb
      have HH := Lib.hid h0
      have hsz := Nat.le_trans (Nat.le_of_eq HGW.out) (Nat.le_of_lt hB.lt)
      have hs := HS.out.below (hb.mono (Nat.le_of_eq HGW.out))
      clear hb h0
      by_cases hlt : j < 4
      · have hk3 : k < 16777216 := Nat.lt_of_lt_of_le hk (Nat.pow_le_pow_right (n := 256) (by omega) (show j ≤ 3 by omega))
        have hlt' : (j : Int) < 4 := by omega
        have hpk : k * 256 + 256 ≤ 256 ^ (j + 1) := by rw [Nat.pow_succ]; omega
        have HPK := Lib.hid hpk
        have j3 : wr.drew.cell? ⟨g, 3, none⟩ = some (.int .u64 (k : Int)) := hB.cell 3
        have K := Lib.hid (next_one (show Blk wr.drew g 79 (decCells A bs.length c at_ 4294967295 k bad) from hB) (show Sl wr.drew A bs.length (bv bs) from hs) hat hn HNE.out)
        have e1 : IntKind.u64.wrap ((k : Int) * 256) = (k : Int) * 256 := u64_of _ (by omega) (by omega)
        have HBD := Lib.hid (HB.out.drew)
        clear hB hk hpk hs HB HBr
        go_wp2_with fail
        have HB := Lib.hid (show Below g w wr.drew from HBD.out)
        go_region_law (first | (go_simp; go_at_call 71; refine K.out.mono ?_; rintro e w3 ⟨x, at', bad', rfl, hx, hB3, hat3, hn3, hg3⟩; have k3 : w3.cell? ⟨g, 3, none⟩ = some (.int .u64 (k : Int)) := hB3.cell 3; have z3 : w3.frozen? ⟨g, 3, none⟩ = false := hB3.free 3; have e2 : IntKind.u64.wrap ((k : Int) * 256 + (x : Int)) = ((k * 256 + x : Nat) : Int) := (by rw [show (k : Int) * 256 + (x : Int) = ((k * 256 + x : Nat) : Int) by omega]; exact u64_in _ (by omega)); have HB3 := Lib.hid hB3; have HN3 := Lib.hid hn3; have HG3 := Lib.hid hg3; clear hB3 hn3 hg3))
        all_goals
          go_wp2_with fail
          go_roundw
          case rel =>
            refine ⟨j + 1, by omega, by go_num, ⟨at', k * 256 + x, bad', HB3.out.put 3 _, hat3, by have := HPK.out; omega, onwayR_next HH.out hlt HN3.out⟩, ?_⟩
            exact (HBD.out.grown HG3.out (Nat.le_trans (Nat.le_of_eq HGW.out.symm) HBD.out.size) (fun q e => by injection e with e; omega)).setCell (p := ⟨g, 3, none⟩) (Nat.le_refl _) _
          case measure => simp [intOf]; omega
      · obtain rfl : j = 4 := by omega
        obtain ⟨R, hR⟩ : ∃ R : Nat, R = 4294967295 := ⟨_, rfl⟩
        have j2 : wr.cell? ⟨g, 2, none⟩ = some (.int .u64 (R : Int)) := by rw [hR]; exact hB.cell 2
        have HRR := Lib.hid hR
        have j3 : wr.cell? ⟨g, 3, none⟩ = some (.int .u64 (k : Int)) := hB.cell 3
        have j4 : wr.cell? ⟨g, 4, none⟩ = some (.bool bad) := hB.cell 4
        have f4 : wr.frozen? ⟨g, 4, none⟩ = false := hB.free 4
        have hk4 : k < 4294967296 := Nat.lt_of_lt_of_eq hk (by decide)
        clear hB hk hs
        have HK4 := Lib.hid hk4
        by_cases hkc : k < 4294967295
        · have hkc' : ¬ (k : Int) ≥ (R : Int) := by omega
          have HKC := Lib.hid hkc
          clear hkc hk4 hR
          go_wp2_with fail
          go_quiet (fail)
          go_wp2_with fail
          go_ret
          rw [HGW.out]
          refine ⟨rfl, ⟨at_, 4294967295, k, bad, HBr.out, hat, by omega, HK4.out, ?_⟩, below_drewN HB.out _⟩
          rcases HH.out with ⟨rfl, h⟩ | ⟨rfl, rfl, h⟩
          · exact .inl ⟨rfl, h⟩
          · exact .inr ⟨rfl, by rw [started_begun h, if_pos HKC.out]⟩
        · have hkc' : (k : Int) ≥ (R : Int) := by omega
          have HKC := Lib.hid hkc
          clear hkc hk4 hR
          go_wp2_with fail
          go_quiet (fail)
          go_wp2_with fail
          go_ret
          rw [HGW.out]
          refine ⟨rfl, ⟨at_, 4294967295, k, true, HBr.out.put 4 (.bool true), hat, by omega, HK4.out, .inl ⟨rfl, ?_⟩⟩, (below_drewN HB.out _).setCell (p := ⟨g, 4, none⟩) (Nat.le_refl _) _⟩
          rcases HH.out with ⟨rfl, h⟩ | ⟨rfl, rfl, h⟩
          · exact h
          · rw [started_begun h, if_neg HKC.out]
  · have hw2 : OnWayR (w1.setCell ⟨g, 4, none⟩ (.bool true)) g c A bs 0 := by
      refine ⟨at1, 0, true, HB1.out.put 4 (.bool true), hat1, by omega, .inl ⟨rfl, ?_⟩⟩
      rcases HNX.out with ⟨rfl, _, rfl, y, rfl, hy⟩ | ⟨_, h, _⟩
      · refine started_head ?_
        cases bs with
        | nil => cases hy
        | cons z t => injection hy with hy _; rw [← hy] at hx0; exact hx0
      · exact absurd h hx0
    have HW2 := Lib.hid hw2
    have HB2 := Lib.hid (HG1.out.setCell (p := ⟨g, 4, none⟩) (Nat.le_refl _) (.bool true))
    have hxi : ((x : Int) != 0) = true := by simp; omega
    clear hw2 HB1 HNX HG1
    go_wp2_with fail
    go_loopw [5] (fun i wr => ∃ j : Nat, j ≤ 4 ∧ i = .int .i64 (j : Int) ∧ OnWayR wr g c A bs j ∧ Below g w wr) (fun i _ => 4 - (intOf i).toNat)
    case atStart => exact ⟨0, by omega, rfl, HW2.out, HB2.out⟩
    case round =>
      clear HW2 HB2
      obtain ⟨j, hj, rfl, ⟨at_, k, bad, hB, hat, hk, h0⟩, hb⟩ := hrel
      have HBr := Lib.hid hB
      have HB := Lib.hid hb
      have HH := Lib.hid h0
      have hsz := Nat.le_trans (Nat.le_of_eq HGW.out) (Nat.le_of_lt hB.lt)
      have hs := HS.out.below (hb.mono (Nat.le_of_eq HGW.out))
      clear hb h0
      by_cases hlt : j < 4
      · have hk3 : k < 16777216 := Nat.lt_of_lt_of_le hk (Nat.pow_le_pow_right (n := 256) (by omega) (show j ≤ 3 by omega))
        have hlt' : (j : Int) < 4 := by omega
        have hpk : k * 256 + 256 ≤ 256 ^ (j + 1) := by rw [Nat.pow_succ]; omega
        have HPK := Lib.hid hpk
        have j3 : wr.drew.cell? ⟨g, 3, none⟩ = some (.int .u64 (k : Int)) := hB.cell 3
        have K := Lib.hid (next_one (show Blk wr.drew g 79 (decCells A bs.length c at_ 4294967295 k bad) from hB) (show Sl wr.drew A bs.length (bv bs) from hs) hat hn HNE.out)
        have e1 : IntKind.u64.wrap ((k : Int) * 256) = (k : Int) * 256 := u64_of _ (by omega) (by omega)
        have HBD := Lib.hid (HB.out.drew)
        clear hB hk hpk hs HB HBr
        go_wp2_with fail
        have HB := Lib.hid (show Below g w wr.drew from HBD.out)
        go_region_law (first | (go_simp; go_at_call 71; refine K.out.mono ?_; rintro e w3 ⟨x, at', bad', rfl, hx, hB3, hat3, hn3, hg3⟩; have k3 : w3.cell? ⟨g, 3, none⟩ = some (.int .u64 (k : Int)) := hB3.cell 3; have z3 : w3.frozen? ⟨g, 3, none⟩ = false := hB3.free 3; have e2 : IntKind.u64.wrap ((k : Int) * 256 + (x : Int)) = ((k * 256 + x : Nat) : Int) := (by rw [show (k : Int) * 256 + (x : Int) = ((k * 256 + x : Nat) : Int) by omega]; exact u64_in _ (by omega)); have HB3 := Lib.hid hB3; have HN3 := Lib.hid hn3; have HG3 := Lib.hid hg3; clear hB3 hn3 hg3))
        all_goals
          go_wp2_with fail
          go_roundw
          case rel =>
            refine ⟨j + 1, by omega, by go_num, ⟨at', k * 256 + x, bad', HB3.out.put 3 _, hat3, by have := HPK.out; omega, onwayR_next HH.out hlt HN3.out⟩, ?_⟩
            exact (HBD.out.grown HG3.out (Nat.le_trans (Nat.le_of_eq HGW.out.symm) HBD.out.size) (fun q e => by injection e with e; omega)).setCell (p := ⟨g, 3, none⟩) (Nat.le_refl _) _
          case measure => simp [intOf]; omega
      · obtain rfl : j = 4 := by omega
        obtain ⟨R, hR⟩ : ∃ R : Nat, R = 4294967295 := ⟨_, rfl⟩
        have j2 : wr.cell? ⟨g, 2, none⟩ = some (.int .u64 (R : Int)) := by rw [hR]; exact hB.cell 2
        have HRR := Lib.hid hR
        have j3 : wr.cell? ⟨g, 3, none⟩ = some (.int .u64 (k : Int)) := hB.cell 3
        have j4 : wr.cell? ⟨g, 4, none⟩ = some (.bool bad) := hB.cell 4
        have f4 : wr.frozen? ⟨g, 4, none⟩ = false := hB.free 4
        have hk4 : k < 4294967296 := Nat.lt_of_lt_of_eq hk (by decide)
        clear hB hk hs
        have HK4 := Lib.hid hk4
        by_cases hkc : k < 4294967295
        · have hkc' : ¬ (k : Int) ≥ (R : Int) := by omega
          have HKC := Lib.hid hkc
          clear hkc hk4 hR
          go_wp2_with fail
          go_quiet (fail)
          go_wp2_with fail
          go_ret
          rw [HGW.out]
          refine ⟨rfl, ⟨at_, 4294967295, k, bad, HBr.out, hat, by omega, HK4.out, ?_⟩, below_drewN HB.out _⟩
          rcases HH.out with ⟨rfl, h⟩ | ⟨rfl, rfl, h⟩
          · exact .inl ⟨rfl, h⟩
          · exact .inr ⟨rfl, by rw [started_begun h, if_pos HKC.out]⟩
        · have hkc' : (k : Int) ≥ (R : Int) := by omega
          have HKC := Lib.hid hkc
          clear hkc hk4 hR
          go_wp2_with fail
          go_quiet (fail)
          go_wp2_with fail
          go_ret
          rw [HGW.out]
          refine ⟨rfl, ⟨at_, 4294967295, k, true, HBr.out.put 4 (.bool true), hat, by omega, HK4.out, .inl ⟨rfl, ?_⟩⟩, (below_drewN HB.out _).setCell (p := ⟨g, 4, none⟩) (Nat.le_refl _) _⟩
          rcases HH.out with ⟨rfl, h⟩ | ⟨rfl, rfl, h⟩
          · exact h
          · rw [started_begun h, if_neg HKC.out]

set_option maxHeartbeats 2000000 in
theorem reffresh_any {n : Nat} (hn : n ≤ 100000000) (w : World) :
    Calls Tryz.prog 69 #[.int .i64 (n : Int)] w fun e w' =>
      ∃ A' c', e = .returned (.slice A' n c') ∧ w'.ownsRow w.heap.size 54 1 (.slice A' n c') n (pv (List.replicate n 1024)) ∧ Below w.heap.size w w' := by
  obtain ⟨i2, hi2, hy0, hy1, hy2⟩ := info_parts info_u16
  go_enter Tryz.func69, Tryz.ntmps69
  go_wp2_with fail
  go_loopw [3, 4] (fun p i wr => ∃ (j : Nat) (A2 : Option Addr) (c2 : Nat), j ≤ n ∧ i = .int .i64 (j : Int) ∧ p = .slice A2 j c2 ∧ wr.ownsRow w.heap.size 54 1 (.slice A2 j c2) j (pv (List.replicate j 1024)) ∧ Below w.heap.size w wr) (fun _ i _ => n - (intOf i).toNat)
  case atStart => exact ⟨0, none, 0, by omega, rfl, rfl, World.ownsRow_nil w _ _ 1, Below.refl _ _⟩
  case round =>
    obtain ⟨j, A2, c2, hj, rfl, rfl, ho, hb⟩ := hrel
    have HO := Lib.hid ho
    have HB := Lib.hid hb
    clear ho hb
    by_cases hlt : j < n
    · have hlt' : (j : Int) < (n : Int) := by omega
      go_wp2_with (at_builtin; refine wpList_app _ rfl (.tmp 10) (.tmp 11) 72 rfl w.heap.size 54 i2 _ 2 Tryz.underlying72 hi2 hy0 hy1 hy2 rfl _ j _ rfl (HO.out.alloc _) _ 1 1 _ rfl (sl_one _ _ _) (one_one _ _) (by omega) (by omega) (by have := HB.out.size; simp; omega) ?_)
      intro A3 c3 w3 ho hg
      have HB3 := Lib.hid ((HB.out.alloc HB.out.size _).grown hg (by have := HB.out.size; simp; omega) (fun b e => (HO.out.lt b e).1))
      have ho3 : w3.ownsRow w.heap.size 54 1 (.slice A3 (j + 1) c3) (j + 1) (pv (List.replicate (j + 1) 1024)) := by
        rw [List.replicate_succ']
        have e : pv (List.replicate j 1024 ++ [1024]) = pv (List.replicate j 1024) ++ [.int .u16 1024] := by simp [pv]
        rw [e]
        exact ho
      have HO3 := Lib.hid ho3
      clear ho hg ho3
      go_wp2
      go_roundw
      case rel => exact ⟨j + 1, A3, c3, by omega, by go_num, rfl, HO3.out, HB3.out⟩
      case measure => simp [intOf]; omega
    · obtain rfl : j = n := by omega
      go_wp2_with fail
      go_ret
      exact ⟨A2, c2, rfl, HO.out, HB.out⟩
end Go.Proofs.YtjgdjobhhdhfjaaGreat

/-
  The reference of LZMA begins.
-/
namespace Go.Proofs.YtjgdjobhhdhfjaaGreat
open Go.RowKit

/-- Block g is a new one, of neither kind yet. -/
def Zn (w : World) (g p pc : Nat) (z : Lzs) (L : Nat) : Prop :=
  Blk w g 75 (zCells z (.pointer none) (.pointer none) p L pc none 0 0) ∧ Row w p (List.replicate L 1024) pc ∧ p ≠ g
theorem own_zero {w : World} {base : Nat} {e : TypeId} {v : Value} {n : Nat} {xs : List Value} (h : w.ownsRow base e 1 v n xs) : w.ownsRow 0 e 1 v n xs := by
  refine ⟨h.1, ?_⟩
  rcases h.2 with hv | ⟨g, cap, cur, hv, hb, r⟩
  · exact .inl hv
  · exact .inr ⟨g, cap, cur, hv, Nat.zero_le _, r⟩
theorem zn_fresh {w w2 w3 : World} {lc lp pb dict L c' : Nat} {A' : Option Addr} (hL : 1 ≤ L) (hb : Below w.heap.size w w2) (h3 : Below w2.heap.size w2 w3)
    (ho : w3.ownsRow w2.heap.size 54 1 (.slice A' L c') L (pv (List.replicate L 1024))) {W : World}
    (hW : W = w3.alloc (.cells #[.int .i64 (lc : Int), .int .i64 (lp : Int), .int .i64 (pb : Int), .int .i64 (dict : Int), .pointer none, .pointer none, .slice A' L c', .slice none 0 0, .int .i64 0, .int .u32 0, .int .u32 0, .int .u32 0, .int .u32 0, .bool false, .bool false] 75)) :
    ∃ g p pc, Value.pointer (some ⟨w3.heap.size, 0, none⟩) = .pointer (some ⟨g, 0, none⟩) ∧ Zn W g p pc (Lzs.start lc lp pb dict) L ∧ w.heap.size ≤ g ∧ w.heap.size ≤ p ∧ Below w.heap.size w W := by
  obtain ⟨q, cap, hv, hq, hlt⟩ := ho.form (by omega)
  injection hv with h1 h2 h4
  subst h1 h4 hW
  have s1 := hb.size
  have s2 := h3.size
  refine ⟨_, q, c', rfl, ⟨Blk.fresh w3 _ _, ?_, by omega⟩, by omega, by omega, ?_⟩
  · unfold Row
    rw [List.length_replicate]
    exact own_only (own_zero ho) ((Only.refl (fun _ => False) w3).alloc _) (fun h => h)
  · exact (hb.trans ⟨h3.os, h3.tape, h3.output, h3.size, fun i hi => h3.block i (by omega)⟩).alloc (by omega) _

set_option maxHeartbeats 4000000 in
theorem znew_any {lc lp pb dict : Nat} (h : SetOk lc lp pb dict) (w : World) :
    Calls Tryz.prog 32 #[.agg #[.int .i64 (lc : Int), .int .i64 (lp : Int), .int .i64 (pb : Int), .int .i64 (dict : Int)]] w fun x w' =>
      ∃ g p pc, x = .returned (.pointer (some ⟨g, 0, none⟩)) ∧ Zn w' g p pc (Lzs.start lc lp pb dict) (probsN lc lp) ∧ w.heap.size ≤ g ∧ w.heap.size ≤ p ∧ Below w.heap.size w w' := by
  obtain ⟨hp, hp1, hp2⟩ := probsN_is h
  obtain ⟨w1, hw1⟩ : ∃ w1, w1 = w.alloc (.cells #[.int .i64 (lc : Int), .int .i64 (lp : Int), .int .i64 (pb : Int), .int .i64 (dict : Int)] 24) := ⟨_, rfl⟩
  have hb1 : Below w.heap.size w w1 := by rw [hw1]; exact (Below.refl _ _).alloc (Nat.le_refl _) _
  have HBk : Blk w1 w.heap.size 24 #[.int .i64 (lc : Int), .int .i64 (lp : Int), .int .i64 (pb : Int), .int .i64 (dict : Int)] := by rw [hw1]; exact Blk.fresh w _ _
  have K := Lib.hid (fun n => probs_any lc lp pb dict (w1.drewN n))
  rw [hp] at K
  have d0 : w1.cell? ⟨w.heap.size, 0, none⟩ = some (.int .i64 (lc : Int)) := HBk.cell 0
  have d1 : w1.cell? ⟨w.heap.size, 1, none⟩ = some (.int .i64 (lp : Int)) := HBk.cell 1
  have d2 : w1.cell? ⟨w.heap.size, 2, none⟩ = some (.int .i64 (pb : Int)) := HBk.cell 2
  have d3 : w1.cell? ⟨w.heap.size, 3, none⟩ = some (.int .i64 (dict : Int)) := HBk.cell 3
  have HW1 := Lib.hid hw1
  have HB1 := Lib.hid hb1
  have HBK := Lib.hid HBk
  have HL := Lib.hid (And.intro hp1 hp2)
  obtain ⟨L, hL⟩ : ∃ L, L = probsN lc lp := ⟨_, rfl⟩
  rw [← hL] at K HL ⊢
  have KF := Lib.hid (fun W => reffresh_any (n := L) (by have := HL.out; omega) W)
  clear hw1 hb1 HBk hp hp1 hp2 h hL
  go_enter Tryz.func32, Tryz.ntmps32
  go_upto_region 1 with fail
  rw [← HW1.out]
  clear HW1
  go_region_law (first
    | (go_simp; go_at_call 70; refine (K.out _).mono ?_; rintro e w2 ⟨rfl, hb2⟩; have hk2 := Blk.below (w := w1.drewN _) HBK.out hb2; have o0 := hk2.cell 0; have o1 := hk2.cell 1; have o2 := hk2.cell 2; have o3 := hk2.cell 3; have HB2 := Lib.hid hb2; have HK2 := Lib.hid hk2; clear hb2 hk2)
    | (go_simp; go_at_call 69; refine (KF.out _).mono ?_; rintro e w3 ⟨A', c', rfl, ho3, hb3⟩; have hk3 := HK2.out.below hb3; have r0 := hk3.cell 0; have r1 := hk3.cell 1; have r2 := hk3.cell 2; have r3 := hk3.cell 3; clear hk3; have HB3 := Lib.hid hb3; have HO3 := Lib.hid ho3; clear hb3 ho3))
  all_goals
    have HE := Lib.hid (fun W => zn_fresh (W := W) (lc := lc) (lp := lp) (pb := pb) (dict := dict) (by have := HL.out; omega) (HB1.out.trans ⟨HB2.out.os, HB2.out.tape, HB2.out.output, HB2.out.size, fun i hi => HB2.out.block i (Nat.lt_of_lt_of_le hi HB1.out.size)⟩) HB3.out HO3.out)
    clear K KF HB1 HB2 HB3 HO3 HBK HK2
    go_wp2_with fail
    go_ret
    obtain ⟨g, p, pc, h1, h2, h3, h4, h5⟩ := HE.out _ rfl
    exact ⟨g, p, pc, congrArg Ending.returned h1, h2, h3, h4, h5⟩
end Go.Proofs.YtjgdjobhhdhfjaaGreat

/-
  The reference of LZMA: whether all bytes are read, and the decoder is done.
-/
namespace Go.Proofs.YtjgdjobhhdhfjaaGreat
open Go.RowKit

section
variable {w : World} {g : Nat} {G : Nat → Prop} {z : Lzs} {t : Pm Dc} {A : Option Addr} {bs : List UInt8}
set_option maxHeartbeats 2000000 in
theorem zleft_any (h : Zz (rowOf A bs.length) (Kd A bs) w g G z t) :
    Calls Tryz.prog 35 #[.pointer (some ⟨g, 0, none⟩)] w fun x w' => x = .returned (.bool (leftD t.x)) ∧ ∃ k, w.drewN k = w' := by
  obtain ⟨Gm, Dv, Ev, p, pc, A7, c7, h⟩ := h
  obtain ⟨db, c, rfl, rfl, hG, ⟨at_, r, k, bad, hB, hat, hr, hk, hT⟩, hS, hn, hl⟩ := h.mch
  have c4 : w.cell? ⟨g, 4, none⟩ = some (.pointer (some ⟨db, 0, none⟩)) := h.blk.cell 4
  have e0 : w.cell? ⟨db, 0, none⟩ = some (.slice A bs.length c) := hB.cell 0
  have e1 : w.cell? ⟨db, 1, none⟩ = some (.int .i64 (at_ : Int)) := hB.cell 1
  have e3 : w.cell? ⟨db, 3, none⟩ = some (.int .u64 (k : Int)) := hB.cell 3
  have e4 : w.cell? ⟨db, 4, none⟩ = some (.bool bad) := hB.cell 4
  obtain ⟨v, hv⟩ : ∃ v, v = leftD t.x := ⟨_, rfl⟩
  rw [← hv]
  obtain ⟨n, hnn⟩ : ∃ n, n = bs.length := ⟨_, rfl⟩
  have hv2 : v = (!bad && (decide (k = 0) && decide (at_ = n))) := by
    rw [hv, hnn]
    rcases hT with ⟨rfl, h2⟩ | ⟨rfl, h2⟩
    · rw [h2]; rfl
    · rw [h2]
      show (decide (k = 0) && decide (bs.drop at_ = [])) = _
      have : decide (bs.drop at_ = []) = decide (at_ = bs.length) := by
        rw [decide_eq_decide, List.drop_eq_nil_iff]
        omega
      rw [this]
      rfl
  rw [← hnn] at e0
  clear hv hT hB hS hn hl hG hr hk hat h hnn
  cases bad with
  | true =>
    obtain rfl : v = false := hv2
    go_enter Tryz.func35, Tryz.ntmps35
    go_wp2_with fail
    go_quiet (fail)
    go_wp2_with fail
    go_ret
    exact ⟨rfl, _, rfl⟩
  | false =>
    by_cases hk : k = 0
    · have q0 : ((k : Int) == 0) = true := by simp [hk]
      by_cases ha : at_ = n
      · obtain rfl : v = true := by rw [hv2, hk, ha]; simp
        have q1 : ((at_ : Int) == (n : Int)) = true := by simp [ha]
        clear hv2 hk ha
        go_enter Tryz.func35, Tryz.ntmps35
        go_wp2_with fail
        go_quiet (fail)
        go_wp2_with fail
        go_ret
        exact ⟨rfl, _, rfl⟩
      · obtain rfl : v = false := by rw [hv2, decide_eq_false ha]; simp
        have q1 : ((at_ : Int) == (n : Int)) = false := by simp; omega
        clear hv2 hk ha
        go_enter Tryz.func35, Tryz.ntmps35
        go_wp2_with fail
        go_quiet (fail)
        go_wp2_with fail
        go_ret
        exact ⟨rfl, _, rfl⟩
    · obtain rfl : v = false := by rw [hv2, decide_eq_false hk]; simp
      have q0 : ((k : Int) == 0) = false := by simp; omega
      clear hv2 hk
      go_enter Tryz.func35, Tryz.ntmps35
      go_wp2_with fail
      go_quiet (fail)
      go_wp2_with fail
      go_ret
      exact ⟨rfl, _, rfl⟩

/-- a packet is decoded, or coded, from wherever it stands -/
theorem ZAt.packet {σ : Type} {M : Mach σ} {ok : Nat → σ → Prop} {R : Nat → Prop} {K : World → Value → Value → (Nat → Prop) → σ → Prop} {w w0 : World} {G0 : Nat → Prop} {z : Lzs} {t : Pm σ}
    (Z : ZOps M ok R K) (X : MachMore M R K) {L k N : Nat} {p : Pk} (h : ZAt R K w0 G0 w g z t) (ht : PmOk ok L (k + 27) t) (hz : ZNear z L N) (hN : N ≤ 900000) (hp : PkFine p) (hm : PkMay M z p) (hl : PkLen M p) :
    Calls Tryz.prog 34 #[.pointer (some ⟨g, 0, none⟩), .agg #[.int .i64 p.kind, .int .u8 (p.byte.toNat : Int), .int .i64 p.len, .int .u32 (p.dist : Int)]] w
      (PackPost R K w0 G0 g (packP M z t p)) := by
  obtain ⟨G, hzz, hNn, hO⟩ := h
  refine (zpacket_go Z X rfl hzz ht hz hN hp hm hl).mono ?_
  rintro e w' ⟨rfl, h2⟩
  exact ⟨rfl, ZAt.over hNn hO ((Only.refl _ _).alloc _) h2⟩
end
end Go.Proofs.YtjgdjobhhdhfjaaGreat

/-
  The reference of LZMA: a stream is unpacked: the walk.
-/
namespace Go.Proofs.YtjgdjobhhdhfjaaGreat
open Go.RowKit

/-- a decoder is put in -/
theorem zn_dec {w w2 w3 : World} {g p pc db c : Nat} {A : Option Addr} {bs : List UInt8} {z : Lzs} {L : Nat} {d : Dc} (hz : Zn w2 g p pc z L) (ho : z.out = []) (hb3 : Below w2.heap.size w2 w3) (hR : Rf w3 db A c bs d) (hdb : w2.heap.size ≤ db)
    (hS : Sl w3 A bs.length (bv bs)) (hw : w.heap.size ≤ g ∧ w.heap.size ≤ p ∧ w.heap.size ≤ w2.heap.size) (hA : ∀ i, rowOf A bs.length i → i < w.heap.size) (hl : bs.length ≤ 1000000000) :
    Zz (rowOf A bs.length) (Kd A bs) (w3.setCell ⟨g, 4, none⟩ (.pointer (some ⟨db, 0, none⟩))) g (fun i => i = g ∨ i = p ∨ i = db) z ⟨List.replicate L 1024, d⟩ := by
  obtain ⟨hB, hr, hpg⟩ := hz
  have hg2 := hB.lt
  have hp2 : p < w2.heap.size := hr.lt
  have hset : ∀ (S : Nat → Prop), S g → Only S w3 (w3.setCell ⟨g, 4, none⟩ (.pointer (some ⟨db, 0, none⟩))) := fun S hS => (Only.refl S w3).setCell (p := ⟨g, 4, none⟩) (.inl hS) _
  have h3 : Only (fun _ => False) w2 w3 := Only.of_below hb3
  have hs3 := hb3.size
  have hdl := hR.lt
  refine ⟨fun i => i = db, .pointer (some ⟨db, 0, none⟩), .pointer none, p, pc, none, 0, ?_, ?_, ?_, ⟨db, c, rfl, rfl, fun i => Iff.rfl, hR.only (hset (fun i => i = g) rfl) (by show ¬ db = g; omega), hS.only (hset (fun i => i = g) rfl) (fun h0 b o e => by have := hA b ⟨h0, o, e⟩; show ¬ b = g; omega), fun h0 q o e => by have := hA q ⟨h0, o, e⟩; omega, hl⟩, .inl rfl, .inr (.inl rfl), fun i hi => .inr (.inr hi), ?_, hpg, by show ¬ g = db; omega, by show ¬ p = db; omega, ?_, ?_⟩
  · have h4 := (hB.only h3 (fun h => h)).put 4 (.pointer (some ⟨db, 0, none⟩))
    rw [List.length_replicate, ho]
    exact h4
  · exact (hr.only h3 (fun h => h)).only (hset (fun i => i = g) rfl) hpg
  · rw [ho]
    exact ⟨rfl, .inl ⟨rfl, rfl⟩⟩
  · intro i hi
    rw [ho] at hi
    cases hi
  · rintro i (rfl | rfl | rfl)
    · simp [World.setCell]; omega
    · simp [World.setCell]; omega
    · simpa [World.setCell] using hdl
  · rintro i hi hr
    have := hA i hr
    rcases hi with rfl | rfl | rfl <;> omega

section
variable {w w0 : World} {g : Nat} {G0 : Nat → Prop} {z : Lzs} {t : Pm Dc} {A : Option Addr} {bs : List UInt8}
theorem ZAt.dbad (h : ZAt (rowOf A bs.length) (Kd A bs) w0 G0 w g z t) : ∃ db, w.cell? ⟨g, 4, none⟩ = some (.pointer (some ⟨db, 0, none⟩)) ∧ w.cell? ⟨db, 4, none⟩ = some (.bool (decM.bad t.x)) := by
  obtain ⟨G, ⟨Gm, Dv, Ev, p, pc, A7, c7, h⟩, _⟩ := h
  obtain ⟨db, c, rfl, rfl, hG, ⟨at_, r, k, bad, hB, hT⟩, _⟩ := h.mch
  refine ⟨db, h.blk.cell 4, ?_⟩
  have e : decM.bad t.x = bad := by
    obtain ⟨_, _, _, h | h⟩ := hT
    · rw [h.1, h.2]; rfl
    · rw [h.1, h.2]; rfl
  rw [e]
  exact hB.cell 4
theorem ZAt.left (h : ZAt (rowOf A bs.length) (Kd A bs) w0 G0 w g z t) :
    Calls Tryz.prog 35 #[.pointer (some ⟨g, 0, none⟩)] w fun x w' => x = .returned (.bool (leftD t.x)) ∧ ∃ k, w.drewN k = w' := by
  obtain ⟨G, h, _⟩ := h
  exact zleft_any h
end
theorem stop_len {size : Int} {r : Nat × Lzs × Pm Dc} (h : stopD size r = false) : (r.2.1.out.length : Int) ≤ size := by
  unfold stopD at h
  have h2 : decide (size < (r.2.1.out.length : Int)) = false := by
    revert h
    cases r.2.1.bad <;> cases r.2.1.ended <;> cases decM.bad r.2.2.x <;> simp
  have := of_decide_eq_false h2
  omega
/-- how many bytes were told, as the memory has it -/
def outLen (w : World) (g : Nat) : Nat := match w.cell? ⟨g, 7, none⟩ with | some (.slice _ n _) => n | _ => 0

/-- what unpacking answers -/
def UnpPost (w : World) (o : Option (List UInt8)) (x : Ending) (w' : World) : Prop :=
  Below w.heap.size w w' ∧ ((o = none ∧ x = .returned (.tuple #[.slice none 0 0, .int .i64 12])) ∨ ∃ ys A' c', o = some ys ∧ x = .returned (.tuple #[.slice A' ys.length c', .int .i64 0]) ∧ Sl w' A' ys.length (bv ys))

set_option maxRecDepth 100000 in
set_option maxHeartbeats 8000000 in
theorem zunpack_any {w : World} {lc lp pb dict c : Nat} {A : Option Addr} {bs : List UInt8} {size : Int} (h : SetOk lc lp pb dict) (hS : Sl w A bs.length (bv bs)) (hl : bs.length ≤ 1000000000) (h1 : size ≤ 100000) (h0 : -9223372036854775808 ≤ size) :
    Calls Tryz.prog 12 #[.slice A bs.length c, .agg #[.int .i64 (lc : Int), .int .i64 (lp : Int), .int .i64 (pb : Int), .int .i64 (dict : Int)], .int .i64 size] w
      (UnpPost w (unpackN bs lc lp pb dict size)) := by
  obtain ⟨w1, hw1⟩ : ∃ w1, w1 = w.alloc (.cells #[.int .i64 (lc : Int), .int .i64 (lp : Int), .int .i64 (pb : Int), .int .i64 (dict : Int)] 24) := ⟨_, rfl⟩
  have hb1 : Below w.heap.size w w1 := by rw [hw1]; exact (Below.refl _ _).alloc (Nat.le_refl _) _
  have HBk : Blk w1 w.heap.size 24 #[.int .i64 (lc : Int), .int .i64 (lp : Int), .int .i64 (pb : Int), .int .i64 (dict : Int)] := by rw [hw1]; exact Blk.fresh w _ _
  have K := Lib.hid (may_any lc lp pb dict w1)
  rw [setOk_may h] at K
  have d0 : w1.cell? ⟨w.heap.size, 0, none⟩ = some (.int .i64 (lc : Int)) := HBk.cell 0
  have d1 : w1.cell? ⟨w.heap.size, 1, none⟩ = some (.int .i64 (lp : Int)) := HBk.cell 1
  have d2 : w1.cell? ⟨w.heap.size, 2, none⟩ = some (.int .i64 (pb : Int)) := HBk.cell 2
  have d3 : w1.cell? ⟨w.heap.size, 3, none⟩ = some (.int .i64 (dict : Int)) := HBk.cell 3
  have HW1 := Lib.hid hw1
  have HB1 := Lib.hid hb1
  have HBK := Lib.hid HBk
  have HS := Lib.hid hS
  have HSO := Lib.hid h
  have HSZ := Lib.hid (And.intro h0 (And.intro h1 hl))
  obtain ⟨res, hres⟩ : ∃ r, r = unpackN bs lc lp pb dict size := ⟨_, rfl⟩
  rw [← hres]
  have HRES := Lib.hid hres
  obtain ⟨n0, hn0⟩ : ∃ n, n = bs.length := ⟨_, rfl⟩
  rw [← hn0]
  have HN0 := Lib.hid hn0
  clear hw1 hb1 HBk hS h hl h0 h1 hres hn0
  go_enter Tryz.func12, Tryz.ntmps12
  go_upto_region 1 with fail
  rw [← HW1.out]
  clear HW1
  go_wp2_with fail
  refine K.out.mono ?_
  rintro e w2 ⟨rfl, hb2⟩
  have HB2 := Lib.hid (HB1.out.trans ⟨hb2.os, hb2.tape, hb2.output, hb2.size, fun i hi => hb2.block i (Nat.lt_of_lt_of_le hi HB1.out.size)⟩)
  have hk2 : Blk w2 w.heap.size 24 #[.int .i64 (lc : Int), .int .i64 (lp : Int), .int .i64 (pb : Int), .int .i64 (dict : Int)] := HBK.out.below hb2
  have o0 := hk2.cell 0
  have o1 := hk2.cell 1
  have o2 := hk2.cell 2
  have o3 := hk2.cell 3
  have o0 : w2.cell? ⟨w.heap.size, 0, none⟩ = some (.int .i64 (lc : Int)) := o0
  have o1 : w2.cell? ⟨w.heap.size, 1, none⟩ = some (.int .i64 (lp : Int)) := o1
  have o2 : w2.cell? ⟨w.heap.size, 2, none⟩ = some (.int .i64 (pb : Int)) := o2
  have o3 : w2.cell? ⟨w.heap.size, 3, none⟩ = some (.int .i64 (dict : Int)) := o3
  have KN := Lib.hid (znew_any HSO.out w2)
  clear hb2 hk2 K d0 d1 d2 d3 HB1 HBK
  go_wp2_with fail
  refine KN.out.mono ?_
  rintro e w3 ⟨g, p, pc, rfl, hz3, hg3, hp3, hb3⟩
  have HB3 := Lib.hid (HB2.out.trans ⟨hb3.os, hb3.tape, hb3.output, hb3.size, fun i hi => hb3.block i (Nat.lt_of_lt_of_le hi HB2.out.size)⟩)
  have HS3 := Lib.hid (HS.out.below HB3.out)
  have KD := Lib.hid (refnew_any (n := n0) (c := c) HN0.out HS3.out HSZ.out.2.2)
  have HZ3 := Lib.hid hz3
  have HGP := Lib.hid (show w.heap.size ≤ g ∧ w.heap.size ≤ p ∧ w.heap.size ≤ w3.heap.size from ⟨by have := HB2.out.size; omega, by have := HB2.out.size; omega, HB3.out.size⟩)
  clear hz3 hg3 hp3 hb3 KN o0 o1 o2 o3 HB2
  go_wp2_with fail
  refine KD.out.mono ?_
  rintro e w4 ⟨rfl, hR, hb4⟩
  have hzz := zn_dec (w := w) HZ3.out rfl hb4 hR (Nat.le_refl _) (HS3.out.below hb4) HGP.out (by
    rintro i ⟨h0, o, rfl⟩
    obtain ⟨b, o', e, hb, _⟩ := HS.out.2 h0
    injection e with e
    injection e with e
    omega) HSZ.out.2.2
  have hb4' : Below w.heap.size w w4 := HB3.out.trans ⟨hb4.os, hb4.tape, hb4.output, hb4.size, fun i hi => hb4.block i (Nat.lt_of_lt_of_le hi HB3.out.size)⟩
  have HB4 := Lib.hid (show Below w.heap.size w (w4.setCell ⟨g, 4, none⟩ (.pointer (some ⟨w3.heap.size, 0, none⟩))) from hb4'.trans ((Only.refl (fun i => i = g) w4).setCell (p := ⟨g, 4, none⟩) (.inl rfl) _ |>.below hb4'.size (by rintro i rfl; exact HGP.out.1)))
  have hk4 : Blk w4 g 75 (zCells (Lzs.start lc lp pb dict) (.pointer none) (.pointer none) p (probsN lc lp) pc none 0 0) := HZ3.out.1.below hb4
  have q4 : w4.cell? ⟨g, 4, none⟩ = some (.pointer none) := hk4.cell 4
  have f4 := hk4.free 4
  have HZZ := Lib.hid hzz
  clear hR hb4 hb4' hzz hk4 KD HB3 HS3 HZ3
  go_upto_region 5 with fail
  generalize w4.setCell ⟨g, 4, none⟩ (.pointer (some ⟨w3.heap.size, 0, none⟩)) = w5 at *
  obtain ⟨G, hG⟩ : ∃ G : Nat → Prop, G = fun i => i = g ∨ i = p ∨ i = w3.heap.size := ⟨_, rfl⟩
  have hGl : ∀ i, G i → w.heap.size ≤ i := by
    intro i hi
    rw [hG] at hi
    rcases hi with rfl | rfl | rfl
    · exact HGP.out.1
    · exact HGP.out.2.1
    · exact HGP.out.2.2
  have hst : ZAt (rowOf A bs.length) (Kd A bs) w5 G w5 g (Lzs.start lc lp pb dict) ⟨List.replicate (probsN lc lp) 1024, started bs⟩ := by rw [hG]; exact ZAt.begin HZZ.out
  obtain ⟨L, hL⟩ : ∃ L, L = probsN lc lp := ⟨_, rfl⟩
  rw [← hL] at hst
  have hn : ZNear (Lzs.start lc lp pb dict) L size.toNat := by rw [hL]; exact (start_near HSO.out).more (Nat.zero_le _)
  have hres : res = finU (upG size size.toNat (Lzs.start lc lp pb dict) ⟨List.replicate L 1024, started bs⟩) := by rw [hL]; exact HRES.out
  have hpm : PmOk okD L (0 + 27) (⟨List.replicate L 1024, started bs⟩ : Pm Dc) := start_pm (dcOk_started bs)
  generalize (⟨List.replicate L 1024, started bs⟩ : Pm Dc) = t0 at *
  have hlen0 : (Lzs.start lc lp pb dict).out.length = 0 := rfl
  generalize Lzs.start lc lp pb dict = z0 at *
  have hend : ∀ (wr : World) (z : Lzs) (t : Pm Dc), ZAt (rowOf A bs.length) (Kd A bs) w5 G wr g z t → Below w.heap.size w wr := by
    rintro wr z t ⟨G', _, _, hO⟩
    exact HB4.out.trans (hO.below HB4.out.size hGl)
  have HEND := Lib.hid hend
  have HST := Lib.hid (And.intro hst (And.intro hn (And.intro hres (And.intro hpm hlen0))))
  have HDO := Lib.hid (dec_ops A bs)
  have HDM := Lib.hid (dec_more A bs)
  clear hst hn hres hpm hlen0 hend hGl hG hL HZZ HB4 HGP HRES HSO q4 f4
  go_loopw [] (fun wr => ∃ (f : Nat) (z : Lzs) (t : Pm Dc), ZAt (rowOf A bs.length) (Kd A bs) w5 G wr g z t ∧ finU (upG size f z t) = res ∧ size ≤ (z.out.length : Int) + (f : Int) ∧ ZNear z L size.toNat ∧ PmOk okD L (0 + 27) t) (fun wr => size.toNat - outLen wr g)
  case atStart => exact ⟨size.toNat, z0, t0, HST.out.1, HST.out.2.2.1.symm, by rw [HST.out.2.2.2.2]; omega, HST.out.2.1, HST.out.2.2.2.1⟩
  case round =>
    clear HST
    obtain ⟨f, z, t, hz, hup, hf, hnear, hpm⟩ := hrel
    obtain ⟨A7, cc7, c7, hS7⟩ := hz.told
    have HZ := Lib.hid hz
    have HU := Lib.hid (And.intro hup (And.intro hf (And.intro hnear hpm)))
    have hol : outLen wr g = z.out.length := by unfold outLen; rw [c7]
    have HOL := Lib.hid hol
    have HS7 := Lib.hid hS7
    clear hol hS7
    by_cases hlt : (z.out.length : Int) < size
    · obtain ⟨f', rfl⟩ : ∃ f', f = f' + 1 := ⟨f - 1, by omega⟩
      have KP : Calls Tryz.prog 34 #[.pointer (some ⟨g, 0, none⟩), .agg #[.int .i64 0, .int .u8 0, .int .i64 0, .int .u32 0]] wr (PackPost (rowOf A bs.length) (Kd A bs) w5 G g (packP decM z t pk0)) :=
        hz.packet HDO.out HDM.out (k := 0) (p := pk0) hpm hnear (by have := HSZ.out.2.1; omega) pk0_fine (pk0_may z) pk0_len
      have KP := Lib.hid KP
      have hnear2 := packP_near decM_ok (k := 0) (p := pk0) hnear hpm pk0_fine (pk0_may z)
      have hmore := pack_more (size := size) (z := z) (t := t)
      have hgo : stopD size (packP decM z t pk0) = false → finU (upG size f' (packP decM z t pk0).2.1 (packP decM z t pk0).2.2) = res := fun h => by rw [← hup, upG_go hlt (by rw [h]; simp)]
      have hno : stopD size (packP decM z t pk0) = true → res = none := fun h => by rw [← hup, upG_stop hlt h]; rfl
      generalize packP decM z t pk0 = r at *
      have HN2 := Lib.hid hnear2
      have HMO := Lib.hid hmore
      have HGO := Lib.hid hgo
      have HNO := Lib.hid hno
      have HLT := Lib.hid hlt
      have HF := Lib.hid hf
      clear hz hup hf hnear hpm hnear2 hmore hgo hno HU
      go_wp2_with fail
      refine KP.out.mono ?_
      rintro e w6 ⟨rfl, hz6⟩
      have HZ6 := Lib.hid hz6
      clear KP c7 hlt
      obtain ⟨sb, hsb⟩ : ∃ sb, sb = stopD size r := ⟨_, rfl⟩
      have HSB := Lib.hid hsb
      clear hsb hz6
      go_upto_region 7 with fail
      go_cut [57] from 20 to 57 (fun v wx => v = .bool sb ∧ wx = w6)
      case first =>
        obtain ⟨db, c4, cb⟩ := HZ6.out.dbad
        obtain ⟨_, _, _, _, _, _, _, _, _, c13, c14, _⟩ := HZ6.out.cells
        obtain ⟨A8, cc8, c8, _⟩ := HZ6.out.told
        have hsb := HSB.out
        unfold stopD at hsb
        obtain ⟨b1, hb1⟩ : ∃ b, b = r.2.1.bad := ⟨_, rfl⟩
        obtain ⟨b2, hb2⟩ : ∃ b, b = r.2.1.ended := ⟨_, rfl⟩
        obtain ⟨b3, hb3⟩ : ∃ b, b = decM.bad r.2.2.x := ⟨_, rfl⟩
        rw [← hb1] at c14 hsb
        rw [← hb2] at c13 hsb
        rw [← hb3] at cb hsb
        clear hb1 hb2 hb3
        cases b1 with
        | true =>
          obtain rfl : sb = true := hsb
          go_wp2_with fail
          go_meet
          exact ⟨rfl, rfl⟩
        | false =>
          cases b2 with
          | true =>
            obtain rfl : sb = true := hsb
            go_wp2_with fail
            go_meet
            exact ⟨rfl, rfl⟩
          | false =>
            cases b3 with
            | true =>
              obtain rfl : sb = true := hsb
              go_wp2_with fail
              go_meet
              exact ⟨rfl, rfl⟩
            | false =>
              by_cases hgt : size < (r.2.1.out.length : Int)
              · obtain rfl : sb = true := by rw [hsb, decide_eq_true hgt]; rfl
                have ggt : (r.2.1.out.length : Int) > size := hgt
                clear hsb hgt
                go_wp2_with fail
                go_meet
                exact ⟨rfl, rfl⟩
              · obtain rfl : sb = false := by rw [hsb, decide_eq_false hgt]; rfl
                have ggt : ¬ (r.2.1.out.length : Int) > size := hgt
                clear hsb hgt
                go_wp2_with fail
                go_meet
                exact ⟨rfl, rfl⟩
      case rest =>
        obtain ⟨rfl, rfl⟩ := hcut
        cases sb with
        | true =>
          have hr := HNO.out HSB.out.symm
          have HR := Lib.hid hr
          have HB := Lib.hid (HEND.out _ _ _ HZ6.out)
          clear hr
          go_wp2_with fail
          go_ret2
          exact ⟨HB.out, .inl ⟨HR.out, rfl⟩⟩
        | false =>
          go_wp2_with fail
          go_roundw
          case rel =>
            have hs := HSB.out.symm
            have hle := stop_len hs
            have hN := HN2.out.1
            have hf := HF.out
            have hm := HMO.out hs
            exact ⟨f', r.2.1, r.2.2, HZ6.out, HGO.out hs, by omega, ⟨hN.lc, hN.lp, hN.pb, hN.dict, by omega, hN.st, hN.r0, hN.r1, hN.r2, hN.r3, hN.len⟩, ⟨HN2.out.2.1.ps, HN2.out.2.1.len, HN2.out.2.1.x⟩⟩
          case measure =>
            obtain ⟨A8, cc8, c8, _⟩ := HZ6.out.told
            have hol2 : outLen wc g = r.2.1.out.length := by unfold outLen; rw [c8]
            have hm := HMO.out HSB.out.symm
            have hlt := HLT.out
            rw [hol2, HOL.out]
            omega
    · have hfin : finD z t = res := by
        have := HU.out.1
        rw [upG_done hlt] at this
        exact this
      have KL := Lib.hid HZ.out.left
      have KP : ∀ k, Calls Tryz.prog 34 #[.pointer (some ⟨g, 0, none⟩), .agg #[.int .i64 0, .int .u8 0, .int .i64 0, .int .u32 0]] (wr.drewN k) (PackPost (rowOf A bs.length) (Kd A bs) w5 G g (packP decM z t pk0)) :=
        fun k => (HZ.out.drewN HDO.out k).packet HDO.out HDM.out (k := 0) (p := pk0) hpm hnear (by have := HSZ.out.2.1; omega) pk0_fine (pk0_may z) pk0_len
      have KP := Lib.hid KP
      have HB := Lib.hid (HEND.out _ _ _ HZ.out)
      obtain ⟨lf, hlf⟩ : ∃ b, b = leftD t.x := ⟨_, rfl⟩
      rw [← hlf] at KL
      have HLF := Lib.hid hlf
      have HFIN := Lib.hid hfin
      clear hup hf hnear hpm HU hfin hlf hz
      go_wp2_with fail
      refine KL.out.mono ?_
      rintro e w6 ⟨rfl, k6, rfl⟩
      clear KL
      cases lf with
      | true =>
        have hr : res = some z.out := by rw [← HFIN.out]; unfold finD; rw [if_pos HLF.out.symm]
        have HR := Lib.hid hr
        clear hr KP hlt
        generalize z.out = ys at *
        go_wp2_with fail
        go_ret2
        exact ⟨below_drewN HB.out k6, .inr ⟨ys, A7, cc7, HR.out, rfl, HS7.out⟩⟩
      | false =>
        have hr : res = if endD z.out.length (packP decM z t pk0) = true then none else some (packP decM z t pk0).2.1.out := by rw [← HFIN.out]; unfold finD; rw [if_neg (by rw [← HLF.out]; simp)]
        generalize packP decM z t pk0 = r at *
        obtain ⟨n, hn⟩ : ∃ n, n = z.out.length := ⟨_, rfl⟩
        rw [← hn] at hr c7 hlt
        rw [← hn]
        have HR := Lib.hid hr
        have HN := Lib.hid hn
        clear hr hn
        go_wp2_with fail
        refine (KP.out _).mono ?_
        rintro e w7 ⟨rfl, hz7⟩
        have HZ7 := Lib.hid hz7
        clear KP c7 hz7 hlt
        obtain ⟨eb, heb⟩ : ∃ b, b = endD n r := ⟨_, rfl⟩
        rw [← heb] at HR
        have HEB := Lib.hid heb
        clear heb
        go_upto_region 13 with fail
        go_cut [96] from 72 to 96 (fun v wx => v = .bool eb ∧ ∃ k, wx = w7.drewN k)
        case first =>
          obtain ⟨_, _, _, _, _, _, _, _, _, c13, c14, _⟩ := HZ7.out.cells
          obtain ⟨A8, cc8, c8, _⟩ := HZ7.out.told
          have KL7 := Lib.hid HZ7.out.left
          have heb := HEB.out
          unfold endD at heb
          obtain ⟨b1, hb1⟩ : ∃ b, b = r.2.1.bad := ⟨_, rfl⟩
          obtain ⟨b2, hb2⟩ : ∃ b, b = r.2.1.ended := ⟨_, rfl⟩
          obtain ⟨b3, hb3⟩ : ∃ b, b = leftD r.2.2.x := ⟨_, rfl⟩
          rw [← hb1] at c14 heb
          rw [← hb2] at c13 heb
          rw [← hb3] at KL7 heb
          clear hb1 hb2 hb3
          cases b2 with
          | false =>
            obtain rfl : eb = true := heb
            go_wp2_with fail
            go_meet
            exact ⟨rfl, 0, rfl⟩
          | true =>
            cases b1 with
            | true =>
              obtain rfl : eb = true := heb
              go_wp2_with fail
              go_meet
              exact ⟨rfl, 0, rfl⟩
            | false =>
              by_cases hne : r.2.1.out.length = n
              · have q : ((r.2.1.out.length : Int) != (n : Int)) = false := by simp; omega
                cases b3 with
                | true =>
                  obtain rfl : eb = false := by rw [heb, decide_eq_false (fun h => h hne)]; rfl
                  clear heb hne
                  go_wp2_with fail
                  refine KL7.out.mono ?_
                  rintro e w8 ⟨rfl, k8, rfl⟩
                  go_wp2_with fail
                  go_meet
                  exact ⟨rfl, k8, rfl⟩
                | false =>
                  obtain rfl : eb = true := by rw [heb, decide_eq_false (fun h => h hne)]; rfl
                  clear heb hne
                  go_wp2_with fail
                  refine KL7.out.mono ?_
                  rintro e w8 ⟨rfl, k8, rfl⟩
                  go_wp2_with fail
                  go_meet
                  exact ⟨rfl, k8, rfl⟩
              · have q : ((r.2.1.out.length : Int) != (n : Int)) = true := by simp; omega
                obtain rfl : eb = true := by rw [heb, decide_eq_true hne]; rfl
                clear heb hne
                go_wp2_with fail
                go_meet
                exact ⟨rfl, 0, rfl⟩
        case rest =>
          obtain ⟨rfl, k8, rfl⟩ := hcut
          have HB7 := Lib.hid (below_drewN (HEND.out _ _ _ HZ7.out) k8)
          cases eb with
          | true =>
            have hr : res = none := HR.out
            have HR2 := Lib.hid hr
            clear hr
            go_wp2_with fail
            go_ret2
            exact ⟨HB7.out, .inl ⟨HR2.out, rfl⟩⟩
          | false =>
            have hr : res = some r.2.1.out := HR.out
            obtain ⟨A8, cc8, c8, hS8⟩ := HZ7.out.told
            have HR2 := Lib.hid hr
            have HS8 := Lib.hid hS8
            clear hr hS8
            generalize r.2.1.out = ys at *
            go_wp2_with fail
            go_ret2
            exact ⟨HB7.out, .inr ⟨ys, A8, cc8, HR2.out, rfl, HS8.out⟩⟩
end Go.Proofs.YtjgdjobhhdhfjaaGreat

/-
  What the program's LZMA owes where a stream is unpacked; the laws' beginning.
-/
namespace Go.Proofs.YtjgdjobhhdhfjaaGreat
open Go.RowKit

/-- the reference's, in the same words -/
def RefPost (w : World) (o : Option (List UInt8)) (cd : Int) (x : Ending) (w' : World) : Prop :=
  Below w.heap.size w w' ∧ ∃ A c, x = .returned (.tuple #[.slice A (o.getD []).length c, .int .i64 cd]) ∧ Sl w' A (o.getD []).length (bv (o.getD []))

set_option maxRecDepth 100000 in
set_option maxHeartbeats 4000000 in
theorem zunpack_all {w : World} {n c : Nat} {a b cc d size : Int} {A : Option Addr} {bs : List UInt8} (hn : n = bs.length) (hS : Sl w A n (bv bs)) (hl : n ≤ 1000000000) (h1 : size ≤ 100000) (h0 : -9223372036854775808 ≤ size) :
    Calls Tryz.prog 12 #[.slice A n c, .agg #[.int .i64 a, .int .i64 b, .int .i64 cc, .int .i64 d], .int .i64 size] w (RefPost w (lzRes bs a b cc d size) (lzCode bs a b cc d size)) := by
  subst hn
  by_cases hm : maySet a b cc d = true
  · obtain ⟨m1, m2, m3, m4, m5, m6, m7, m8⟩ := may_iff.1 hm
    obtain ⟨a', rfl⟩ := Int.eq_ofNat_of_zero_le m1
    obtain ⟨b', rfl⟩ := Int.eq_ofNat_of_zero_le m3
    obtain ⟨c', rfl⟩ := Int.eq_ofNat_of_zero_le m5
    obtain ⟨d', rfl⟩ := Int.eq_ofNat_of_zero_le (show 0 ≤ d by omega)
    refine (zunpack_any (w := w) (c := c) (lc := a') (lp := b') (pb := c') (dict := d') ⟨by omega, by omega, by omega, by omega, by omega⟩ hS hl h1 h0).mono ?_
    rintro x w' ⟨hb, hr⟩
    refine ⟨hb, ?_⟩
    unfold lzRes lzCode
    rw [if_pos hm, if_pos hm]
    simp only [Int.toNat_natCast]
    rcases hr with ⟨h, rfl⟩ | ⟨ys, A', c'', h, rfl, hs⟩
    · rw [h]
      exact ⟨none, 0, rfl, Sl.nil⟩
    · rw [h]
      exact ⟨A', c'', rfl, hs⟩
  · have hf : maySet a b cc d = false := by simpa using hm
    have hres : lzRes bs a b cc d size = none := by unfold lzRes; rw [if_neg hm]
    have hcd : lzCode bs a b cc d size = 11 := by unfold lzCode; rw [if_neg hm]
    rw [hres, hcd]
    obtain ⟨w1, hw1⟩ : ∃ w1, w1 = w.alloc (.cells #[.int .i64 a, .int .i64 b, .int .i64 cc, .int .i64 d] 24) := ⟨_, rfl⟩
    have hb1 : Below w.heap.size w w1 := by rw [hw1]; exact (Below.refl _ _).alloc (Nat.le_refl _) _
    have HBk : Blk w1 w.heap.size 24 #[.int .i64 a, .int .i64 b, .int .i64 cc, .int .i64 d] := by rw [hw1]; exact Blk.fresh w _ _
    have K := Lib.hid (may_any a b cc d w1)
    rw [hf] at K
    have d0 : w1.cell? ⟨w.heap.size, 0, none⟩ = some (.int .i64 a) := HBk.cell 0
    have d1 : w1.cell? ⟨w.heap.size, 1, none⟩ = some (.int .i64 b) := HBk.cell 1
    have d2 : w1.cell? ⟨w.heap.size, 2, none⟩ = some (.int .i64 cc) := HBk.cell 2
    have d3 : w1.cell? ⟨w.heap.size, 3, none⟩ = some (.int .i64 d) := HBk.cell 3
    have HW1 := Lib.hid hw1
    have HB1 := Lib.hid hb1
    clear hw1 hb1 HBk hS hl h0 h1 hm hf hres hcd
    generalize bs.length = n at *
    go_enter Tryz.func12, Tryz.ntmps12
    go_upto_region 1 with fail
    rw [← HW1.out]
    clear HW1
    go_wp2_with fail
    refine K.out.mono ?_
    rintro e w2 ⟨rfl, hb2⟩
    have HB2 := Lib.hid (HB1.out.trans ⟨hb2.os, hb2.tape, hb2.output, hb2.size, fun i hi => hb2.block i (Nat.lt_of_lt_of_le hi HB1.out.size)⟩)
    clear hb2 K d0 d1 d2 d3 HB1
    go_wp2_with fail
    go_ret2
    exact ⟨HB2.out, none, 0, rfl, Sl.nil⟩

end Go.Proofs.YtjgdjobhhdhfjaaGreat
