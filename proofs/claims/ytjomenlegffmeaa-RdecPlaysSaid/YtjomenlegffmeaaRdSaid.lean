/-
  The reference's decoder begins; its fresh probabilities; a question is asked of it.
-/
import Derived.Test.YtjomenlegffmeaaRdRefs
namespace Go.Proofs.Ytjomenlegffmeaa
open Go.RowKit

/-- What a byte that is asked for is, and leaves. -/
def Nexted (bs : List UInt8) (at_ : Nat) (bad : Bool) (x at' : Nat) (bad' : Bool) : Prop :=
  (bad' = false ∧ bad = false ∧ at' = at_ + 1 ∧ ∃ y : UInt8, x = y.toNat ∧ bs.drop at_ = y :: bs.drop at') ∨ (bad' = true ∧ x = 0 ∧ (bad = true ∨ bs.drop at_ = []) ∧ at' = at_)

theorem next_one {g c at_ r k : Nat} {A : Option Addr} {w : World} {bs : List UInt8} {bad : Bool} (hB : Blk w g 41 (decCells A bs.length c at_ r k bad)) (hS : Sl w A bs.length (bv bs)) (ha : at_ ≤ bs.length) (hn : bs.length ≤ 1000000000)
    (hne : 0 < bs.length → ∀ b o, A = some ⟨b, o, none⟩ → b ≠ g) :
    Calls Try.prog 25 #[.pointer (some ⟨g, 0, none⟩)] w fun e w' =>
      ∃ (x at' : Nat) (bad' : Bool), e = .returned (.int .u64 (x : Int)) ∧ x < 256 ∧ Blk w' g 41 (decCells A bs.length c at' r k bad') ∧ at' ≤ bs.length ∧ Nexted bs at_ bad x at' bad' ∧ w.grownBy w' (some g) := by
  refine (next_any hB hS ha hn hne).mono ?_
  rintro e w' (⟨x, t, h1, h2, rfl, h4, h5, h6, h7⟩ | ⟨h1, rfl, h2, h3⟩)
  · exact ⟨x.toNat, at_ + 1, false, rfl, x.toNat_lt, h4, h5, .inl ⟨rfl, h1, rfl, x, rfl, by rw [h2, h6]⟩, h7⟩
  · exact ⟨0, at_, true, rfl, by omega, h2, ha, .inr ⟨rfl, rfl, h1, rfl⟩, h3⟩

def OnWayR (w : World) (g c : Nat) (A : Option Addr) (bs : List UInt8) (j : Nat) : Prop :=
  ∃ at_ k bad, Blk w g 41 (decCells A bs.length c at_ 4294967295 k bad) ∧ at_ ≤ bs.length ∧ k < 256 ^ j ∧ ((bad = true ∧ started bs = none) ∨ (bad = false ∧ at_ = j + 1 ∧ Begun bs j k))

theorem onwayR_next {bs : List UInt8} {at_ k j x at' : Nat} {bad bad' : Bool} (h : (bad = true ∧ started bs = none) ∨ (bad = false ∧ at_ = j + 1 ∧ Begun bs j k)) (hj : j < 4) (hn : Nexted bs at_ bad x at' bad') :
    (bad' = true ∧ started bs = none) ∨ (bad' = false ∧ at' = j + 1 + 1 ∧ Begun bs (j + 1) (k * 256 + x)) := by
  rcases hn with ⟨rfl, rfl, rfl, y, rfl, hy⟩ | ⟨rfl, rfl, hb, rfl⟩
  · rcases h with ⟨h, _⟩ | ⟨_, rfl, h⟩
    · cases h
    · exact .inr ⟨rfl, rfl, begun_next h hy⟩
  · left
    refine ⟨rfl, ?_⟩
    rcases h with ⟨_, h⟩ | ⟨rfl, rfl, h⟩
    · exact h
    · rcases hb with hb | hb
      · cases hb
      · refine started_short ?_
        have := List.drop_eq_nil_iff.1 hb
        omega

set_option maxRecDepth 100000 in
set_option maxHeartbeats 4000000 in
theorem refnew_any {n c : Nat} {A : Option Addr} {w : World} {bs : List UInt8} (hl : n = bs.length) (hS : Sl w A bs.length (bv bs)) (hn : bs.length ≤ 1000000000) :
    Calls Try.prog 12 #[.slice A n c] w fun e w' => e = .returned (.pointer (some ⟨w.heap.size, 0, none⟩)) ∧ Rf w' w.heap.size A c bs (started bs) ∧ Below w.heap.size w w' := by
  subst hl
  have hne : 0 < bs.length → ∀ b o, A = some ⟨b, o, none⟩ → b ≠ w.heap.size := by
    intro h0 b o e
    obtain ⟨b', o', e', hlt, _⟩ := hS.2 h0
    rw [e'] at e
    injection e with e
    injection e with e
    omega
  have hB0 : Blk (w.alloc (.cells #[.slice A bs.length c, .int .i64 0, .int .u64 4294967295, .int .u64 0, .bool false] 41)) w.heap.size 41 (decCells A bs.length c 0 4294967295 0 false) := Blk.fresh _ _ _
  have hb0 : Below w.heap.size w (w.alloc (.cells #[.slice A bs.length c, .int .i64 0, .int .u64 4294967295, .int .u64 0, .bool false] 41)) := (Below.refl _ _).alloc (Nat.le_refl _) _
  have K0 := Lib.hid (next_one hB0 (hS.below hb0) (Nat.zero_le _) hn hne)
  have HB0 := Lib.hid hb0
  have HS := Lib.hid hS
  have HNE := Lib.hid hne
  clear hB0 hb0 hS hne
  go_enter Try.func12, Try.ntmps12
  go_wp2_with fail
  generalize hg : w.heap.size = g at *
  have HGW := Lib.hid hg
  clear hg
  refine K0.out.mono ?_
  rintro e w1 ⟨x, at1, bad1, rfl, hx, hB1, hat1, hnx, hg1⟩
  have HB1 := Lib.hid hB1
  have HNX := Lib.hid hnx
  have HG1 := Lib.hid (HB0.out.grown hg1 (Nat.le_trans (Nat.le_of_eq HGW.out.symm) (by have := HB0.out.size; omega)) (fun q e => by injection e with e; omega))
  have f4 : w1.frozen? ⟨g, 4, none⟩ = false := hB1.free 4
  have j4 : w1.cell? ⟨g, 4, none⟩ = some (.bool bad1) := hB1.cell 4
  clear hB1 hnx hg1 K0 HB0
  by_cases hx0 : x = 0
  · have hw2 : OnWayR w1 g c A bs 0 := by
      refine ⟨at1, 0, bad1, HB1.out, hat1, by omega, ?_⟩
      rcases HNX.out with ⟨rfl, _, rfl, y, rfl, hy⟩ | ⟨rfl, _, hb, rfl⟩
      · refine .inr ⟨rfl, rfl, hat1, ?_, by simp [be]⟩
        cases bs with
        | nil => cases hy
        | cons z t => injection hy with hy _; rw [← hy] at hx0; exact hx0
      · refine .inl ⟨rfl, started_short ?_⟩
        rcases hb with hb | hb
        · cases hb
        · have := congrArg List.length hb
          simp only [List.length_drop, List.length_nil] at this
          omega
    have HW2 := Lib.hid hw2
    have HB2 := Lib.hid HG1.out
    clear hw2 HB1 HNX HG1
    subst hx0
    go_wp2_with fail
    go_loopw [5] (fun i wr => ∃ j : Nat, j ≤ 4 ∧ i = .int .i64 (j : Int) ∧ OnWayR wr g c A bs j ∧ Below g w wr) (fun i _ => 4 - (intOf i).toNat)
    case atStart => exact ⟨0, by omega, rfl, HW2.out, HB2.out⟩
    case round =>
      clear HW2 HB2
      obtain ⟨j, hj, rfl, ⟨at_, k, bad, hB, hat, hk, h0⟩, hb⟩ := hrel
      have HBr := Lib.hid hB
      have HB := Lib.hid hb
      have HH := Lib.hid h0
      have hsz := Nat.le_trans (Nat.le_of_eq HGW.out) (Nat.le_of_lt hB.lt)
      have hs := HS.out.below (hb.mono (Nat.le_of_eq HGW.out))
      clear hb h0
      by_cases hlt : j < 4
      · have hk3 : k < 16777216 := Nat.lt_of_lt_of_le hk (Nat.pow_le_pow_right (n := 256) (by omega) (show j ≤ 3 by omega))
        have hlt' : (j : Int) < 4 := by omega
        have hpk : k * 256 + 256 ≤ 256 ^ (j + 1) := by rw [Nat.pow_succ]; omega
        have HPK := Lib.hid hpk
        have j3 : wr.drew.cell? ⟨g, 3, none⟩ = some (.int .u64 (k : Int)) := hB.cell 3
        have K := Lib.hid (next_one (show Blk wr.drew g 41 (decCells A bs.length c at_ 4294967295 k bad) from hB) (show Sl wr.drew A bs.length (bv bs) from hs) hat hn HNE.out)
        have e1 : IntKind.u64.wrap ((k : Int) * 256) = (k : Int) * 256 := u64_of _ (by omega) (by omega)
        have HBD := Lib.hid (HB.out.drew)
        clear hB hk hpk hs HB HBr
        go_wp2_with fail
        have HB := Lib.hid (show Below g w wr.drew from HBD.out)
        go_region_law (first | (go_simp; go_at_call 25; refine K.out.mono ?_; rintro e w3 ⟨x, at', bad', rfl, hx, hB3, hat3, hn3, hg3⟩; have k3 : w3.cell? ⟨g, 3, none⟩ = some (.int .u64 (k : Int)) := hB3.cell 3; have z3 : w3.frozen? ⟨g, 3, none⟩ = false := hB3.free 3; have e2 : IntKind.u64.wrap ((k : Int) * 256 + (x : Int)) = ((k * 256 + x : Nat) : Int) := (by rw [show (k : Int) * 256 + (x : Int) = ((k * 256 + x : Nat) : Int) by omega]; exact u64_in _ (by omega)); have HB3 := Lib.hid hB3; have HN3 := Lib.hid hn3; have HG3 := Lib.hid hg3; clear hB3 hn3 hg3))
        all_goals
          go_wp2_with fail
          go_roundw
          case rel =>
            refine ⟨j + 1, by omega, by go_num, ⟨at', k * 256 + x, bad', HB3.out.put 3 _, hat3, by have := HPK.out; omega, onwayR_next HH.out hlt HN3.out⟩, ?_⟩
            exact (HBD.out.grown HG3.out (Nat.le_trans (Nat.le_of_eq HGW.out.symm) HBD.out.size) (fun q e => by injection e with e; omega)).setCell (p := ⟨g, 3, none⟩) (Nat.le_refl _) _
          case measure => simp [intOf]; omega
      · obtain rfl : j = 4 := by omega
        obtain ⟨R, hR⟩ : ∃ R : Nat, R = 4294967295 := ⟨_, rfl⟩
        have j2 : wr.cell? ⟨g, 2, none⟩ = some (.int .u64 (R : Int)) := by rw [hR]; exact hB.cell 2
        have HRR := Lib.hid hR
        have j3 : wr.cell? ⟨g, 3, none⟩ = some (.int .u64 (k : Int)) := hB.cell 3
        have j4 : wr.cell? ⟨g, 4, none⟩ = some (.bool bad) := hB.cell 4
        have f4 : wr.frozen? ⟨g, 4, none⟩ = false := hB.free 4
        have hk4 : k < 4294967296 := Nat.lt_of_lt_of_eq hk (by decide)
        clear hB hk hs
        have HK4 := Lib.hid hk4
        by_cases hkc : k < 4294967295
        · have hkc' : ¬ (k : Int) ≥ (R : Int) := by omega
          have HKC := Lib.hid hkc
          clear hkc hk4 hR
          go_wp2_with fail
          go_quiet (fail)
          go_wp2_with fail
          go_ret
          rw [HGW.out]
          refine ⟨rfl, ⟨at_, 4294967295, k, bad, HBr.out, hat, by omega, HK4.out, ?_⟩, below_drewN HB.out _⟩
          rcases HH.out with ⟨rfl, h⟩ | ⟨rfl, rfl, h⟩
          · exact .inl ⟨rfl, h⟩
          · exact .inr ⟨rfl, by rw [started_begun h, if_pos HKC.out]⟩
        · have hkc' : (k : Int) ≥ (R : Int) := by omega
          have HKC := Lib.hid hkc
          clear hkc hk4 hR
          go_wp2_with fail
          go_quiet (fail)
          go_wp2_with fail
          go_ret
          rw [HGW.out]
          refine ⟨rfl, ⟨at_, 4294967295, k, true, HBr.out.put 4 (.bool true), hat, by omega, HK4.out, .inl ⟨rfl, ?_⟩⟩, (below_drewN HB.out _).setCell (p := ⟨g, 4, none⟩) (Nat.le_refl _) _⟩
          rcases HH.out with ⟨rfl, h⟩ | ⟨rfl, rfl, h⟩
          · exact h
          · rw [started_begun h, if_neg HKC.out]
  · have hw2 : OnWayR (w1.setCell ⟨g, 4, none⟩ (.bool true)) g c A bs 0 := by
      refine ⟨at1, 0, true, HB1.out.put 4 (.bool true), hat1, by omega, .inl ⟨rfl, ?_⟩⟩
      rcases HNX.out with ⟨rfl, _, rfl, y, rfl, hy⟩ | ⟨_, h, _⟩
      · refine started_head ?_
        cases bs with
        | nil => cases hy
        | cons z t => injection hy with hy _; rw [← hy] at hx0; exact hx0
      · exact absurd h hx0
    have HW2 := Lib.hid hw2
    have HB2 := Lib.hid (HG1.out.setCell (p := ⟨g, 4, none⟩) (Nat.le_refl _) (.bool true))
    have hxi : ((x : Int) != 0) = true := by simp; omega
    clear hw2 HB1 HNX HG1
    go_wp2_with fail
    go_loopw [5] (fun i wr => ∃ j : Nat, j ≤ 4 ∧ i = .int .i64 (j : Int) ∧ OnWayR wr g c A bs j ∧ Below g w wr) (fun i _ => 4 - (intOf i).toNat)
    case atStart => exact ⟨0, by omega, rfl, HW2.out, HB2.out⟩
    case round =>
      clear HW2 HB2
      obtain ⟨j, hj, rfl, ⟨at_, k, bad, hB, hat, hk, h0⟩, hb⟩ := hrel
      have HBr := Lib.hid hB
      have HB := Lib.hid hb
      have HH := Lib.hid h0
      have hsz := Nat.le_trans (Nat.le_of_eq HGW.out) (Nat.le_of_lt hB.lt)
      have hs := HS.out.below (hb.mono (Nat.le_of_eq HGW.out))
      clear hb h0
      by_cases hlt : j < 4
      · have hk3 : k < 16777216 := Nat.lt_of_lt_of_le hk (Nat.pow_le_pow_right (n := 256) (by omega) (show j ≤ 3 by omega))
        have hlt' : (j : Int) < 4 := by omega
        have hpk : k * 256 + 256 ≤ 256 ^ (j + 1) := by rw [Nat.pow_succ]; omega
        have HPK := Lib.hid hpk
        have j3 : wr.drew.cell? ⟨g, 3, none⟩ = some (.int .u64 (k : Int)) := hB.cell 3
        have K := Lib.hid (next_one (show Blk wr.drew g 41 (decCells A bs.length c at_ 4294967295 k bad) from hB) (show Sl wr.drew A bs.length (bv bs) from hs) hat hn HNE.out)
        have e1 : IntKind.u64.wrap ((k : Int) * 256) = (k : Int) * 256 := u64_of _ (by omega) (by omega)
        have HBD := Lib.hid (HB.out.drew)
        clear hB hk hpk hs HB HBr
        go_wp2_with fail
        have HB := Lib.hid (show Below g w wr.drew from HBD.out)
        go_region_law (first | (go_simp; go_at_call 25; refine K.out.mono ?_; rintro e w3 ⟨x, at', bad', rfl, hx, hB3, hat3, hn3, hg3⟩; have k3 : w3.cell? ⟨g, 3, none⟩ = some (.int .u64 (k : Int)) := hB3.cell 3; have z3 : w3.frozen? ⟨g, 3, none⟩ = false := hB3.free 3; have e2 : IntKind.u64.wrap ((k : Int) * 256 + (x : Int)) = ((k * 256 + x : Nat) : Int) := (by rw [show (k : Int) * 256 + (x : Int) = ((k * 256 + x : Nat) : Int) by omega]; exact u64_in _ (by omega)); have HB3 := Lib.hid hB3; have HN3 := Lib.hid hn3; have HG3 := Lib.hid hg3; clear hB3 hn3 hg3))
        all_goals
          go_wp2_with fail
          go_roundw
          case rel =>
            refine ⟨j + 1, by omega, by go_num, ⟨at', k * 256 + x, bad', HB3.out.put 3 _, hat3, by have := HPK.out; omega, onwayR_next HH.out hlt HN3.out⟩, ?_⟩
            exact (HBD.out.grown HG3.out (Nat.le_trans (Nat.le_of_eq HGW.out.symm) HBD.out.size) (fun q e => by injection e with e; omega)).setCell (p := ⟨g, 3, none⟩) (Nat.le_refl _) _
          case measure => simp [intOf]; omega
      · obtain rfl : j = 4 := by omega
        obtain ⟨R, hR⟩ : ∃ R : Nat, R = 4294967295 := ⟨_, rfl⟩
        have j2 : wr.cell? ⟨g, 2, none⟩ = some (.int .u64 (R : Int)) := by rw [hR]; exact hB.cell 2
        have HRR := Lib.hid hR
        have j3 : wr.cell? ⟨g, 3, none⟩ = some (.int .u64 (k : Int)) := hB.cell 3
        have j4 : wr.cell? ⟨g, 4, none⟩ = some (.bool bad) := hB.cell 4
        have f4 : wr.frozen? ⟨g, 4, none⟩ = false := hB.free 4
        have hk4 : k < 4294967296 := Nat.lt_of_lt_of_eq hk (by decide)
        clear hB hk hs
        have HK4 := Lib.hid hk4
        by_cases hkc : k < 4294967295
        · have hkc' : ¬ (k : Int) ≥ (R : Int) := by omega
          have HKC := Lib.hid hkc
          clear hkc hk4 hR
          go_wp2_with fail
          go_quiet (fail)
          go_wp2_with fail
          go_ret
          rw [HGW.out]
          refine ⟨rfl, ⟨at_, 4294967295, k, bad, HBr.out, hat, by omega, HK4.out, ?_⟩, below_drewN HB.out _⟩
          rcases HH.out with ⟨rfl, h⟩ | ⟨rfl, rfl, h⟩
          · exact .inl ⟨rfl, h⟩
          · exact .inr ⟨rfl, by rw [started_begun h, if_pos HKC.out]⟩
        · have hkc' : (k : Int) ≥ (R : Int) := by omega
          have HKC := Lib.hid hkc
          clear hkc hk4 hR
          go_wp2_with fail
          go_quiet (fail)
          go_wp2_with fail
          go_ret
          rw [HGW.out]
          refine ⟨rfl, ⟨at_, 4294967295, k, true, HBr.out.put 4 (.bool true), hat, by omega, HK4.out, .inl ⟨rfl, ?_⟩⟩, (below_drewN HB.out _).setCell (p := ⟨g, 4, none⟩) (Nat.le_refl _) _⟩
          rcases HH.out with ⟨rfl, h⟩ | ⟨rfl, rfl, h⟩
          · exact h
          · rw [started_begun h, if_neg HKC.out]

set_option maxHeartbeats 2000000 in
theorem reffresh_any {n : Nat} (hn : n ≤ 1000000) (w : World) :
    Calls Try.prog 13 #[.int .i64 (n : Int)] w fun e w' =>
      ∃ A' c', e = .returned (.slice A' n c') ∧ w'.ownsRow w.heap.size 46 1 (.slice A' n c') n (pv (List.replicate n 1024)) ∧ Below w.heap.size w w' := by
  obtain ⟨i2, hi2, hy0, hy1, hy2⟩ := info_parts info_u16
  go_enter Try.func13, Try.ntmps13
  go_wp2_with fail
  go_loopw [3, 4] (fun p i wr => ∃ (j : Nat) (A2 : Option Addr) (c2 : Nat), j ≤ n ∧ i = .int .i64 (j : Int) ∧ p = .slice A2 j c2 ∧ wr.ownsRow w.heap.size 46 1 (.slice A2 j c2) j (pv (List.replicate j 1024)) ∧ Below w.heap.size w wr) (fun _ i _ => n - (intOf i).toNat)
  case atStart => exact ⟨0, none, 0, by omega, rfl, rfl, World.ownsRow_nil w _ _ 1, Below.refl _ _⟩
  case round =>
    obtain ⟨j, A2, c2, hj, rfl, rfl, ho, hb⟩ := hrel
    have HO := Lib.hid ho
    have HB := Lib.hid hb
    clear ho hb
    by_cases hlt : j < n
    · have hlt' : (j : Int) < (n : Int) := by omega
      go_wp2_with (at_builtin; refine wpList_app _ rfl (.tmp 10) (.tmp 11) 29 rfl w.heap.size 46 i2 _ 2 Try.underlying29 hi2 hy0 hy1 hy2 rfl _ j _ rfl (HO.out.alloc _) _ 1 1 _ rfl (sl_one _ _ _) (one_one _ _) (by omega) (by omega) (by have := HB.out.size; simp; omega) ?_)
      intro A3 c3 w3 ho hg
      have HB3 := Lib.hid ((HB.out.alloc HB.out.size _).grown hg (by have := HB.out.size; simp; omega) (fun b e => (HO.out.lt b e).1))
      have ho3 : w3.ownsRow w.heap.size 46 1 (.slice A3 (j + 1) c3) (j + 1) (pv (List.replicate (j + 1) 1024)) := by
        rw [List.replicate_succ']
        have e : pv (List.replicate j 1024 ++ [1024]) = pv (List.replicate j 1024) ++ [.int .u16 1024] := by simp [pv]
        rw [e]
        exact ho
      have HO3 := Lib.hid ho3
      clear ho hg ho3
      go_wp2
      go_roundw
      case rel => exact ⟨j + 1, A3, c3, by omega, by go_num, rfl, HO3.out, HB3.out⟩
      case measure => simp [intOf]; omega
    · obtain rfl : j = n := by omega
      go_wp2_with fail
      go_ret
      exact ⟨A2, c2, rfl, HO.out, HB.out⟩

/-- What a question leaves. -/
def SaidPost (w : World) (g b pc c : Nat) (A : Option Addr) (bs : List UInt8) (ps : List Nat) (v : Nat) (d : Dc) (e : Ending) (w' : World) : Prop :=
  e = .returned (.int .u32 (v : Int)) ∧ Rf w' g A c bs d ∧ Row w' b ps pc ∧ Only (two g b) w w'

section
variable {g b pc c : Nat} {A : Option Addr} {w : World} {bs : List UInt8} {ps : List Nat} {d : Dc}

theorem sl_boxed {A : Option Addr} {n : Nat} {xs : List Value} (h : Sl w A n xs) (o : Obj) : Sl (w.alloc o) A n xs := h.alloc o

set_option maxHeartbeats 2000000 in
theorem said_bit {a : Nat} {n v : Int} (h : Rf w g A c bs d) (hS : Sl w A bs.length (bv bs)) (hnb : bs.length ≤ 1000000000) (hA : 0 < bs.length → ∀ q o, A = some ⟨q, o, none⟩ → q ≠ g ∧ q ≠ b) (hd : DcOk d) (hR : Row w b ps pc) (hps : PsOk ps) (hbg : b ≠ g) (hl : ps.length = 600) (ha : a < 600) :
    Calls Try.prog 16 #[.pointer (some ⟨g, 0, none⟩), .slice (some ⟨b, 0, none⟩) 600 pc, .agg #[.int .i64 0, .int .i64 (a : Int), .int .i64 n, .int .u32 v]] w
      (SaidPost w g b pc c A bs (ps.set a (bitD d (ps.getD a 0)).2.1) (bitD d (ps.getD a 0)).1 (bitD d (ps.getD a 0)).2.2) := by
  have hO := (Only.refl (two g b) w).alloc (.cells #[.int .i64 0, .int .i64 (a : Int), .int .i64 n, .int .u32 v] 36)
  have hOF := (Only.refl (fun _ => False) w).alloc (.cells #[.int .i64 0, .int .i64 (a : Int), .int .i64 n, .int .u32 v] 36)
  have hpa := getD_ok hps (show a < ps.length by omega)
  have hlb := hR.lt
  have hlg := h.lt
  have hR0 := hR.only hOF (fun h => h)
  have hx1 : (w.alloc (.cells #[.int .i64 0, .int .i64 (a : Int), .int .i64 n, .int .u32 v] 36)).cell? ⟨w.heap.size, 1, none⟩ = some (.int .i64 (a : Int)) := (Blk.fresh w _ _).cell 1
  have hx0 : (w.alloc (.cells #[.int .i64 0, .int .i64 (a : Int), .int .i64 n, .int .u32 v] 36)).cell? ⟨w.heap.size, 0, none⟩ = some (.int .i64 0) := (Blk.fresh w _ _).cell 0
  have hsz : w.heap.size < (w.alloc (.cells #[.int .i64 0, .int .i64 (a : Int), .int .i64 n, .int .u32 v] 36)).heap.size := (Blk.fresh w _ _).lt
  have K := Lib.hid (rfbit_any (h.only hOF (fun h => h)) (hS.alloc (.cells #[.int .i64 0, .int .i64 (a : Int), .int .i64 n, .int .u32 v] 36)) hnb (fun h0 q o e => (hA h0 q o e).1) hd hpa)
  have hcz := hR0.cell (i := a) (by omega)
  have HO := Lib.hid hO
  have HR0 := Lib.hid hR0
  have hu := (bitD_ok hd hpa).1
  generalize (bitD d (ps.getD a 0)).1 = u at *
  generalize (bitD d (ps.getD a 0)).2.1 = q at *
  generalize ps.getD a 0 = p at *
  have e1 : IntKind.u32.wrap (u : Int) = (u : Int) := u32_of _ (by omega) (by omega)
  have ha1 : (a : Int) < 600 := by omega
  have ha0 : (0 : Int) ≤ (a : Int) := by omega
  have HX0 := Lib.hid hx0
  have HX1 := Lib.hid hx1
  clear h hd hR hps hO hOF hS hA hR0 hpa hx0 hx1
  go_enter Try.func16, Try.ntmps16
  go_wp2_with fail
  refine K.out.mono ?_
  rintro e w1 ⟨rfl, hp1, hg1⟩
  have hS1 := Only.of_grown (S := fun i => i = g) hg1 rfl
  have HR1 := Lib.hid (HR0.out.only hS1 hbg)
  have k1 : w1.cell? ⟨b, a, none⟩ = some (.int .u16 (p : Int)) := (World.cell?_of_block (hg1.block b HR0.out.lt (fun e => hbg (by injection e)))).trans hcz
  have k2 : w1.frozen? ⟨b, a, none⟩ = false := HR1.out.free a
  have k3 : w1.cell? ⟨w.heap.size, 1, none⟩ = some (.int .i64 (a : Int)) := (hS1.cell (p := ⟨w.heap.size, 1, none⟩) hsz (by show w.heap.size ≠ g; omega)).trans HX1.out
  have HP1 := Lib.hid hp1
  have HO1 := Lib.hid (HO.out.trans (hS1.mono (fun i hi => .inl hi)))
  clear hp1 hg1 HO K hS1 hcz HR0
  go_wp2_with fail
  go_ret
  exact ⟨rfl, HP1.out.only ((Only.refl (fun i => i = b) w1).setCell (p := ⟨b, a, none⟩) (.inl rfl) (.int .u16 (q : Int))) (fun h => hbg h.symm), HR1.out.put a q, HO1.out.setCell (p := ⟨b, a, none⟩) (.inl (.inr rfl)) (.int .u16 (q : Int))⟩

set_option maxHeartbeats 2000000 in
theorem said_tree {a n : Nat} {v : Int} {x : Nat} (hx : x = if (Tr.go a (Tr.begin ps d) n).d = none then 0 else (Tr.go a (Tr.begin ps d) n).m - 2 ^ n) (hxl : x < 256)
    (h : Rf w g A c bs d) (hS : Sl w A bs.length (bv bs)) (hnb : bs.length ≤ 1000000000) (hA : 0 < bs.length → ∀ q o, A = some ⟨q, o, none⟩ → q ≠ g ∧ q ≠ b) (hd : DcOk d) (hR : Row w b ps pc) (hps : PsOk ps) (hbg : b ≠ g) (hl : ps.length = 600) (ha : a < 340) (hn8 : n ≤ 8) :
    Calls Try.prog 16 #[.pointer (some ⟨g, 0, none⟩), .slice (some ⟨b, 0, none⟩) 600 pc, .agg #[.int .i64 1, .int .i64 (a : Int), .int .i64 (n : Int), .int .u32 v]] w
      (SaidPost w g b pc c A bs (Tr.go a (Tr.begin ps d) n).ps x (Tr.go a (Tr.begin ps d) n).d) := by
  have hO := (Only.refl (two g b) w).alloc (.cells #[.int .i64 1, .int .i64 (a : Int), .int .i64 (n : Int), .int .u32 v] 36)
  have hOF := (Only.refl (fun _ => False) w).alloc (.cells #[.int .i64 1, .int .i64 (a : Int), .int .i64 (n : Int), .int .u32 v] 36)
  have K := Lib.hid (rtree_any hx (h.only hOF (fun h => h)) (hS.alloc (.cells #[.int .i64 1, .int .i64 (a : Int), .int .i64 (n : Int), .int .u32 v] 36)) hnb hA hd (hR.only hOF (fun h => h)) hps hbg hl ha hn8)
  have HO := Lib.hid hO
  have e1 : IntKind.u32.wrap (x : Int) = (x : Int) := u32_of _ (by omega) (by omega)
  clear h hS hA hd hR hps hO hOF hx
  go_enter Try.func16, Try.ntmps16
  go_wp2_with fail
  refine K.out.mono ?_
  rintro e w1 ⟨rfl, hp1, hr1, ho1⟩
  have HP1 := Lib.hid hp1
  have HR1 := Lib.hid hr1
  have HO1 := Lib.hid (HO.out.trans ho1)
  clear hp1 hr1 ho1 HO K
  go_wp2_with fail
  go_ret
  exact ⟨rfl, HP1.out, HR1.out, HO1.out⟩

set_option maxHeartbeats 2000000 in
theorem said_rev {a n : Nat} {v : Int} {x : Nat} (hx : x = if (Tr.go a (Tr.begin ps d) n).d = none then 0 else (Tr.go a (Tr.begin ps d) n).o) (hxl : x < 256)
    (h : Rf w g A c bs d) (hS : Sl w A bs.length (bv bs)) (hnb : bs.length ≤ 1000000000) (hA : 0 < bs.length → ∀ q o, A = some ⟨q, o, none⟩ → q ≠ g ∧ q ≠ b) (hd : DcOk d) (hR : Row w b ps pc) (hps : PsOk ps) (hbg : b ≠ g) (hl : ps.length = 600) (ha : a < 340) (hn8 : n ≤ 8) :
    Calls Try.prog 16 #[.pointer (some ⟨g, 0, none⟩), .slice (some ⟨b, 0, none⟩) 600 pc, .agg #[.int .i64 2, .int .i64 (a : Int), .int .i64 (n : Int), .int .u32 v]] w
      (SaidPost w g b pc c A bs (Tr.go a (Tr.begin ps d) n).ps x (Tr.go a (Tr.begin ps d) n).d) := by
  have hO := (Only.refl (two g b) w).alloc (.cells #[.int .i64 2, .int .i64 (a : Int), .int .i64 (n : Int), .int .u32 v] 36)
  have hOF := (Only.refl (fun _ => False) w).alloc (.cells #[.int .i64 2, .int .i64 (a : Int), .int .i64 (n : Int), .int .u32 v] 36)
  have K := Lib.hid (rtreeR_any hx (h.only hOF (fun h => h)) (hS.alloc (.cells #[.int .i64 2, .int .i64 (a : Int), .int .i64 (n : Int), .int .u32 v] 36)) hnb hA hd (hR.only hOF (fun h => h)) hps hbg hl ha hn8)
  have HO := Lib.hid hO
  have e1 : IntKind.u32.wrap (x : Int) = (x : Int) := u32_of _ (by omega) (by omega)
  clear h hS hA hd hR hps hO hOF hx
  go_enter Try.func16, Try.ntmps16
  go_wp2_with fail
  refine K.out.mono ?_
  rintro e w1 ⟨rfl, hp1, hr1, ho1⟩
  have HP1 := Lib.hid hp1
  have HR1 := Lib.hid hr1
  have HO1 := Lib.hid (HO.out.trans ho1)
  clear hp1 hr1 ho1 HO K
  go_wp2_with fail
  go_ret
  exact ⟨rfl, HP1.out, HR1.out, HO1.out⟩

set_option maxHeartbeats 2000000 in
theorem said_straight {a v : Int} {n : Nat} (h : Rf w g A c bs d) (hS : Sl w A bs.length (bv bs)) (hnb : bs.length ≤ 1000000000) (hA : 0 < bs.length → ∀ q o, A = some ⟨q, o, none⟩ → q ≠ g ∧ q ≠ b) (hd : DcOk d) (hR : Row w b ps pc) (hbg : b ≠ g) (hn : n ≤ 32) :
    Calls Try.prog 16 #[.pointer (some ⟨g, 0, none⟩), .slice (some ⟨b, 0, none⟩) 600 pc, .agg #[.int .i64 3, .int .i64 a, .int .i64 (n : Int), .int .u32 v]] w
      (SaidPost w g b pc c A bs ps (straightD n d).1 (straightD n d).2) := by
  have hO := (Only.refl (two g b) w).alloc (.cells #[.int .i64 3, .int .i64 a, .int .i64 (n : Int), .int .u32 v] 36)
  have hOF := (Only.refl (fun _ => False) w).alloc (.cells #[.int .i64 3, .int .i64 a, .int .i64 (n : Int), .int .u32 v] 36)
  have K := Lib.hid (rstraight_any (h.only hOF (fun h => h)) (hS.alloc (.cells #[.int .i64 3, .int .i64 a, .int .i64 (n : Int), .int .u32 v] 36)) hnb (fun h0 q o e => (hA h0 q o e).1) hd hn)
  have HO := Lib.hid hO
  have HR := Lib.hid (hR.only hOF (fun h => h))
  clear h hd hR hO hOF hS hA
  generalize (straightD n d).1 = x at *
  go_enter Try.func16, Try.ntmps16
  go_wp2_with fail
  refine K.out.mono ?_
  rintro e w1 ⟨rfl, hp1, hg1⟩
  have hS1 := Only.of_grown (S := fun i => i = g) hg1 rfl
  have HP1 := Lib.hid hp1
  have HR1 := Lib.hid (HR.out.only hS1 hbg)
  have HO1 := Lib.hid (HO.out.trans (hS1.mono (fun i hi => .inl hi)))
  clear hp1 hg1 hS1 HO K HR
  go_wp2_with fail
  go_ret
  exact ⟨rfl, HP1.out, HR1.out, HO1.out⟩
end

/-- Whatever may be asked. -/
theorem said_any {g b pc c : Nat} {A : Option Addr} {w : World} {bs : List UInt8} {ps : List Nat} {d : Dc} {q : Qn} (h : Rf w g A c bs d) (hS : Sl w A bs.length (bv bs)) (hnb : bs.length ≤ 1000000000) (hA : 0 < bs.length → ∀ q o, A = some ⟨q, o, none⟩ → q ≠ g ∧ q ≠ b) (hd : DcOk d) (hR : Row w b ps pc) (hps : PsOk ps) (hbg : b ≠ g) (hl : ps.length = 600) (hq : RightQ q) :
    Calls Try.prog 16 #[.pointer (some ⟨g, 0, none⟩), .slice (some ⟨b, 0, none⟩) 600 pc, .agg (qnArr q)] w
      (SaidPost w g b pc c A bs (askD ps d q.k.toNat q.a.toNat q.n.toNat).2.1 (askD ps d q.k.toNat q.a.toNat q.n.toNat).1 (askD ps d q.k.toNat q.a.toNat q.n.toNat).2.2) := by
  have hok := askD_ok (rightD_of hq) hd hps hl
  obtain ⟨k, a, n, v⟩ := q
  unfold qnArr
  simp only [] at hok ⊢
  unfold askD at hok ⊢
  rcases hq with ⟨rfl, h0, h1⟩ | ⟨hk, h0, h1, h2, h3⟩ | ⟨rfl, h0, h1⟩
  · obtain ⟨a, rfl⟩ := Int.eq_ofNat_of_zero_le h0
    exact said_bit h hS hnb hA hd hR hps hbg hl (by simp only [] at h1; omega)
  · obtain ⟨a, rfl⟩ := Int.eq_ofNat_of_zero_le h0
    obtain ⟨n, rfl⟩ := Int.eq_ofNat_of_zero_le (show 0 ≤ n by simp only [] at h2; omega)
    simp only [] at h1 h2 h3 hk
    rcases hk with rfl | rfl
    · have h2n := hok.2.2.2.2 (by decide)
      have hx : (if (Tr.go a (Tr.begin ps d) n).d = none then 0 else (Tr.go a (Tr.begin ps d) n).m - 2 ^ n) < 2 ^ n := h2n
      have := pow8 (n := n) (by omega)
      exact said_tree rfl (Nat.lt_of_lt_of_le hx this) h hS hnb hA hd hR hps hbg hl (by omega) (by omega)
    · have h2n := hok.2.2.2.2 (by decide)
      have hx : (if (Tr.go a (Tr.begin ps d) n).d = none then 0 else (Tr.go a (Tr.begin ps d) n).o) < 2 ^ n := h2n
      have := pow8 (n := n) (by omega)
      exact said_rev rfl (Nat.lt_of_lt_of_le hx this) h hS hnb hA hd hR hps hbg hl (by omega) (by omega)
  · obtain ⟨n, rfl⟩ := Int.eq_ofNat_of_zero_le h0
    exact said_straight h hS hnb hA hd hR hbg (by simp only [] at h1; omega)
end Go.Proofs.Ytjomenlegffmeaa
