/-
  B2NoneW: put together.
-/
import Derived.Test.YtdnkoeafnnohnaaV29
set_option linter.unusedVariables false
set_option linter.unusedSimpArgs false
/-
  The law Bcj2None: its walk.
-/
namespace Go.Proofs.Ytdnkoeafnnohnaa
set_option linter.unusedVariables false
set_option linter.unusedSimpArgs false
open Go.RowKit

theorem u8_ne {x : UInt8} {k : Nat} (hk : k < 256) (h : ¬ ((x.toNat : Int) = (k : Int))) : x ≠ UInt8.ofNat k := fun e => h (by subst e; rw [UInt8.toNat_ofNat', Nat.mod_eq_of_lt hk])
set_option maxRecDepth 100000 in
set_option maxHeartbeats 8000000 in
theorem bcj2None_walk {A : Option Addr} {n c : Nat} {bs : List UInt8} {w : World} (hS : Sl w A n (bv bs)) (hnc : n ≤ c) (hc : c ≤ maxLen) :
    Calls Try.prog 7 #[.slice A n c] w fun e w' => e = .returned (.bool true) ∧ Below w.heap.size w w' := by
  unfold maxLen at hc
  have hl : bs.length = n := by rw [← bv_length]; exact hS.1
  subst hl
  have HS := Lib.hid hS
  have HC := Lib.hid (And.intro hnc hc)
  have KA := Lib.hid (awake15_any w)
  have hmk : ∀ W : World, (Instr.makeSlice 22 (.int .i64 5) (.int .i64 5)).run Try.prog W = .ok (.slice (some ⟨W.heap.size, 0, none⟩) 5 5) (W.alloc (.cells #[.int .u8 0, .int .u8 0, .int .u8 0, .int .u8 0, .int .u8 0] 5)) := fun _ => by kernel_rfl
  by_cases h1 : (bs.length : Int) > 16384
  · clear hS hnc hc
    go_enter Try.func7, Try.ntmps7
    go_wp2_with fail
    refine KA.out.mono ?_
    rintro e w1 ⟨rfl, hb⟩
    have HB := Lib.hid hb
    clear hb
    go_wp2_with fail
    go_ret
    exact ⟨rfl, HB.out⟩
  · have HD := Lib.hid (show bs.length ≤ 16384 by omega)
    have b1 : (0 : Int) ≤ (bs.length : Int) := by omega
    have b2 : (bs.length : Int) ≤ 16384 := by omega
    clear hS hnc hc
    go_enter Try.func7, Try.ntmps7
    go_wp2_with fail
    refine KA.out.mono ?_
    rintro e w1 ⟨rfl, hb⟩
    have HB := Lib.hid hb
    clear hb KA
    go_wp2_with fail
    go_loopw [3] (fun i wr => ∃ (iN k : Nat), i = .int .i64 (iN : Int) ∧ iN ≤ bs.length ∧ wr = w1.drewN k ∧ ∀ j, j < iN → bs.getD j 0 ≠ 232 ∧ bs.getD j 0 ≠ 233 ∧ bs.getD j 0 ≠ 15) (fun i _ => bs.length - (intOf i).toNat)
    case atStart => exact ⟨0, 0, rfl, Nat.zero_le _, rfl, fun j hj => absurd hj (Nat.not_lt_zero j)⟩
    case round =>
      obtain ⟨iN, k, rfl, hi, rfl, hall⟩ := hrel
      by_cases hlt : iN < bs.length
      · have hlt' : (iN : Int) < (bs.length : Int) := by omega
        obtain ⟨ba, oa, rfl, hba, hca⟩ := HS.out.2 (by omega)
        have kc : (w1.drewN k).cell? ⟨ba, oa + iN, none⟩ = some (.int .u8 ((bs.getD iN 0).toNat : Int)) := by
          have h2 := (HS.out.below HB.out).2 (by omega)
          obtain ⟨ba', oa', e, _, hc'⟩ := h2
          injection e with e
          injection e with e1 e2
          subst e1 e2
          have := hc' iN hlt
          show w1.cell? _ = _
          rw [this, bv_get bs _ hlt]
        have hx := (bs.getD iN 0).toNat_lt
        obtain ⟨x, hxx⟩ : ∃ x, x = bs.getD iN 0 := ⟨_, rfl⟩
        rw [← hxx] at kc hx
        have HA := Lib.hid (And.intro hall (And.intro hi hxx))
        clear hall hi hba hca hxx
        by_cases c1 : ((x.toNat : Nat) : Int) = 232
        · go_wp2_with fail
          go_ret
          exact ⟨rfl, below_drewN HB.out _⟩
        by_cases c2 : ((x.toNat : Nat) : Int) = 233
        · go_wp2_with fail
          go_ret
          exact ⟨rfl, below_drewN HB.out _⟩
        by_cases c3 : ((x.toNat : Nat) : Int) = 15
        · go_wp2_with fail
          go_ret
          exact ⟨rfl, below_drewN HB.out _⟩
        have i1 : (iN : Int) + 1 ≤ 16384 := by omega
        go_wp2_with fail
        · go_ret
          exact ⟨rfl, below_drewN HB.out _⟩
        go_roundw
        case rel =>
          obtain ⟨hall, hi, hxx⟩ := HA.out
          refine ⟨iN + 1, _, by go_num, by omega, rfl, fun j hj => ?_⟩
          by_cases e : j = iN
          · subst e
            rw [← hxx]
            exact ⟨u8_ne (k := 232) (by decide) c1, u8_ne (k := 233) (by decide) c2, u8_ne (k := 15) (by decide) c3⟩
          · exact hall j (by omega)
        case measure => simp [intOf]; omega
      · obtain rfl : iN = bs.length := by omega
        have hnl : ¬ (bs.length : Int) < (bs.length : Int) := by omega
        have HA := Lib.hid hall
        have HBk := Lib.hid (below_drewN HB.out k)
        clear hall hi hlt HB
        generalize w1.drewN k = w1 at *
        go_wp2_with fail
        refine (b2code_holds (HS.out.below HBk.out) HC.out.1 HD.out).mono ?_
        rintro e w2 ⟨A', c', l, rfl, hb2, hF, hH⟩
        have HB2 := Lib.hid (HBk.out.trans (hb2.mono HBk.out.size))
        obtain ⟨q0, q1, q2, q3⟩ := holds_none hH HA.out
        obtain ⟨v2, hv2⟩ : ∃ v2, v2 = w2.alloc (.cells (fourA A' c' l) 24) := ⟨_, rfl⟩
        have hbv : Below w2.heap.size w2 v2 := by rw [hv2]; exact (Below.refl _ _).alloc (Nat.le_refl _) _
        have hB1 : Blk v2 w2.heap.size 24 (fourA A' c' l) := by rw [hv2]; exact Blk.fresh _ _ _
        have hBv : Below w.heap.size w v2 := HB2.out.trans (hbv.mono HB2.out.size)
        have hF2 := hF.below hbv
        have hXS := (show ∀ W, Below v2.heap.size v2 W → W.cell? ⟨w2.heap.size, 0, none⟩ = some (.slice (A' 0) bs.length (c' 0)) ∧ W.cell? ⟨w2.heap.size, 1, none⟩ = some (.slice (A' 1) 0 (c' 1)) ∧
            W.cell? ⟨w2.heap.size, 2, none⟩ = some (.slice (A' 2) 0 (c' 2)) ∧ W.cell? ⟨w2.heap.size, 3, none⟩ = some (.slice (A' 3) 5 (c' 3)) from fun W hW => by
          have h := hB1.below hW
          exact ⟨(h.cell 0).trans (by show some (Value.slice (A' 0) (l 0).length (c' 0)) = _; rw [q0]), (h.cell 1).trans (by show some (Value.slice (A' 1) (l 1).length (c' 1)) = _; rw [q1]; rfl),
            (h.cell 2).trans (by show some (Value.slice (A' 2) (l 2).length (c' 2)) = _; rw [q2]; rfl), (h.cell 3).trans (by show some (Value.slice (A' 3) (l 3).length (c' 3)) = _; rw [q3]; rfl)⟩)
        have HXS := Lib.hid hXS
        have s0 := hF2.sl 0 (by decide)
        have s3 := hF2.sl 3 (by decide)
        rw [q0] at s0
        rw [q3] at s3
        have hBs := fun (W : World) (xs : List UInt8) (A B : Option Addr) (n ca cb : Nat) (hA : Sl v2 A n (bv xs)) (hW : Below v2.heap.size v2 W) (hB : Sl W B n (bv xs)) (hn : n ≤ 1000000000) =>
          (show Calls Try.prog 11 #[.slice A n ca, .slice B n cb] W (fun e w' => e = .returned (.bool true) ∧ Below v2.heap.size v2 w') from
            (bytesSame_any (hA.below hW) hB hn).mono fun e w' h => by
              obtain ⟨h1, d, rfl⟩ := h
              exact ⟨h1, below_drewN hW d⟩)
        have KB1 := Lib.hid (fun W (hW : Below v2.heap.size v2 W) => hBs W bs (A' 0) A bs.length (c' 0) c s0 hW ((HS.out.below hBv).below hW) (by have := HD.out; omega))
        have KB3 := Lib.hid (fun W B (hW : Below v2.heap.size v2 W) (hB : Sl W B 5 (bv [0, 0, 0, 0, 0])) => hBs W [0, 0, 0, 0, 0] (A' 3) B 5 (c' 3) 5 s3 hW hB (by decide))
        have KL3 := Lib.hid (fun W => (show Sl (W.alloc (.cells #[.int .u8 0, .int .u8 0, .int .u8 0, .int .u8 0, .int .u8 0] 5)) (some ⟨W.heap.size, 0, none⟩) 5 (bv [0, 0, 0, 0, 0]) from lit5 W 0 0 0 0 0))
        have y := hXS v2 (Below.refl _ _)
        have HV := Lib.hid hBv
        unfold fourA at hv2
        rw [q0, q1, q2, q3] at hv2
        replace hv2 : v2 = w2.alloc (.cells #[.slice (A' 0) bs.length (c' 0), .slice (A' 1) 0 (c' 1), .slice (A' 2) 0 (c' 2), .slice (A' 3) 5 (c' 3)] 24) := hv2
        have HW := Lib.hid hv2
        unfold fourA
        rw [q0, q1, q2, q3]
        simp only [List.length_nil, List.length_cons, Nat.reduceAdd, Nat.zero_add]
        clear hb2 hF hH hbv hB1 hv2 HBk hBv hF2 hXS s0 s3 hBs q0 q1 q2 q3 HA
        go_upto_region 11 with fail
        rw [← HW.out]
        clear HW
        go_region_held3 (fun W => W.cell? ⟨w2.heap.size, 0, none⟩ = some (.slice (A' 0) bs.length (c' 0)) ∧ W.cell? ⟨w2.heap.size, 1, none⟩ = some (.slice (A' 1) 0 (c' 1)) ∧
            W.cell? ⟨w2.heap.size, 2, none⟩ = some (.slice (A' 2) 0 (c' 2)) ∧ W.cell? ⟨w2.heap.size, 3, none⟩ = some (.slice (A' 3) 5 (c' 3)))
          (first | assumption | go_keep | exact y | exact z3 | exact z4 | trivial)
          (first
          | (go_at_call 11; refine (KB1.out _ (below_drewC (Below.refl _ _))).mono ?_; rintro e w3 ⟨rfl, hb3⟩; have z3 := HXS.out w3 hb3; have HB3 := Lib.hid (fun o => hb3.alloc hb3.size o); have HBE := Lib.hid hb3; clear hb3 KB1)
          | (go_at_call 11; refine (KB3.out _ _ (HB3.out _) (KL3.out _)).mono ?_; rintro e w4 ⟨rfl, hb4⟩; have z4 := HXS.out w4 hb4; clear HBE; have HBE := Lib.hid hb4; clear hb4 HB3 KB3 KL3)
          | fail)
        go_wp2_with fail
        go_ret
        exact ⟨rfl, HV.out.trans (HBE.out.mono HV.out.size)⟩
end Go.Proofs.Ytdnkoeafnnohnaa
