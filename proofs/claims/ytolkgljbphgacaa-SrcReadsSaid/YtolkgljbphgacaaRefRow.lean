/-
  The reference's cursor: a row of bits.
-/
import Derived.Test.YtolkgljbphgacaaRefRead
import Derived.Test.YtolkgljbphgacaaBits
namespace Go.Proofs.Ytolkgljbphgacaa
open Go.RowKit

set_option maxHeartbeats 1000000 in
theorem curBits_fail {g : Nat} {lo : Nat → Prop} {bs : List UInt8} {k : Nat} {x code : Int} {w : World} (h : Cur 30 w g lo bs k code) (hm : bs.length ≤ 1000000000) (hb : code ≠ 0 ∨ x < 0 ∨ ∃ n : Nat, x = (n : Int) ∧ n ≤ 9223372036854775807 ∧ (leftOf bs k code).length < rowLenN n) :
    Calls Try.prog 22 #[.pointer (some ⟨g, 0, none⟩), .int .i64 x] w fun e w' =>
      e = .returned (.slice none 0 0) ∧ Cur 30 w' g lo bs k (over code 3) ∧ w.grownBy w' (some g) := by
  have hl := left_le h
  have HL := Lib.hid (fun d => curLeft_any (h.drewN d))
  have HC := Lib.hid h
  have h2 : w.cell? ⟨g, 2, none⟩ = some (.int .i64 code) := by obtain ⟨A, c, hB, _⟩ := h; exact hB.cell 2
  clear h
  by_cases hz : code = 0
  · by_cases hx0 : x < 0
    · subst hz
      clear hb
      go_enter Try.func22, Try.ntmps22
      go_wp2_with fail
      refine (curFail_any HC.out).mono ?_
      rintro e w2 ⟨rfl, hc, hg⟩
      have HC2 := Lib.hid hc
      have HG := Lib.hid hg
      clear hc hg
      go_wp2_with fail
      go_ret
      exact ⟨rfl, HC2.out, HG.out⟩
    · have hb2 : ∃ n : Nat, x = (n : Int) ∧ n ≤ 9223372036854775807 ∧ (leftOf bs k code).length < rowLenN n := by
        rcases hb with h | h | h
        · exact absurd hz h
        · exact absurd h hx0
        · exact h
      obtain ⟨n, rfl, hn, hlt⟩ := hb2
      unfold rowLenN at hlt
      generalize leftOf bs k code = r at *
      subst hz
      clear hb
      by_cases hq : (r.length : Int) < (n : Int) / 8
      · go_enter Try.func22, Try.ntmps22
        go_wp2_with fail
        refine (HL.out 0).mono ?_
        rintro e w1 ⟨rfl, d, rfl⟩
        go_wp2_with fail
        refine (curFail_any (HC.out.drewN _)).mono ?_
        rintro e w2 ⟨rfl, hc, hg⟩
        have HC2 := Lib.hid hc
        have HG := Lib.hid (only_of_drewN hg)
        clear hc hg
        go_wp2_with fail
        go_ret
        exact ⟨rfl, HC2.out, HG.out⟩
      · have hr8 : (0 : Int) < (n : Int) % 8 := by omega
        have hs1 : (r.length : Int) < (n : Int) / 8 + 1 := by omega
        go_enter Try.func22, Try.ntmps22
        go_wp2_with fail
        refine (HL.out 0).mono ?_
        rintro e w1 ⟨rfl, d, rfl⟩
        go_wp2_with fail
        refine (HL.out _).mono ?_
        rintro e w1 ⟨rfl, d2, rfl⟩
        go_wp2_with fail
        refine (curFail_any (HC.out.drewN _)).mono ?_
        rintro e w2 ⟨rfl, hc, hg⟩
        have HC2 := Lib.hid hc
        have HG := Lib.hid (only_of_drewN hg)
        clear hc hg
        go_wp2_with fail
        go_ret
        exact ⟨rfl, HC2.out, HG.out⟩
  · clear hb
    go_enter Try.func22, Try.ntmps22
    go_wp2_with fail
    refine (curFail_any HC.out).mono ?_
    rintro e w2 ⟨rfl, hc, hg⟩
    have HC2 := Lib.hid hc
    have HG := Lib.hid hg
    clear hc hg
    go_wp2_with fail
    go_ret
    exact ⟨rfl, HC2.out, HG.out⟩
theorem bitAt_drop {bs : List UInt8} {k i : Nat} : bitAt (bs.drop k) i = ((bs.getD (k + i / 8) 0).toNat / 2 ^ (7 - i % 8) % 2 == 1) := by
  unfold bitAt
  simp [List.getD, List.getElem?_drop]
theorem tailBad_ok {r : List UInt8} {n : Nat} (h : ∀ j, n ≤ j → j < 8 * rowLenN n → bitAt r j = false) : tailBad r n = false := by
  unfold tailBad
  rw [List.any_eq_false]
  intro i hi
  rw [List.mem_range] at hi
  by_cases hn : n ≤ i
  · simp [h i hn hi]
  · simp [hn]
theorem tailBad_hit {r : List UInt8} {n j : Nat} (h1 : n ≤ j) (h2 : j < 8 * rowLenN n) (h : bitAt r j = true) : tailBad r n = true := by
  unfold tailBad
  rw [List.any_eq_true]
  exact ⟨j, List.mem_range.2 h2, by simp [h1, h]⟩

/-- what a row told of enough bytes is -/
def goM (r : List UInt8) (n k : Nat) : List Bool × Nat × Int := if tailBad r n = true then ([], k, 5) else (rowOf r n, k + rowLenN n, 0)
theorem goM_bad {r : List UInt8} {n k : Nat} (h : tailBad r n = true) : goM r n k = ([], k, 5) := by simp [goM, h]
theorem goM_good {r : List UInt8} {n k : Nat} (h : tailBad r n = false) : goM r n k = (rowOf r n, k + rowLenN n, 0) := by simp [goM, h]

/-- what a row that is read answers -/
def RowPost (w : World) (g : Nat) (lo : Nat → Prop) (bs : List UInt8) (m : List Bool × Nat × Int) (e : Ending) (w' : World) : Prop :=
  ∃ A' c', e = .returned (.slice A' m.1.length c') ∧ w'.ownsRow w.heap.size 4 1 (.slice A' m.1.length c') m.1.length (fv m.1) ∧ Cur 30 w' g lo bs m.2.1 m.2.2 ∧ w.grownBy w' (some g)

set_option maxHeartbeats 2000000 in
theorem curBits_go {g : Nat} {lo : Nat → Prop} {bs : List UInt8} {k n : Nat} {w : World} (h : Cur 30 w g lo bs k 0) (hm : bs.length ≤ 1000000000) (hL : rowLenN n ≤ (leftOf bs k 0).length) :
    Calls Try.prog 22 #[.pointer (some ⟨g, 0, none⟩), .int .i64 (n : Int)] w
      (RowPost w g lo bs (goM (leftOf bs k 0) n k)) := by
  obtain ⟨i, hi, hz0, hz1, hz2⟩ := info_parts info_bool
  have hl := left_le h
  have hlt := h.lt
  have HL := Lib.hid (fun d => curLeft_any (h.drewN d))
  have HC := Lib.hid h
  have hbit := fun j => @bitAt_drop bs k j
  have hle : leftOf bs k 0 = bs.drop k := by simp [leftOf]
  rw [← hle] at hbit
  have hgo := fun hh => @tailBad_ok (leftOf bs k 0) n hh
  have hhit := fun jj h1 h2 hh => @tailBad_hit (leftOf bs k 0) n jj h1 h2 hh
  have hrs := rowOf_succ (leftOf bs k 0)
  have h2 : w.cell? ⟨g, 2, none⟩ = some (.int .i64 0) := by obtain ⟨A, c, hB, _⟩ := h; exact hB.cell 2
  have hbadM := @goM_bad (leftOf bs k 0) n k
  have hgoodM := @goM_good (leftOf bs k 0) n k
  have hL1 : 8 * rowLenN n ≤ n + 7 := by unfold rowLenN; omega
  have hL2 : n ≤ 8 * rowLenN n := by unfold rowLenN; omega
  generalize leftOf bs k 0 = r at *
  have hsz : 0 < n % 8 ∧ n / 8 + 1 = rowLenN n ∨ n % 8 = 0 ∧ n / 8 = rowLenN n := by unfold rowLenN; omega
  generalize rowLenN n = L at *
  have HBAD := Lib.hid hbadM
  have HGOOD := Lib.hid hgoodM
  clear hbadM hgoodM
  have HBIT := Lib.hid hbit
  have HGO := Lib.hid hgo
  have HHIT := Lib.hid hhit
  have HRS := Lib.hid hrs
  have HLT := Lib.hid hlt
  have q0 : (0 : Int) ≤ (n : Int) := by omega
  clear h hbit hgo hhit hrs hle
  rcases hsz with ⟨s1, s2⟩ | ⟨s1, s2⟩
  · have hx0 : ¬ (n : Int) < 0 := by omega
    have p1 : (0 : Int) < (n : Int) % 8 := by omega
    have p2 : (n : Int) / 8 + 1 = (L : Int) := by omega
    have p3 : ¬ (r.length : Int) < (n : Int) / 8 := by omega
    have p4 : ¬ (r.length : Int) < (L : Int) := by omega
    clear s1 s2
    go_enter Try.func22, Try.ntmps22
    go_wp2_with fail
    refine (HL.out 0).mono ?_
    rintro e w1 ⟨rfl, d, rfl⟩
    go_wp2_with fail
    refine (HL.out _).mono ?_
    rintro e w1 ⟨rfl, d2, rfl⟩
    go_wp2_with fail
    have p5 : decide (r.length < L) = false := by simp; omega
    try rw [p5]
    clear p1 p2 p3 p4 p5 h2 hx0
    go_loopw [7, 6] (fun x s wr => ∃ (i : Nat) (A2 : Option Addr) (c2 : Nat), i ≤ 8 * L ∧ x = .int .i64 i ∧ s = .slice A2 (min i n) c2 ∧ wr.ownsRow w.heap.size 4 1 (.slice A2 (min i n) c2) (min i n) (fv (rowOf r (min i n))) ∧ (∀ jj, n ≤ jj → jj < i → bitAt r jj = false) ∧ Below w.heap.size w wr) (fun x _ _ => 8 * L - (intOf x).toNat)
    case atStart => exact ⟨0, none, 0, Nat.zero_le _, rfl, by rw [Nat.zero_min], by rw [Nat.zero_min]; exact World.ownsRow_nil _ _ _ _, fun jj h1 h2 => absurd h2 (by omega), below_drewN (Below.refl _ _) _⟩
    case round =>
      obtain ⟨j, A2, c2, hj, rfl, rfl, ho, hno, hb⟩ := hrel
      have HCr := Lib.hid (HC.out.below hb)
      have HBr := Lib.hid hb
      have HNO := Lib.hid hno
      by_cases hjl : j < 8 * L
      · obtain ⟨A, c, hB, hS, r1, r2, r3, r4⟩ := HCr.out
        have h0 : wr.cell? ⟨g, 0, none⟩ = some (.slice A bs.length c) := hB.cell 0
        have h1 : wr.cell? ⟨g, 1, none⟩ = some (.int .i64 (k : Int)) := hB.cell 1
        obtain ⟨b, o, rfl, _, hc⟩ := hS.2 (by omega)
        have hkj : k + j / 8 < bs.length := by omega
        have hcell : wr.cell? ⟨b, o + (k + j / 8), none⟩ = some (.int .u8 ((bs.getD (k + j / 8) 0).toNat : Int)) := by rw [hc _ hkj, bv_get _ _ hkj]
        have hbit := HBIT.out j
        generalize bs.getD (k + j / 8) 0 = x at hcell hbit
        obtain ⟨dd, y, d1, d2', d3, d4, d5, d6, d7⟩ := bit_test x.toNat (j % 8) x.toNat_lt (by omega)
        rw [← hbit] at d6 d7
        have hx := x.toNat_lt
        have q3 : (j : Int) % 8 = ((j % 8 : Nat) : Int) := by omega
        have q4 : (j : Int).tmod 8 = ((j % 8 : Nat) : Int) := by rw [Int.tmod_eq_emod_of_nonneg (by omega)]; omega
        have q1 : (j : Int) / 8 = ((j / 8 : Nat) : Int) := by omega
        have q2 : (j : Int).tdiv 8 = ((j / 8 : Nat) : Int) := by rw [Int.tdiv_eq_ediv_of_nonneg (by omega)]; omega
        have ht8 : j % 8 < 8 := Nat.mod_lt _ (by omega)
        generalize j % 8 = tt at q3 q4 d1 d6 d7 ht8
        generalize j / 8 = jj at q1 q2 hcell hkj
        have q5 : IntKind.i64.wrap ((k : Int) + (jj : Int)) = (k : Int) + (jj : Int) := IntWalk.i64_in _ (by omega)
        have q6 : (k : Int) + (jj : Int) < (bs.length : Int) := by omega
        have q7 : (0 : Int) ≤ (k : Int) + (jj : Int) := by omega
        generalize x.toNat = xx at hcell d4 hx
        have HH := Lib.hid (fun h1 h2 hh => HHIT.out j h1 h2 hh)
        have HR := Lib.hid (HRS.out j)
        have HBJ : Hid (bitAt r j = bitAt r j) := Lib.hid rfl
        have HNX : Hid (bitAt r j = false → ∀ jj, n ≤ jj → jj < j + 1 → bitAt r jj = false) := Lib.hid (fun e jj h1 h2 => by
          by_cases e2 : jj = j
          · rw [e2]; exact e
          · exact HNO.out jj h1 (by omega))
        have HO := Lib.hid ho
        clear hB hS r4 hc hbit ho hb hno
        generalize bitAt r j = bit at d6 d7 HH HR HNX
        clear HBJ
        by_cases hjn : (j : Int) < (n : Int)
        · have hmin : min j n = j := by omega
          have hmin2 : min (j + 1) n = j + 1 := by omega
          have HM2 := Lib.hid hmin2
          rw [hmin] at HO ⊢
          clear hmin hmin2
          go_wp2_with fail
          go_quiet (fail)
          go_wp2_with (at_builtin; refine wpList_app _ rfl (.tmp 70) (.tmp 72) 39 rfl w.heap.size 4 i _ 1 Try.underlying39 hi hz0 hz1 hz2 rfl _ j _ rfl ((show (wr.drewN nq).ownsRow _ _ _ _ _ _ from HO.out).alloc _) _ 1 1 _ rfl (sl_one _ _ _) (by intro u hu; rw [List.mem_singleton.1 hu]; rfl) (by omega) (by omega) (by have := HBr.out.size; simp; omega) ?_)
          intro A3 c3 w3 ho hg
          have HB3 := Lib.hid (((below_drewN HBr.out nq).alloc HBr.out.size _).grown hg (by have := HBr.out.size; simp; omega) (fun b e => (HO.out.lt b e).1))
          have HO3 : Hid (w3.ownsRow w.heap.size 4 1 (.slice A3 (j + 1) c3) (j + 1) (fv (rowOf r (j + 1)))) := by
            rw [HR.out, fv_append]
            exact ho
          clear ho hg
          go_wp2_with fail
          go_roundw
          case rel => exact ⟨j + 1, A3, c3, by omega, by go_num, by rw [HM2.out], by rw [HM2.out]; exact HO3.out, fun jj h1 h2 => absurd h1 (by omega), HB3.out⟩
          case measure => simp [intOf]; omega
        · have hmin : min j n = n := by omega
          have hmin2 : min (j + 1) n = n := by omega
          have HM2 := Lib.hid hmin2
          rw [hmin] at HO ⊢
          clear hmin hmin2
          cases bit with
          | false =>
            go_wp2_with fail
            go_quiet (fail)
            go_wp2_with fail
            go_roundw
            case rel => exact ⟨j + 1, A2, c2, by omega, by go_num, by rw [HM2.out], by rw [HM2.out]; exact HO.out, HNX.out (by trivial), below_drewN HBr.out _⟩
            case measure => simp [intOf]; omega
          | true =>
            go_wp2_with fail
            go_quiet (fail)
            go_wp2_with fail
            refine (curFail_any (HCr.out.drewN _)).mono ?_
            rintro e w2 ⟨rfl, hc, hg⟩
            have HC2 := Lib.hid hc
            have HG := Lib.hid (only_trans (only_of_below HBr.out (some g)) (only_of_drewN hg))
            clear hc hg
            go_wp2_with fail
            go_ret
            rw [HBAD.out (HH.out (by omega) (by omega) (by trivial))]
            exact ⟨none, 0, rfl, World.ownsRow_nil _ _ _ _, HC2.out, HG.out⟩
      · obtain rfl : j = 8 * L := by omega
        have hmin : min (8 * L) n = n := by omega
        have HG0 := Lib.hid (HGO.out HNO.out)
        have h1 : wr.cell? ⟨g, 1, none⟩ = some (.int .i64 (k : Int)) := by obtain ⟨A, c, hB, _⟩ := HCr.out; exact hB.cell 1
        have hf1 : wr.frozen? ⟨g, 1, none⟩ = false := by obtain ⟨A, c, hB, _⟩ := HCr.out; exact hB.free 1
        rw [hmin] at ho ⊢
        have HO := Lib.hid ho
        have q8 : ¬ (8 * (L : Int)) < 8 * (L : Int) := by omega
        clear hmin ho hno hb
        go_wp2_with fail
        go_ret
        rw [HGOOD.out HG0.out]
        obtain ⟨A, c, hB, hS, r1, r2, r3, r4⟩ := HCr.out
        refine ⟨A2, c2, by rw [rowOf_length]; rfl, ?_, ⟨A, c, ?_, ?_, r1, r2, (by show k + L ≤ bs.length; omega), r4⟩, ?_⟩
        · rw [rowOf_length]
          exact ownsRow_setCell_below HO.out HLT.out _
        · have hput := hB.put 1 (.int .i64 ((k + L : Nat) : Int))
          rw [show (k : Int) + (L : Int) = ((k + L : Nat) : Int) by omega]
          exact hput
        · exact hS.grown (only_setCell (World.grownBy.refl _ _) (.inl rfl) _) (fun hn b' o' e => (r4 hn b' o' e).2)
        · exact only_setCell (only_of_below HBr.out _) (.inl rfl) _
  · have hL3 : 8 * L ≤ n := by omega
    have hx0 : ¬ (n : Int) < 0 := by omega
    have p3 : ¬ (r.length : Int) < (n : Int) / 8 := by omega
    have p1 : ¬ (0 : Int) < (n : Int) % 8 := by omega
    have p2 : (n : Int) / 8 = (L : Int) := by omega
    have p4 : ¬ (r.length : Int) < (L : Int) := by omega
    clear s1 s2
    go_enter Try.func22, Try.ntmps22
    go_wp2_with fail
    refine (HL.out 0).mono ?_
    rintro e w1 ⟨rfl, d, rfl⟩
    go_wp2_with fail
    refine (HL.out _).mono ?_
    rintro e w1 ⟨rfl, d2, rfl⟩
    go_wp2_with fail
    have p5 : decide (r.length < L) = false := by simp; omega
    try rw [p5]
    clear p1 p2 p3 p4 p5 h2 hx0
    go_loopw [7, 6] (fun x s wr => ∃ (i : Nat) (A2 : Option Addr) (c2 : Nat), i ≤ 8 * L ∧ x = .int .i64 i ∧ s = .slice A2 (min i n) c2 ∧ wr.ownsRow w.heap.size 4 1 (.slice A2 (min i n) c2) (min i n) (fv (rowOf r (min i n))) ∧ (∀ jj, n ≤ jj → jj < i → bitAt r jj = false) ∧ Below w.heap.size w wr) (fun x _ _ => 8 * L - (intOf x).toNat)
    case atStart => exact ⟨0, none, 0, Nat.zero_le _, rfl, by rw [Nat.zero_min], by rw [Nat.zero_min]; exact World.ownsRow_nil _ _ _ _, fun jj h1 h2 => absurd h2 (by omega), below_drewN (Below.refl _ _) _⟩
    case round =>
      obtain ⟨j, A2, c2, hj, rfl, rfl, ho, hno, hb⟩ := hrel
      have HCr := Lib.hid (HC.out.below hb)
      have HBr := Lib.hid hb
      have HNO := Lib.hid hno
      by_cases hjl : j < 8 * L
      · obtain ⟨A, c, hB, hS, r1, r2, r3, r4⟩ := HCr.out
        have h0 : wr.cell? ⟨g, 0, none⟩ = some (.slice A bs.length c) := hB.cell 0
        have h1 : wr.cell? ⟨g, 1, none⟩ = some (.int .i64 (k : Int)) := hB.cell 1
        obtain ⟨b, o, rfl, _, hc⟩ := hS.2 (by omega)
        have hkj : k + j / 8 < bs.length := by omega
        have hcell : wr.cell? ⟨b, o + (k + j / 8), none⟩ = some (.int .u8 ((bs.getD (k + j / 8) 0).toNat : Int)) := by rw [hc _ hkj, bv_get _ _ hkj]
        have hbit := HBIT.out j
        generalize bs.getD (k + j / 8) 0 = x at hcell hbit
        obtain ⟨dd, y, d1, d2', d3, d4, d5, d6, d7⟩ := bit_test x.toNat (j % 8) x.toNat_lt (by omega)
        rw [← hbit] at d6 d7
        have hx := x.toNat_lt
        have q3 : (j : Int) % 8 = ((j % 8 : Nat) : Int) := by omega
        have q4 : (j : Int).tmod 8 = ((j % 8 : Nat) : Int) := by rw [Int.tmod_eq_emod_of_nonneg (by omega)]; omega
        have q1 : (j : Int) / 8 = ((j / 8 : Nat) : Int) := by omega
        have q2 : (j : Int).tdiv 8 = ((j / 8 : Nat) : Int) := by rw [Int.tdiv_eq_ediv_of_nonneg (by omega)]; omega
        have ht8 : j % 8 < 8 := Nat.mod_lt _ (by omega)
        generalize j % 8 = tt at q3 q4 d1 d6 d7 ht8
        generalize j / 8 = jj at q1 q2 hcell hkj
        have q5 : IntKind.i64.wrap ((k : Int) + (jj : Int)) = (k : Int) + (jj : Int) := IntWalk.i64_in _ (by omega)
        have q6 : (k : Int) + (jj : Int) < (bs.length : Int) := by omega
        have q7 : (0 : Int) ≤ (k : Int) + (jj : Int) := by omega
        generalize x.toNat = xx at hcell d4 hx
        have HH := Lib.hid (fun h1 h2 hh => HHIT.out j h1 h2 hh)
        have HR := Lib.hid (HRS.out j)
        have HBJ : Hid (bitAt r j = bitAt r j) := Lib.hid rfl
        have HNX : Hid (bitAt r j = false → ∀ jj, n ≤ jj → jj < j + 1 → bitAt r jj = false) := Lib.hid (fun e jj h1 h2 => by
          by_cases e2 : jj = j
          · rw [e2]; exact e
          · exact HNO.out jj h1 (by omega))
        have HO := Lib.hid ho
        clear hB hS r4 hc hbit ho hb hno
        generalize bitAt r j = bit at d6 d7 HH HR HNX
        clear HBJ
        by_cases hjn : (j : Int) < (n : Int)
        · have hmin : min j n = j := by omega
          have hmin2 : min (j + 1) n = j + 1 := by omega
          have HM2 := Lib.hid hmin2
          rw [hmin] at HO ⊢
          clear hmin hmin2
          go_wp2_with fail
          go_quiet (fail)
          go_wp2_with (at_builtin; refine wpList_app _ rfl (.tmp 70) (.tmp 72) 39 rfl w.heap.size 4 i _ 1 Try.underlying39 hi hz0 hz1 hz2 rfl _ j _ rfl ((show (wr.drewN nq).ownsRow _ _ _ _ _ _ from HO.out).alloc _) _ 1 1 _ rfl (sl_one _ _ _) (by intro u hu; rw [List.mem_singleton.1 hu]; rfl) (by omega) (by omega) (by have := HBr.out.size; simp; omega) ?_)
          intro A3 c3 w3 ho hg
          have HB3 := Lib.hid (((below_drewN HBr.out nq).alloc HBr.out.size _).grown hg (by have := HBr.out.size; simp; omega) (fun b e => (HO.out.lt b e).1))
          have HO3 : Hid (w3.ownsRow w.heap.size 4 1 (.slice A3 (j + 1) c3) (j + 1) (fv (rowOf r (j + 1)))) := by
            rw [HR.out, fv_append]
            exact ho
          clear ho hg
          go_wp2_with fail
          go_roundw
          case rel => exact ⟨j + 1, A3, c3, by omega, by go_num, by rw [HM2.out], by rw [HM2.out]; exact HO3.out, fun jj h1 h2 => absurd h1 (by omega), HB3.out⟩
          case measure => simp [intOf]; omega
        · exfalso; omega
      · obtain rfl : j = 8 * L := by omega
        have hmin : min (8 * L) n = n := by omega
        have HG0 := Lib.hid (HGO.out HNO.out)
        have h1 : wr.cell? ⟨g, 1, none⟩ = some (.int .i64 (k : Int)) := by obtain ⟨A, c, hB, _⟩ := HCr.out; exact hB.cell 1
        have hf1 : wr.frozen? ⟨g, 1, none⟩ = false := by obtain ⟨A, c, hB, _⟩ := HCr.out; exact hB.free 1
        rw [hmin] at ho ⊢
        have HO := Lib.hid ho
        have q8 : ¬ (8 * (L : Int)) < 8 * (L : Int) := by omega
        clear hmin ho hno hb
        go_wp2_with fail
        go_ret
        rw [HGOOD.out HG0.out]
        obtain ⟨A, c, hB, hS, r1, r2, r3, r4⟩ := HCr.out
        refine ⟨A2, c2, by rw [rowOf_length]; rfl, ?_, ⟨A, c, ?_, ?_, r1, r2, (by show k + L ≤ bs.length; omega), r4⟩, ?_⟩
        · rw [rowOf_length]
          exact ownsRow_setCell_below HO.out HLT.out _
        · have hput := hB.put 1 (.int .i64 ((k + L : Nat) : Int))
          rw [show (k : Int) + (L : Int) = ((k + L : Nat) : Int) by omega]
          exact hput
        · exact hS.grown (only_setCell (World.grownBy.refl _ _) (.inl rfl) _) (fun hn b' o' e => (r4 hn b' o' e).2)
        · exact only_setCell (only_of_below HBr.out _) (.inl rfl) _
end Go.Proofs.Ytolkgljbphgacaa
