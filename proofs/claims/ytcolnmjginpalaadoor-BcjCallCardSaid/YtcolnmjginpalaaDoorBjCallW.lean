/-
  The law BcjCall, walked.
-/
import Derived.Test.YtcolnmjginpalaaDoorBjWake
import Derived.Test.YtcolnmjginpalaaDoorBjCallN
import Derived.Test.YtcolnmjginpalaaDoorHeld
import Derived.Laws.IdiomStrings
import Derived.Deep.CutBlock
namespace Go.Proofs.YtcolnmjginpalaaDoor
set_option linter.unusedVariables false
set_option linter.unusedSimpArgs false
open Go.RowKit

theorem arr_set (l : List UInt8) (i : Nat) (x : UInt8) : (bv l).toArray.setIfInBounds i (.int .u8 (x.toNat : Int)) = (bv (l.set i x)).toArray := by
  apply Array.toList_inj.1
  simp [bv, List.map_set]
theorem call_or {M : Nat} (h : M < 33554432) : bits BinOp.or IntKind.u32 (M : Int) 4261412864 = ((M + 4261412864 : Nat) : Int) := by
  have := u32_or_nat M 4261412864 (by omega) (by decide)
  rw [Nat.or_comm, nat_join 25 4261412864 M (by decide) h, Nat.add_comm] at this
  exact this
theorem sxI {S : Nat} (h : sxt S) : (S : Int) % 256 = (((pu4 S).getD 0 0).toNat : Int) ∧ (S : Int) / 256 % 256 = (((pu4 S).getD 1 0).toNat : Int) ∧ (S : Int) / 65536 % 256 = (((pu4 S).getD 2 0).toNat : Int) ∧ (S : Int) / 16777216 = (((pu4 S).getD 3 0).toNat : Int) := by
  obtain ⟨h0, h1, h2, h3⟩ := sxt_byte h
  have := sxt_lt h
  refine ⟨?_, ?_, ?_, ?_⟩ <;> omega
theorem call_sum {S n T : Nat} (h : T = (S + n + 5) % 33554432) (hn : n < 1000) : ∃ a b : Nat, ((n : Int) % 4294967296 = (n : Int)) ∧ ((S : Int) + (n : Int)) % 4294967296 = (a : Int) ∧ ((a : Int) + 5) % 4294967296 = (b : Int) ∧ (b : Int) % 33554432 = (T : Int) ∧ (b : Int).tmod 33554432 = (T : Int) := by
  refine ⟨(S + n) % 4294967296, ((S + n) % 4294967296 + 5) % 4294967296, by omega, by omega, by omega, ?_, ?_⟩
  · omega
  · rw [Int.tmod_eq_emod_of_nonneg (by omega)]
    omega
theorem call_conv {W : World} {q Z : Nat} {l : List UInt8} (h : Sl W (some ⟨q, 0, none⟩) Z (bv l)) (h0 : 0 < Z) : (convert 22 9 (.slice (some ⟨q, 0, none⟩) Z Z)).run Tryd.prog W = .ok (.string ⟨l.toArray⟩) W := by
  have hl : l.length = Z := by rw [← bv_length]; exact h.1
  have := run_convert_bytes_back (P := Tryd.prog) W 22 9 5 ⟨q, 0, none⟩ Z l Tryd.underlying22 Tryd.underlying5 Tryd.underlying9 (fun j hj => by
    have hn := h.news j (.int .u8 (l[j].toNat : Int)) (by rw [bv_get _ _ hj, List.getD_eq_getElem?_getD, List.getElem?_eq_getElem hj]; rfl)
    exact hn)
  rw [hl] at this
  exact this
theorem call_same {n S T j : Nat} {mk : UInt8} (h : ¬ (n + 1 ≤ j ∧ j < n + 5)) : (callB n mk T).getD j 0 = (callB n mk S).getD j 0 := by
  rw [call_get j, call_get (S := S) j, if_neg h, if_neg h]
theorem call_shift {n T j : Nat} (hT : sxt T) (h : n + 1 ≤ j ∧ j < n + 5) : (T : Int) / 2 ^ (8 * (j - n - 1)) % 256 = (((pu4 T).getD (j - n - 1) 0).toNat : Int) := by
  obtain ⟨h0, h1, h2, h3⟩ := sxI hT
  obtain ⟨d, hd⟩ : ∃ d, d = j - n - 1 := ⟨_, rfl⟩
  rw [← hd]
  have hc : d = 0 ∨ d = 1 ∨ d = 2 ∨ d = 3 := by omega
  rcases hc with rfl | rfl | rfl | rfl
  · rw [← h0, show (2 : Int) ^ (8 * 0) = 1 from rfl, Int.ediv_one]
  · rw [← h1]; rfl
  · rw [← h2]; rfl
  · rw [← h3, show (2 : Int) ^ (8 * 3) = 16777216 from rfl]
    have := sxt_lt hT
    omega
theorem laid_next {n Z j : Nat} {x : UInt8} {S : Nat} {l xs : List UInt8} (hj : j < 4) (hZ : Z = n + 9) (hl : xs.length = Z) (hx : x = (pu4 S).getD j 0) (h : ∀ k, xs.getD k 0 = if n + 1 ≤ k ∧ k < n + 1 + j then (pu4 S).getD (k - n - 1) 0 else l.getD k 0) :
    ∀ k, (xs.set (n + 1 + j) x).getD k 0 = if n + 1 ≤ k ∧ k < n + 1 + (j + 1) then (pu4 S).getD (k - n - 1) 0 else l.getD k 0 := fun k => by
  rw [List.getD_eq_getElem?_getD, List.getElem?_set]
  by_cases e : n + 1 + j = k
  · subst e
    rw [if_pos rfl, if_pos (by omega), if_pos (by omega), show n + 1 + j - n - 1 = j by omega, hx]
    rfl
  · rw [if_neg e, ← List.getD_eq_getElem?_getD, h k]
    by_cases hk : n + 1 ≤ k ∧ k < n + 1 + j
    · rw [if_pos hk, if_pos (by omega)]
    · rw [if_neg hk, if_neg (by omega)]
theorem call_meas {z j : Nat} (h : j < z) : z - (intOf (Value.int .i64 ((j : Int) + 1))).toNat < z - (intOf (Value.int .i64 (j : Int))).toNat := by
  simp [intOf]
  omega
theorem call_wrap {n j : Nat} (hn : n < 1000) (hj : j ≤ n + 9) : wrap64 ((j : Int) + 1) = (j : Int) + 1 ∧ wrap64 ((n : Int) + 9) = (n : Int) + 9 ∧ wrap64 ((n : Int) + 1) = (n : Int) + 1 ∧ wrap64 ((n : Int) + 5) = (n : Int) + 5 ∧ wrap64 ((n : Int) + 1 + (j : Int)) = (n : Int) + 1 + (j : Int) :=
  ⟨IntWalk.wrap64_in _ (by omega), IntWalk.wrap64_in _ (by omega), IntWalk.wrap64_in _ (by omega), IntWalk.wrap64_in _ (by omega), IntWalk.wrap64_in _ (by omega)⟩
theorem call_cell {W : World} {q Z j : Nat} {l : List UInt8} (h : Sl W (some ⟨q, 0, none⟩) Z (bv l)) (hj : j < Z) : W.cell? ⟨q, j, none⟩ = some (.int .u8 ((l.getD j 0).toNat : Int)) := by
  have hl : l.length = Z := by rw [← bv_length]; exact h.1
  have := h.news j (.int .u8 ((l.getD j 0).toNat : Int)) (by rw [bv_get _ _ (by omega)])
  rw [show (⟨q, j, none⟩ : Addr) = (⟨q, 0, none⟩ : Addr).add j by simp [Addr.add]]
  exact this
set_option maxRecDepth 100000 in
set_option maxHeartbeats 8000000 in
theorem bcjCall_walk {ah tg : Nat} {jump : Bool} {w : World} (ha : ah < 65536) (ht : tg < 4294967296) (hT : Tabs w) :
    Calls Tryd.prog 7 #[.int .u16 (ah : Int), .int .u32 (tg : Int), .bool jump] w fun e w' => e = .returned (.bool true) ∧ Below w.heap.size w w' := by
  obtain ⟨i, hi, hz0, hz1, hz2⟩ := info_parts info_u8
  have HT := Lib.hid hT
  have KA := Lib.hid (awake14_any hT)
  obtain ⟨n, hn⟩ : ∃ n, n = ah % 1000 := ⟨_, rfl⟩
  have hn1 : n < 1000 := by omega
  obtain ⟨Z, hZ⟩ : ∃ Z, Z = n + 9 := ⟨_, rfl⟩
  have hmk : ∀ W : World, (Instr.makeSlice 22 (.int .i64 ((n : Int) + 9)) (.int .i64 ((n : Int) + 9))).run Tryd.prog W = .ok (.slice (some ⟨W.heap.size, 0, none⟩) Z Z) (W.alloc (.cells (bv (List.replicate Z 0)).toArray 5)) := by
    intro W
    have hmk := run_make (P := Tryd.prog) W 22 5 i (.int .u8 0) Tryd.underlying22 hi hz0 .i64 .i64 (Z : Int) (Z : Int) (by omega) (Int.le_refl _) (by rw [hz2]; omega) (by omega)
    rw [hz1, Nat.mul_one, Int.toNat_natCast, show (Value.int .u8 0).cells = #[Value.int .u8 0] from rfl, made_arr] at hmk
    rw [show (n : Int) + 9 = (Z : Int) by omega]
    exact hmk
  have e1 : (ah : Int).tmod 1000 = (n : Int) := by rw [Int.tmod_eq_emod_of_nonneg (by omega)]; omega
  have e1' : (ah : Int) % 1000 = (n : Int) := by omega
  have e2 : wrap64 ((n : Int) + 9) = (n : Int) + 9 := IntWalk.wrap64_in _ (by omega)
  have e2' : (n : Int) + 9 = (Z : Int) := by omega
  have e0 : wrap64 (ah : Int) = (ah : Int) := IntWalk.wrap64_in _ (by omega)
  have HE := Lib.hid (And.intro e0 (And.intro e1 (And.intro e1' e2)))
  have HN := Lib.hid (And.intro hn1 (And.intro hZ ht))
  clear e0 e1 e1' e2 e2' hn hn1 hZ ha ht hT hz0 hz1 hz2 hi
  go_enter Tryd.func7, Tryd.ntmps7
  go_wp2_with fail
  refine KA.out.mono ?_
  rintro e w1 ⟨rfl, hb⟩
  have HB := Lib.hid hb
  have q0 := HE.out.1
  have q1 := HE.out.2.1
  have q2 := HE.out.2.2.1
  have q3 := HE.out.2.2.2
  clear hb KA
  go_upto_region 5 with fail
  have hq1 : Blk (w1.alloc (.cells (bv (List.replicate Z 0)).toArray 5)) w1.heap.size 5 (bv (List.replicate Z 0)).toArray := Blk.fresh w1 _ _
  have hb2 : Below w.heap.size w (w1.alloc (.cells (bv (List.replicate Z 0)).toArray 5)) := HB.out.alloc HB.out.size _
  obtain ⟨q, hq⟩ : ∃ q, q = w1.heap.size := ⟨_, rfl⟩
  rw [← hq] at hq1
  rw [← hq]
  have HQ := Lib.hid (show w.heap.size ≤ q by have := HB.out.size; omega)
  clear q0 q1 q2 q3 hmk hq
  generalize w1.alloc (.cells (bv (List.replicate Z 0)).toArray 5) = w2 at *
  have H2 := Lib.hid (And.intro hq1 hb2)
  clear hq1 hb2 HB
  go_wp2_with fail
  go_loopw [9] (fun v wr => ∃ (j : Nat) (xs : List UInt8), j ≤ Z ∧ v = .int .i64 (j : Int) ∧ xs.length = Z ∧ Blk wr q 5 (bv xs).toArray ∧ Hid (∀ k, k < j → xs.getD k 0 = 144) ∧ Below w.heap.size w wr) (fun v _ => Z - (intOf v).toNat)
  case atStart => exact ⟨0, _, Nat.zero_le _, rfl, List.length_replicate, H2.out.1, Lib.hid (fun k h => absurd h (Nat.not_lt_zero k)), H2.out.2⟩
  case round =>
    clear H2
    obtain ⟨j, xs, hj, rfl, hxl, hB, hxs, hb⟩ := hrel
    by_cases hlt : j < Z
    · have HLT := Lib.hid hlt
      have kj : wr.cell? ⟨q, j, none⟩ = some (.int .u8 ((xs.getD j 0).toNat : Int)) := (hB.cell j).trans (arr_at xs j (by omega))
      have fj : wr.frozen? ⟨q, j, none⟩ = false := hB.free j
      have i0 : (0 : Int) ≤ (j : Int) := by omega
      have i1 : (j : Int) < (Z : Int) := by omega
      have hB2 := hB.put j (.int .u8 ((144 : UInt8).toNat : Int))
      rw [arr_set] at hB2
      have HX := Lib.hid (And.intro hxl (And.intro hB2 (hb.setCell HQ.out (p := ⟨q, j, none⟩) (.int .u8 ((144 : UInt8).toNat : Int)))))
      have HWR := Lib.hid (call_wrap (n := n) (j := j) HN.out.1 (by have := HN.out; omega)).1
      have e1 := HWR.out
      have HXS := hxs
      clear hB hB2 hb hxl hxs hlt hj
      generalize xs.getD j 0 = y at kj
      go_wp2_with fail
      go_roundw
      case rel => exact ⟨j + 1, _, HLT.out, by first | go_num | (rw [HWR.out]; go_num), by rw [List.length_set]; exact HX.out.1, HX.out.2.1, Lib.hid (fun k hk => by
        rw [List.getD_eq_getElem?_getD, List.getElem?_set]
        by_cases e : j = k
        · subst e
          rw [if_pos rfl, if_pos (by have := HX.out.1; have := HLT.out; omega)]
          rfl
        · rw [if_neg e, ← List.getD_eq_getElem?_getD]
          exact HXS.out k (by omega)), HX.out.2.2⟩
      case measure => first | exact call_meas HLT.out | (rw [HWR.out]; exact call_meas HLT.out)
    · obtain rfl : Z = j := by omega
      have hx : xs = List.replicate Z 144 := by
        refine List.ext_getElem (by rw [hxl, List.length_replicate]) fun k h1 h2 => ?_
        have := hxs.out k (by omega)
        rw [List.getD_eq_getElem?_getD, List.getElem?_eq_getElem h1] at this
        rw [List.getElem_replicate]
        exact this
      subst hx
      have HX := Lib.hid (And.intro hB hb)
      have kn : wr.cell? ⟨q, n, none⟩ = some (.int .u8 ((((List.replicate Z (144 : UInt8)).getD n 0)).toNat : Int)) := (hB.cell n).trans (arr_at _ n (by rw [List.length_replicate]; have := HN.out; omega))
      have fn : wr.frozen? ⟨q, n, none⟩ = false := hB.free n
      have n0 : (0 : Int) ≤ (n : Int) := by omega
      have n1 : (n : Int) < (Z : Int) := by have := HN.out; omega
      clear hB hb hxl hxs hlt hj
      generalize (List.replicate Z (144 : UInt8)).getD n 0 = y at kn
      go_upto_region 10 with fail
      have hB4 := HX.out.1.put n (.int .u8 ((232 : UInt8).toNat : Int))
      rw [arr_set] at hB4
      have hb4 := HX.out.2.setCell HQ.out (p := ⟨q, n, none⟩) (.int .u8 ((232 : UInt8).toNat : Int))
      rw [show (((232 : UInt8).toNat : Nat) : Int) = 232 from rfl] at hB4 hb4
      have HX4 := Lib.hid (And.intro hB4 hb4)
      clear hB4 hb4 kn fn HX
      generalize wr.setCell ⟨q, n, none⟩ (.int .u8 232) = w4 at *
      go_upto_if 36 with fail
      go_cut [] from 33 to 39 (fun wx => ∃ mk : UInt8, mkB mk = true ∧ Blk wx q 5 (bv ((List.replicate Z 144).set n mk)).toArray ∧ Below w.heap.size w wx)
      case first =>
        cases jump
        · go_wp2_with fail
          go_meet
          exact ⟨232, rfl, HX4.out⟩
        · have kn : w4.cell? ⟨q, n, none⟩ = some (.int .u8 232) := (HX4.out.1.cell n).trans ((arr_at _ n (by rw [List.length_set, List.length_replicate]; have := HN.out; omega)).trans (by
            rw [List.getD_eq_getElem?_getD, List.getElem?_set_self (by rw [List.length_replicate]; have := HN.out; omega)]
            rfl))
          have fn : w4.frozen? ⟨q, n, none⟩ = false := HX4.out.1.free n
          go_wp2_with fail
          go_meet
          have hB5 := HX4.out.1.put n (.int .u8 ((233 : UInt8).toNat : Int))
          rw [arr_set, List.set_set] at hB5
          exact ⟨233, rfl, hB5, HX4.out.2.setCell HQ.out (p := ⟨q, n, none⟩) _⟩
      case rest =>
        obtain ⟨mk, hmk, hB5, hb5⟩ := hcut
        have HX5 := Lib.hid (And.intro hmk (And.intro hB5 hb5))
        clear hmk hB5 hb5 HX4
        obtain ⟨M0, hM0⟩ : ∃ M0 : Nat, M0 = tg % 33554432 := ⟨_, rfl⟩
        have e5 : (tg : Int) % 33554432 = (M0 : Int) := by omega
        have e5' : (tg : Int).tmod 33554432 = (M0 : Int) := by rw [Int.tmod_eq_emod_of_nonneg (by omega)]; omega
        have HM0 := Lib.hid hM0
        clear hM0
        have HS := Lib.hid (And.intro (sxN_sxt tg) (sxN_mod tg))
        go_upto_if 43 with fail
        go_cut [10] from 42 to 45 (fun v wx => v = .int .u32 (sxN tg : Int) ∧ wc = wx)
        case first =>
          by_cases hM : M0 < 16777216
          · have g1 : decide ((16777216 : Int) ≤ (M0 : Int)) = false := decide_eq_false (by omega)
            have HH := Lib.hid (show sxN tg = M0 by unfold sxN; rw [← HM0.out, if_pos hM])
            rw [g1]
            clear hM e5 e5' g1
            go_wp2_with fail
            go_meet
            exact ⟨by rw [HH.out], rfl⟩
          · have g1 : decide ((16777216 : Int) ≤ (M0 : Int)) = true := decide_eq_true (by omega)
            have HH := Lib.hid (show sxN tg = M0 + 4261412864 by unfold sxN; rw [← HM0.out, if_neg hM])
            have HOR := Lib.hid (call_or (M := M0) (by have := HM0.out; omega))
            rw [g1]
            clear hM e5 e5' g1
            go_wp2_with fail
            go_meet
            exact ⟨by rw [HH.out, ← HOR.out], rfl⟩
        case rest =>
          obtain ⟨rfl, rfl⟩ := hcut
          clear e5 e5'
          go_wp2_with fail
          go_loopw [11] (fun v wr => ∃ (j : Nat) (xs : List UInt8), j ≤ 4 ∧ v = .int .i64 (j : Int) ∧ xs.length = Z ∧ Blk wr q 5 (bv xs).toArray ∧ Hid (∀ k, xs.getD k 0 = if n + 1 ≤ k ∧ k < n + 1 + j then (pu4 (sxN tg)).getD (k - n - 1) 0 else ((List.replicate Z (144 : UInt8)).set n mk).getD k 0) ∧ Below w.heap.size w wr) (fun v _ => 4 - (intOf v).toNat)
          case atStart => exact ⟨0, _, Nat.zero_le _, rfl, by rw [List.length_set, List.length_replicate], HX5.out.2.1, Lib.hid (fun k => by rw [if_neg (by omega)]), HX5.out.2.2⟩
          case round =>
            obtain ⟨j, xs, hj, rfl, hxl, hB, hxs, hb⟩ := hrel
            have hjc : j = 0 ∨ j = 1 ∨ j = 2 ∨ j = 3 ∨ j = 4 := by omega
            clear hj
            rcases hjc with rfl | rfl | rfl | rfl | rfl
            · have kx : wr.cell? ⟨q, n + 1 + 0, none⟩ = some (.int .u8 ((xs.getD (n + 1 + 0) 0).toNat : Int)) := (hB.cell _).trans (arr_at xs _ (by have := HN.out; omega))
              have fx : wr.frozen? ⟨q, n + 1 + 0, none⟩ = false := hB.free _
              have hB6 := hB.put (n + 1 + 0) (.int .u8 (((pu4 (sxN tg)).getD 0 0).toNat : Int))
              rw [arr_set] at hB6
              have hb6 := hb.setCell HQ.out (p := ⟨q, n + 1 + 0, none⟩) (.int .u8 (((pu4 (sxN tg)).getD 0 0).toNat : Int))
              have hl6 := laid_next (x := (pu4 (sxN tg)).getD 0 0) (by decide) HN.out.2.1 hxl rfl hxs.out
              rw [← (sxI HS.out.1).1] at hB6 hb6
              have HX6 := Lib.hid (And.intro (by rw [List.length_set]; exact hxl : (xs.set (n + 1 + 0) ((pu4 (sxN tg)).getD 0 0)).length = Z) (And.intro hB6 (And.intro hb6 hl6)))
              have HWW := Lib.hid (call_wrap (n := n) (j := 0) HN.out.1 (by omega))
              have p1 := HWW.out.2.2.1
              have p2 := HWW.out.2.2.2.2
              have i0 : (0 : Int) ≤ (n : Int) + 1 + 0 := by omega
              have i1 : (n : Int) + 1 + 0 < (Z : Int) := by have := HN.out; omega
              generalize xs.getD (n + 1 + 0) 0 = y at kx
              have hsl := sxt_lt HS.out.1
              generalize sxN tg = S at *
              clear hB hb hxl hB6 hb6 hl6
              go_wp2_with fail
              go_roundw
              case rel => exact ⟨1, _, by decide, rfl, HX6.out.1, HX6.out.2.1, Lib.hid HX6.out.2.2.2, HX6.out.2.2.1⟩
              case measure => decide
            · obtain ⟨P, hP⟩ : ∃ P, P = n + 1 + 1 := ⟨_, rfl⟩
              have kx : wr.cell? ⟨q, P, none⟩ = some (.int .u8 ((xs.getD P 0).toNat : Int)) := (hB.cell _).trans (arr_at xs _ (by have := HN.out; omega))
              have fx : wr.frozen? ⟨q, P, none⟩ = false := hB.free _
              have hB6 := hB.put P (.int .u8 (((pu4 (sxN tg)).getD 1 0).toNat : Int))
              rw [arr_set] at hB6
              have hb6 := hb.setCell HQ.out (p := ⟨q, P, none⟩) (.int .u8 (((pu4 (sxN tg)).getD 1 0).toNat : Int))
              have hl6 := laid_next (x := (pu4 (sxN tg)).getD 1 0) (by decide) HN.out.2.1 hxl rfl hxs.out
              rw [← hP] at hl6
              rw [← (sxI HS.out.1).2.1] at hB6 hb6
              have HX6 := Lib.hid (And.intro (by rw [List.length_set]; exact hxl : (xs.set P ((pu4 (sxN tg)).getD 1 0)).length = Z) (And.intro hB6 (And.intro hb6 hl6)))
              have HWW := Lib.hid (call_wrap (n := n) (j := 1) HN.out.1 (by omega))
              have i0 : (0 : Int) ≤ (P : Int) := by omega
              have i1 : (P : Int) < (Z : Int) := by have := HN.out; omega
              have p1 := HWW.out.2.2.1
              have p2 : wrap64 ((n : Int) + 1 + 1) = (P : Int) := by rw [hP]; exact HWW.out.2.2.2.2
              generalize xs.getD P 0 = y at kx
              have hsl := sxt_lt HS.out.1
              generalize sxN tg = S at *
              have HP := Lib.hid hP
              clear hB hb hxl hB6 hb6 hl6 hP
              go_wp2_with fail
              go_roundw
              case rel => exact ⟨2, _, by decide, rfl, HX6.out.1, HX6.out.2.1, Lib.hid HX6.out.2.2.2, HX6.out.2.2.1⟩
              case measure => decide
            · obtain ⟨P, hP⟩ : ∃ P, P = n + 1 + 2 := ⟨_, rfl⟩
              have kx : wr.cell? ⟨q, P, none⟩ = some (.int .u8 ((xs.getD P 0).toNat : Int)) := (hB.cell _).trans (arr_at xs _ (by have := HN.out; omega))
              have fx : wr.frozen? ⟨q, P, none⟩ = false := hB.free _
              have hB6 := hB.put P (.int .u8 (((pu4 (sxN tg)).getD 2 0).toNat : Int))
              rw [arr_set] at hB6
              have hb6 := hb.setCell HQ.out (p := ⟨q, P, none⟩) (.int .u8 (((pu4 (sxN tg)).getD 2 0).toNat : Int))
              have hl6 := laid_next (x := (pu4 (sxN tg)).getD 2 0) (by decide) HN.out.2.1 hxl rfl hxs.out
              rw [← hP] at hl6
              rw [← (sxI HS.out.1).2.2.1] at hB6 hb6
              have HX6 := Lib.hid (And.intro (by rw [List.length_set]; exact hxl : (xs.set P ((pu4 (sxN tg)).getD 2 0)).length = Z) (And.intro hB6 (And.intro hb6 hl6)))
              have HWW := Lib.hid (call_wrap (n := n) (j := 2) HN.out.1 (by omega))
              have i0 : (0 : Int) ≤ (P : Int) := by omega
              have i1 : (P : Int) < (Z : Int) := by have := HN.out; omega
              have p1 := HWW.out.2.2.1
              have p2 : wrap64 ((n : Int) + 1 + 2) = (P : Int) := by rw [hP]; exact HWW.out.2.2.2.2
              generalize xs.getD P 0 = y at kx
              have hsl := sxt_lt HS.out.1
              generalize sxN tg = S at *
              have HP := Lib.hid hP
              clear hB hb hxl hB6 hb6 hl6 hP
              go_wp2_with fail
              go_roundw
              case rel => exact ⟨3, _, by decide, rfl, HX6.out.1, HX6.out.2.1, Lib.hid HX6.out.2.2.2, HX6.out.2.2.1⟩
              case measure => decide
            · obtain ⟨P, hP⟩ : ∃ P, P = n + 1 + 3 := ⟨_, rfl⟩
              have kx : wr.cell? ⟨q, P, none⟩ = some (.int .u8 ((xs.getD P 0).toNat : Int)) := (hB.cell _).trans (arr_at xs _ (by have := HN.out; omega))
              have fx : wr.frozen? ⟨q, P, none⟩ = false := hB.free _
              have hB6 := hB.put P (.int .u8 (((pu4 (sxN tg)).getD 3 0).toNat : Int))
              rw [arr_set] at hB6
              have hb6 := hb.setCell HQ.out (p := ⟨q, P, none⟩) (.int .u8 (((pu4 (sxN tg)).getD 3 0).toNat : Int))
              have hl6 := laid_next (x := (pu4 (sxN tg)).getD 3 0) (by decide) HN.out.2.1 hxl rfl hxs.out
              rw [← hP] at hl6
              rw [← (sxI HS.out.1).2.2.2] at hB6 hb6
              have HX6 := Lib.hid (And.intro (by rw [List.length_set]; exact hxl : (xs.set P ((pu4 (sxN tg)).getD 3 0)).length = Z) (And.intro hB6 (And.intro hb6 hl6)))
              have HWW := Lib.hid (call_wrap (n := n) (j := 3) HN.out.1 (by omega))
              have i0 : (0 : Int) ≤ (P : Int) := by omega
              have i1 : (P : Int) < (Z : Int) := by have := HN.out; omega
              have p1 := HWW.out.2.2.1
              have p2 : wrap64 ((n : Int) + 1 + 3) = (P : Int) := by rw [hP]; exact HWW.out.2.2.2.2
              generalize xs.getD P 0 = y at kx
              have hsl := sxt_lt HS.out.1
              generalize sxN tg = S at *
              have HP := Lib.hid hP
              clear hB hb hxl hB6 hb6 hl6 hP
              go_wp2_with fail
              go_roundw
              case rel => exact ⟨4, _, by decide, rfl, HX6.out.1, HX6.out.2.1, Lib.hid HX6.out.2.2.2, HX6.out.2.2.1⟩
              case measure => decide
            · obtain rfl := call_laid HN.out.2.1 hxl hxs.out
              have HXB := Lib.hid (And.intro hB hb)
              have hS : Sl wr (some ⟨q, 0, none⟩) Z (bv (callB n mk (sxN tg))) := ⟨by rw [bv_length, callB_len, HN.out.2.1], fun _ => ⟨q, 0, rfl, hB.lt, fun k hk => by rw [Nat.zero_add, hB.cell k, List.getElem?_toArray]⟩⟩
              have KC := Lib.hid (bCode_any (cp := Z) hS (by have := HN.out; omega) (HT.out.below hb))
              have HSL := Lib.hid hS
              clear hB hb hxl hxs hS
              go_wp2_with fail
              refine KC.out.mono ?_
              rintro e w7 ⟨qx, rfl, h7, hq7, b7⟩
              have HSL := Lib.hid (HSL.out.below b7)
              have HB7 := Lib.hid (HXB.out.2.trans (b7.mono HXB.out.2.size))
              obtain ⟨T0, hT0⟩ : ∃ T0 : Nat, T0 = (sxN tg + n + 5) % 33554432 := ⟨_, rfl⟩
              rw [call_coded HX5.out.1 HS.out.1 (T := sxN T0) (by rw [sxN_mod, hT0, Nat.mod_mod])] at h7
              have H7 := Lib.hid h7
              have HBK := Lib.hid (show gN false 0 0 (callB n mk (sxN T0)) = callB n mk (sxN tg) by rw [← call_coded HX5.out.1 HS.out.1 (T := sxN T0) (by rw [sxN_mod, hT0, Nat.mod_mod])]; exact gN_back _ _ _ _ rfl (by decide))
              have HST := Lib.hid (sxN_sxt T0)
              have HT0 := Lib.hid hT0
              have hsl := sxt_lt HS.out.1
              have HSL32 := Lib.hid hsl
              clear h7 hq7 b7 KC hT0 hsl
              generalize sxN tg = S at *
              obtain ⟨a1, a2, ha⟩ := call_sum HT0.out HN.out.1
              have HA := Lib.hid ha
              clear ha
              have v0 := HA.out.1
              have v1 := HA.out.2.1
              have v2 := HA.out.2.2.1
              have v3 := HA.out.2.2.2.1
              have v4 := HA.out.2.2.2.2
              go_upto_if 71 with fail
              clear v0 v1 v2 v3 v4
              go_cut [13] from 70 to 73 (fun v wx => v = .int .u32 (sxN T0 : Int) ∧ w7 = wx)
              case first =>
                by_cases hM : T0 < 16777216
                · have g1 : decide ((16777216 : Int) ≤ (T0 : Int)) = false := decide_eq_false (by omega)
                  have HH := Lib.hid (show sxN T0 = T0 by unfold sxN; rw [Nat.mod_eq_of_lt (by omega), if_pos hM])
                  rw [g1]
                  clear hM g1
                  go_wp2_with fail
                  go_meet
                  exact ⟨by rw [HH.out], rfl⟩
                · have g1 : decide ((16777216 : Int) ≤ (T0 : Int)) = true := decide_eq_true (by omega)
                  have hlt : T0 < 33554432 := by rw [HT0.out]; exact Nat.mod_lt _ (by decide)
                  have HH := Lib.hid (show sxN T0 = T0 + 4261412864 by unfold sxN; rw [Nat.mod_eq_of_lt hlt, if_neg hM])
                  have HOR := Lib.hid (call_or hlt)
                  rw [g1]
                  clear hM g1 hlt
                  go_wp2_with fail
                  go_meet
                  exact ⟨by rw [HH.out, ← HOR.out], rfl⟩
              case rest =>
                obtain ⟨rfl, rfl⟩ := hcut
                generalize sxN T0 = T at *
                go_wp2_with fail
                go_loop [14] (fun v => ∃ j : Nat, j ≤ Z ∧ v = .int .i64 (j : Int)) (fun v => Z - (intOf v).toNat)
                case atStart => exact ⟨0, Nat.zero_le _, rfl⟩
                case round =>
                  obtain ⟨j, hj, rfl⟩ := hrel
                  by_cases hlt : j < Z
                  · have kb : w7.cell? ⟨q, j, none⟩ = some (.int .u8 (((callB n mk S).getD j 0).toNat : Int)) := call_cell HSL.out hlt
                    have kx : w7.cell? ⟨qx, j, none⟩ = some (.int .u8 (((callB n mk T).getD j 0).toNat : Int)) := call_cell H7.out hlt
                    have i0 : (0 : Int) ≤ (j : Int) := by omega
                    have i1 : (j : Int) < (Z : Int) := by omega
                    have HLT := Lib.hid hlt
                    have HWR := Lib.hid (call_wrap (n := n) (j := j) HN.out.1 (by have := HN.out; omega))
                    clear hlt hj
                    by_cases hw : n + 1 ≤ j ∧ j < n + 5
                    · as_aux_lemma =>
                      have g1 : (n : Int) < (j : Int) := by omega
                      have g2 : (j : Int) < (n : Int) + 5 := by omega
                      rw [call_get j, if_pos hw, ← call_shift HST.out hw] at kx
                      generalize (callB n mk S).getD j 0 = y at kb
                      have hvv := fun (v : Int) => (show (v != v) = false by simp)
                      have vv := hvv ((T : Int) / 2 ^ (8 * (j - n - 1)) % 256)
                      have hsl := sxt_lt HST.out
                      clear hw hvv
                      have p1 := HWR.out.2.2.2.1
                      go_wp2_with fail
                      go_round
                      case rel => exact ⟨j + 1, HLT.out, by first | go_num | (rw [HWR.out.1]; go_num)⟩
                      case measure => first | exact call_meas HLT.out | (rw [HWR.out.1]; exact call_meas HLT.out)
                    · as_aux_lemma =>
                      rw [call_same (S := S) hw] at kx
                      generalize (callB n mk S).getD j 0 = y at kb kx
                      have vv : ((y.toNat : Int) != (y.toNat : Int)) = false := by simp
                      by_cases hjn : n < j
                      · have g1 : (n : Int) < (j : Int) := by omega
                        have g2 : ¬ (j : Int) < (n : Int) + 5 := by omega
                        clear hw hjn
                        have p1 := HWR.out.2.2.2.1
                        go_wp2_with fail
                        go_round
                        case rel => exact ⟨j + 1, HLT.out, by first | go_num | (rw [HWR.out.1]; go_num)⟩
                        case measure => first | exact call_meas HLT.out | (rw [HWR.out.1]; exact call_meas HLT.out)
                      · have g1 : ¬ (n : Int) < (j : Int) := by omega
                        clear hw hjn
                        have p1 := HWR.out.2.2.2.1
                        go_wp2_with fail
                        go_round
                        case rel => exact ⟨j + 1, HLT.out, by first | go_num | (rw [HWR.out.1]; go_num)⟩
                        case measure => first | exact call_meas HLT.out | (rw [HWR.out.1]; exact call_meas HLT.out)
                  · obtain rfl : Z = j := by omega
                    have KD := Lib.hid (fun W (hb : Below w7.heap.size w7 W) => bDecode_any (cp := Z) (H7.out.below hb) (by have := HN.out; omega) (HT.out.below (HB7.out.trans (hb.mono HB7.out.size))))
                    clear hlt hj
                    go_wp2_with fail
                    refine wp_region_held_drew (S := fun w' => (convert 22 9 (.slice (some ⟨q, 0, none⟩) Z Z)).run Tryd.prog w' = .ok (.string ⟨(callB n mk S).toArray⟩) w') (by kernel_rfl) (call_conv HSL.out (by have := HN.out; omega)) (fun hHeld => ?_)
                    refine wpAnyH_take (i := 0) (v := ?_) rfl (by kernel_rfl) (by kernel_rfl) (by kernel_rfl) (fun _ _ _ h => h) (Or.inl ⟨by rfl, ?_⟩) (by assumption) ?_
                    rotate_left
                    · (intro w hSw; (try dsimp only at hSw); go_simp; try with_reducible rfl)
                    try simp only [Act.put, List.setIfInBounds_toArray, List.set_cons_zero, List.set_cons_succ, List.getElem_toArray, List.getElem_cons_zero, List.getElem_cons_succ]
                    refine wpAnyH_take (i := 3) (v := ?_) rfl (by kernel_rfl) (by kernel_rfl) (by kernel_rfl) (fun _ _ _ h => h) (Or.inl ⟨by rfl, ?_⟩) (by assumption) ?_
                    rotate_left
                    · (intro w hSw; (try dsimp only at hSw); go_simp; try with_reducible rfl)
                    try simp only [Act.put, List.setIfInBounds_toArray, List.set_cons_zero, List.set_cons_succ, List.getElem_toArray, List.getElem_cons_zero, List.getElem_cons_succ]
                    refine wpAnyH_take (i := 4) (v := ?_) rfl (by kernel_rfl) (by kernel_rfl) (by kernel_rfl) (fun _ _ _ h => h) (Or.inl ⟨by rfl, ?_⟩) (by assumption) ?_
                    rotate_left
                    · (intro w hSw; (try dsimp only at hSw); go_simp; try with_reducible rfl)
                    try simp only [Act.put, List.setIfInBounds_toArray, List.set_cons_zero, List.set_cons_succ, List.getElem_toArray, List.getElem_cons_zero, List.getElem_cons_succ]
                    refine wpAnyH_ready (rs := [1]) (by kernel_rfl) (by simp) (AllReadyH.cons (i := 1) rfl (fun K hK => ?_) AllReadyH.nil)
                    try simp only [List.getElem_toArray, List.getElem_cons_zero, List.getElem_cons_succ]
                    go_simp
                    go_at_call 10
                    refine (KD.out _ ((Below.refl w7.heap.size w7).drew)).mono ?_
                    rintro e w9 ⟨qy, rfl, h9, hq9, b9⟩
                    have HB9 := Lib.hid (show Below w7.heap.size w7 w9 from ((Below.refl w7.heap.size w7).drew).trans b9)
                    rw [HBK.out] at h9
                    have HC9 := Lib.hid h9
                    refine hK.out _ _ (call_conv (HSL.out.below HB9.out) (by have := HN.out; omega)) (fun hHeld => ?_)
                    clear hK K
                    try simp only [Act.put, List.setIfInBounds_toArray, List.set_cons_zero, List.set_cons_succ]
                    refine wpAnyH_strong (S' := fun w' => (convert 22 9 (.slice (some ⟨q, 0, none⟩) Z Z)).run Tryd.prog w' = .ok (.string ⟨(callB n mk S).toArray⟩) w' ∧ (convert 22 9 (.slice (some ⟨qy, 0, none⟩) Z Z)).run Tryd.prog w' = .ok (.string ⟨(callB n mk S).toArray⟩) w') (fun _ h => h.1) _ _ _ _ ?_
                    have hHeld : (fun w' : World => (convert 22 9 (.slice (some ⟨q, 0, none⟩) Z Z)).run Tryd.prog w' = .ok (.string ⟨(callB n mk S).toArray⟩) w' ∧ (convert 22 9 (.slice (some ⟨qy, 0, none⟩) Z Z)).run Tryd.prog w' = .ok (.string ⟨(callB n mk S).toArray⟩) w') w9 := ⟨call_conv (HSL.out.below HB9.out) (by have := HN.out; omega), call_conv HC9.out (by have := HN.out; omega)⟩
                    refine wpAnyH_take (i := 2) (v := ?_) rfl (by kernel_rfl) (by kernel_rfl) (by kernel_rfl) (fun _ _ _ h => h) (Or.inl ⟨by rfl, ?_⟩) (by assumption) ?_
                    rotate_left
                    · (intro w hSw; (try dsimp only at hSw); go_simp; try with_reducible rfl)
                    try simp only [Act.put, List.setIfInBounds_toArray, List.set_cons_zero, List.set_cons_succ, List.getElem_toArray, List.getElem_cons_zero, List.getElem_cons_succ]
                    refine wpAnyH_take (i := 5) (v := ?_) rfl (by kernel_rfl) (by kernel_rfl) (by kernel_rfl) (fun _ _ _ h => h) (Or.inl ⟨by rfl, ?_⟩) (by assumption) ?_
                    rotate_left
                    · (intro w hSw; (try dsimp only at hSw); go_simp; try with_reducible rfl)
                    try simp only [Act.put, List.setIfInBounds_toArray, List.set_cons_zero, List.set_cons_succ, List.getElem_toArray, List.getElem_cons_zero, List.getElem_cons_succ]
                    refine wpAnyH_take (i := 6) (v := ?_) rfl (by kernel_rfl) (by kernel_rfl) (by kernel_rfl) (fun _ _ _ h => h) (Or.inl ⟨by rfl, ?_⟩) (by assumption) ?_
                    rotate_left
                    · (intro w hSw; (try dsimp only at hSw); go_simp; try with_reducible rfl)
                    try simp only [Act.put, List.setIfInBounds_toArray, List.set_cons_zero, List.set_cons_succ, List.getElem_toArray, List.getElem_cons_zero, List.getElem_cons_succ]
                    refine wpAnyH_done (by kernel_rfl) ?_ _
                    go_wp2_with fail
                    go_ret
                    exact ⟨rfl, HB7.out.trans (HB9.out.mono HB7.out.size)⟩
end Go.Proofs.YtcolnmjginpalaaDoor
