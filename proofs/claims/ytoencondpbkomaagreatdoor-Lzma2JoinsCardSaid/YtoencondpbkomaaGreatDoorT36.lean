/-
  ZqJoiW: put together.
-/
import Derived.Test.YtoencondpbkomaaGreatDoorT34
import Derived.Test.YtoencondpbkomaaGreatDoorT35
set_option linter.unusedVariables false
set_option linter.unusedSimpArgs false
/-
  The law Lzma2Joins, walked.
-/
namespace Go.Proofs.YtoencondpbkomaaGreatDoor
open Go.RowKit
set_option linter.unusedVariables false

section
variable {P : Program}
/-- an append behind a guard that is met -/
theorem wpList_gapp {ops : Array Oper} {rest : List Oper} {o : Oper} {a : Act} {w : World} {Q : Exit → Act → World → Prop} (hgd : Region.wanted o (yielded ops a.tmps) = true) (s x : Operand) (t : TypeId)
    (ho : o.op = .call { callee := .builtin .append, args := #[s, x], argTypes := #[t, t] })
    (base : Nat) (e : TypeId) (i : TypeInfo) (z : Value) (bytes : Nat) (ht : P.underlying t = some (.slice e)) (hi : P.info? e = some i) (hz : i.zero = some z)
    (hsize : i.size = 1) (hby : i.bytes = bytes) (hzs : z.cells.size = 1)
    (v : Value) (n : Nat) (xs : List Value) (hs : a.eval s = v) (hown : w.ownsRow base e 1 v n xs)
    (A : Option Addr) (m c : Nat) (news : List Value) (hx : a.eval x = .slice A m c) (hr : Sl w A m news) (h1 : ∀ u ∈ news, u.oneCell' = true)
    (hbytes : (n + m) * bytes ≤ 140737488355328) (hb0 : 0 < bytes) (hbase : base ≤ w.heap.size)
    (h : ∀ A' c' w', w'.ownsRow base e 1 (.slice A' (n + m) c') (n + m) (xs ++ news) → w.grownBy w' v.ownBlock → wpList P ops Q rest (a.put o.dst (.slice A' (n + m) c')) w') : wpList P ops Q (o :: rest) a w :=
  wpList_step fun K hK => by
    rw [if_pos hgd]
    obtain ⟨v', w', hrun, h2, h3, _⟩ := run_app (P := P) w base t o.type e i z bytes ht hi hz hsize hby hzs v n xs hown A m c news hr h1 hbytes hb0 hbase
    obtain ⟨A', c', rfl, h2⟩ := own_form h2
    unfold Oper.wp execOp
    simp only [ho, resolve, invoke, builtin, Sem.run_bind, Sem.run_pure, Result.andThen_ok, List.map_toArray, List.map_cons, List.map_nil, hs, hx, hrun]
    exact hK _ _ (h A' c' w' h2 h3)
end
theorem unp_full {A : Option Addr} {n c L0 p m : Nat} {bs : List UInt8} {w W : World} {size : Int} (hL0 : L0 = 1847 + 768 * 2 ^ (4 + 0)) (hT : TabQ w) (hS : Sl w A n (bv bs)) (hO : Only (fun _ => False) w W) (hm : w.heap.size ≤ m) (hM : MeterAt W 83 m muchQ Tel.zero) (hn : n ≤ 10000000) (hp : p ≤ 40) (h1 : size ≤ 100000) (h0 : -9223372036854775808 ≤ size) :
    Calls Tryz.prog 9 #[.slice A n c, .int .u8 (p : Int), .int .i64 size, .pointer (some ⟨m, 0, none⟩)] W fun e w' => ∃ R cl, e = .returned (.tuple #[.slice R (((rs0 L0 (dictN p) bs).tells size.toNat).getD []).length cl, .int .i64 (codeU ((rs0 L0 (dictN p) bs).tells size.toNat))]) ∧
      Sl w' R (((rs0 L0 (dictN p) bs).tells size.toNat).getD []).length (bv (((rs0 L0 (dictN p) bs).tells size.toNat).getD [])) ∧ Only (fun _ => False) w w' ∧ Only (fun i => i = m) W w' := by
  have hnb : n = bs.length := by rw [← bv_length]; exact hS.1.symm
  have hSW : Sl W A n (bv bs) := hS.only hO (fun _ _ _ _ h => h)
  have hTW : TabQ W := hT.only hO (fun e => e)
  have hpos := hT.pos
  refine (zunp_ok (c := c) (size := size) hnb hSW (fun h q o e => ?_) hn hM hp h1 h0 hL0 (by omega) hTW).mono ?_
  · obtain ⟨b', o', e', hlt, _⟩ := hS.2 h
    rw [e] at e'
    injection e' with e'
    injection e' with e1 e2
    omega
  · rintro e w' ⟨_, hO2, A2, c2, rfl, hS2⟩
    exact ⟨A2, c2, rfl, hS2, hO.trans' hO2 (fun i hi => .inr (by have hi : i = m := hi; omega)), hO2⟩
theorem joi_nums {a n : Nat} (ha : a < 65536) (hn : n = a % 2500) : wrap64 (a : Int) = (a : Int) ∧ (a : Int).tmod 2500 = (n : Int) ∧ (a : Int) % 2500 = (n : Int) := by
  refine ⟨IntWalk.wrap64_in _ (by omega), ?_, by omega⟩
  rw [Int.tmod_eq_emod_of_nonneg (by omega)]
  omega
theorem joi_sum {n k : Nat} (hn : n < 2500) (hk : k < 2500) : wrap64 ((n : Int) + (k : Int)) = ((n + k : Nat) : Int) := by rw [IntWalk.wrap64_in _ (by omega)]; omega
theorem joi_less {n : Nat} (hn : 1 ≤ n) (h2 : n ≤ 4096) : wrap64 ((n : Int) - 1) = ((n - 1 : Nat) : Int) := by rw [IntWalk.wrap64_in _ (by omega)]; omega
theorem sl_head {w : World} {A : Option Addr} {n : Nat} {a0 r : List UInt8} (h : Sl w A n (bv (a0 ++ r))) {k : Nat} (hk : k = a0.length) : Sl w A k (bv a0) := by
  subst hk
  have hl : (a0 ++ r).length = n := by rw [← bv_length]; exact h.1
  rw [List.length_append] at hl
  refine ⟨bv_length _, fun h0 => ?_⟩
  obtain ⟨b, o, e, hlt, hc⟩ := h.2 (by omega)
  refine ⟨b, o, e, hlt, fun j hj => ?_⟩
  rw [hc j (by omega), bv_append, List.getElem?_append_left (by rw [bv_length]; exact hj)]

theorem telN_len : ∀ (f : Nat) (q : Rs) (n : Nat) (x : List UInt8), telN f q n = some x → x.length = n
  | 0, _, _, _, h => by cases h
  | f + 1, q, n, x, h => by
    unfold telN at h
    split at h
    · split at h
      · rename_i hn
        injection h with h
        rw [← h, hn]
        rfl
      · cases h
    · cases hc : chunkN q with
      | none => rw [hc] at h; cases h
      | some p =>
        obtain ⟨xs, q'⟩ := p
        rw [hc] at h
        have h : (if xs.length ≤ n then (telN f q' (n - xs.length)).map (xs ++ ·) else none) = some x := h
        split at h
        · cases h2 : telN f q' (n - xs.length) with
          | none => rw [h2] at h; cases h
          | some u =>
            rw [h2] at h
            have h : some (xs ++ u) = some x := h
            injection h with h
            have := telN_len f q' _ u h2
            rw [← h, List.length_append]
            omega
        · cases h
theorem tells_len {q : Rs} {n : Nat} {x : List UInt8} (h : q.tells n = some x) : x.length = n := telN_len _ q n x h

set_option maxRecDepth 100000 in
set_option maxHeartbeats 16000000 in
theorem lzma2Joins_walk {A A2 : Option Addr} {na ca nb cb s0 s1 : Nat} {xa bs : List UInt8} {w : World} (hS : Sl w A na (bv xa)) (hnc : na ≤ ca) (hS2 : Sl w A2 nb (bv bs)) (h0 : s0 < 65536) (h1 : s1 < 65536) (hT : TabQ w) :
    Calls Tryz.prog 4 #[.slice A na ca, .slice A2 nb cb, .agg #[.int .u16 (s0 : Int), .int .u16 (s1 : Int)]] w fun e w' => e = .returned (.bool true) ∧ Below w.heap.size w w' := by
  obtain ⟨i, hi, hz0, hz1, hz2⟩ := info_parts info_u8
  obtain ⟨L0, hL0⟩ : ∃ L0, L0 = 1847 + 768 * 2 ^ (4 + 0) := ⟨_, rfl⟩
  obtain ⟨n, hn⟩ : ∃ n, n = s0 % 2500 := ⟨_, rfl⟩
  obtain ⟨k, hk⟩ : ∃ k, k = s1 % 2500 := ⟨_, rfl⟩
  obtain ⟨w1, hw1⟩ : ∃ w1, w1 = w.alloc (.cells #[.int .u16 (s0 : Int), .int .u16 (s1 : Int)] 36) := ⟨_, rfl⟩
  obtain ⟨B, hB⟩ : ∃ B, B = w.heap.size := ⟨_, rfl⟩
  have hO1 : Only (fun _ => False) w w1 := by rw [hw1]; exact (Only.refl _ _).alloc _
  have hk1 : Blk w1 B 36 #[.int .u16 (s0 : Int), .int .u16 (s1 : Int)] := by rw [hw1, hB]; exact Blk.fresh w _ _
  have KA := Lib.hid (awake11_any (hT.only hO1 (fun e => e)))
  have HW1 := Lib.hid (And.intro hw1 hB)
  have HI := Lib.hid (And.intro hS (And.intro hS2 (And.intro hL0 (And.intro hT hnc))))
  have H1 := Lib.hid (And.intro hO1 hk1)
  have HA := Lib.hid (joi_nums h0 hn)
  have HB := Lib.hid (joi_nums h1 hk)
  have HNK := Lib.hid (show n < 2500 ∧ k < 2500 from ⟨by omega, by omega⟩)
  clear hL0 hn hk hw1 hB hO1 hk1 hS hS2 hnc h0 h1 hT
  go_enter Tryz.func4, Tryz.ntmps4
  go_upto_region 1 with fail
  rw [← HW1.out.1, ← HW1.out.2]
  clear HW1
  go_wp2_with fail
  refine KA.out.mono ?_
  rintro e w2 ⟨rfl, hb2⟩
  have hk2 := H1.out.2.below hb2
  have d0 : w2.cell? ⟨B, 0, none⟩ = some (.int .u16 (s0 : Int)) := hk2.cell 0
  have d1 : w2.cell? ⟨B, 1, none⟩ = some (.int .u16 (s1 : Int)) := hk2.cell 1
  have HO2 := Lib.hid (show Only (fun _ => False) w w2 from H1.out.1.then hb2)
  obtain ⟨a0, a1, a2⟩ := HA.out
  obtain ⟨b0, b1, b2⟩ := HB.out
  clear hb2 hk2 KA H1
  by_cases hbig : na > 4096
  · have g1 : (na : Int) > 4096 := by omega
    clear hbig
    go_wp2_with fail
    go_ret
    exact ⟨rfl, below_of HO2.out⟩
  have g1 : ¬ (na : Int) > 4096 := by omega
  by_cases hbig2 : nb > 4096
  · have g2 : (nb : Int) > 4096 := by omega
    clear hbig hbig2
    go_wp2_with fail
    go_ret
    exact ⟨rfl, below_of HO2.out⟩
  have g2 : ¬ (nb : Int) > 4096 := by omega
  have HNN := Lib.hid (show na ≤ 4096 ∧ nb ≤ 4096 from ⟨by omega, by omega⟩)
  clear hbig hbig2
  go_wp2_with fail
  refine (much_any _).mono ?_
  rintro e w3 ⟨gm, rfl, hM, hg, hb⟩
  have KU := unp_full (c := ca) (size := (n : Int)) (p := 4) HI.out.2.2.1 HI.out.2.2.2.1 HI.out.1 (HO2.out.then hb) (Nat.le_trans HO2.out.size hg) hM (by have := HNN.out; omega) (by decide) (by have := HNK.out; omega) (by omega)
  rw [Int.toNat_natCast] at KU
  obtain ⟨o1, ho1⟩ : ∃ o, o = (rs0 L0 (dictN 4) xa).tells n := ⟨_, rfl⟩
  rw [← ho1] at KU
  have KU := Lib.hid (show Calls Tryz.prog 9 #[.slice A na ca, .int .u8 4, .int .i64 (n : Int), .pointer (some ⟨gm, 0, none⟩)] w3 _ from KU)
  have HC1 := Lib.hid ho1
  clear hM hg hb a0 a1 a2 b0 b1 b2 d0 d1 g1 g2 ho1
  go_wp2_with fail
  refine KU.out.mono ?_
  rintro e w4 ⟨R4, c4, rfl, hS4, hO4, _⟩
  have HO4 := Lib.hid (And.intro hO4 hS4)
  clear hO4 hS4 KU
  generalize hcd1 : codeU o1 = e1 at *
  have HE1 := Lib.hid hcd1
  clear hcd1
  go_wp2_with fail
  refine (much_any _).mono ?_
  rintro e w5 ⟨gm2, rfl, hM, hg, hb⟩
  have KU := unp_full (c := cb) (size := (k : Int)) (p := 4) HI.out.2.2.1 HI.out.2.2.2.1 HI.out.2.1 (HO4.out.1.then hb) (Nat.le_trans HO4.out.1.size hg) hM (by have := HNN.out; omega) (by decide) (by have := HNK.out; omega) (by omega)
  rw [Int.toNat_natCast] at KU
  obtain ⟨o2, ho2⟩ : ∃ o, o = (rs0 L0 (dictN 4) bs).tells k := ⟨_, rfl⟩
  rw [← ho2] at KU
  have HC2 := Lib.hid ho2
  have HS5 := Lib.hid (And.intro (HO4.out.2.below hb) (show ∀ (q o : Nat), 0 < (o1.getD []).length → R4 = some ⟨q, o, none⟩ → q ≠ gm2 from fun q o hl e => by
    obtain ⟨b', o', e', hlt, _⟩ := HO4.out.2.2 hl
    rw [e] at e'
    injection e' with e'
    injection e' with e1 e2
    omega))
  have KU := Lib.hid (show Calls Tryz.prog 9 #[.slice A2 nb cb, .int .u8 4, .int .i64 (k : Int), .pointer (some ⟨gm2, 0, none⟩)] w5 _ from KU)
  clear hM hg hb ho2
  go_wp2_with fail
  refine KU.out.mono ?_
  rintro e w6 ⟨R6, c6, rfl, hS6, hO6, hOm⟩
  have HO6 := Lib.hid (And.intro hO6 (And.intro hS6 (show Sl w6 R4 (o1.getD []).length (bv (o1.getD [])) from HS5.out.1.only hOm (fun hl q o e h => HS5.out.2 q o hl e h))))
  clear hO6 hS6 hOm KU
  generalize hcd2 : codeU o2 = e2 at *
  have HE2 := Lib.hid hcd2
  clear hcd2
  by_cases hz1 : e1 = 0
  case neg =>
    have g3 : (e1 != 0) = true := by simp [hz1]
    clear hz1
    go_wp2_with fail
    go_ret
    exact ⟨rfl, below_of HO6.out.1⟩
  by_cases hz2 : e2 = 0
  case neg =>
    subst hz1
    have g3 : (e2 != 0) = true := by simp [hz2]
    clear hz2
    go_wp2_with fail
    go_ret
    exact ⟨rfl, below_of HO6.out.1⟩
  subst hz1 hz2
  by_cases hna : na = 0
  · subst hna
    go_wp2_with fail
    go_ret
    exact ⟨rfl, below_of HO6.out.1⟩
  have g3 : ((na : Int) == 0) = false := by simp; omega
  obtain ⟨x, hx⟩ : ∃ x, o1 = some x := by
    cases o1 with
    | none => have := HE1.out; cases this
    | some x => exact ⟨x, rfl⟩
  obtain ⟨y, hy⟩ : ∃ y, o2 = some y := by
    cases o2 with
    | none => have := HE2.out; cases this
    | some y => exact ⟨y, rfl⟩
  subst hx hy
  obtain ⟨xa0, hxa, hjoin⟩ := streams_join (b := bs) HC1.out.symm HC2.out.symm
  have hal : na = xa0.length + 1 := by
    have : xa.length = na := by rw [← bv_length]; exact HI.out.1.1
    rw [← this, hxa, List.length_append]
    rfl
  obtain ⟨qa, oa, rfl, _, _⟩ := HI.out.1.2 (by omega)
  have HJ := Lib.hid (And.intro hxa (And.intro hjoin hal))
  have s0' : wrap64 ((na : Int) - 1) = ((na - 1 : Nat) : Int) := joi_less (by omega) HNN.out.1
  have s1' : ((na - 1 : Nat) : Int) ≤ (ca : Int) := by have := HI.out.2.2.2.2; omega
  have s2' : wrap64 ((n : Int) + (k : Int)) = ((n + k : Nat) : Int) := joi_sum HNK.out.1 HNK.out.2
  have s3' : ¬ ca = 0 := by have := HI.out.2.2.2.2; omega
  have HNA := Lib.hid (show na - 1 = xa0.length ∧ 1 ≤ na from ⟨by omega, by omega⟩)
  clear hna hxa hjoin hal
  dsimp only [Option.getD_some] at HO6
  have HSA := Lib.hid (show Sl w6 (some ⟨qa, oa, none⟩) (na - 1) (bv xa0) from sl_head (by have := HI.out.1.only HO6.out.1 (fun _ _ _ _ h => h); rw [HJ.out.1] at this; exact this) (by have := HJ.out.2.2; have := HNA.out; omega))
  have HSB := Lib.hid (show Sl w6 A2 nb (bv bs) from HI.out.2.1.only HO6.out.1 (fun _ _ _ _ h => h))
  go_wp2_with (at_builtin; refine wpList_app _ rfl (.tmp 59) (.tmp 64) 22 rfl w6.heap.size 5 i _ 1 Tryz.underlying22 hi hz0 hz1 hz2 rfl _ 0 [] rfl (own_empty w6 (Nat.le_refl _) _) _ (na - 1) _ (bv xa0) rfl (HSA.out.alloc _) (bv_one _) (by have := HNN.out; have := HNA.out; omega) Nat.one_pos (by simp) ?_)
  intro A7 c7 w7 ho7 hg7
  have hb7 : Below w6.heap.size w6 w7 := ((Below.refl _ w6).alloc (Nat.le_refl _) _).grown hg7 (by simp) (fun q e => by simp [Value.ownBlock] at e; omega)
  try rw [Nat.zero_add, List.nil_append] at ho7
  try rw [Nat.zero_add]
  have H7 := Lib.hid (And.intro ho7 hb7)
  clear ho7 hg7 hb7
  go_wp2_with (at_builtin; refine wpList_app _ rfl (.tmp 65) (.tmp 66) 22 rfl w6.heap.size 5 i _ 1 Tryz.underlying22 hi hz0 hz1 hz2 rfl _ (na - 1) _ rfl H7.out.1 _ nb _ (bv bs) rfl (HSB.out.below H7.out.2) (bv_one _) (by have := HNN.out; have := HNA.out; omega) Nat.one_pos H7.out.2.size ?_)
  intro A8 c8 w8 ho8 hg8
  have hb8 : Below w6.heap.size w6 w8 := H7.out.2.grown hg8 H7.out.2.size (fun q e => (H7.out.1.lt q e).1)
  rw [← bv_append] at ho8
  have H8 := Lib.hid (And.intro (Sl.of_own ho8) hb8)
  clear ho8 hg8 hb8 H7
  go_wp2_with fail
  refine (much_any _).mono ?_
  rintro e w9 ⟨gm3, rfl, hM, hg, hb⟩
  have hO8 : Only (fun _ => False) w w8 := HO6.out.1.then H8.out.2
  have hpos : 1 ≤ w8.heap.size := by have := HI.out.2.2.2.1.pos; have := hO8.size; omega
  have KU := unp_full (c := c8) (size := ((n + k : Nat) : Int)) (p := 4) (w := w8) (m := gm3) HI.out.2.2.1 (HI.out.2.2.2.1.only hO8 (fun e => e)) H8.out.1 (Only.of_below (S := fun _ => False) hb) hg hM (by have := HNN.out; have := HNA.out; omega) (by decide) (by have := HNK.out; omega) (by omega)
  rw [Int.toNat_natCast, HJ.out.2.1] at KU
  have KU := Lib.hid (show Calls Tryz.prog 9 #[.slice A8 ((na - 1) + nb) c8, .int .u8 4, .int .i64 ((n + k : Nat) : Int), .pointer (some ⟨gm3, 0, none⟩)] w9 _ from KU)
  have HS9 := Lib.hid (And.intro (HO6.out.2.1.below H8.out.2) (And.intro (HO6.out.2.2.below H8.out.2) hO8))
  clear hM hg hb hO8 hpos
  go_wp2_with fail
  refine KU.out.mono ?_
  rintro e w10 ⟨R10, c10, rfl, hS10, hO10, _⟩
  have H10 := Lib.hid (And.intro hS10 (And.intro (HS9.out.1.only hO10 (fun _ _ _ _ h => h)) (And.intro (HS9.out.2.1.only hO10 (fun _ _ _ _ h => h)) (HS9.out.2.2.trans hO10))))
  clear hS10 hO10 KU s2' HS9 H8
  dsimp only [Option.getD_some] at H10 ⊢
  rw [show codeU (some (x ++ y)) = 0 from rfl]
  have HLX := Lib.hid (show x.length = n ∧ y.length = k ∧ n + k ≤ 5000 from ⟨tells_len HC1.out.symm, tells_len HC2.out.symm, by have := HNK.out; omega⟩)
  go_wp2_with (at_builtin; refine wpList_gapp rfl (.tmp 79) (.tmp 80) 22 rfl w10.heap.size 5 i _ 1 Tryz.underlying22 hi hz0 hz1 hz2 rfl _ 0 [] rfl (own_empty w10 (Nat.le_refl _) _) _ x.length _ (bv x) rfl (H10.out.2.2.1.alloc _) (bv_one _) (by have := HLX.out; omega) Nat.one_pos (by simp) ?_)
  intro A11 c11 w11 ho11 hg11
  have hb11 : Below w10.heap.size w10 w11 := ((Below.refl _ w10).alloc (Nat.le_refl _) _).grown hg11 (by simp) (fun q e => by simp [Value.ownBlock] at e; omega)
  try rw [Nat.zero_add, List.nil_append] at ho11
  try rw [Nat.zero_add]
  have H11 := Lib.hid (And.intro ho11 hb11)
  clear ho11 hg11 hb11
  go_wp2_with (at_builtin; refine wpList_gapp rfl (.tmp 81) (.tmp 82) 22 rfl w10.heap.size 5 i _ 1 Tryz.underlying22 hi hz0 hz1 hz2 rfl _ x.length _ rfl H11.out.1 _ y.length _ (bv y) rfl (H10.out.2.1.below H11.out.2) (bv_one _) (by have := HLX.out; omega) Nat.one_pos H11.out.2.size ?_)
  intro A12 c12 w12 ho12 hg12
  have hb12 : Below w10.heap.size w10 w12 := H11.out.2.grown hg12 H11.out.2.size (fun q e => (H11.out.1.lt q e).1)
  rw [← bv_append] at ho12
  have H12 := Lib.hid (And.intro (Sl.of_own ho12) hb12)
  clear ho12 hg12 hb12 H11
  have hlen : (x ++ y).length = x.length + y.length := List.length_append
  have HB12 := Lib.hid (show ∀ c', Calls Tryz.prog 11 #[.slice R10 (x.length + y.length) c', .slice A12 (x.length + y.length) c12] w12 (fun e w' => e = .returned (.bool true) ∧ ∃ d, w' = w12.drewN d) from fun c' => (bytesSame_any (ca := c') (cb := c12) (by have := H10.out.1.below H12.out.2; rwa [hlen] at this) H12.out.1 (by have := HLX.out; omega)).mono (by rintro e w' ⟨h1, d, h2⟩; exact ⟨h1, d, h2.symm⟩))
  clear hlen
  go_wp2_with fail
  refine (HB12.out _).mono ?_
  rintro e w13 ⟨rfl, d, rfl⟩
  go_wp2_with fail
  go_ret
  exact ⟨rfl, below_of (((H10.out.2.2.2).then H12.out.2).drewN _)⟩
  rename_i hneg
  exact absurd ⟨by have := HNA.out.2; omega, by have := HNA.out.2; omega⟩ hneg
end Go.Proofs.YtoencondpbkomaaGreatDoor
