/-
  The reference's decoder of shares tells a bit; it begins.
-/
import Derived.Test.YtkjhdpfomofggaaPrTake
namespace Go.Proofs.Ytkjhdpfomofggaa
open Go.RowKit

section
variable {g : Nat} {w : World} {A : Option Addr} {bs : List UInt8} {d : Dc}

set_option maxHeartbeats 1000000 in
theorem rshare_bad {n c at_ r k : Nat} {z t : Int} (hB : Blk w g 40 (decCells A n c at_ r k true)) :
    Calls Try.prog 14 #[.pointer (some ⟨g, 0, none⟩), .int .u32 z, .int .i64 t] w fun e w' => e = .returned (.int .i64 0) ∧ w = w' := by
  have h4 : w.cell? ⟨g, 4, none⟩ = some (.bool true) := hB.cell 4
  clear hB
  go_enter Try.func14, Try.ntmps14
  go_wp2_with fail
  go_ret
  exact ⟨rfl, rfl⟩

set_option maxHeartbeats 4000000 in
theorem rshare_any {z t : Nat} (h : Dr w g A bs d) (hd : DcOk d) (hn : bs.length ≤ 1000000000) (ht : t ≤ 16) (hz : 1 ≤ z) (hz2 : z < 2 ^ t) :
    Calls Try.prog 14 #[.pointer (some ⟨g, 0, none⟩), .int .u32 (z : Int), .int .i64 (t : Int)] w (DrPost w g A bs (.int .i64 ((shareBit d z t).1 : Int)) (shareBit d z t).2) := by
  obtain ⟨c, at_, r, k, bad, hB, hS, hne, hte⟩ := h
  obtain ⟨hat, hr, hk, hc⟩ := hte
  rcases hc with ⟨rfl, rfl⟩ | ⟨rfl, rfl⟩
  · refine (rshare_bad hB).mono ?_
    rintro e w' ⟨rfl, rfl⟩
    exact ⟨rfl, ⟨c, at_, r, k, true, hB, hS, hne, hat, hr, hk, .inl ⟨rfl, rfl⟩⟩, World.grownBy.refl w _⟩
  · obtain ⟨a1, a2, a3⟩ := hd _ _ _ rfl
    obtain ⟨b1, b2⟩ := share_bound a1 ht hz hz2
    have hp16 : 2 ^ t ≤ 2 ^ 16 := Nat.pow_le_pow_right (by omega) ht
    have q2 : w.cell? ⟨g, 2, none⟩ = some (.int .u64 (r : Int)) := hB.cell 2
    have q3 : w.cell? ⟨g, 3, none⟩ = some (.int .u64 (k : Int)) := hB.cell 3
    have q4 : w.cell? ⟨g, 4, none⟩ = some (.bool false) := hB.cell 4
    have f2 : w.frozen? ⟨g, 2, none⟩ = false := hB.free 2
    have f3 : w.frozen? ⟨g, 3, none⟩ = false := hB.free 3
    obtain ⟨P, hP⟩ : ∃ P, P = 2 ^ t := ⟨_, rfl⟩
    obtain ⟨Q, hQ⟩ : ∃ Q, Q = r / P := ⟨_, rfl⟩
    obtain ⟨b, hb⟩ : ∃ b, b = Q * z := ⟨_, rfl⟩
    have hsb : shareBit (some (r, k, bs.drop at_)) z t = if k < b then ((if plv3 b k (bs.drop at_) = none then 0 else 0), plv3 b k (bs.drop at_)) else ((if plv3 (r - b) (k - b) (bs.drop at_) = none then 0 else 1), plv3 (r - b) (k - b) (bs.drop at_)) := by rw [hb, hQ, hP]; rfl
    rw [← hP, ← hQ, ← hb] at b1 b2
    have hP0 : 0 < P := by rw [hP]; exact Nat.two_pow_pos t
    have hQr : Q ≤ r := by rw [hQ]; exact Nat.div_le_self _ _
    have e0 : IntKind.u64.wrap (z : Int) = (z : Int) := u64_in _ (by rw [hP] at *; omega)
    have e1 : (r : Int) / (P : Int) = (Q : Int) := by rw [hQ]; exact (Int.natCast_ediv r P).symm
    have e2 : (r : Int).tdiv (P : Int) = (Q : Int) := by rw [Int.tdiv_eq_ediv_of_nonneg (by omega)]; exact e1
    have e3 : IntKind.u64.wrap (Q : Int) = (Q : Int) := u64_in _ (by omega)
    have e4 : IntKind.u64.wrap ((Q : Int) * (z : Int)) = (b : Int) := by rw [← Int.natCast_mul, ← hb]; exact u64_in _ (by omega)
    have p0 : ¬ (P : Int) = 0 := by omega
    have HB := Lib.hid hB
    have HS := Lib.hid hS
    have HNE := Lib.hid hne
    have HP := Lib.hid hP
    have HT := Lib.hid ht
    by_cases hlt : k < b
    · have hlt2 : (k : Int) < (b : Int) := by omega
      have hg1 : w.grownBy (w.setCell ⟨g, 2, none⟩ (.int .u64 (b : Int))) (some g) := only_setCell (World.grownBy.refl w _) (.inl rfl) _
      have K := Lib.hid (level6_any (hB.put 2 (.int .u64 (b : Int)) : Blk _ g 40 (decCells A bs.length c at_ b k false)) (hS.grown hg1 hne) hat hn hne (by omega) (by omega) (by omega))
      have HG1 := Lib.hid hg1
      rw [hsb, if_pos hlt]
      clear hB hS hne hg1 hat hr hk hn a1 a2 a3 b1 b2 hp16 hP hQ hb hsb hP0 hQr ht hz hz2 hlt hd
      generalize plv3 b k (bs.drop at_) = D at *
      show Calls _ _ _ _ (DrPost w g A bs (.int .i64 (((if D = none then 0 else 0 : Nat)) : Int)) D)
      obtain ⟨v, hv⟩ : ∃ v : Nat, v = if D = none then 0 else 0 := ⟨_, rfl⟩
      rw [← hv]
      have HV := Lib.hid hv
      clear hv
      go_enter Try.func14, Try.ntmps14
      go_wp2_with fail
      go_loopw [7, 8] (fun p i wr => ∃ j, j ≤ t ∧ i = .int .i64 (j : Int) ∧ p = .int .u64 ((2 ^ j : Nat) : Int) ∧ wr = w) (fun _ i _ => t - (intOf i).toNat)
      case atStart => exact ⟨0, Nat.zero_le _, rfl, rfl, by first | trivial | rfl⟩
      case round =>
        obtain ⟨j, hj, rfl, rfl, hwr⟩ := hrel
        subst hwr
        by_cases hjt : j < t
        · have hjt' : (j : Int) < (t : Int) := by omega
          have hpj : 2 ^ j ≤ 2 ^ 15 := Nat.pow_le_pow_right (by omega) (by have := HT.out; omega)
          have ep : IntKind.u64.wrap (((2 ^ j : Nat) : Int) * 2) = ((2 ^ (j + 1) : Nat) : Int) := by
            rw [Nat.pow_succ]
            generalize 2 ^ j = y at *
            rw [show (y : Int) * 2 = ((y * 2 : Nat) : Int) by omega]
            exact u64_in _ (by omega)
          have ej : IntKind.i64.wrap ((j : Int) + 1) = (j : Int) + 1 := IntWalk.i64_in _ (by have := HT.out; omega)
          clear hpj
          obtain ⟨y, hy⟩ : ∃ y, y = 2 ^ j := ⟨_, rfl⟩
          obtain ⟨y2, hy2⟩ : ∃ y, y = 2 ^ (j + 1) := ⟨_, rfl⟩
          rw [← hy, ← hy2] at ep
          rw [← hy]
          have HY2 := Lib.hid hy2
          clear hy hy2
          go_wp2_with fail
          go_roundw
          case rel => exact ⟨j + 1, by omega, by go_num, by rw [← HY2.out], by first | trivial | rfl⟩
          case measure => simp [intOf]; omega
        · obtain rfl : t = j := by omega
          rw [← HP.out]
          clear hjt
          go_wp2_with fail
          refine K.out.mono ?_
          rintro e w1 ⟨rfl, at', r', k', bad', hB1, ht1, hg1⟩
          have j4 : w1.cell? ⟨g, 4, none⟩ = some (.bool bad') := hB1.cell 4
          have HB1 := Lib.hid hB1
          have HT1 := Lib.hid ht1
          have HG2 := Lib.hid (only_trans HG1.out hg1)
          clear hB1 ht1 hg1 K HG1 q2 q3 q4 f2 f3
          cases bad'
          · have hnD : ¬ D = none := by
              rcases HT1.out.2.2.2 with ⟨h, _⟩ | ⟨_, h⟩
              · cases h
              · rw [h]; simp
            go_wp2_with fail
            go_ret
            refine ⟨?_, ⟨c, at', r', k', _, HB1.out, HS.out.grown HG2.out HNE.out, HNE.out, HT1.out⟩, HG2.out⟩
            rw [HV.out, if_neg hnD]
            rfl
          · have hnD : D = none := by
              rcases HT1.out.2.2.2 with ⟨_, h⟩ | ⟨h, _⟩
              · exact h
              · cases h
            go_wp2_with fail
            go_ret
            refine ⟨?_, ⟨c, at', r', k', _, HB1.out, HS.out.grown HG2.out HNE.out, HNE.out, HT1.out⟩, HG2.out⟩
            rw [HV.out, if_pos hnD]
            rfl
    · have hlt2 : ¬ (k : Int) < (b : Int) := by omega
      obtain ⟨x, hx⟩ : ∃ x, x = r - b := ⟨_, rfl⟩
      obtain ⟨y, hy⟩ : ∃ y, y = k - b := ⟨_, rfl⟩
      rw [← hx, ← hy] at hsb
      have e5 : IntKind.u64.wrap ((k : Int) - (b : Int)) = (y : Int) := by rw [show (k : Int) - (b : Int) = (y : Int) by omega]; exact u64_in _ (by omega)
      have e6 : IntKind.u64.wrap ((r : Int) - (b : Int)) = (x : Int) := by rw [show (r : Int) - (b : Int) = (x : Int) by omega]; exact u64_in _ (by omega)
      have hg1 : w.grownBy ((w.setCell ⟨g, 3, none⟩ (.int .u64 (y : Int))).setCell ⟨g, 2, none⟩ (.int .u64 (x : Int))) (some g) := only_setCell (g := g) (p := ⟨g, 2, none⟩) (only_setCell (g := g) (p := ⟨g, 3, none⟩) (World.grownBy.refl w _) (.inl rfl) _) (.inl rfl) _
      have K := Lib.hid (level6_any ((hB.put 3 (.int .u64 (y : Int))).put 2 (.int .u64 (x : Int)) : Blk _ g 40 (decCells A bs.length c at_ x y false)) (hS.grown hg1 hne) hat hn hne (by omega) (by omega) (by omega))
      have HG1 := Lib.hid hg1
      rw [hsb, if_neg hlt]
      clear hB hS hne hg1 hat hr hk hn a1 a2 a3 b1 b2 hp16 hP hQ hb hsb hP0 hQr ht hz hz2 hlt hd
      clear hx hy
      generalize plv3 x y (bs.drop at_) = D at *
      show Calls _ _ _ _ (DrPost w g A bs (.int .i64 (((if D = none then 0 else 1 : Nat)) : Int)) D)
      obtain ⟨v, hv⟩ : ∃ v : Nat, v = if D = none then 0 else 1 := ⟨_, rfl⟩
      rw [← hv]
      have HV := Lib.hid hv
      clear hv
      go_enter Try.func14, Try.ntmps14
      go_wp2_with fail
      go_loopw [7, 8] (fun p i wr => ∃ j, j ≤ t ∧ i = .int .i64 (j : Int) ∧ p = .int .u64 ((2 ^ j : Nat) : Int) ∧ wr = w) (fun _ i _ => t - (intOf i).toNat)
      case atStart => exact ⟨0, Nat.zero_le _, rfl, rfl, by first | trivial | rfl⟩
      case round =>
        obtain ⟨j, hj, rfl, rfl, hwr⟩ := hrel
        subst hwr
        by_cases hjt : j < t
        · have hjt' : (j : Int) < (t : Int) := by omega
          have hpj : 2 ^ j ≤ 2 ^ 15 := Nat.pow_le_pow_right (by omega) (by have := HT.out; omega)
          have ep : IntKind.u64.wrap (((2 ^ j : Nat) : Int) * 2) = ((2 ^ (j + 1) : Nat) : Int) := by
            rw [Nat.pow_succ]
            generalize 2 ^ j = y at *
            rw [show (y : Int) * 2 = ((y * 2 : Nat) : Int) by omega]
            exact u64_in _ (by omega)
          have ej : IntKind.i64.wrap ((j : Int) + 1) = (j : Int) + 1 := IntWalk.i64_in _ (by have := HT.out; omega)
          clear hpj
          obtain ⟨y, hy⟩ : ∃ y, y = 2 ^ j := ⟨_, rfl⟩
          obtain ⟨y2, hy2⟩ : ∃ y, y = 2 ^ (j + 1) := ⟨_, rfl⟩
          rw [← hy, ← hy2] at ep
          rw [← hy]
          have HY2 := Lib.hid hy2
          clear hy hy2
          go_wp2_with fail
          go_roundw
          case rel => exact ⟨j + 1, by omega, by go_num, by rw [← HY2.out], by first | trivial | rfl⟩
          case measure => simp [intOf]; omega
        · obtain rfl : t = j := by omega
          rw [← HP.out]
          clear hjt
          go_wp2_with fail
          refine K.out.mono ?_
          rintro e w1 ⟨rfl, at', r', k', bad', hB1, ht1, hg1⟩
          have j4 : w1.cell? ⟨g, 4, none⟩ = some (.bool bad') := hB1.cell 4
          have HB1 := Lib.hid hB1
          have HT1 := Lib.hid ht1
          have HG2 := Lib.hid (only_trans HG1.out hg1)
          clear hB1 ht1 hg1 K HG1 q2 q3 q4 f2 f3
          cases bad'
          · have hnD : ¬ D = none := by
              rcases HT1.out.2.2.2 with ⟨h, _⟩ | ⟨_, h⟩
              · cases h
              · rw [h]; simp
            go_wp2_with fail
            go_ret
            refine ⟨?_, ⟨c, at', r', k', _, HB1.out, HS.out.grown HG2.out HNE.out, HNE.out, HT1.out⟩, HG2.out⟩
            rw [HV.out, if_neg hnD]
            rfl
          · have hnD : D = none := by
              rcases HT1.out.2.2.2 with ⟨_, h⟩ | ⟨h, _⟩
              · exact h
              · cases h
            go_wp2_with fail
            go_ret
            refine ⟨?_, ⟨c, at', r', k', _, HB1.out, HS.out.grown HG2.out HNE.out, HNE.out, HT1.out⟩, HG2.out⟩
            rw [HV.out, if_pos hnD]
            rfl
end
end Go.Proofs.Ytkjhdpfomofggaa
