/-
  The reference's decoder of shares begins.
-/
import Derived.Test.YtkjhdpfomofggaaPrShare
namespace Go.Proofs.Ytkjhdpfomofggaa
open Go.RowKit

theorem nx_step {w : World} {g n c at_ r k : Nat} {A : Option Addr} {bs : List UInt8} {bad : Bool} (hn : n = bs.length) (hlen : bs.length ≤ 1000000000) (hS : Sl w A bs.length (bv bs)) (hne : 0 < bs.length → ∀ b o, A = some ⟨b, o, none⟩ → b ≠ g) (ha : at_ ≤ bs.length) :
    ∃ (x at2 : Nat) (bad2 : Bool), x < 256 ∧ (∀ W, w.grownBy W (some g) → Blk W g 40 (decCells A n c at_ r k bad) → Calls Try.prog 32 #[.pointer (some ⟨g, 0, none⟩)] W fun e w' =>
      e = .returned (.int .u64 (x : Int)) ∧ Blk w' g 40 (decCells A n c at2 r k bad2) ∧ W.grownBy w' (some g)) ∧
      ((bad = false ∧ at_ < bs.length ∧ x = (bs.getD at_ 0).toNat ∧ at2 = at_ + 1 ∧ bad2 = false) ∨ ((bad = true ∨ bs.length ≤ at_) ∧ x = 0 ∧ at2 = at_ ∧ bad2 = true)) := by
  subst hn
  cases bad
  · by_cases hlt : at_ < bs.length
    · have hx := (bs.getD at_ 0).toNat_lt
      refine ⟨(bs.getD at_ 0).toNat, at_ + 1, false, by omega, ?_, .inl ⟨rfl, hlt, rfl, rfl, rfl⟩⟩
      intro W hg hW
      obtain ⟨b, o, rfl, hb, hc⟩ := (hS.grown hg hne).2 (by omega)
      refine next_ok (x := bs.getD at_ 0) hW hlt hlen ?_ (hne (by omega) b o rfl)
      rw [hc at_ hlt, bv_get _ _ hlt]
    · obtain rfl : at_ = bs.length := by omega
      exact ⟨0, bs.length, true, by omega, fun W _ hW => next_end hW hlen, .inr ⟨.inr (Nat.le_refl _), rfl, rfl, rfl⟩⟩
  · exact ⟨0, at_, true, by omega, fun W _ hW => next_bad hW, .inr ⟨.inl rfl, rfl, rfl, rfl⟩⟩

/-- j of the four bytes of the code -/
def NwOk (bs : List UInt8) (j at_ k : Nat) (bad : Bool) : Prop :=
  at_ ≤ bs.length ∧ k < 256 ^ j ∧ ((bad = false ∧ at_ = j + 1 ∧ k = be ((bs.drop 1).take j)) ∨ (bad = true ∧ bs.length < 5))
theorem nw_step {bs : List UInt8} {j at_ k x at2 : Nat} {bad bad2 : Bool} (hj : j < 4) (hx : x < 256) (h : NwOk bs j at_ k bad)
    (hs : (bad = false ∧ at_ < bs.length ∧ x = (bs.getD at_ 0).toNat ∧ at2 = at_ + 1 ∧ bad2 = false) ∨ ((bad = true ∨ bs.length ≤ at_) ∧ x = 0 ∧ at2 = at_ ∧ bad2 = true)) : NwOk bs (j + 1) at2 (k * 256 + x) bad2 := by
  obtain ⟨h1, h2, h3⟩ := h
  have hk : k * 256 + x < 256 ^ (j + 1) := by rw [Nat.pow_succ]; omega
  rcases hs with ⟨rfl, hlt, rfl, rfl, rfl⟩ | ⟨hb, rfl, rfl, rfl⟩
  · rcases h3 with ⟨_, rfl, hk2⟩ | ⟨h, _⟩
    · refine ⟨hlt, hk, .inl ⟨rfl, rfl, ?_⟩⟩
      have hl : j < (bs.drop 1).length := by rw [List.length_drop]; omega
      rw [be_take_succ hl, hk2]
      congr 2
      rw [List.getElem_drop]
      simp [List.getD, hlt, Nat.add_comm]
    · cases h
  · refine ⟨h1, hk, .inr ⟨rfl, ?_⟩⟩
    rcases h3 with ⟨hf, he, _⟩ | ⟨_, h⟩
    · rcases hb with hb | hb
      · rw [hf] at hb; cases hb
      · omega
    · exact h
theorem nw_end {bs : List UInt8} {at_ k f0 : Nat} {bad : Bool} (h : NwOk bs 4 at_ k bad) (hf : 0 < bs.length → f0 = (bs.getD 0 0).toNat) : ∀ b2 : Bool, (b2 = true ↔ (bad = true ∨ f0 ≠ 0 ∨ 4294967295 ≤ k)) → Tells bs (started bs) at_ 4294967295 k b2 := by
  intro b2 hb2
  obtain ⟨h1, h2, h3⟩ := h
  refine ⟨h1, by omega, by omega, ?_⟩
  rcases h3 with ⟨rfl, rfl, hk⟩ | ⟨rfl, hl⟩
  · match bs, h1, hk, hf with
    | z :: a :: b :: c :: d :: t, _, hk, hf =>
      have hk4 : k = ((a.toNat * 256 + b.toNat) * 256 + c.toNat) * 256 + d.toNat := by rw [hk]; simp [be]
      have hf0 : f0 = z.toNat := hf (by simp)
      unfold started
      simp only []
      by_cases hgood : z.toNat = 0 ∧ ((a.toNat * 256 + b.toNat) * 256 + c.toNat) * 256 + d.toNat < 4294967295
      · rw [if_pos hgood]
        right
        refine ⟨?_, by rw [← hk4]; rfl⟩
        cases b2
        · rfl
        · have := hb2.1 rfl
          rcases this with h | h | h
          · cases h
          · omega
          · omega
      · rw [if_neg hgood]
        left
        exact ⟨hb2.2 (.inr (by omega)), rfl⟩
  · left
    refine ⟨hb2.2 (.inl rfl), ?_⟩
    unfold started
    match bs, hl with
    | [], _ => rfl
    | [_], _ => rfl
    | [_, _], _ => rfl
    | [_, _, _], _ => rfl
    | [_, _, _, _], _ => rfl

set_option maxHeartbeats 8000000 in
theorem rbegin_any {w : World} {A : Option Addr} {n c : Nat} {bs : List UInt8} (hS : Sl w A n (bv bs)) (hn : n ≤ 1000000000) :
    Calls Try.prog 11 #[.slice A n c] w fun e w' => e = .returned (.pointer (some ⟨w.heap.size, 0, none⟩)) ∧ Dr w' w.heap.size A bs (started bs) ∧ Below w.heap.size w w' := by
  have hl : bs.length = n := by rw [← bv_length]; exact hS.1
  subst hl
  have hlt : 0 < bs.length → ∀ b o, A = some ⟨b, o, none⟩ → b < w.heap.size := fun h b o e => by
    obtain ⟨b', o', e', hb, _⟩ := hS.2 h
    rw [e] at e'
    injection e' with e'
    injection e' with e'
    omega
  have HW1 := Lib.hid (show Blk (w.alloc (.cells #[.slice A bs.length c, .int .i64 0, .int .u64 4294967295, .int .u64 0, .bool false] 40)) w.heap.size 40 (decCells A bs.length c 0 4294967295 0 false) from Blk.fresh w 40 _)
  have HS1 := Lib.hid (hS.alloc (.cells #[.slice A bs.length c, .int .i64 0, .int .u64 4294967295, .int .u64 0, .bool false] 40))
  have HB1 := Lib.hid ((Below.refl w.heap.size w).alloc (Nat.le_refl _) (.cells #[.slice A bs.length c, .int .i64 0, .int .u64 4294967295, .int .u64 0, .bool false] 40))
  have HNE := Lib.hid (show 0 < bs.length → ∀ b o, A = some ⟨b, o, none⟩ → b ≠ w.heap.size from fun h b o e => by have := hlt h b o e; omega)
  have HN := Lib.hid hn
  clear hS hlt hn
  go_enter Try.func11, Try.ntmps11
  go_wp2_with fail
  generalize w.alloc (.cells #[.slice A bs.length c, .int .i64 0, .int .u64 4294967295, .int .u64 0, .bool false] 40) = w1 at *
  generalize hgg : w.heap.size = g at *
  have HGG := Lib.hid hgg
  clear hgg
  obtain ⟨x0, at1, bad1, hx0, hK, hst⟩ := nx_step (c := c) (r := 4294967295) (k := 0) (bad := false) rfl HN.out HS1.out HNE.out (Nat.zero_le bs.length)
  have HK0 := Lib.hid (hK w1 (World.grownBy.refl w1 _) HW1.out)
  have HNW := Lib.hid (show NwOk bs 0 at1 0 bad1 ∧ (0 < bs.length → x0 = (bs.getD 0 0).toNat) from by
    rcases hst with ⟨_, h1, h2, rfl, rfl⟩ | ⟨h1, _, rfl, rfl⟩
    · exact ⟨⟨by omega, by decide, .inl ⟨rfl, rfl, rfl⟩⟩, fun _ => h2⟩
    · rcases h1 with h1 | h1
      · cases h1
      · exact ⟨⟨by omega, by decide, .inr ⟨rfl, by omega⟩⟩, fun h => by omega⟩)
  clear hK hst hx0 HW1
  refine HK0.out.mono ?_
  rintro e w2 ⟨rfl, hB2, hg2⟩
  have HB2 := Lib.hid hB2
  have HG2 := Lib.hid hg2
  clear hB2 hg2 HK0
  go_wp2_with fail
  go_loopw [5] (fun i wr => ∃ (j at' k : Nat) (bad : Bool), j ≤ 4 ∧ i = .int .i64 (j : Int) ∧ Blk wr g 40 (decCells A bs.length c at' 4294967295 k bad) ∧ NwOk bs j at' k bad ∧ w1.grownBy wr (some g)) (fun i _ => 4 - (intOf i).toNat)
  case atStart => exact ⟨0, at1, 0, bad1, by omega, rfl, HB2.out, HNW.out.1, HG2.out⟩
  case round =>
    clear HB2 HG2
    obtain ⟨j, at2, k, bad, hj, rfl, hB, hnw, hg⟩ := hrel
    have q3 : wr.cell? ⟨g, 3, none⟩ = some (.int .u64 (k : Int)) := hB.cell 3
    have HB := Lib.hid hB
    have HNW2 := Lib.hid hnw
    have HG := Lib.hid hg
    have hk32 : k < 4294967296 := Nat.lt_of_lt_of_le hnw.2.1 (Nat.le_trans (Nat.pow_le_pow_right (by omega) hj) (by decide))
    clear hB hnw hg
    by_cases hj4 : j < 4
    · obtain ⟨x, at3, bad3, hx, hK, hst⟩ := nx_step (c := c) (r := 4294967295) (k := k) (bad := bad) rfl HN.out (HS1.out.grown HG.out HNE.out) HNE.out HNW2.out.1
      have hjj : (j : Int) < 4 := by omega
      obtain ⟨K2, hK2⟩ : ∃ X : Int, X = ((k * 256 : Nat) : Int) := ⟨_, rfl⟩
      obtain ⟨Y, hY⟩ : ∃ X : Int, X = ((k * 256 + x : Nat) : Int) := ⟨_, rfl⟩
      have e2 : IntKind.u64.wrap ((k : Int) * 256) = K2 := by rw [hK2, show (k : Int) * 256 = ((k * 256 : Nat) : Int) by omega]; exact u64_in _ (by omega)
      have e3 : IntKind.u64.wrap (K2 + (x : Int)) = Y := by rw [hK2, hY, ← Int.natCast_add]; exact u64_in _ (by omega)
      have HKD := Lib.hid (hK wr.drew (only_drewN (World.grownBy.refl wr _) 1) (HB.out.drewN 1))
      have HNW3 := Lib.hid (nw_step hj4 hx HNW2.out hst)
      have HY := Lib.hid hY
      clear hK hst hK2 hY hx hk32
      go_wp2_with fail
      go_region_law (first | (go_simp; go_at_call 32; refine HKD.out.mono ?_; rintro e w3 ⟨rfl, hB3, hg3⟩; have k3 : w3.cell? ⟨g, 3, none⟩ = some (.int .u64 (k : Int)) := hB3.cell 3; have z3 : w3.frozen? ⟨g, 3, none⟩ = false := hB3.free 3; have HB3 := Lib.hid hB3; have HG3 := Lib.hid hg3; clear hB3 hg3))
      all_goals
        try go_wp2_with fail
        rw [HY.out]
        go_roundw
        case rel => exact ⟨j + 1, at3, k * 256 + x, bad3, by omega, by go_num, HB3.out.put 3 (.int .u64 ((k * 256 + x : Nat) : Int)), HNW3.out, only_setCell (only_trans (only_trans HG.out (only_drewN (World.grownBy.refl wr _) 1)) HG3.out) (.inl rfl) _⟩
        case measure => simp [intOf]; omega
    · obtain rfl : j = 4 := by omega
      have HEND := Lib.hid (nw_end HNW2.out HNW.out.2)
      have q2 : wr.cell? ⟨g, 2, none⟩ = some (.int .u64 4294967295) := HB.out.cell 2
      have q4 : wr.cell? ⟨g, 4, none⟩ = some (.bool bad) := HB.out.cell 4
      have f4 : wr.frozen? ⟨g, 4, none⟩ = false := HB.out.free 4
      have hirr : ¬ ((4 : Nat) : Int) < 4 := by omega
      have HBL := Lib.hid (fun (w' : World) (h : w1.grownBy w' (some g)) => show Below g w w' from HB1.out.trans (below_of_only h (Nat.le_refl g) (by rw [← HGG.out]; exact HB1.out.size)))
      clear hj4 hj
      obtain ⟨R, hR⟩ : ∃ R : Int, R = 4294967295 := ⟨_, rfl⟩
      rw [← hR] at q2
      by_cases hx0 : x0 = 0
      · by_cases hk : k < 4294967295
        · have c0 : (x0 : Int) = 0 := by omega
          have c1 : ¬ (k : Int) ≥ R := by omega
          have HE := Lib.hid (HEND.out bad ⟨fun h => .inl h, fun h => by
            rcases h with h | h | h
            · exact h
            · exact absurd hx0 h
            · omega⟩)
          clear hx0 hk hk32 hR HEND
          go_wp2_with fail
          go_quiet (fail)
          go_wp2_with fail
          go_ret
          have hg : w1.grownBy (wr.drewN nq) (some g) := only_drewN HG.out nq
          rw [HGG.out]
          exact ⟨rfl, ⟨c, at2, 4294967295, k, bad, HB.out.drewN nq, HS1.out.grown hg HNE.out, HNE.out, HE.out⟩, HBL.out _ hg⟩
        · have c0 : (x0 : Int) = 0 := by omega
          have c1 : (k : Int) ≥ R := by omega
          have HE := Lib.hid (HEND.out true ⟨fun _ => .inr (.inr (by omega)), fun _ => rfl⟩)
          clear hx0 hk hk32 hR HEND
          go_wp2_with fail
          go_quiet (fail)
          go_wp2_with fail
          go_ret
          have hg : w1.grownBy ((wr.drewN nq).setCell ⟨g, 4, none⟩ (.bool true)) (some g) := only_setCell (only_drewN HG.out nq) (.inl rfl) _
          rw [HGG.out]
          exact ⟨rfl, ⟨c, at2, 4294967295, k, true, (HB.out.drewN nq).put 4 (.bool true), HS1.out.grown hg HNE.out, HNE.out, HE.out⟩, HBL.out _ hg⟩
      · have c0 : ((x0 : Int) == 0) = false := by simp [hx0]
        have c1 : ((x0 : Int) != 0) = true := by simp [hx0]
        have HE := Lib.hid (HEND.out true ⟨fun _ => .inr (.inl hx0), fun _ => rfl⟩)
        clear hx0 hk32 hR HEND
        go_wp2_with fail
        go_quiet (fail)
        go_wp2_with fail
        go_ret
        have hg : w1.grownBy ((wr.drewN nq).setCell ⟨g, 4, none⟩ (.bool true)) (some g) := only_setCell (only_drewN HG.out nq) (.inl rfl) _
        rw [HGG.out]
        exact ⟨rfl, ⟨c, at2, 4294967295, k, true, (HB.out.drewN nq).put 4 (.bool true), HS1.out.grown hg HNE.out, HNE.out, HE.out⟩, HBL.out _ hg⟩
end Go.Proofs.Ytkjhdpfomofggaa
