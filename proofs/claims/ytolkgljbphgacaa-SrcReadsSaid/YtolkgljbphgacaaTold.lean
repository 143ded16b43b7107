/-
  The cursor's told rows.
-/
import Derived.Test.YtolkgljbphgacaaBits
namespace Go.Proofs.Ytolkgljbphgacaa
open Go.RowKit

def ToldPost (w : World) (g : Nat) (lo : Nat → Prop) (bs : List UInt8) (m : List Bool × Nat × Int) (e : Ending) (w' : World) : Prop :=
  ∃ A' c', e = .returned (.slice A' m.1.length c') ∧ w'.ownsRow w.heap.size 4 1 (.slice A' m.1.length c') m.1.length (fv m.1) ∧ Cur 65 w' g lo bs m.2.1 m.2.2 ∧ w.grownBy w' (some g)

section
variable {g : Nat} {lo : Nat → Prop} {bs : List UInt8} {k : Nat} {x code : Int} {w : World}

set_option maxHeartbeats 1000000 in
theorem told_none (h : Cur 65 w g lo bs k code) (hm : bs.length ≤ 1000000000) (hx : x ≤ 2147483647) (hb : x < 0 ∨ leftOf bs k code = []) :
    Calls Try.prog 23 #[.pointer (some ⟨g, 0, none⟩), .int .i64 x] w (ToldPost w g lo bs ([], k, over code 3)) := by
  have hl := left_le h
  have HR := Lib.hid (rest_any h)
  have HC := Lib.hid h
  clear h
  generalize leftOf bs k code = r at *
  rcases hb with hb | hb
  · go_enter Try.func23, Try.ntmps23
    go_wp2_with (first
      | (go_at_call 45; refine HR.out.mono ?_; rintro e w1 ⟨B, c, rfl, hcl, hcm, hS, hbg, d, rfl⟩; clear hcl hcm hS hbg)
      | (go_at_call 47; refine (fail_any (HC.out.drewN _)).mono ?_; rintro e w2 ⟨rfl, hc, hg⟩; have HC2 := Lib.hid hc; have HG := Lib.hid hg; clear hc hg))
    go_ret
    exact ⟨none, 0, rfl, World.ownsRow_nil _ _ _ _, HC2.out, only_of_drewN HG.out⟩
  · subst hb
    simp only [List.length_nil] at HR
    go_enter Try.func23, Try.ntmps23
    go_wp2_with (first
      | (go_at_call 45; refine HR.out.mono ?_; rintro e w1 ⟨B, c, rfl, hcl, hcm, hS, hbg, d, rfl⟩; clear hcl hcm hS hbg)
      | (go_at_call 47; refine (fail_any (HC.out.drewN _)).mono ?_; rintro e w2 ⟨rfl, hc, hg⟩; have HC2 := Lib.hid hc; have HG := Lib.hid hg; clear hc hg))
    all_goals
      go_ret
      exact ⟨none, 0, rfl, World.ownsRow_nil _ _ _ _, HC2.out, only_of_drewN HG.out⟩

set_option maxHeartbeats 2000000 in
theorem told_row (h : Cur 65 w g lo bs k code) (hm : bs.length ≤ 1000000000) (hx : x ≤ 2147483647) (hx0 : 0 ≤ x) {f : UInt8} {t : List UInt8} (hb : leftOf bs k code = f :: t) (hf0 : f = 0) :
    Calls Try.prog 23 #[.pointer (some ⟨g, 0, none⟩), .int .i64 x] w (ToldPost w g lo bs (if (readM t x).2 = 0 then ((readM t x).1, k + (1 + rowLenN x.toNat), code) else ([], k, over code (readM t x).2))) := by
  have hl := left_le h
  have HR := Lib.hid (rest_any h)
  have HC := Lib.hid h
  clear h
  rw [hb] at HR hl
  simp only [List.length_cons] at HR hl
  have hne : ((t.length : Int) + 1 == 0) = false := by simp; omega
  clear hb
  have hz := @readM_zero t x
  have HRR := Lib.hid (fun W B c hS => readRow_any (B := B) (c := c) (x := x) (r := t) (w := W) hS (by omega) (by omega))
  generalize readM t x = rm at hz HRR ⊢
  obtain ⟨row, rc⟩ := rm
  simp only at hz HRR ⊢
  by_cases h0 : rc = 0
  · rw [if_pos h0]
    obtain ⟨_, hrl⟩ := hz h0
    obtain ⟨n, rfl⟩ := Int.eq_ofNat_of_zero_le hx0
    rw [Int.toNat_natCast] at *
    have HL := Lib.hid (fun W => rowLen_any (n := n) (x := (n : Int)) (w := W) rfl (by omega))
    generalize rowLenN n = L at HL hrl
    subst h0
    clear hz
    go_enter Try.func23, Try.ntmps23
    go_wp2_with fail
    refine HR.out.mono ?_
    rintro e w1 ⟨B, c, rfl, hcl, hcm, hS, hbg, d, rfl⟩
    obtain ⟨b, o, rfl, _, hcc⟩ := hS.2 (by omega)
    have hc0 : w.cell? ⟨b, o, none⟩ = some (.int .u8 0) := (hcc 0 (by omega)).trans (by simp [bv, hf0])
    have hS1 := hS.cut (k := 1) (cap := c) (by omega) hcl
    have hS2 : Sl w (if c = 1 then some ⟨b, o, none⟩ else some ⟨b, o + 1, none⟩) t.length (bv t) := by simpa [Addr.add, bv] using hS1
    clear hS hbg hcc hS1
    by_cases hc1 : c = 1
    · rw [if_pos hc1] at hS2
      have HS1 := Lib.hid hS2
      clear hS2
      subst hc1
      have ht : t = [] := List.eq_nil_of_length_eq_zero (by omega)
      subst ht
      simp only [List.length_nil] at *
      go_wp2_with fail
      refine (HRR.out _ _ _ (HS1.out.drewN d)).mono ?_
      rintro e w2 ⟨A', c', rfl, ho, hb⟩
      have HO := Lib.hid ho
      have HB := Lib.hid (show Below w.heap.size w w2 from ⟨hb.os, hb.tape, hb.output, hb.size, hb.block⟩)
      clear ho hb
      go_wp2_with fail
      refine (HL.out _).mono ?_
      rintro e w3 ⟨rfl, rfl⟩
      go_wp2_with fail
      refine (pass_any (n := 1 + L) (HC.out.below HB.out) (by omega) (by omega)).mono ?_
      rintro e w3 ⟨rfl, hc, hg⟩
      have HC3 := Lib.hid hc
      have HG3 := Lib.hid (only_trans (only_of_below HB.out (some g)) hg)
      have HO3 := Lib.hid (HO.out.kept hg (by
        rcases h : (Value.slice A' row.length c').ownBlock with _ | b
        · exact .inl rfl
        · refine .inr (fun e => ?_)
          injection e with e
          have h1 := (HO.out.lt b h).1
          have h2 := HC.out.lt
          simp at h1
          omega))
      clear hc hg
      go_wp2
      go_ret
      exact ⟨A', c', rfl, HO3.out, HC3.out, HG3.out⟩
    · rw [if_neg hc1] at hS2
      have HS1 := Lib.hid hS2
      clear hS2
      go_wp2_with fail
      refine (HRR.out _ _ _ (HS1.out.drewN d)).mono ?_
      rintro e w2 ⟨A', c', rfl, ho, hb⟩
      have HO := Lib.hid ho
      have HB := Lib.hid (show Below w.heap.size w w2 from ⟨hb.os, hb.tape, hb.output, hb.size, hb.block⟩)
      clear ho hb
      go_wp2_with fail
      refine (HL.out _).mono ?_
      rintro e w3 ⟨rfl, rfl⟩
      go_wp2_with fail
      refine (pass_any (n := 1 + L) (HC.out.below HB.out) (by omega) (by omega)).mono ?_
      rintro e w3 ⟨rfl, hc, hg⟩
      have HC3 := Lib.hid hc
      have HG3 := Lib.hid (only_trans (only_of_below HB.out (some g)) hg)
      have HO3 := Lib.hid (HO.out.kept hg (by
        rcases h : (Value.slice A' row.length c').ownBlock with _ | b
        · exact .inl rfl
        · refine .inr (fun e => ?_)
          injection e with e
          have h1 := (HO.out.lt b h).1
          have h2 := HC.out.lt
          simp at h1
          omega))
      clear hc hg
      go_wp2
      go_ret
      exact ⟨A', c', rfl, HO3.out, HC3.out, HG3.out⟩
  · rw [if_neg h0]
    have hrc : (rc == 0) = false := by simpa using h0
    clear hz
    go_enter Try.func23, Try.ntmps23
    go_wp2_with fail
    refine HR.out.mono ?_
    rintro e w1 ⟨B, c, rfl, hcl, hcm, hS, hbg, d, rfl⟩
    obtain ⟨b, o, rfl, _, hcc⟩ := hS.2 (by omega)
    have hc0 : w.cell? ⟨b, o, none⟩ = some (.int .u8 0) := (hcc 0 (by omega)).trans (by simp [bv, hf0])
    have hS1 := hS.cut (k := 1) (cap := c) (by omega) hcl
    have hS2 : Sl w (if c = 1 then some ⟨b, o, none⟩ else some ⟨b, o + 1, none⟩) t.length (bv t) := by simpa [Addr.add, bv] using hS1
    clear hS hbg hcc hS1
    by_cases hc1 : c = 1
    · rw [if_pos hc1] at hS2
      have HS1 := Lib.hid hS2
      clear hS2
      subst hc1
      have ht : t = [] := List.eq_nil_of_length_eq_zero (by omega)
      subst ht
      simp only [List.length_nil] at *
      go_wp2_with fail
      refine (HRR.out _ _ _ (HS1.out.drewN d)).mono ?_
      rintro e w2 ⟨A', c', rfl, ho, hb⟩
      have HB := Lib.hid (show Below w.heap.size w w2 from ⟨hb.os, hb.tape, hb.output, hb.size, hb.block⟩)
      clear ho hb
      go_wp2_with fail
      refine (fail_any (HC.out.below HB.out)).mono ?_
      rintro e w3 ⟨rfl, hc, hg⟩
      have HC3 := Lib.hid hc
      have HG3 := Lib.hid (only_trans (only_of_below HB.out (some g)) hg)
      clear hc hg
      go_wp2
      go_ret
      exact ⟨none, 0, rfl, World.ownsRow_nil _ _ _ _, HC3.out, HG3.out⟩
    · rw [if_neg hc1] at hS2
      have HS1 := Lib.hid hS2
      clear hS2
      go_wp2_with fail
      refine (HRR.out _ _ _ (HS1.out.drewN d)).mono ?_
      rintro e w2 ⟨A', c', rfl, ho, hb⟩
      have HB := Lib.hid (show Below w.heap.size w w2 from ⟨hb.os, hb.tape, hb.output, hb.size, hb.block⟩)
      clear ho hb
      go_wp2_with fail
      refine (fail_any (HC.out.below HB.out)).mono ?_
      rintro e w3 ⟨rfl, hc, hg⟩
      have HC3 := Lib.hid hc
      have HG3 := Lib.hid (only_trans (only_of_below HB.out (some g)) hg)
      clear hc hg
      go_wp2
      go_ret
      exact ⟨none, 0, rfl, World.ownsRow_nil _ _ _ _, HC3.out, HG3.out⟩

set_option maxHeartbeats 1000000 in
theorem told_all (h : Cur 65 w g lo bs k code) (hm : bs.length ≤ 1000000000) {n : Nat} (hx : n ≤ 1000000000) {f : UInt8} {t : List UInt8} (hb : leftOf bs k code = f :: t) (hf0 : f = 1) :
    Calls Try.prog 23 #[.pointer (some ⟨g, 0, none⟩), .int .i64 (n : Int)] w (ToldPost w g lo bs (List.replicate n true, k + 1, code)) := by
  have hl := left_le h
  have HR := Lib.hid (rest_any h)
  have HC := Lib.hid h
  clear h
  rw [hb] at HR hl
  simp only [List.length_cons] at HR hl
  have hne : ((t.length : Int) + 1 == 0) = false := by simp; omega
  clear hb
  unfold ToldPost
  simp only [List.length_replicate]
  go_enter Try.func23, Try.ntmps23
  go_wp2_with fail
  refine HR.out.mono ?_
  rintro e w1 ⟨B, c, rfl, hcl, hcm, hS, hbg, d, rfl⟩
  obtain ⟨b, o, rfl, _, hcc⟩ := hS.2 (by omega)
  have hc0 : w.cell? ⟨b, o, none⟩ = some (.int .u8 1) := (hcc 0 (by omega)).trans (by simp [bv, hf0])
  clear hS hbg hcc
  go_wp2_with fail
  refine (pass_any (n := 1) (HC.out.drewN _) rfl (by omega)).mono ?_
  rintro e w2 ⟨rfl, hc, hg⟩
  have HC2 := Lib.hid hc
  have HG2 := Lib.hid (only_of_drewN hg)
  clear hc hg
  go_wp2_with fail
  refine (allHold_any (n := n) rfl hx).mono ?_
  rintro e w3 ⟨A', c', rfl, ho, hb⟩
  have HO3 := Lib.hid (own_mono ho HG2.out.size)
  have HC3 := Lib.hid (HC2.out.below hb)
  have HG3 := Lib.hid (only_then HG2.out hb)
  clear ho hb
  go_wp2
  go_ret
  exact ⟨A', c', rfl, HO3.out, HC3.out, HG3.out⟩

set_option maxHeartbeats 1000000 in
theorem told_bad (h : Cur 65 w g lo bs k code) (hm : bs.length ≤ 1000000000) (hx : x ≤ 2147483647) (hx0 : 0 ≤ x) {f : UInt8} {t : List UInt8} (hb : leftOf bs k code = f :: t) (hf0 : f ≠ 0) (hf1 : f ≠ 1) :
    Calls Try.prog 23 #[.pointer (some ⟨g, 0, none⟩), .int .i64 x] w (ToldPost w g lo bs ([], k, over code 5)) := by
  have hl := left_le h
  have HR := Lib.hid (rest_any h)
  have HC := Lib.hid h
  clear h
  rw [hb] at HR hl
  simp only [List.length_cons] at HR hl
  have hne : ((t.length : Int) + 1 == 0) = false := by simp; omega
  clear hb
  have hn0 : ((f.toNat : Int) == 0) = false := by
    simp
    intro e
    exact hf0 (UInt8.toNat_inj.1 (by simpa using e))
  have hn1 : ((f.toNat : Int) == 1) = false := by
    simp
    intro e
    exact hf1 (UInt8.toNat_inj.1 (by have : f.toNat = 1 := by omega
                                     simpa using this))
  go_enter Try.func23, Try.ntmps23
  go_wp2_with fail
  refine HR.out.mono ?_
  rintro e w1 ⟨B, c, rfl, hcl, hcm, hS, hbg, d, rfl⟩
  obtain ⟨b, o, rfl, _, hcc⟩ := hS.2 (by omega)
  have hc0 : w.cell? ⟨b, o, none⟩ = some (.int .u8 (f.toNat : Int)) := (hcc 0 (by omega)).trans (by simp [bv])
  clear hS hbg hcc hf0 hf1
  go_wp2_with fail
  refine (fail_any (HC.out.drewN _)).mono ?_
  rintro e w2 ⟨rfl, hc, hg⟩
  have HC2 := Lib.hid hc
  have HG := Lib.hid (only_of_drewN hg)
  clear hc hg
  go_wp2
  go_ret
  exact ⟨none, 0, rfl, World.ownsRow_nil _ _ _ _, HC2.out, HG.out⟩

theorem told_any (h : Cur 65 w g lo bs k code) (hm : bs.length ≤ 1000000000) (hx : x ≤ 1000000000) :
    Calls Try.prog 23 #[.pointer (some ⟨g, 0, none⟩), .int .i64 x] w (ToldPost w g lo bs (toldM bs k code x)) := by
  unfold toldM
  rcases hr : leftOf bs k code with _ | ⟨f, t⟩
  · exact told_none h hm (by omega) (.inr hr)
  · simp only
    by_cases hx0 : x < 0
    · rw [if_pos hx0]
      exact told_none h hm (by omega) (.inl hx0)
    · rw [if_neg hx0]
      by_cases h0 : f = 0
      · rw [if_pos h0]
        exact told_row h hm (by omega) (by omega) hr h0
      · rw [if_neg h0]
        by_cases h1 : f = 1
        · rw [if_pos h1]
          obtain ⟨n, rfl⟩ := Int.eq_ofNat_of_zero_le (show 0 ≤ x by omega)
          rw [Int.toNat_natCast]
          exact told_all h hm (by omega) hr h1
        · rw [if_neg h1]
          exact told_bad h hm (by omega) (by omega) hr h0 h1
end
end Go.Proofs.Ytolkgljbphgacaa
