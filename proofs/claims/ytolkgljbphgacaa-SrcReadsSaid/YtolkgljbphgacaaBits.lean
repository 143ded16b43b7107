/-
  The cursor's rows: Bits and Told.
-/
import Derived.Test.YtolkgljbphgacaaRead
import Derived.Test.YtolkgljbphgacaaTake
namespace Go.Proofs.Ytolkgljbphgacaa
open Go.RowKit

/-- a row of x bits at the beginning of bytes, or a code -/
def readM (r : List UInt8) (x : Int) : List Bool × Int :=
  if x < 0 ∨ r.length < rowLenN x.toNat then ([], 3) else if tailBad r x.toNat then ([], 5) else (rowOf r x.toNat, 0)

theorem readRow_any {B : Option Addr} {c : Nat} {x : Int} {r : List UInt8} {w : World} (hS : Sl w B r.length (bv r)) (hm : r.length ≤ 1000000000) (hx : x ≤ 9223372036854775807) :
    Calls Try.prog 54 #[.slice B r.length c, .int .i64 x] w fun e w' =>
      ∃ A' c', e = .returned (.tuple #[.slice A' (readM r x).1.length c', .int .i64 (readM r x).2]) ∧ w'.ownsRow w.heap.size 4 1 (.slice A' (readM r x).1.length c') (readM r x).1.length (fv (readM r x).1) ∧ Below w.heap.size w w' := by
  unfold readM
  by_cases h1 : x < 0 ∨ r.length < rowLenN x.toNat
  · rw [if_pos h1]
    refine (readRow_short hm ?_).mono ?_
    · by_cases hn : x < 0
      · exact .inl hn
      · refine .inr ⟨x.toNat, by omega, by omega, ?_⟩
        rcases h1 with h | h
        · exact absurd h hn
        · exact h
    · rintro e w' ⟨rfl, rfl⟩
      exact ⟨none, 0, rfl, World.ownsRow_nil _ _ _ _, Below.refl _ _⟩
  · rw [if_neg h1]
    obtain ⟨n, rfl⟩ := Int.eq_ofNat_of_zero_le (show 0 ≤ x by omega)
    rw [Int.toNat_natCast] at *
    by_cases h2 : tailBad r n = true
    · rw [if_pos h2]
      refine (readRow_bad hS hm (by omega) h2).mono ?_
      rintro e w' ⟨rfl, rfl⟩
      exact ⟨none, 0, rfl, World.ownsRow_nil _ _ _ _, Below.refl _ _⟩
    · rw [if_neg h2]
      refine (readRow_ok hS hm (by omega) (by simpa using h2)).mono ?_
      rintro e w' ⟨A', c', rfl, ho, hb⟩
      simp only [rowOf_length]
      exact ⟨A', c', rfl, ho, hb⟩

/-- a row that is read, and where the cursor stands then -/
def bitsM (bs : List UInt8) (k : Nat) (code x : Int) : List Bool × Nat × Int :=
  if (readM (leftOf bs k code) x).2 = 0 then ((readM (leftOf bs k code) x).1, k + rowLenN x.toNat, code) else ([], k, over code (readM (leftOf bs k code) x).2)

theorem readM_zero {r : List UInt8} {x : Int} (h : (readM r x).2 = 0) : 0 ≤ x ∧ rowLenN x.toNat ≤ r.length := by
  unfold readM at h
  by_cases h1 : x < 0 ∨ r.length < rowLenN x.toNat
  · rw [if_pos h1] at h; cases h
  · omega

set_option maxHeartbeats 1000000 in
theorem bits_any {g : Nat} {lo : Nat → Prop} {bs : List UInt8} {k : Nat} {x code : Int} {w : World} (h : Cur 65 w g lo bs k code) (hm : bs.length ≤ 1000000000) (hx : x ≤ 9223372036854775807) :
    Calls Try.prog 21 #[.pointer (some ⟨g, 0, none⟩), .int .i64 x] w fun e w' =>
      ∃ A' c', e = .returned (.slice A' (bitsM bs k code x).1.length c') ∧ w'.ownsRow w.heap.size 4 1 (.slice A' (bitsM bs k code x).1.length c') (bitsM bs k code x).1.length (fv (bitsM bs k code x).1) ∧
        Cur 65 w' g lo bs (bitsM bs k code x).2.1 (bitsM bs k code x).2.2 ∧ w.grownBy w' (some g) := by
  have hl := left_le h
  have HR := Lib.hid (rest_any h)
  have HC := Lib.hid h
  clear h
  unfold bitsM
  have hz := @readM_zero (leftOf bs k code) x
  have HRR := Lib.hid (fun W B c hS => readRow_any (B := B) (c := c) (x := x) (r := leftOf bs k code) (w := W) hS (by omega) hx)
  generalize readM (leftOf bs k code) x = rm at hz HRR ⊢
  obtain ⟨row, rc⟩ := rm
  simp only at hz HRR ⊢
  generalize leftOf bs k code = r at *
  by_cases h0 : rc = 0
  · rw [if_pos h0]
    obtain ⟨hx0, hrl⟩ := hz h0
    obtain ⟨n, rfl⟩ := Int.eq_ofNat_of_zero_le hx0
    rw [Int.toNat_natCast] at *
    have HL := Lib.hid (fun W => rowLen_any (n := n) (x := (n : Int)) (w := W) rfl (by omega))
    generalize rowLenN n = L at HL hrl
    subst h0
    clear hz
    go_enter Try.func21, Try.ntmps21
    go_wp2_with fail
    refine HR.out.mono ?_
    rintro e w1 ⟨B, c, rfl, hcl, hcm, hS, hbg, d, rfl⟩
    have HS := Lib.hid hS
    clear hS hbg
    go_wp2_with fail
    refine (HRR.out _ _ _ (HS.out.drewN d)).mono ?_
    rintro e w2 ⟨A', c', rfl, ho, hb⟩
    have HO := Lib.hid ho
    have HB := Lib.hid (show Below w.heap.size w w2 from ⟨hb.os, hb.tape, hb.output, hb.size, hb.block⟩)
    clear ho hb
    go_wp2_with fail
    refine (HL.out _).mono ?_
    rintro e w3 ⟨rfl, rfl⟩
    go_wp2_with fail
    refine (pass_any (n := L) (HC.out.below HB.out) rfl (by omega)).mono ?_
    rintro e w3 ⟨rfl, hc, hg⟩
    have HC3 := Lib.hid hc
    have HG3 := Lib.hid (only_trans (only_of_below HB.out (some g)) hg)
    have HO3 := Lib.hid (HO.out.kept hg (by
      rcases h : (Value.slice A' row.length c').ownBlock with _ | b
      · exact .inl rfl
      · refine .inr (fun e => ?_)
        injection e with e
        have h1 := (HO.out.lt b h).1
        have h2 := HC.out.lt
        simp at h1
        omega))
    clear hc hg
    go_wp2
    go_ret
    exact ⟨A', c', rfl, HO3.out, HC3.out, HG3.out⟩
  · rw [if_neg h0]
    have hrc : (rc == 0) = false := by simpa using h0
    clear hz
    go_enter Try.func21, Try.ntmps21
    go_wp2_with fail
    refine HR.out.mono ?_
    rintro e w1 ⟨B, c, rfl, hcl, hcm, hS, hbg, d, rfl⟩
    have HS := Lib.hid hS
    clear hS hbg
    go_wp2_with fail
    refine (HRR.out _ _ _ (HS.out.drewN d)).mono ?_
    rintro e w2 ⟨A', c', rfl, ho, hb⟩
    have HB := Lib.hid (show Below w.heap.size w w2 from ⟨hb.os, hb.tape, hb.output, hb.size, hb.block⟩)
    clear ho hb
    go_wp2_with fail
    refine (fail_any (HC.out.below HB.out)).mono ?_
    rintro e w3 ⟨rfl, hc, hg⟩
    have HC3 := Lib.hid hc
    have HG3 := Lib.hid (only_trans (only_of_below HB.out (some g)) hg)
    clear hc hg
    go_wp2
    go_ret
    exact ⟨none, 0, rfl, World.ownsRow_nil _ _ _ _, HC3.out, HG3.out⟩

/-- a told row that is read -/
def toldM (bs : List UInt8) (k : Nat) (code x : Int) : List Bool × Nat × Int :=
  match leftOf bs k code with
  | [] => ([], k, over code 3)
  | f :: t =>
    if x < 0 then ([], k, over code 3)
    else if f = 0 then (if (readM t x).2 = 0 then ((readM t x).1, k + (1 + rowLenN x.toNat), code) else ([], k, over code (readM t x).2))
    else if f = 1 then (List.replicate x.toNat true, k + 1, code)
    else ([], k, over code 5)
end Go.Proofs.Ytolkgljbphgacaa
