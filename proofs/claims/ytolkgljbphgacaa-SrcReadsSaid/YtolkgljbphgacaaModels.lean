/-
  Numbers that are read, as one answer for both cursors.
-/
import Derived.Test.YtolkgljbphgacaaBoth
namespace Go.Proofs.Ytolkgljbphgacaa
open Go.RowKit

/-- a number of a size that is read: the number, where the cursor stands then, its code -/
def numM (bs : List UInt8) (k : Nat) (code x : Int) : Nat × Nat × Int :=
  if x = 1 ∨ x = 2 ∨ x = 4 ∨ x = 8 then (leVal (takeM bs k code x.toNat).1, (takeM bs k code x.toNat).2) else (0, k, over code 3)
/-- a short number that is read -/
def numberM (bs : List UInt8) (k : Nat) (code : Int) : Nat × Nat × Int :=
  match shortAt (leftOf bs k code) with
  | none => (0, k, over code 3)
  | some (v, n) => (v, k + n, code)

section
variable {g : Nat} {lo : Nat → Prop} {bs : List UInt8} {k : Nat} {x code : Int} {w : World}
theorem num_all (h : Cur 65 w g lo bs k code) (hm : bs.length ≤ 1000000000) :
    Calls Try.prog 13 #[.pointer (some ⟨g, 0, none⟩), .int .i64 x] w fun e w' =>
      e = .returned (.int .u64 ((numM bs k code x).1 : Int)) ∧ Cur 65 w' g lo bs (numM bs k code x).2.1 (numM bs k code x).2.2 ∧ w.grownBy w' (some g) := by
  unfold numM
  by_cases hs : x = 1 ∨ x = 2 ∨ x = 4 ∨ x = 8
  · rw [if_pos hs]
    obtain ⟨n, rfl⟩ := Int.eq_ofNat_of_zero_le (show 0 ≤ x by omega)
    rw [Int.toNat_natCast]
    unfold takeM
    by_cases hn : n ≤ (leftOf bs k code).length
    · rw [if_pos hn]
      exact num_ok h hm (by omega) hn
    · rw [if_neg hn]
      have hf := num_fail (x := (n : Int)) h hm (.inr (by omega))
      exact hf
  · rw [if_neg hs]
    exact num_fail h hm (.inl hs)
theorem curNum_all (h : Cur 30 w g lo bs k code) (hm : bs.length ≤ 1000000000) :
    Calls Try.prog 14 #[.pointer (some ⟨g, 0, none⟩), .int .i64 x] w fun e w' =>
      e = .returned (.int .u64 ((numM bs k code x).1 : Int)) ∧ Cur 30 w' g lo bs (numM bs k code x).2.1 (numM bs k code x).2.2 ∧ w.grownBy w' (some g) := by
  unfold numM
  by_cases hs : x = 1 ∨ x = 2 ∨ x = 4 ∨ x = 8
  · rw [if_pos hs]
    obtain ⟨n, rfl⟩ := Int.eq_ofNat_of_zero_le (show 0 ≤ x by omega)
    rw [Int.toNat_natCast]
    exact curNum_any h hm (by omega)
  · rw [if_neg hs]
    exact curNum_bad h hs
theorem number_all (h : Cur 65 w g lo bs k code) (hm : bs.length ≤ 1000000000) :
    Calls Try.prog 15 #[.pointer (some ⟨g, 0, none⟩)] w fun e w' =>
      e = .returned (.int .u64 ((numberM bs k code).1 : Int)) ∧ Cur 65 w' g lo bs (numberM bs k code).2.1 (numberM bs k code).2.2 ∧ w.grownBy w' (some g) := by
  have := number_any h hm
  unfold numberM
  rcases hr : shortAt (leftOf bs k code) with _ | ⟨v, n⟩
  · rw [hr] at this; exact this
  · rw [hr] at this; exact this
theorem curNumber_all (h : Cur 30 w g lo bs k code) (hm : bs.length ≤ 1000000000) :
    Calls Try.prog 16 #[.pointer (some ⟨g, 0, none⟩)] w fun e w' =>
      e = .returned (.int .u64 ((numberM bs k code).1 : Int)) ∧ Cur 30 w' g lo bs (numberM bs k code).2.1 (numberM bs k code).2.2 ∧ w.grownBy w' (some g) := by
  unfold numberM
  rcases hr : leftOf bs k code with _ | ⟨f, t⟩
  · exact curNumber_none h hr
  · have hz : code = 0 := by
      by_cases hz : code = 0
      · exact hz
      · simp [leftOf, hz] at hr
    subst hz
    by_cases hlt : t.length < lead f.toNat
    · have e : shortAt (f :: t) = none := by simp [shortAt, hlt]
      rw [e]
      exact curNumber_short h hm hr hlt
    · have e : shortAt (f :: t) = some (f.toNat % 2 ^ (7 - lead f.toNat) * 256 ^ lead f.toNat + leVal (t.take (lead f.toNat)), 1 + lead f.toNat) := by simp [shortAt, hlt]
      rw [e]
      exact curNumber_long h hm hr (by omega)
end

theorem takeM_len (bs : List UInt8) (k : Nat) (code : Int) (n : Nat) : (takeM bs k code n).1.length ≤ bs.length := by
  have hl : (leftOf bs k code).length ≤ bs.length := by
    unfold leftOf
    split
    · rw [List.length_drop]; omega
    · simp
  unfold takeM
  by_cases h : n ≤ (leftOf bs k code).length
  · rw [if_pos h]
    simp only [List.length_take]
    omega
  · rw [if_neg h]; simp
theorem readM_len (r : List UInt8) (x : Int) : (readM r x).1.length ≤ 8 * r.length ∧ (readM r x).1.length ≤ x.toNat := by
  unfold readM
  by_cases h1 : x < 0 ∨ r.length < rowLenN x.toNat
  · rw [if_pos h1]; simp
  · rw [if_neg h1]
    split
    · simp
    · simp only [rowOf_length]
      unfold rowLenN at h1
      omega
theorem bitsM_len (bs : List UInt8) (k : Nat) (code x : Int) : (bitsM bs k code x).1.length ≤ 8 * bs.length := by
  have hl : (leftOf bs k code).length ≤ bs.length := by
    unfold leftOf
    split
    · rw [List.length_drop]; omega
    · simp
  have := (readM_len (leftOf bs k code) x).1
  unfold bitsM
  split
  · simp only; omega
  · simp
theorem toldM_len (bs : List UInt8) (k : Nat) (code x : Int) : (toldM bs k code x).1.length ≤ x.toNat := by
  unfold toldM
  split
  · simp
  · rename_i f t _
    have := (readM_len t x).2
    by_cases h1 : x < 0
    · rw [if_pos h1]; simp
    · rw [if_neg h1]
      by_cases h2 : f = 0
      · rw [if_pos h2]
        split
        · exact this
        · simp
      · rw [if_neg h2]
        by_cases h3 : f = 1
        · rw [if_pos h3]; simp
        · rw [if_neg h3]; simp

/-- a row that was told stays when the other cursor is read -/
theorem told_stays {W W1 W2 : World} {e : TypeId} {A : Option Addr} {n c : Nat} {xs : List Value} {gr : Nat} (h : W1.ownsRow W.heap.size e 1 (.slice A n c) n xs) (hg : W1.grownBy W2 (some gr)) (hr : gr < W.heap.size) :
    W2.ownsRow W.heap.size e 1 (.slice A n c) n xs := by
  refine h.kept hg ?_
  rcases hb : (Value.slice A n c).ownBlock with _ | b
  · exact .inl rfl
  · refine .inr (fun e => ?_)
    injection e with e
    have := (h.lt b hb).1
    omega
end Go.Proofs.Ytolkgljbphgacaa
