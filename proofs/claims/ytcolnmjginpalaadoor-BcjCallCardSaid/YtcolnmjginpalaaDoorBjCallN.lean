/-
  One call among bytes that are none, as numbers.
-/
import Derived.Test.YtcolnmjginpalaaDoorBjBack
namespace Go.Proofs.YtcolnmjginpalaaDoor
set_option linter.unusedVariables false
set_option linter.unusedSimpArgs false

/-- the greatest byte is an edge, as bit 24 tells -/
def sxt (S : Nat) : Prop := S < 16777216 ∨ (4278190080 ≤ S ∧ S < 4294967296)
theorem sxt_lt {S : Nat} (h : sxt S) : S < 4294967296 := by unfold sxt at h; omega
theorem sxt_of {v : Nat} : v % 33554432 < 16777216 → sxt (v % 33554432) := fun h => .inl h
theorem sxt_or {v : Nat} (h : ¬ v % 33554432 < 16777216) : sxt (v % 33554432 + 4261412864) := .inr (by omega)
theorem sxt_byte {S : Nat} (h : sxt S) : S % 256 = ((pu4 S).getD 0 0).toNat ∧ S / 256 % 256 = ((pu4 S).getD 1 0).toNat ∧ S / 65536 % 256 = ((pu4 S).getD 2 0).toNat ∧ S / 16777216 % 256 = ((pu4 S).getD 3 0).toNat := by
  refine ⟨?_, ?_, ?_, ?_⟩
  · show _ = (UInt8.ofNat S).toNat
    rw [UInt8.toNat_ofNat']
  · show _ = (UInt8.ofNat (S / 256)).toNat
    rw [UInt8.toNat_ofNat']
  · show _ = (UInt8.ofNat (S / 65536)).toNat
    rw [UInt8.toNat_ofNat']
  · show _ = (if S / 16777216 % 2 = 1 then (255 : UInt8) else 0).toNat
    unfold sxt at h
    rcases h with h | h
    · rw [if_neg (by omega)]
      show _ = 0
      omega
    · rw [if_pos (by omega)]
      show _ = 255
      omega
theorem sxt_le4 {S : Nat} (h : sxt S) (R : List UInt8) : le4 (pu4 S ++ R) = S := by
  obtain ⟨h0, h1, h2, h3⟩ := sxt_byte h
  have hl : le4 (pu4 S ++ R) = ((pu4 S).getD 0 0).toNat + 256 * ((pu4 S).getD 1 0).toNat + 65536 * ((pu4 S).getD 2 0).toNat + 16777216 * ((pu4 S).getD 3 0).toNat := rfl
  have := sxt_lt h
  rw [hl, ← h0, ← h1, ← h2, ← h3]
  omega
def sxN (v : Nat) : Nat := if v % 33554432 < 16777216 then v % 33554432 else v % 33554432 + 4261412864
theorem sxN_sxt (v : Nat) : sxt (sxN v) := by
  unfold sxN
  by_cases h : v % 33554432 < 16777216
  · rw [if_pos h]; exact sxt_of h
  · rw [if_neg h]; exact sxt_or h
theorem sxN_mod (v : Nat) : sxN v % 33554432 = v % 33554432 := by
  unfold sxN
  split <;> omega
def callB (n : Nat) (mk : UInt8) (S : Nat) : List UInt8 := List.replicate n 144 ++ mk :: (pu4 S ++ List.replicate 4 144)
theorem callB_len (n : Nat) (mk : UInt8) (S : Nat) : (callB n mk S).length = n + 9 := by
  unfold callB
  rw [List.length_append, List.length_replicate, List.length_cons, List.length_append, pu4_len, List.length_replicate]
theorem gN_pre (c : Bool) : ∀ (n p : Nat) (l : List UInt8), gN c p 0 (List.replicate n 144 ++ l) = List.replicate n 144 ++ gN c (p + n) 0 l
  | 0, p, l => by rw [List.replicate_zero, List.nil_append, List.nil_append, Nat.add_zero]
  | n + 1, p, l => by
    rw [List.replicate_succ, List.cons_append, gN_plain (by rintro ⟨_, h⟩; exact absurd h (by decide)), show 2 * 0 % 8 = 0 from rfl, gN_pre c n (p + 1) l, show p + 1 + n = p + (n + 1) by omega]
    rfl
/-- coded, the four bytes are the place -/
theorem call_coded {n S T : Nat} {mk : UInt8} (hm : mkB mk = true) (hS : sxt S) (hT : T % 33554432 = (S + n + 5) % 33554432) : gN true 0 0 (callB n mk S) = callB n mk T := by
  unfold callB
  rw [gN_pre, Nat.zero_add, gN_turn ⟨by rw [List.length_append, pu4_len]; omega, hm⟩, sxt_le4 hS, List.drop_left' (pu4_len S), gN_short _ _ _ _ (by rw [List.length_replicate]; decide)]
  · have : pu4 (tuN true n 0 S) = pu4 T := by
      rw [pu4_mod, pu4_mod T, tu_zero, hT]
      unfold teN
      rw [if_pos rfl]
      have e : (S % 33554432 + (n + 5) % 33554432) % 33554432 = (S + n + 5) % 33554432 := by omega
      rw [e]
    rw [this]
  · have h3 : (pu4 S ++ List.replicate 4 144).getD 3 0 = (pu4 S).getD 3 0 := rfl
    rw [h3, pu4_edge]
    rintro (h | h)
    · have h' : baB 0 (pu4 S ++ List.replicate 4 144) = false := rfl
      rw [h'] at h
      cases h
    · cases h
theorem call_get {n S : Nat} {mk : UInt8} (j : Nat) : (callB n mk S).getD j 0 = if n + 1 ≤ j ∧ j < n + 5 then (pu4 S).getD (j - n - 1) 0 else (callB n mk 0).getD j 0 := by
  unfold callB
  by_cases h : n + 1 ≤ j ∧ j < n + 5
  · rw [if_pos h, List.getD_eq_getElem?_getD, List.getElem?_append_right (by rw [List.length_replicate]; omega), List.length_replicate, show j - n = (j - n - 1) + 1 by omega, List.getElem?_cons_succ, List.getElem?_append_left (by rw [pu4_len]; omega), ← List.getD_eq_getElem?_getD]
    rfl
  · rw [if_neg h, List.getD_eq_getElem?_getD, List.getD_eq_getElem?_getD]
    rcases Nat.lt_or_ge j n with h1 | h1
    · rw [List.getElem?_append_left (by rw [List.length_replicate]; exact h1), List.getElem?_append_left (by rw [List.length_replicate]; exact h1)]
    · rw [List.getElem?_append_right (by rw [List.length_replicate]; exact h1), List.getElem?_append_right (by rw [List.length_replicate]; exact h1), List.length_replicate]
      rcases Nat.eq_zero_or_pos (j - n) with h2 | h2
      · rw [h2]; rfl
      · rw [show j - n = (j - n - 1) + 1 by omega, List.getElem?_cons_succ, List.getElem?_cons_succ, List.getElem?_append_right (by rw [pu4_len]; omega), List.getElem?_append_right (by rw [pu4_len]; omega)]
        rfl
/-- so far the word is laid -/
theorem call_laid {n Z : Nat} {mk : UInt8} {S : Nat} {xs : List UInt8} (hZ : Z = n + 9) (hl : xs.length = Z) (h : ∀ k, xs.getD k 0 = if n + 1 ≤ k ∧ k < n + 1 + 4 then (pu4 S).getD (k - n - 1) 0 else ((List.replicate Z (144 : UInt8)).set n mk).getD k 0) : xs = callB n mk S := by
  refine List.ext_getElem (by rw [hl, callB_len, hZ]) fun k h1 h2 => ?_
  have e1 := h k
  have e2 := call_get (n := n) (S := S) (mk := mk) k
  have e3 : xs.getD k 0 = (callB n mk S).getD k 0 := by
    rw [e1, e2]
    by_cases hk : n + 1 ≤ k ∧ k < n + 5
    · rw [if_pos hk, if_pos (by omega)]
    · rw [if_neg hk, if_neg (by omega), List.getD_eq_getElem?_getD, List.getElem?_set]
      unfold callB
      by_cases hn : n = k
      · subst hn
        rw [if_pos rfl, if_pos (by rw [List.length_replicate]; omega), List.getD_eq_getElem?_getD, List.getElem?_append_right (by rw [List.length_replicate]; exact Nat.le_refl _), List.length_replicate, Nat.sub_self]
        rfl
      · rw [if_neg hn, List.getD_eq_getElem?_getD]
        rcases Nat.lt_or_ge k n with h3 | h3
        · rw [List.getElem?_append_left (by rw [List.length_replicate]; exact h3), List.getElem?_replicate, List.getElem?_replicate, if_pos (by omega), if_pos h3]
        · rw [List.getElem?_append_right (by rw [List.length_replicate]; exact h3), List.length_replicate, show k - n = (k - n - 1) + 1 by omega, List.getElem?_cons_succ, List.getElem?_append_right (by rw [pu4_len]; omega), pu4_len, List.getElem?_replicate, List.getElem?_replicate, if_pos (by omega), if_pos (by omega)]
  rw [List.getD_eq_getElem?_getD, List.getD_eq_getElem?_getD, List.getElem?_eq_getElem h1, List.getElem?_eq_getElem h2] at e3
  exact e3
end Go.Proofs.YtcolnmjginpalaaDoor
