/-
  The filter of machine words of x86 as numbers.
-/
import Derived.Test.YtcolnmjginpalaaDoorMem
namespace Go.Proofs.YtcolnmjginpalaaDoor
set_option linter.unusedVariables false
set_option linter.unusedSimpArgs false

/-- a byte with which a word may begin -/
def mkB (x : UInt8) : Bool := x == 232 || x == 233
/-- a byte with which a word that is turned may end -/
def egB (x : UInt8) : Bool := x == 0 || x == 255
/-- the masks with which a word may be turned -/
def alB (a : Nat) : Bool := a == 0 || a == 1 || a == 2 || a == 4
def btN (a : Nat) : Nat := if a = 0 then 0 else if a = 1 then 1 else if a ≤ 3 then 2 else 3
def le4 (r : List UInt8) : Nat := (r.getD 0 0).toNat + 256 * (r.getD 1 0).toNat + 65536 * (r.getD 2 0).toNat + 16777216 * (r.getD 3 0).toNat
def tgN (c : Bool) (p s : Nat) : Nat := if c then (s + (p + 5)) % 4294967296 else (s + (4294967296 - (p + 5) % 4294967296)) % 4294967296
/-- how many bits of a target are turned -/
def loN (a : Nat) : Nat := 2 ^ (32 - 8 * btN a)
def byN (a t : Nat) : UInt8 := UInt8.ofNat (t / 2 ^ (24 - 8 * btN a))
def flN (a t : Nat) : Nat := t - t % loN a + (loN a - 1 - t % loN a)
def tuN (c : Bool) (p a s : Nat) : Nat := if a ≠ 0 ∧ egB (byN a (tgN c p s)) = true then tgN c p (flN a (tgN c p s)) else tgN c p s
def pu4 (t : Nat) : List UInt8 := [UInt8.ofNat t, UInt8.ofNat (t / 256), UInt8.ofNat (t / 65536), if t / 16777216 % 2 = 1 then 255 else 0]
/-- whether a mask bars a word; r: the bytes behind its first -/
def baB (a : Nat) (r : List UInt8) : Bool := a != 0 && (!alB a || egB (r.getD (3 - btN a) 0))

theorem tgN_lt (c : Bool) (p s : Nat) : tgN c p s < 4294967296 := by
  unfold tgN
  split <;> exact Nat.mod_lt _ (by decide)
theorem tuN_lt (c : Bool) (p a s : Nat) : tuN c p a s < 4294967296 := by
  unfold tuN
  split <;> exact tgN_lt _ _ _
theorem pu4_len (t : Nat) : (pu4 t).length = 4 := rfl
theorem pu4_append (t : Nat) (l : List UInt8) : pu4 t ++ l = UInt8.ofNat t :: UInt8.ofNat (t / 256) :: UInt8.ofNat (t / 65536) :: (if t / 16777216 % 2 = 1 then 255 else 0) :: l := rfl

/-- what a list becomes from a place on, with a mask -/
def gN (c : Bool) (p a : Nat) (l : List UInt8) : List UInt8 :=
  match l with
  | [] => []
  | x :: r =>
    if 4 ≤ r.length ∧ mkB x = true then
      if baB a r = true ∨ egB (r.getD 3 0) = false then x :: gN c (p + 1) (2 * a % 8 + 1) r
      else x :: (pu4 (tuN c p a (le4 r)) ++ gN c (p + 5) 0 (r.drop 4))
    else x :: gN c (p + 1) (2 * a % 8) r
termination_by l.length
decreasing_by all_goals simp_wf; all_goals omega

section
variable {c : Bool} {p a : Nat} {x : UInt8} {r l : List UInt8}
theorem gN_nil : gN c p a [] = [] := by rw [gN]
theorem gN_plain (h : ¬ (4 ≤ r.length ∧ mkB x = true)) : gN c p a (x :: r) = x :: gN c (p + 1) (2 * a % 8) r := by rw [gN, if_neg h]
theorem gN_stay (h : 4 ≤ r.length ∧ mkB x = true) (k : baB a r = true ∨ egB (r.getD 3 0) = false) : gN c p a (x :: r) = x :: gN c (p + 1) (2 * a % 8 + 1) r := by rw [gN, if_pos h, if_pos k]
theorem gN_turn (h : 4 ≤ r.length ∧ mkB x = true) (k : ¬ (baB a r = true ∨ egB (r.getD 3 0) = false)) : gN c p a (x :: r) = x :: (pu4 (tuN c p a (le4 r)) ++ gN c (p + 5) 0 (r.drop 4)) := by rw [gN, if_pos h, if_neg k]
end
theorem gN_len (c : Bool) : ∀ (n p a : Nat) (l : List UInt8), l.length = n → (gN c p a l).length = n := by
  intro n
  induction n using Nat.strongRecOn with
  | _ n ih =>
    intro p a l hl
    cases l with
    | nil => rw [gN_nil]; exact hl
    | cons x r =>
      rw [List.length_cons] at hl
      by_cases h : 4 ≤ r.length ∧ mkB x = true
      · by_cases k : baB a r = true ∨ egB (r.getD 3 0) = false
        · rw [gN_stay h k, List.length_cons, ih (n - 1) (by omega) _ _ r (by omega)]
          omega
        · rw [gN_turn h k, List.length_cons, List.length_append, pu4_len, ih (n - 5) (by omega) _ _ (r.drop 4) (by rw [List.length_drop]; omega)]
          omega
      · rw [gN_plain h, List.length_cons, ih (n - 1) (by omega) _ _ r (by omega)]
        omega
theorem gN_length (c : Bool) (p a : Nat) (l : List UInt8) : (gN c p a l).length = l.length := gN_len c _ p a l rfl
theorem gN_short (c : Bool) : ∀ (l : List UInt8) (p a : Nat), l.length ≤ 4 → gN c p a l = l := by
  intro l
  induction l with
  | nil => intro p a _; exact gN_nil
  | cons x r ih =>
    intro p a h
    rw [List.length_cons] at h
    rw [gN_plain (by omega), ih _ _ (by omega)]
theorem gN_head {c : Bool} {p a : Nat} {l : List UInt8} : (gN c p a l).getD 0 0 = l.getD 0 0 := by
  cases l with
  | nil => rw [gN_nil]
  | cons x r =>
    by_cases h : 4 ≤ r.length ∧ mkB x = true
    · by_cases k : baB a r = true ∨ egB (r.getD 3 0) = false
      · rw [gN_stay h k]; rfl
      · rw [gN_turn h k]; rfl
    · rw [gN_plain h]; rfl
end Go.Proofs.YtcolnmjginpalaaDoor
