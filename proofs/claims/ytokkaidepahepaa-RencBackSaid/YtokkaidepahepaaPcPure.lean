/-
  The program's coder as numbers: the bytes that it gave, the byte that waits, the bytes FF behind it, low; and the one great number that it stands for.
-/
import Derived.Test.YtokkaidepahepaaRcPure
namespace Go.Proofs.Ytokkaidepahepaa

structure Co where
  gs : List UInt8
  wt : Nat
  fu : Nat
  lo : Nat

def Co.new : Co := ⟨[], 0, 0, 0⟩
/-- what waited is given, more by m -/
def Co.gave (c : Co) (m : Nat) : List UInt8 := c.gs ++ (UInt8.ofNat (c.wt + m) :: List.replicate c.fu (UInt8.ofNat (255 + m)))
/-- a byte is given -/
def Co.give (c : Co) : Co :=
  if 4294967296 ≤ c.lo then ⟨c.gave 1, c.lo / 16777216 % 256, 0, c.lo % 16777216 * 256⟩
  else if c.lo < 4278190080 then ⟨c.gave 0, c.lo / 16777216, 0, c.lo % 16777216 * 256⟩
  else ⟨c.gs, c.wt, c.fu + 1, c.lo % 16777216 * 256⟩

/-- the coder c stands for n, as long as l; what is added stays below r -/
structure CoN (c : Co) (n l r : Nat) : Prop where
  num : n + 4294967296 = (be c.gs * 256 + c.wt + 1) * 256 ^ c.fu * 4294967296 + c.lo
  len : l = c.gs.length + c.fu + 5
  wt : c.wt < 256
  top : c.lo + r ≤ 8589934592
  full : c.wt = 255 → c.lo + r ≤ 4294967296
  pos : 1 ≤ r

theorem coN_new : CoN Co.new 0 5 4294967295 := ⟨by decide, rfl, by decide, by decide, by decide, by decide⟩
theorem CoN.mono {c : Co} {n l r r' : Nat} (h : CoN c n l r) (hr : r' ≤ r) (h1 : 1 ≤ r') : CoN c n l r' :=
  ⟨h.num, h.len, h.wt, by have := h.top; omega, fun e => by have := h.full e; omega, h1⟩
theorem CoN.low {c : Co} {n l r : Nat} (h : CoN c n l r) : c.lo < 8589934592 := by have := h.top; have := h.pos; omega

/-- what is added -/
def Co.plus (c : Co) (z : Nat) : Co := ⟨c.gs, c.wt, c.fu, c.lo + z⟩
theorem CoN.plus {c : Co} {n l r r' z : Nat} (h : CoN c n l r) (hz : z + r' ≤ r) (h1 : 1 ≤ r') : CoN (c.plus z) (n + z) l r' :=
  ⟨by have := h.num; show n + z + 4294967296 = (be c.gs * 256 + c.wt + 1) * 256 ^ c.fu * 4294967296 + (c.lo + z); omega, h.len, h.wt, by have := h.top; show c.lo + z + r' ≤ _; omega, fun e => by have := h.full e; show c.lo + z + r' ≤ _; omega, h1⟩

theorem be_fulls : ∀ k : Nat, be (List.replicate k (UInt8.ofNat 255)) + 1 = 256 ^ k
  | 0 => rfl
  | k + 1 => by
    have := be_fulls k
    rw [List.replicate_succ', be_snoc, Nat.pow_succ]
    have e : (UInt8.ofNat 255).toNat = 255 := rfl
    rw [e]
    omega
theorem gave_len (c : Co) (m : Nat) : (c.gave m).length = c.gs.length + 1 + c.fu := by unfold Co.gave; simp; omega
theorem be_gave_zero (c : Co) (h : c.wt < 256) : be (c.gave 0) + 1 = (be c.gs * 256 + c.wt + 1) * 256 ^ c.fu := by
  have e : (UInt8.ofNat (c.wt + 0)).toNat = c.wt := by simp; omega
  have k := be_fulls c.fu
  have hc : UInt8.ofNat (c.wt + 0) :: List.replicate c.fu (UInt8.ofNat (255 + 0)) = [UInt8.ofNat (c.wt + 0)] ++ List.replicate c.fu (UInt8.ofNat 255) := rfl
  unfold Co.gave
  rw [hc, ← List.append_assoc, be_append, be_snoc, e, List.length_replicate, Nat.add_mul (be c.gs * 256 + c.wt) 1]
  omega
theorem be_gave_one (c : Co) (h : c.wt < 255) : be (c.gave 1) = (be c.gs * 256 + c.wt + 1) * 256 ^ c.fu := by
  have e : (UInt8.ofNat (c.wt + 1)).toNat = c.wt + 1 := by simp; omega
  have hc : UInt8.ofNat (c.wt + 1) :: List.replicate c.fu (UInt8.ofNat (255 + 1)) = [UInt8.ofNat (c.wt + 1)] ++ List.replicate c.fu 0 := rfl
  unfold Co.gave
  rw [hc, ← List.append_assoc, be_append, be_snoc, e, List.length_replicate, be_zeros, Nat.add_zero, Nat.add_assoc]

theorem give_carry {n X lo h m : Nat} (hn : n + 4294967296 = X * 4294967296 + lo) (hlo : lo = 4294967296 + h * 16777216 + m) : n * 256 + 4294967296 = (X * 256 + h + 1) * 4294967296 + m * 256 := by omega
theorem give_low {n X Y lo h m : Nat} (hn : n + 4294967296 = X * 4294967296 + lo) (hY : Y + 1 = X) (hlo : lo = h * 16777216 + m) : n * 256 + 4294967296 = (Y * 256 + h + 1) * 4294967296 + m * 256 := by omega
theorem give_full {n X lo m : Nat} (hn : n + 4294967296 = X * 4294967296 + lo) (hlo : lo = 255 * 16777216 + m) : n * 256 + 4294967296 = X * 256 * 4294967296 + m * 256 := by omega

theorem CoN.give {c : Co} {n l r : Nat} (h : CoN c n l r) (hr : r < 16777216) : CoN c.give (n * 256) (l + 1) (r * 256) := by
  obtain ⟨h1, h2, h3, h4, h5, h6⟩ := h
  unfold Co.give
  by_cases hc : 4294967296 ≤ c.lo
  · rw [if_pos hc]
    have hw : c.wt < 255 := by
      rcases Nat.lt_or_ge c.wt 255 with h | h
      · exact h
      · have := h5 (by omega)
        omega
    have hX := be_gave_one c hw
    rw [← hX] at h1
    refine ⟨?_, ?_, Nat.mod_lt _ (by decide), ?_, ?_, by omega⟩
    · show n * 256 + 4294967296 = (be (c.gave 1) * 256 + c.lo / 16777216 % 256 + 1) * 256 ^ 0 * 4294967296 + c.lo % 16777216 * 256
      rw [Nat.pow_zero, Nat.mul_one]
      exact give_carry h1 (by omega)
    · show l + 1 = (c.gave 1).length + 0 + 5
      rw [gave_len]
      omega
    · show c.lo % 16777216 * 256 + r * 256 ≤ _
      omega
    · show c.lo / 16777216 % 256 = 255 → c.lo % 16777216 * 256 + r * 256 ≤ _
      intro e
      omega
  · rw [if_neg hc]
    by_cases hl : c.lo < 4278190080
    · rw [if_pos hl]
      have hX := be_gave_zero c h3
      refine ⟨?_, ?_, ?_, ?_, ?_, by omega⟩
      · show n * 256 + 4294967296 = (be (c.gave 0) * 256 + c.lo / 16777216 + 1) * 256 ^ 0 * 4294967296 + c.lo % 16777216 * 256
        rw [Nat.pow_zero, Nat.mul_one]
        exact give_low h1 hX (by omega)
      · show l + 1 = (c.gave 0).length + 0 + 5
        rw [gave_len]
        omega
      · show c.lo / 16777216 < 256
        omega
      · show c.lo % 16777216 * 256 + r * 256 ≤ _
        omega
      · show c.lo / 16777216 = 255 → c.lo % 16777216 * 256 + r * 256 ≤ _
        intro e
        omega
    · rw [if_neg hl]
      refine ⟨?_, ?_, h3, ?_, ?_, by omega⟩
      · show n * 256 + 4294967296 = (be c.gs * 256 + c.wt + 1) * 256 ^ (c.fu + 1) * 4294967296 + c.lo % 16777216 * 256
        rw [Nat.pow_succ, ← Nat.mul_assoc]
        exact give_full h1 (by omega)
      · show l + 1 = c.gs.length + (c.fu + 1) + 5
        omega
      · show c.lo % 16777216 * 256 + r * 256 ≤ _
        omega
      · show c.wt = 255 → c.lo % 16777216 * 256 + r * 256 ≤ _
        intro e
        have := h5 e
        omega

/-- k bytes are given -/
def Co.gives (c : Co) : Nat → Co
  | 0 => c
  | k + 1 => (c.gives k).give
theorem give_lo (c : Co) : c.give.lo = c.lo % 16777216 * 256 := by
  unfold Co.give
  split
  · rfl
  · split <;> rfl
theorem give_zero {c : Co} (h : c.lo = 0) : c.give.fu = 0 ∧ c.give.wt = 0 ∧ c.give.lo = 0 := by
  unfold Co.give
  rw [if_neg (by omega), if_pos (by omega)]
  exact ⟨rfl, by show c.lo / 16777216 = 0; omega, by show c.lo % 16777216 * 256 = 0; omega⟩
theorem CoN.gives {c : Co} {n l : Nat} (h : CoN c n l 1) : ∀ k, CoN (c.gives k) (n * 256 ^ k) (l + k) 1
  | 0 => by rw [Nat.pow_zero, Nat.mul_one]; exact h
  | k + 1 => by
    have := (CoN.gives h k).give (by decide)
    rw [Nat.pow_succ, ← Nat.mul_assoc]
    exact this.mono (by decide) (by decide)
/-- In the end all is given. -/
theorem CoN.finish {c : Co} {n l r : Nat} (h : CoN c n l r) : be (c.gives 5).gs = n ∧ (c.gives 5).gs.length = l := by
  have h0 := h.low
  have h5 := (h.mono h.pos (Nat.le_refl 1)).gives 5
  have l1 : (c.gives 1).lo = c.lo % 16777216 * 256 := give_lo _
  have l2 : (c.gives 2).lo = (c.gives 1).lo % 16777216 * 256 := give_lo _
  have l3 : (c.gives 3).lo = (c.gives 2).lo % 16777216 * 256 := give_lo _
  have l4 : (c.gives 4).lo = (c.gives 3).lo % 16777216 * 256 := give_lo _
  obtain ⟨z1, z2, z3⟩ : (c.gives 5).fu = 0 ∧ (c.gives 5).wt = 0 ∧ (c.gives 5).lo = 0 := give_zero (c := c.gives 4) (by omega)
  obtain ⟨k1, k2, _⟩ := h5
  rw [z1, z2, z3, Nat.pow_zero] at k1
  rw [z1] at k2
  exact ⟨by omega, by omega⟩

theorem gives_succ (c : Co) (k : Nat) : c.gives (k + 1) = (c.gives k).give := rfl
theorem give_fu (c : Co) : c.give.gs.length + c.give.fu = c.gs.length + c.fu + 1 := by
  unfold Co.give
  split
  · show (c.gave 1).length + 0 = _; rw [gave_len]; omega
  · split
    · show (c.gave 0).length + 0 = _; rw [gave_len]; omega
    · show c.gs.length + (c.fu + 1) = _; omega
theorem gives_len (c : Co) : ∀ k, (c.gives k).gs.length + (c.gives k).fu = c.gs.length + c.fu + k
  | 0 => rfl
  | k + 1 => by have := give_fu (c.gives k); have := gives_len c k; rw [gives_succ]; omega
end Go.Proofs.Ytokkaidepahepaa
