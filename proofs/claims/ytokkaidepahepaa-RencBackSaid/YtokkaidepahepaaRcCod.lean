/-
  What a list of questions comes to, coded; and decoded again.
-/
import Derived.Test.YtokkaidepahepaaRcPure
import Derived.Test.YtokkaidepahepaaRdRight
namespace Go.Proofs.Ytokkaidepahepaa

open Classical
/-- the probabilities and the coder behind the first j questions -/
noncomputable def cod (qs : Nat → Qn) : Nat → List Nat × En
  | 0 => (List.replicate 600 1024, En.new)
  | j + 1 => if RightQ (qs j) then askE (cod qs j).1 (cod qs j).2 (qs j).k.toNat (qs j).a.toNat (qs j).n.toNat (qs j).v.toNat else cod qs j

section
variable {qs : Nat → Qn}
theorem cod_yes {j : Nat} (h : RightQ (qs j)) : cod qs (j + 1) = askE (cod qs j).1 (cod qs j).2 (qs j).k.toNat (qs j).a.toNat (qs j).n.toNat (qs j).v.toNat := by
  show (if _ then _ else _) = _
  rw [if_pos h]
theorem cod_no {j : Nat} (h : ¬ RightQ (qs j)) : cod qs (j + 1) = cod qs j := by
  show (if _ then _ else _) = _
  rw [if_neg h]
theorem cod_ok : ∀ j, EnOk (cod qs j).2 ∧ PsOk (cod qs j).1 ∧ (cod qs j).1.length = 600 ∧ (cod qs j).2.l ≤ 5 + 32 * j
  | 0 => ⟨enOk_new, fun p hp => by rw [(List.mem_replicate.1 hp).2]; exact pOk_fresh, (by show (List.replicate 600 1024).length = 600; exact List.length_replicate), Nat.le_refl _⟩
  | j + 1 => by
    obtain ⟨h1, h2, h3, h4⟩ := cod_ok j
    by_cases h : RightQ (qs j)
    · rw [cod_yes h]
      obtain ⟨k1, k2, k3, _⟩ := askE_ok (v := (qs j).v.toNat) (rightD_of h) h1 h2 h3
      have := askE_len (ps := (cod qs j).1) (e := (cod qs j).2) (v := (qs j).v.toNat) (rightD_of h)
      exact ⟨k1, k2, k3, by omega⟩
    · rw [cod_no h]
      exact ⟨h1, h2, h3, by omega⟩
theorem cod_step (j : Nat) : Reach (cod qs j).2 (cod qs (j + 1)).2 := by
  obtain ⟨h1, h2, h3, _⟩ := cod_ok (qs := qs) j
  by_cases h : RightQ (qs j)
  · rw [cod_yes h]
    exact (askE_ok (v := (qs j).v.toNat) (rightD_of h) h1 h2 h3).2.2.2
  · rw [cod_no h]
    exact Reach.refl _
theorem cod_reach (i : Nat) : ∀ j, Reach (cod qs i).2 (cod qs (i + j)).2
  | 0 => Reach.refl _
  | j + 1 => (cod_reach i j).trans (cod_step (i + j))
theorem cod_reach' {i j : Nat} (h : i ≤ j) : Reach (cod qs i).2 (cod qs j).2 := by
  have := cod_reach (qs := qs) i (j - i)
  rwa [show i + (j - i) = j by omega] at this
theorem cod_first (j : Nat) : Reach En.new (cod qs j).2 := by
  have := cod_reach (qs := qs) 0 j
  rwa [Nat.zero_add] at this

/-- The decoder of the bytes that m questions came to, asked question j: told as it was coded, and as far as the coder was. -/
theorem cod_dec {bs more : List UInt8} {j m : Nat} (hf : Ends bs (cod qs m).2) (hj : j < m) (h : RightQ (qs j)) :
    askD (cod qs j).1 (decAt bs more (cod qs j).2) (qs j).k.toNat (qs j).a.toNat (qs j).n.toNat = (wantOf (qs j).k.toNat (qs j).n.toNat (qs j).v.toNat, (cod qs (j + 1)).1, decAt bs more (cod qs (j + 1)).2) := by
  obtain ⟨h1, h2, h3, _⟩ := cod_ok (qs := qs) j
  have hr := cod_reach' (qs := qs) (show j + 1 ≤ m by omega)
  rw [cod_yes h] at hr ⊢
  exact ask_dec hf (rightD_of h) h1 h2 h3 hr
end
end Go.Proofs.Ytokkaidepahepaa
