/-
  The filter of machine words: what is coded is decoded as it was, as numbers.
-/
import Derived.Test.YtcolnmjginpalaaDoorBjNum
namespace Go.Proofs.YtcolnmjginpalaaDoor
set_option linter.unusedVariables false
set_option linter.unusedSimpArgs false

theorem eg_nat (x : UInt8) : egB x = true ↔ x.toNat = 0 ∨ x.toNat = 255 := by
  unfold egB
  rw [Bool.or_eq_true, beq_iff_eq, beq_iff_eq]
  constructor
  · rintro (h | h) <;> subst h <;> simp
  · rintro (h | h)
    · exact .inl (UInt8.toNat_inj.1 h)
    · exact .inr (UInt8.toNat_inj.1 h)
/-- an edge, of a number's residue -/
abbrev egN (x : Nat) : Prop := x % 256 = 0 ∨ x % 256 = 255
theorem eg_of (x : Nat) : egB (UInt8.ofNat x) = true ↔ egN x := by
  rw [eg_nat, UInt8.toNat_ofNat']
/-- targets, of what 25 bits tell -/
def teN (c : Bool) (p : Nat) : Nat := if c then (p + 5) % 33554432 else (33554432 - (p + 5) % 33554432) % 33554432
theorem te_lt (c : Bool) (p : Nat) : teN c p < 33554432 := by unfold teN; split <;> exact Nat.mod_lt _ (by decide)
theorem te_back (p : Nat) : (teN true p + teN false p) % 33554432 = 0 := by
  unfold teN
  rw [if_pos rfl, if_neg (by decide)]
  omega
theorem tg_res (c : Bool) (p s : Nat) : tgN c p s % 33554432 = (s % 33554432 + teN c p) % 33554432 := by
  unfold tgN teN
  cases c
  · rw [if_neg (by decide), if_neg (by decide)]
    omega
  · rw [if_pos rfl, if_pos rfl]
    omega
/-- an edge, of a residue -/
abbrev egR (q r : Nat) : Prop := r < q ∨ 255 * q ≤ r
theorem eg_res {q x : Nat} (hq : 0 < q) : egN (x / q) ↔ egR q (x % (q * 256)) := by
  unfold egN egR
  rw [← Nat.mod_mul_right_div_self]
  have hr : x % (q * 256) < q * 256 := Nat.mod_lt _ (by omega)
  generalize x % (q * 256) = r at *
  have h1 : r / q = 0 ↔ r < q := by rw [Nat.div_eq_zero_iff]; omega
  have h2 : r / q = 255 ↔ 255 * q ≤ r := by
    rw [← Nat.le_div_iff_mul_le hq]
    have : r / q < 256 := by rw [Nat.div_lt_iff_lt_mul hq]; omega
    omega
  rw [h1, h2]
/-- turned by a word's own target, of what 25 bits tell; m: 2 to the bits that are turned -/
def flM (m t : Nat) : Nat := t - t % m + (m - 1 - t % m)
def fxM (q e s : Nat) : Nat := if egN ((s + e) % 33554432 / q) then (flM (q * 256) ((s + e) % 33554432) + e) % 33554432 else (s + e) % 33554432
theorem comp_mod {m r e : Nat} (hr : r < m) (he : e < m) : (m - 1 - (r + e) % m + e) % m = m - 1 - r := by
  rcases Nat.lt_or_ge (r + e) m with h | h
  · rw [Nat.mod_eq_of_lt h, show m - 1 - (r + e) + e = m - 1 - r by omega, Nat.mod_eq_of_lt (by omega)]
  · rw [Nat.mod_eq_sub_mod h, Nat.mod_eq_of_lt (show r + e - m < m by omega), show m - 1 - (r + e - m) + e = (m - 1 - r) + m by omega, Nat.add_mod_right, Nat.mod_eq_of_lt (by omega)]
theorem fl_res {m t : Nat} (hm : 0 < m) : flM m t % m = m - 1 - t % m := by
  have h := Nat.mod_lt t hm
  have h2 : t - t % m = m * (t / m) := by have := Nat.div_add_mod t m; omega
  unfold flM
  rw [h2, Nat.mul_add_mod, Nat.mod_eq_of_lt (by omega)]
theorem fl_fl {m t : Nat} (hm : 0 < m) : flM m (flM m t) = t := by
  have h := Nat.mod_lt t hm
  have h1 := fl_res (t := t) hm
  have h2 := Nat.mod_le t m
  unfold flM at *
  rw [h1]
  omega
theorem fl_lt {m k t : Nat} (hm : 0 < m) (ht : t < m * k) : flM m t < m * k := by
  have h := Nat.mod_lt t hm
  have h2 : t - t % m = m * (t / m) := by have := Nat.div_add_mod t m; omega
  have h3 : t / m < k := Nat.div_lt_of_lt_mul ht
  have h4 : m * (t / m) + m ≤ m * k := by
    have := Nat.mul_le_mul_left m h3
    rwa [Nat.mul_succ] at this
  unfold flM
  omega
theorem add_back {u e f : Nat} (hu : u < 33554432) (hef : (e + f) % 33554432 = 0) : ((u + e) % 33554432 + f) % 33554432 = u := by omega
theorem fx_back {q k e f s : Nat} (hq : 0 < q) (hM : 33554432 = q * 256 * k) (hef : (e + f) % 33554432 = 0) (hs : s < 33554432) (h : ¬ egN (s / q)) :
    ¬ egN (fxM q e s / q) ∧ fxM q f (fxM q e s) = s := by
  have hm : 0 < q * 256 := by omega
  have hd : q * 256 ∣ 33554432 := ⟨k, hM⟩
  unfold fxM
  by_cases h1 : egN ((s + e) % 33554432 / q)
  · rw [if_pos h1]
    have ht : (s + e) % 33554432 < 33554432 := Nat.mod_lt _ (by decide)
    have htm : (s + e) % 33554432 % (q * 256) = (s % (q * 256) + e % (q * 256)) % (q * 256) := by rw [Nat.mod_mod_of_dvd _ hd, Nat.add_mod]
    have hf := fl_res (t := (s + e) % 33554432) hm
    have hff := fl_fl (t := (s + e) % 33554432) hm
    have hfl : flM (q * 256) ((s + e) % 33554432) < 33554432 := by
      have := fl_lt (t := (s + e) % 33554432) (k := k) hm (by rw [← hM]; exact ht)
      rwa [← hM] at this
    have hb := add_back hs hef
    rw [eg_res hq] at h h1
    generalize (s + e) % 33554432 = t at *
    have h2 : (flM (q * 256) t + e) % 33554432 % (q * 256) = q * 256 - 1 - s % (q * 256) := by
      rw [Nat.mod_mod_of_dvd _ hd, Nat.add_mod, hf, htm]
      exact comp_mod (Nat.mod_lt s hm) (Nat.mod_lt e hm)
    have hts := Nat.mod_lt t hm
    refine ⟨?_, ?_⟩
    · rw [eg_res hq, h2]
      unfold egR at *
      omega
    · rw [add_back hfl hef, if_pos ((eg_res hq).2 (by rw [hf]; unfold egR at *; omega)), hff]
      exact hb
  · rw [if_neg h1]
    refine ⟨h1, ?_⟩
    rw [add_back hs hef, if_neg h]
/-- the least number of the byte that is looked at -/
def quN (a : Nat) : Nat := 2 ^ (24 - 8 * btN a)
theorem alB_cases {a : Nat} (h : alB a = true) (h0 : a ≠ 0) : a = 1 ∨ a = 2 ∨ a = 4 := by
  unfold alB at h
  simp only [Bool.or_eq_true, beq_iff_eq] at h
  omega
theorem qu_facts {a : Nat} (h : alB a = true) (h0 : a ≠ 0) : 0 < quN a ∧ loN a = quN a * 256 ∧ ∃ k, 33554432 = quN a * 256 * k := by
  rcases alB_cases h h0 with rfl | rfl | rfl
  · exact ⟨by decide, by decide, 2, by decide⟩
  · exact ⟨by decide, by decide, 512, by decide⟩
  · exact ⟨by decide, by decide, 131072, by decide⟩
theorem fl_mod {m k t : Nat} (hm : 0 < m) (hM : 33554432 = m * k) : flM m t % 33554432 = flM m (t % 33554432) := by
  have hd : m ∣ 33554432 := ⟨k, hM⟩
  have h1 : t % 33554432 % m = t % m := Nat.mod_mod_of_dvd _ hd
  have h2 : flM m (t % 33554432) < 33554432 := by
    have := fl_lt (m := m) (k := k) (t := t % 33554432) hm (by rw [← hM]; exact Nat.mod_lt _ (by decide))
    rwa [← hM] at this
  have h3 : flM m t = 33554432 * (t / 33554432) + flM m (t % 33554432) := by
    have h4 := Nat.div_add_mod t 33554432
    have h5 : t % m ≤ t % 33554432 := by rw [← h1]; exact Nat.mod_le _ _
    unfold flM
    rw [h1]
    omega
  rw [h3, Nat.mul_add_mod, Nat.mod_eq_of_lt h2]
theorem eg_mod {q k t : Nat} (hq : 0 < q) (hM : 33554432 = q * 256 * k) : egN (t / q) ↔ egN (t % 33554432 / q) := by
  rw [eg_res hq, eg_res hq, Nat.mod_mod_of_dvd _ ⟨k, hM⟩]
theorem tu_res {c : Bool} {p a s : Nat} (h : alB a = true) (h0 : a ≠ 0) : tuN c p a s % 33554432 = fxM (quN a) (teN c p) (s % 33554432) := by
  obtain ⟨hq, hl, k, hM⟩ := qu_facts h h0
  have hb : egB (byN a (tgN c p s)) = true ↔ egN ((s % 33554432 + teN c p) % 33554432 / quN a) := by
    have : byN a (tgN c p s) = UInt8.ofNat (tgN c p s / quN a) := rfl
    rw [this, eg_of, eg_mod hq hM, tg_res]
  have hfl : ∀ t, flN a t = flM (quN a * 256) t := fun t => by unfold flN flM; rw [hl]
  unfold tuN fxM
  by_cases h1 : egB (byN a (tgN c p s)) = true
  · rw [if_pos ⟨h0, h1⟩, if_pos (hb.1 h1), tg_res, hfl, fl_mod (by omega) hM, tg_res]
  · rw [if_neg (fun h => h1 h.2), if_neg (fun h => h1 (hb.2 h)), tg_res]
theorem tu_zero {c : Bool} {p s : Nat} : tuN c p 0 s % 33554432 = (s % 33554432 + teN c p) % 33554432 := by
  unfold tuN
  rw [if_neg (fun h => h.1 rfl), tg_res]
theorem pu4_mod (t : Nat) : pu4 t = pu4 (t % 33554432) := by
  unfold pu4
  have e0 : UInt8.ofNat t = UInt8.ofNat (t % 33554432) := UInt8.toNat_inj.1 (by rw [UInt8.toNat_ofNat', UInt8.toNat_ofNat']; omega)
  have e1 : UInt8.ofNat (t / 256) = UInt8.ofNat (t % 33554432 / 256) := UInt8.toNat_inj.1 (by rw [UInt8.toNat_ofNat', UInt8.toNat_ofNat']; omega)
  have e2 : UInt8.ofNat (t / 65536) = UInt8.ofNat (t % 33554432 / 65536) := UInt8.toNat_inj.1 (by rw [UInt8.toNat_ofNat', UInt8.toNat_ofNat']; omega)
  have e3 : t % 33554432 / 16777216 % 2 = t / 16777216 % 2 := by omega
  rw [e0, e1, e2, e3]
theorem le4_pu4 (t : Nat) : le4 (pu4 t) % 33554432 = t % 33554432 := by
  have h : le4 (pu4 t) = (UInt8.ofNat t).toNat + 256 * (UInt8.ofNat (t / 256)).toNat + 65536 * (UInt8.ofNat (t / 65536)).toNat + 16777216 * (if t / 16777216 % 2 = 1 then (255 : UInt8) else 0).toNat := rfl
  rw [h, UInt8.toNat_ofNat', UInt8.toNat_ofNat', UInt8.toNat_ofNat']
  split
  · rename_i h1
    rw [show (255 : UInt8).toNat = 255 from rfl]
    omega
  · rename_i h1
    rw [show (0 : UInt8).toNat = 0 from rfl]
    omega
theorem pu4_le4 {r : List UInt8} (hl : 4 ≤ r.length) (he : egB (r.getD 3 0) = true) : pu4 (le4 r) = r.take 4 := by
  match r, hl with
  | r0 :: r1 :: r2 :: r3 :: l, _ =>
    have h0 := r0.toNat_lt
    have h1 := r1.toNat_lt
    have h2 := r2.toNat_lt
    have h3 := (eg_nat r3).1 he
    have hs : le4 (r0 :: r1 :: r2 :: r3 :: l) = r0.toNat + 256 * r1.toNat + 65536 * r2.toNat + 16777216 * r3.toNat := rfl
    rw [hs]
    show _ = [r0, r1, r2, r3]
    unfold pu4
    have e0 : UInt8.ofNat (r0.toNat + 256 * r1.toNat + 65536 * r2.toNat + 16777216 * r3.toNat) = r0 := UInt8.toNat_inj.1 (by rw [UInt8.toNat_ofNat']; omega)
    have e1 : UInt8.ofNat ((r0.toNat + 256 * r1.toNat + 65536 * r2.toNat + 16777216 * r3.toNat) / 256) = r1 := UInt8.toNat_inj.1 (by rw [UInt8.toNat_ofNat']; omega)
    have e2 : UInt8.ofNat ((r0.toNat + 256 * r1.toNat + 65536 * r2.toNat + 16777216 * r3.toNat) / 65536) = r2 := UInt8.toNat_inj.1 (by rw [UInt8.toNat_ofNat']; omega)
    have e3 : (if (r0.toNat + 256 * r1.toNat + 65536 * r2.toNat + 16777216 * r3.toNat) / 16777216 % 2 = 1 then (255 : UInt8) else 0) = r3 := by
      rcases h3 with h3 | h3
      · rw [h3, if_neg (by omega)]
        exact (UInt8.toNat_inj.1 h3).symm
      · rw [h3, if_pos (by omega)]
        exact (UInt8.toNat_inj.1 h3).symm
    rw [e0, e1, e2, e3]
/-- the byte that is looked at -/
theorem qu_byte {a : Nat} {r : List UInt8} (h : alB a = true) (h0 : a ≠ 0) (hl : 4 ≤ r.length) : UInt8.ofNat (le4 r / quN a) = r.getD (3 - btN a) 0 := by
  match r, hl with
  | r0 :: r1 :: r2 :: r3 :: l, _ =>
    have g0 := r0.toNat_lt
    have g1 := r1.toNat_lt
    have g2 := r2.toNat_lt
    have hs : le4 (r0 :: r1 :: r2 :: r3 :: l) = r0.toNat + 256 * r1.toNat + 65536 * r2.toNat + 16777216 * r3.toNat := rfl
    rw [hs]
    rcases alB_cases h h0 with rfl | rfl | rfl
    · show _ = r2
      exact UInt8.toNat_inj.1 (by rw [UInt8.toNat_ofNat', show quN 1 = 65536 by decide]; omega)
    · show _ = r1
      exact UInt8.toNat_inj.1 (by rw [UInt8.toNat_ofNat', show quN 2 = 256 by decide]; omega)
    · show _ = r0
      exact UInt8.toNat_inj.1 (by rw [UInt8.toNat_ofNat', show quN 4 = 1 by decide, Nat.div_one]; omega)
theorem qu_put {a t : Nat} (h : alB a = true) (h0 : a ≠ 0) : UInt8.ofNat (t / quN a) = (pu4 t).getD (3 - btN a) 0 := by
  rcases alB_cases h h0 with rfl | rfl | rfl
  · rfl
  · rfl
  · show UInt8.ofNat (t / 1) = UInt8.ofNat t
    rw [Nat.div_one]
theorem pu4_edge (t : Nat) : egB ((pu4 t).getD 3 0) = true := by
  show egB (if t / 16777216 % 2 = 1 then 255 else 0) = true
  split <;> rfl
/-- a word that is turned is turned back -/
theorem turn_back {p a : Nat} {r : List UInt8} (ha : alB a = true) (hl : 4 ≤ r.length) (he : egB (r.getD 3 0) = true) (hb : a ≠ 0 → egB (r.getD (3 - btN a) 0) = false) :
    pu4 (tuN false p a (le4 (pu4 (tuN true p a (le4 r))))) = r.take 4 ∧ (a ≠ 0 → egB ((pu4 (tuN true p a (le4 r))).getD (3 - btN a) 0) = false) := by
  rw [← pu4_le4 hl he, pu4_mod (tuN false _ _ _), pu4_mod (le4 r)]
  have hs : le4 r % 33554432 < 33554432 := Nat.mod_lt _ (by decide)
  by_cases h0 : a = 0
  · subst h0
    refine ⟨?_, fun h => absurd rfl h⟩
    rw [tu_zero, le4_pu4, tu_zero, add_back hs (te_back p)]
  · obtain ⟨hq, hlo, k, hM⟩ := qu_facts ha h0
    have hne : ¬ egN (le4 r % 33554432 / quN a) := by
      rw [← eg_mod hq hM, ← eg_of, qu_byte ha h0 hl, hb h0]
      decide
    have hF := fx_back hq hM (te_back p) hs hne
    refine ⟨?_, fun _ => ?_⟩
    · rw [tu_res ha h0, le4_pu4, tu_res ha h0, hF.2]
    · rw [← qu_put ha h0, Bool.eq_false_iff, ne_eq, eg_of, eg_mod hq hM, tu_res ha h0]
      exact hF.1
end Go.Proofs.YtcolnmjginpalaaDoor
