/-
  The program's decoder of shares: a place, a share taken, a bit. It owes what the laws ask.
-/
import Derived.Test.YtkjhdpfomofggaaPxLevel
import Derived.Deep.RegionLaw
namespace Go.Proofs.Ytkjhdpfomofggaa
open Go.RowKit

section
variable {w : World} {g f lo : Nat} {bs : List UInt8} {d : Dc}

theorem px_own {w w' : World} {g f lo : Nat} {bs : List UInt8} {v : Value} {D : Dc} {x : Ending} {S : Nat → Prop} (hS : ∀ i, two f g i → S i) (h : PxPost w g f lo bs v D x w') : x = .returned v ∧ Pd w' g f lo bs D ∧ Only S w w' := ⟨h.1, h.2.1, h.2.2.mono hS⟩

set_option maxHeartbeats 2000000 in
theorem pplace_bad {r k t : Nat} (hB : Blk w g 62 (pdCells f r k true)) (ht : 1 ≤ t) :
    Calls Try.prog 15 #[.pointer (some ⟨g, 0, none⟩), .int .u32 (t : Int)] w fun e w' => e = .returned (.int .u32 0) ∧ Blk w' g 62 (pdCells f r k true) ∧ w.grownBy w' (some g) := by
  have K := Lib.hid (fun so => refuse_any (so := so) hB)
  obtain ⟨c1, _, _, _, _, _⟩ := px_cells hB
  have t0 : ¬ (t : Int) = 0 := by omega
  clear hB ht
  by_cases hg : (t : Int) > (r : Int)
  all_goals
    go_enter Try.func15, Try.ntmps15
    go_wp2_with fail
    refine (K.out _).mono ?_
    rintro x w1 ⟨rfl, hB1, hg1⟩
    have HB1 := Lib.hid (show Blk w1 g 62 (pdCells f r k true) from hB1)
    have HG1 := Lib.hid hg1
    obtain ⟨_, _, j3, _, _, _⟩ := px_cells HB1.out
    clear hB1 hg1 c1
    go_wp2_with fail
    go_ret
    exact ⟨rfl, HB1.out, HG1.out⟩

set_option maxHeartbeats 4000000 in
theorem pplace_any {t : Nat} (h : Pd w g f lo bs d) (hd : DcOk d) (h1 : 1 ≤ t) (h2 : t ≤ 1048576) :
    Calls Try.prog 15 #[.pointer (some ⟨g, 0, none⟩), .int .u32 (t : Int)] w (PxPost w g f lo bs (.int .u32 ((placeD d t).1 : Int)) (placeD d t).2) := by
  obtain ⟨at_, r, k, bad, hB, hF, hfg, ha, hr, hk, hc⟩ := h
  rcases hc with ⟨rfl, rfl⟩ | ⟨rfl, rfl⟩
  · refine (pplace_bad hB h1).mono ?_
    rintro e w' ⟨rfl, hB1, hg1⟩
    have hO : Only (fun i => i = g) w w' := Only.of_grown hg1 rfl
    exact ⟨rfl, ⟨at_, r, k, true, hB1, hF.only hO (fun i hi => by omega), hfg, ha, hr, hk, .inl ⟨rfl, rfl⟩⟩, hO.mono fun _ h => .inr h⟩
  · obtain ⟨a1, a2, a3⟩ := hd _ _ _ rfl
    have hr16 : 16 ≤ r / t := (Nat.le_div_iff_mul_le (by omega)).2 (by omega)
    have hle : r / t ≤ r := Nat.div_le_self _ _
    have hpl : k / (r / t) ≤ k := Nat.div_le_self _ _
    obtain ⟨c1, c2, c3, f1, f2, f3⟩ := px_cells hB
    obtain ⟨R, hR⟩ : ∃ R, R = r / t := ⟨_, rfl⟩
    obtain ⟨v, hv⟩ : ∃ v, v = k / R := ⟨_, rfl⟩
    rw [← hR] at hr16 hle hpl
    rw [← hv] at hpl
    obtain ⟨ri, hri⟩ : ∃ ri : Int, ri = (r : Int) := ⟨_, rfl⟩
    have e1 : ri / (t : Int) = (R : Int) := by rw [hri, hR]; exact (Int.natCast_ediv r t).symm
    have e2 : ri.tdiv (t : Int) = (R : Int) := by rw [Int.tdiv_eq_ediv_of_nonneg (by omega)]; exact e1
    have e3 : IntKind.u32.wrap (R : Int) = (R : Int) := u32_is _ (by omega) (by omega)
    have t0 : ¬ (t : Int) = 0 := by omega
    have t00 : ((t : Int) == 0) = false := by simp; omega
    have g0 : ¬ (t : Int) > ri := by omega
    have e4 : (k : Int) / (R : Int) = (v : Int) := by rw [hv]; exact (Int.natCast_ediv k R).symm
    have e5 : (k : Int).tdiv (R : Int) = (v : Int) := by rw [Int.tdiv_eq_ediv_of_nonneg (by omega)]; exact e4
    have e6 : IntKind.u32.wrap (v : Int) = (v : Int) := u32_is _ (by omega) (by omega)
    have r0 : ¬ (R : Int) = 0 := by omega
    have hpd : placeD (some (r, k, bs.drop at_)) t = if v < t then (v, some (R, k, bs.drop at_)) else (0, none) := by rw [hv, hR]; rfl
    have K := Lib.hid (refuse_any (so := false) hB)
    have HF := Lib.hid (show at_ ≤ bs.length ∧ R < 4294967296 ∧ k < 4294967296 by omega)
    have HFD := Lib.hid hF
    have HFG := Lib.hid hfg
    rw [← hri] at c1
    by_cases hlt : v < t
    · have z1 : ¬ (v : Int) ≥ (t : Int) := by omega
      rw [hpd, if_pos hlt]
      have HRI := Lib.hid hri
      clear hB hF hfg ha hr hk a1 a2 a3 hr16 hle hpl hR hv hpd h1 h2 hlt hd hri
      go_enter Try.func15, Try.ntmps15
      go_wp2_with fail
      refine K.out.mono ?_
      rintro x w1 ⟨rfl, hB1, hg1⟩
      have HB1 := Lib.hid (show Blk w1 g 62 (pdCells f r k false) from hB1)
      have HG1 := Lib.hid (Only.of_grown (S := fun i => i = g) hg1 rfl)
      obtain ⟨j1, j2, j3, z1', z2', z3'⟩ := px_cells HB1.out
      rw [← HRI.out] at j1
      clear hB1 hg1 c1 c2 c3 f1 f2 f3 K
      go_wp2_with fail
      go_quiet (fail)
      go_wp2_with fail
      go_ret
      have hO : Only (fun i => i = g) w ((w1.setCell ⟨g, 1, none⟩ (.int .u32 (R : Int))).drewN nq) := (HG1.out.setCell (p := ⟨g, 1, none⟩) (.inl rfl) _).drewN nq
      exact ⟨rfl, ⟨at_, R, k, false, (HB1.out.put 1 (.int .u32 (R : Int))).drewN nq, HFD.out.only hO (fun i hi => by have := HFG.out; omega), HFG.out, HF.out.1, HF.out.2.1, HF.out.2.2, .inr ⟨rfl, rfl⟩⟩, hO.mono fun _ h => .inr h⟩
    · have z1 : (v : Int) ≥ (t : Int) := by omega
      rw [hpd, if_neg hlt]
      have HRI := Lib.hid hri
      clear hB hF hfg ha hr hk a1 a2 a3 hr16 hle hpl hR hv hpd h1 h2 hlt hd hri
      go_enter Try.func15, Try.ntmps15
      go_wp2_with fail
      refine K.out.mono ?_
      rintro x w1 ⟨rfl, hB1, hg1⟩
      have HB1 := Lib.hid (show Blk w1 g 62 (pdCells f r k false) from hB1)
      have HG1 := Lib.hid (Only.of_grown (S := fun i => i = g) hg1 rfl)
      obtain ⟨j1, j2, j3, z1', z2', z3'⟩ := px_cells HB1.out
      rw [← HRI.out] at j1
      clear hB1 hg1 c1 c2 c3 f1 f2 f3 K
      go_wp2_with fail
      go_quiet (fail)
      go_wp2_with fail
      go_ret
      have hO : Only (fun i => i = g) w (((w1.setCell ⟨g, 1, none⟩ (.int .u32 (R : Int))).drewN nq).setCell ⟨g, 3, none⟩ (.bool true)) := ((HG1.out.setCell (p := ⟨g, 1, none⟩) (.inl rfl) _).drewN nq).setCell (p := ⟨g, 3, none⟩) (.inl rfl) _
      exact ⟨rfl, ⟨at_, R, k, true, ((HB1.out.put 1 (.int .u32 (R : Int))).drewN nq).put 3 (.bool true), HFD.out.only hO (fun i hi => by have := HFG.out; omega), HFG.out, HF.out.1, HF.out.2.1, HF.out.2.2, .inl ⟨rfl, rfl⟩⟩, hO.mono fun _ h => .inr h⟩

set_option maxHeartbeats 1000000 in
theorem ptake_bad {r k : Nat} {a z : Int} (hB : Blk w g 62 (pdCells f r k true)) :
    Calls Try.prog 17 #[.pointer (some ⟨g, 0, none⟩), .int .u32 a, .int .u32 z] w fun e w' => e = .returned (.tuple #[]) ∧ w = w' := by
  obtain ⟨_, _, c3, _, _, _⟩ := px_cells hB
  clear hB
  go_enter Try.func17, Try.ntmps17
  go_wp2_with fail
  first | go_end0 | refine bodyPost_ret (results_none rfl _ _ _) rfl ?_
  exact ⟨rfl, rfl⟩

set_option maxHeartbeats 4000000 in
theorem ptake_any {a z : Nat} (h : Pd w g f lo bs d) (hm : ∀ r k s, d = some (r, k, s) → a * r ≤ k ∧ k - a * r < r * z ∧ r * z < 4294967296 ∧ 1 ≤ r * z) :
    Calls Try.prog 17 #[.pointer (some ⟨g, 0, none⟩), .int .u32 (a : Int), .int .u32 (z : Int)] w (PxPost w g f lo bs (.tuple #[]) (takeD d a z)) := by
  obtain ⟨at_, r, k, bad, hB, hF, hfg, hat, hr, hk, hc⟩ := h
  rcases hc with ⟨rfl, rfl⟩ | ⟨rfl, rfl⟩
  · refine (ptake_bad hB).mono ?_
    rintro e w' ⟨rfl, rfl⟩
    exact ⟨rfl, ⟨at_, r, k, true, hB, hF, hfg, hat, hr, hk, .inl ⟨rfl, rfl⟩⟩, Only.refl _ _⟩
  · obtain ⟨m1, m2, m3, m4⟩ := hm _ _ _ rfl
    obtain ⟨c1, c2, c3, f1, f2, f3⟩ := px_cells hB
    obtain ⟨p, hp⟩ : ∃ p, p = a * r := ⟨_, rfl⟩
    obtain ⟨R, hR⟩ : ∃ R, R = r * z := ⟨_, rfl⟩
    obtain ⟨y, hy⟩ : ∃ y, y = k - p := ⟨_, rfl⟩
    rw [← hp] at m1 m2
    rw [← hR] at m2 m3 m4
    rw [← hy] at m2
    have e2 : IntKind.u32.wrap ((a : Int) * (r : Int)) = (p : Int) := by rw [← Int.natCast_mul, ← hp]; exact u32_is _ (by omega) (by omega)
    have e3 : IntKind.u32.wrap ((k : Int) - (p : Int)) = (y : Int) := by rw [show (k : Int) - (p : Int) = (y : Int) by omega]; exact u32_is _ (by omega) (by omega)
    have e5 : IntKind.u32.wrap ((r : Int) * (z : Int)) = (R : Int) := by rw [← Int.natCast_mul, ← hR]; exact u32_is _ (by omega) (by omega)
    have hO1 : ∀ m, Only (two f g) w ((((w.setCell ⟨g, 2, none⟩ (.int .u32 (y : Int))).drewN m).setCell ⟨g, 1, none⟩ (.int .u32 (R : Int)))) := fun m => (((Only.refl (two f g) w).setCell (p := ⟨g, 2, none⟩) (.inl (two_r f g)) _).drewN m).setCell (p := ⟨g, 1, none⟩) (.inl (two_r f g)) _
    have K := Lib.hid (fun m => plevel_any (k := y) (r := R) (((hB.put 2 (.int .u32 (y : Int))).drewN m).put 1 (.int .u32 (R : Int))) (feed_put (i := 1) (u := .int .u32 (R : Int)) (Feed.drewN (feed_put (i := 2) (u := .int .u32 (y : Int)) hF hfg) m) hfg) hfg (hO1 m) m4 m3 m2)
    have HTK := Lib.hid (show takeD (some (r, k, bs.drop at_)) a z = plv3 R y (bs.drop at_) by rw [hR, hy, hp]; rfl)
    clear hB hF hfg hO1 hm hat hr hk m1 m2 m3 m4 hp hR hy
    go_enter Try.func17, Try.ntmps17
    go_wp2_with fail
    go_region
    all_goals
      go_wp2_with fail
      refine (K.out 1).mono ?_
      intro x w1 h1
      obtain ⟨rfl, h1⟩ := h1
      have H1 := Lib.hid h1
      clear h1 K c1 c2 c3 f1 f2 f3
      go_wp2_with fail
      first | go_end0 | refine bodyPost_ret (results_none rfl _ _ _) rfl ?_
      rw [HTK.out]
      exact ⟨rfl, H1.out⟩

set_option maxHeartbeats 1000000 in
theorem pbit_bad {r k : Nat} {z t : Int} (hB : Blk w g 62 (pdCells f r k true)) :
    Calls Try.prog 13 #[.pointer (some ⟨g, 0, none⟩), .int .u32 z, .int .i64 t] w fun e w' => e = .returned (.int .i64 0) ∧ w = w' := by
  obtain ⟨_, _, c3, _, _, _⟩ := px_cells hB
  clear hB
  go_enter Try.func13, Try.ntmps13
  go_wp2_with fail
  go_ret
  exact ⟨rfl, rfl⟩

set_option maxHeartbeats 4000000 in
theorem pbit_any {z t : Nat} (h : Pd w g f lo bs d) (hd : DcOk d) (ht : t ≤ 16) (hz : 1 ≤ z) (hz2 : z < 2 ^ t) :
    Calls Try.prog 13 #[.pointer (some ⟨g, 0, none⟩), .int .u32 (z : Int), .int .i64 (t : Int)] w (PxPost w g f lo bs (.int .i64 ((shareBit d z t).1 : Int)) (shareBit d z t).2) := by
  obtain ⟨at_, r, k, bad, hB, hF, hfg, hat, hr, hk, hc⟩ := h
  rcases hc with ⟨rfl, rfl⟩ | ⟨rfl, rfl⟩
  · refine (pbit_bad hB).mono ?_
    rintro e w' ⟨rfl, rfl⟩
    exact ⟨rfl, ⟨at_, r, k, true, hB, hF, hfg, hat, hr, hk, .inl ⟨rfl, rfl⟩⟩, Only.refl _ _⟩
  · obtain ⟨a1, a2, a3⟩ := hd _ _ _ rfl
    obtain ⟨b1, b2⟩ := share_bound a1 ht hz hz2
    have KB := Lib.hid (boundOf_any (a := r) (z := z) (t := t) (by omega) hr ht w)
    obtain ⟨c1, c2, c3, f1, f2, f3⟩ := px_cells hB
    have et : IntKind.u32.wrap (t : Int) = (t : Int) := u32_is _ (by omega) (by omega)
    have hsb : shareBit (some (r, k, bs.drop at_)) z t = (if k < r / 2 ^ t * z then ((if plv3 (r / 2 ^ t * z) k (bs.drop at_) = none then 0 else 0), plv3 (r / 2 ^ t * z) k (bs.drop at_))
      else ((if plv3 (r - r / 2 ^ t * z) (k - r / 2 ^ t * z) (bs.drop at_) = none then 0 else 1), plv3 (r - r / 2 ^ t * z) (k - r / 2 ^ t * z) (bs.drop at_))) := rfl
    obtain ⟨b, hb⟩ : ∃ b, b = r / 2 ^ t * z := ⟨_, rfl⟩
    rw [← hb] at b1 b2 KB hsb
    by_cases hlt : k < b
    · rw [if_pos hlt] at hsb
      rw [hsb]
      have z1 : (k : Int) < (b : Int) := by omega
      have K := Lib.hid (plevel_any (k := k) (r := b) (hB.put 1 (.int .u32 (b : Int))) (feed_put (i := 1) (u := .int .u32 (b : Int)) hF hfg) hfg ((Only.refl (two f g) w).setCell (p := ⟨g, 1, none⟩) (.inl (two_r f g)) _) (by omega) (by omega) hlt)
      clear hB hF hfg hat hr hk a1 a2 a3 b1 b2 hb hsb ht hz hz2 hlt hd
      generalize plv3 b k (bs.drop at_) = D at *
      simp only [ite_self]
      go_enter Try.func13, Try.ntmps13
      go_wp2_with fail
      refine KB.out.mono ?_
      rintro x w1 ⟨rfl, rfl⟩
      clear KB
      go_wp2_with fail
      refine K.out.mono ?_
      intro x w1 h1
      obtain ⟨rfl, ⟨at', r', k', bad', hB1, hF1, hfg1, ht1⟩, hO1⟩ := h1
      obtain ⟨_, _, j3, _, _, _⟩ := px_cells hB1
      have HP := Lib.hid (show Pd w1 g f lo bs D from ⟨at', r', k', bad', hB1, hF1, hfg1, ht1⟩)
      have HO := Lib.hid hO1
      clear hB1 hF1 hfg1 ht1 hO1 K c1 c2 c3 f1 f2 f3
      cases bad'
      all_goals
        go_wp2_with fail
        go_ret
        exact ⟨rfl, HP.out, HO.out⟩
    · rw [if_neg hlt] at hsb
      rw [hsb]
      have z1 : ¬ (k : Int) < (b : Int) := by omega
      obtain ⟨y, hy⟩ : ∃ y, y = k - b := ⟨_, rfl⟩
      obtain ⟨R, hR⟩ : ∃ R, R = r - b := ⟨_, rfl⟩
      rw [← hy, ← hR]
      have e3 : IntKind.u32.wrap ((k : Int) - (b : Int)) = (y : Int) := by rw [show (k : Int) - (b : Int) = (y : Int) by omega]; exact u32_is _ (by omega) (by omega)
      have e5 : IntKind.u32.wrap ((r : Int) - (b : Int)) = (R : Int) := by rw [show (r : Int) - (b : Int) = (R : Int) by omega]; exact u32_is _ (by omega) (by omega)
      have K := Lib.hid (plevel_any (k := y) (r := R) ((hB.put 2 (.int .u32 (y : Int))).put 1 (.int .u32 (R : Int))) (feed_put (i := 1) (u := .int .u32 (R : Int)) (feed_put (i := 2) (u := .int .u32 (y : Int)) hF hfg) hfg) hfg (((Only.refl (two f g) w).setCell (p := ⟨g, 2, none⟩) (.inl (two_r f g)) _).setCell (p := ⟨g, 1, none⟩) (.inl (two_r f g)) _) (by omega) (by omega) (by omega))
      clear hB hF hfg hat hr hk a1 a2 a3 b1 b2 hb hsb ht hz hz2 hlt hd hy hR
      generalize plv3 R y (bs.drop at_) = D at *
      obtain ⟨v, hv⟩ : ∃ v : Nat, v = if D = none then 0 else 1 := ⟨_, rfl⟩
      show Calls _ _ _ _ (PxPost w g f lo bs (.int .i64 (((if D = none then 0 else 1 : Nat)) : Int)) D)
      rw [← hv]
      have HV := Lib.hid hv
      clear hv
      go_enter Try.func13, Try.ntmps13
      go_wp2_with fail
      refine KB.out.mono ?_
      rintro x w1 ⟨rfl, rfl⟩
      clear KB
      go_wp2_with fail
      refine K.out.mono ?_
      intro x w1 h1
      obtain ⟨rfl, ⟨at', r', k', bad', hB1, hF1, hfg1, ht1⟩, hO1⟩ := h1
      obtain ⟨_, _, j3, _, _, _⟩ := px_cells hB1
      have HT := Lib.hid ht1
      have HP := Lib.hid (show Pd w1 g f lo bs D from ⟨at', r', k', bad', hB1, hF1, hfg1, ht1⟩)
      have HO := Lib.hid hO1
      clear hB1 hF1 hfg1 ht1 hO1 K c1 c2 c3 f1 f2 f3
      cases bad'
      · have hnD : ¬ D = none := by
          rcases HT.out.2.2.2 with ⟨h, _⟩ | ⟨_, h⟩
          · cases h
          · rw [h]; simp
        go_wp2_with fail
        go_ret
        refine ⟨?_, HP.out, HO.out⟩
        rw [HV.out, if_neg hnD]
        rfl
      · have hnD : D = none := by
          rcases HT.out.2.2.2 with ⟨_, h⟩ | ⟨h, _⟩
          · exact h
          · cases h
        go_wp2_with fail
        go_ret
        refine ⟨?_, HP.out, HO.out⟩
        rw [HV.out, if_pos hnD]
        rfl
end

/-- The program's decoder over a feed, with the blocks that it owns: those of the feed's row, the feed's, its own, and what lies between. -/
def PdW (w : World) (g f : Nat) (G : Nat → Prop) (bs : List UInt8) (d : Dc) : Prop := ∃ lo, (G = fun i => lo ≤ i ∧ i ≤ g) ∧ Pd w g f lo bs d

theorem own_of_px {w w' : World} {g f lo : Nat} {bs : List UInt8} {v : Value} {D : Dc} {x : Ending} (h : PxPost w g f lo bs v D x w') : OwnPost (fun w' G' => PdW w' g f G' bs D) w (fun i => lo ≤ i ∧ i ≤ g) v x w' := by
  obtain ⟨rfl, hP, hO⟩ := h
  refine ⟨rfl, _, ⟨lo, rfl, hP⟩, fun i hi => .inl hi, hO.mono fun i hi => ?_⟩
  have := hP.lo
  rcases hi with hi | hi <;> omega

theorem dec_con : DecCon PdW where
  old := by
    rintro w g f G bs d i ⟨lo, rfl, hP⟩ hi
    have := hP.lt
    have : lo ≤ i ∧ i ≤ g := hi
    omega
  only := by
    rintro w w' g f G bs d S ⟨lo, rfl, hP⟩ hO hS
    refine ⟨lo, rfl, hP.only hO fun i hi => ?_⟩
    have := hS i
    by_cases h : lo ≤ i ∧ i ≤ g
    · exact absurd hi (hS i h)
    · omega
  feed := by
    rintro w g f G bs r c s ⟨lo, rfl, at_, r', k', bad, hB, hF, hfg, _, _, _, h⟩
    refine ⟨lo, at_, hF, ?_⟩
    rcases h with ⟨_, h⟩ | ⟨_, h⟩
    · cases h
    · injection h with h; injection h with _ h; injection h with _ h; exact h.symm
  new := by
    intro w f lo bs hF _
    refine (pnew_any hF).mono ?_
    rintro x w' ⟨rfl, hP, hO⟩
    have hlo := hF.lo
    have hlt := hF.lt
    exact ⟨_, _, rfl, ⟨lo, rfl, hP⟩, fun i hi => hi.1, hO.below (by omega) (fun i hi => by omega)⟩
  place := by
    rintro w g f G bs d t ⟨lo, rfl, hP⟩ hd h1 h2 _
    exact (pplace_any hP hd h1 h2).mono fun _ _ h => own_of_px h
  take := by
    rintro w g f G bs d a z ⟨lo, rfl, hP⟩ _ _ _ hm
    exact (ptake_any hP hm).mono fun _ _ h => own_of_px h
  bit := by
    rintro w g f G bs d z t ⟨lo, rfl, hP⟩ hd _ ht hz hz2
    exact (pbit_any hP hd ht hz hz2).mono fun _ _ h => own_of_px h
  bad := by
    rintro w g f G bs d ⟨lo, rfl, at_, r, k, bad, hB, hF, hfg, _, _, _, h⟩
    refine (bad_any hB).mono ?_
    rintro x w' ⟨rfl, rfl⟩
    refine ⟨?_, 0, rfl⟩
    rcases h with ⟨rfl, rfl⟩ | ⟨rfl, rfl⟩ <;> rfl
  done := by
    rintro w g f G bs d ⟨lo, rfl, at_, r, k, bad, hB, hF, hfg, _, _, _, h⟩
    refine (done_any hB).mono ?_
    rintro x w' ⟨rfl, rfl⟩
    refine ⟨?_, 0, rfl⟩
    rcases h with ⟨rfl, rfl⟩ | ⟨rfl, rfl⟩
    · rfl
    · simp
end Go.Proofs.Ytkjhdpfomofggaa
