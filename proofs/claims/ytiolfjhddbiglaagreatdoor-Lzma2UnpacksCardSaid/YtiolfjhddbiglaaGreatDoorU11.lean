/-
  LzDist, LzAfter, Held, LzKind, LzDec, LzDecS, RcRefN, RcRefsN, LzEnc, RcAskN, LzEncS, LzMore: put together.
-/
import Derived.Test.YtiolfjhddbiglaaGreatDoorU10
import Derived.Deep.RegionHeld3
import Derived.Test.YtiolfjhddbiglaaGreatDoorU07
import Derived.Test.YtiolfjhddbiglaaGreatDoorU02
import Derived.Test.YtiolfjhddbiglaaGreatDoorU01
import Derived.Deep.RegionLaw
import Derived.LoopN
set_option linter.unusedVariables false
set_option linter.unusedSimpArgs false
/-
  The reference of LZMA: a distance.
-/
namespace Go.Proofs.YtiolfjhddbiglaaGreatDoor
open Go.RowKit

theorem u32_fit' (x : Int) (h0 : 0 ≤ x) (h : x < 4294967296) : IntKind.u32.wrap x = x := by
  simp [IntKind.wrap, IntKind.bits, IntKind.signed]; omega
section
variable {σ : Type} {M : Mach σ} {ok : Nat → σ → Prop} {R : Nat → Prop} {K : World → Value → Value → (Nat → Prop) → σ → Prop} {w : World} {g : Nat} {G : Nat → Prop} {z : Lzs} {t : Pm σ}

/-- what a distance leaves -/
def DistPost (R : Nat → Prop) (K : World → Value → Value → (Nat → Prop) → σ → Prop) (w0 : World) (G0 : Nat → Prop) (g : Nat) (z : Lzs) (r : Nat × Pm σ) (x : Ending) (w' : World) : Prop :=
  x = .returned (.int .u32 (r.1 : Int)) ∧ ZAt R K w0 G0 w' g z r.2

set_option maxHeartbeats 4000000 in
theorem zdist_any (Z : ZOps M ok R K) {w0 : World} {G0 : Nat → Prop} {L k l v : Nat} (h : ZAt R K w0 G0 w g z t) (ht : PmOk ok L (k + 12) t) (hL0 : 1847 ≤ L) (hL : L ≤ 100000000) (hl : l ≤ 1000) (hv : v < 4294967296) :
    Calls Tryz.prog 54 #[.pointer (some ⟨g, 0, none⟩), .int .i64 (l : Int), .int .u32 (v : Int)] w (DistPost R K w0 G0 g z (distP M t l v)) := by
  obtain ⟨s1, s2, s3⟩ := slot_spec hv
  have KS := Lib.hid (slotOf_any hv)
  obtain ⟨ml, hml⟩ : ∃ m, m = min l 3 := ⟨_, rfl⟩
  obtain ⟨a, ha⟩ : ∃ a, a = 432 + 64 * ml := ⟨_, rfl⟩
  have hmv : M.mayN ((slotOf v : Nat) : Int) := fun _ => by omega
  have hT := treeP_ok Z.okm (k := k + 6) (n := 6) (a := a) (v := ((slotOf v : Nat) : Int)) (t := t) ht (by show a + 64 ≤ L; omega) hmv
  have hKT := ztree_any Z h (k := k + 6) (n := 6) (a := a) (v := ((slotOf v : Nat) : Int)) ht (by show a + 64 ≤ L; omega) hL (by decide) hmv (by omega) (by omega)
  have htell : M.enc = true → (treeP M t a 6 ((slotOf v : Nat) : Int)).1 = slotOf v := fun he => treeP_tell Z.okm he s1
  have hdef : distP M t l v = distB M (treeP M t a 6 ((slotOf v : Nat) : Int)) v := by rw [ha, hml]; rfl
  rw [hdef]
  obtain ⟨sl, hsl⟩ : ∃ sl, sl = treeP M t a 6 ((slotOf v : Nat) : Int) := ⟨_, rfl⟩
  rw [← hsl] at hT hKT htell ⊢
  have hs64 : sl.1 < 64 := hT.1
  have hp1 := hT.2
  have HKT := Lib.hid hKT
  have m1 : min (l : Int) 3 = (ml : Int) := by omega
  have m2 : IntKind.i64.wrap (64 * (ml : Int)) = 64 * (ml : Int) := IntWalk.i64_in _ (by omega)
  have m3 : IntKind.i64.wrap (432 + 64 * (ml : Int)) = (a : Int) := by rw [show 432 + 64 * (ml : Int) = (a : Int) by omega]; exact IntWalk.i64_in _ (by omega)
  clear hT hKT hdef hmv ht h hml ha
  by_cases h4 : sl.1 < 4
  · have hres : distB M sl v = sl := by unfold distB; rw [if_pos h4]
    rw [hres]
    have g4 : (sl.1 : Int) < 4 := by omega
    have e1 : IntKind.u32.wrap (sl.1 : Int) = (sl.1 : Int) := u32_fit' _ (by omega) (by omega)
    clear hres h4 hs64 hp1 htell hsl s1 s2 s3 hL0 hL hl hv
    go_enter Tryz.func54, Tryz.ntmps54
    go_wp2_with fail
    refine (KS.out _).mono ?_
    rintro e w1 ⟨rfl, rfl⟩
    clear KS
    go_wp2_with fail
    refine HKT.out.mono ?_
    rintro e w2 ⟨rfl, hz2⟩
    have HZ2 := Lib.hid hz2
    clear hz2 HKT
    go_wp2_with fail
    go_ret
    exact ⟨rfl, HZ2.out⟩
  · obtain ⟨n, hn⟩ : ∃ n, n = sl.1 / 2 - 1 := ⟨_, rfl⟩
    obtain ⟨q, hq⟩ : ∃ q, q = sl.1 / 2 := ⟨_, rfl⟩
    obtain ⟨r, hr⟩ : ∃ r, r = sl.1 % 2 := ⟨_, rfl⟩
    obtain ⟨P, hP⟩ : ∃ P, P = 2 ^ n := ⟨_, rfl⟩
    obtain ⟨base, hb⟩ : ∃ b, b = (2 + r) * P := ⟨_, rfl⟩
    have hn30 : n ≤ 30 := by omega
    have hP30 : P ≤ 2 ^ 30 := by rw [hP]; exact pow_le_of hn30
    have hb3 : base ≤ 3 * P := by rw [hb]; exact Nat.mul_le_mul_right P (by omega)
    have hspec : M.enc = true → base ≤ v ∧ v < base + P := fun he => by
      have h1 := htell he
      have h2 := s3 (by omega)
      rw [← h1, ← hn, ← hr, ← hP, ← hb] at h2
      exact h2
    have KP := Lib.hid (fun w => power_any (n := n) (by omega) w)
    rw [← hP] at KP
    have g4 : ¬ (sl.1 : Int) < 4 := by omega
    have e1 : (sl.1 : Int) / 2 = (q : Int) := by omega
    have e1' : (sl.1 : Int).tdiv 2 = (q : Int) := by rw [Int.tdiv_eq_ediv_of_nonneg (by omega)]; exact e1
    have e2 : IntKind.i64.wrap (q : Int) = (q : Int) := IntWalk.i64_in _ (by omega)
    have e3 : IntKind.i64.wrap ((q : Int) - 1) = (n : Int) := by rw [show (q : Int) - 1 = (n : Int) by omega]; exact IntWalk.i64_in _ (by omega)
    have e4 : (sl.1 : Int).tmod 2 = (r : Int) := by rw [Int.tmod_eq_emod_of_nonneg (by omega)]; omega
    have e5 : IntKind.i64.wrap (r : Int) = (r : Int) := IntWalk.i64_in _ (by omega)
    have e6 : IntKind.i64.wrap (2 + (r : Int)) = 2 + (r : Int) := IntWalk.i64_in _ (by omega)
    have e7 : IntKind.i64.wrap ((2 + (r : Int)) * (P : Int)) = (base : Int) := by
      have hc : (2 + (r : Int)) * (P : Int) = (base : Int) := by rw [hb, Int.natCast_mul, Int.natCast_add]; rfl
      rw [hc]
      exact IntWalk.i64_in _ (by omega)
    by_cases h14 : sl.1 < 14
    · obtain ⟨c1, c2, c3⟩ := special_in ⟨sl.1, h14⟩ (by show 4 ≤ sl.1; omega)
      dsimp only at c1 c2 c3
      rw [← hn, ← hr, ← hP, ← hb] at c1
      rw [← hn] at c3
      obtain ⟨ad, had⟩ : ∃ ad, ad = 688 + base - sl.1 := ⟨_, rfl⟩
      obtain ⟨u, hu⟩ : ∃ u : Int, u = (v : Int) - (base : Int) := ⟨_, rfl⟩
      have hmu : M.mayN u := fun he => by have := (hspec he).1; omega
      have hR := (revP_ok Z.okm (k := k) (n := n) (a := ad) (v := u) (hp1.mono Z.okm (show k + n ≤ k + 6 by omega)) (by rw [← hP]; omega) hmu).1
      rw [← hP] at hR
      have HKR := Lib.hid (fun (w1 : World) (hz : ZAt R K w0 G0 w1 g z sl.2) => zrev_any Z hz (k := k) (n := n) (a := ad) (v := u) (hp1.mono Z.okm (show k + n ≤ k + 6 by omega)) (by rw [← hP]; omega) hL (by omega) hmu (by omega) (by omega))
      have hres : distB M sl v = (base + (revP M sl.2 ad n u).1, (revP M sl.2 ad n u).2) := by
        unfold distB
        rw [if_neg h4, if_pos h14, ← hn, ← hr, ← hP, ← hb, ← had, ← hu]
      rw [hres]
      obtain ⟨o, ho⟩ : ∃ o, o = (revP M sl.2 ad n u).1 := ⟨_, rfl⟩
      rw [← ho] at hR HKR ⊢
      obtain ⟨res, hrs⟩ : ∃ x, x = base + o := ⟨_, rfl⟩
      rw [← hrs]
      have g14 : (sl.1 : Int) < 14 := by omega
      have f1 : IntKind.i64.wrap (688 + (base : Int)) = 688 + (base : Int) := IntWalk.i64_in _ (by omega)
      have f2 : IntKind.i64.wrap (688 + (base : Int) - (sl.1 : Int)) = (ad : Int) := by rw [show 688 + (base : Int) - (sl.1 : Int) = (ad : Int) by omega]; exact IntWalk.i64_in _ (by omega)
      have f3 : IntKind.i64.wrap (v : Int) = (v : Int) := IntWalk.i64_in _ (by omega)
      have f4 : IntKind.i64.wrap ((v : Int) - (base : Int)) = u := by rw [← hu]; exact IntWalk.i64_in _ (by omega)
      have f5 : IntKind.i64.wrap ((base : Int) + (o : Int)) = (res : Int) := by rw [show (base : Int) + (o : Int) = (res : Int) by omega]; exact IntWalk.i64_in _ (by omega)
      have f6 : IntKind.u32.wrap (res : Int) = (res : Int) := u32_fit' _ (by omega) (by omega)
      clear hres h4 h14 hs64 hp1 htell hsl s1 s2 s3 hL0 hL hl hv hn hq hr hP hb hn30 hP30 hb3 hspec c1 c2 c3 had hu hmu hR ho hrs
      go_enter Tryz.func54, Tryz.ntmps54
      go_wp2_with fail
      refine (KS.out _).mono ?_
      rintro e w1 ⟨rfl, rfl⟩
      clear KS
      go_wp2_with fail
      refine HKT.out.mono ?_
      rintro e w2 ⟨rfl, hz2⟩
      have HR2 := Lib.hid (HKR.out w2 hz2)
      clear hz2 HKT HKR
      go_wp2_with fail
      refine (KP.out _).mono ?_
      rintro e w3 ⟨rfl, rfl⟩
      clear KP
      go_wp2_with fail
      (with_reducible refine HR2.out.mono ?_)
      rintro e w4 ⟨rfl, hz4⟩
      have HZ4 := Lib.hid hz4
      clear hz4 HR2
      go_wp2_with fail
      go_ret
      exact ⟨rfl, HZ4.out⟩
    · have hn5 : 6 ≤ n := by omega
      obtain ⟨rs, hrs⟩ : ∃ x, x = (v + 4294967296 - base) % 4294967296 := ⟨_, rfl⟩
      obtain ⟨rest, hrest⟩ : ∃ x, x = rs / 16 := ⟨_, rfl⟩
      obtain ⟨P4, hP4⟩ : ∃ P, P = 2 ^ (n - 4) := ⟨_, rfl⟩
      have hPP : P = 16 * P4 := by rw [hP, hP4, show (16 : Nat) = 2 ^ 4 from rfl, ← Nat.pow_add, show 4 + (n - 4) = n by omega]
      have hst : M.enc = true → rest < 2 ^ (n - 4) := fun he => by
        have := hspec he
        rw [← hP4]
        omega
      have hS := Z.okm.str (k := k + 5) (n := n - 4) (v := rest) hp1.x (by omega) hst
      have HKS := Lib.hid (fun (w1 : World) (hz : ZAt R K w0 G0 w1 g z sl.2) => ZAt.str Z hz (k := k + 5) (n := n - 4) (v := rest) hp1 (by omega) (by omega) hst)
      obtain ⟨hi, hhi⟩ : ∃ h, h = M.str sl.2.x (n - 4) rest := ⟨_, rfl⟩
      rw [← hhi] at hS HKS
      rw [← hP4] at hS
      obtain ⟨v16, hv16⟩ : ∃ x, x = v % 16 := ⟨_, rfl⟩
      have hp2 : PmOk ok L (k + 5) (⟨sl.2.ps, hi.2⟩ : Pm σ) := ⟨hp1.ps, hp1.len, hS.2⟩
      have hmr : M.mayN ((v16 : Nat) : Int) := fun _ => by omega
      have hR := (revP_ok Z.okm (k := k) (n := 4) (a := 803) (v := ((v16 : Nat) : Int)) (hp2.mono Z.okm (show k + 4 ≤ k + 5 by omega)) (by show 803 + 16 ≤ L; omega) hmr).1
      have HKR := Lib.hid (fun (w1 : World) (hz : ZAt R K w0 G0 w1 g z (⟨sl.2.ps, hi.2⟩ : Pm σ)) => zrev_any Z hz (k := k) (n := 4) (a := 803) (v := ((v16 : Nat) : Int)) (hp2.mono Z.okm (show k + 4 ≤ k + 5 by omega)) (by show 803 + 16 ≤ L; omega) hL (by decide) hmr (by omega) (by omega))
      have hres : distB M sl v = (base + 16 * hi.1 + (revP M ⟨sl.2.ps, hi.2⟩ 803 4 ((v16 : Nat) : Int)).1, (revP M ⟨sl.2.ps, hi.2⟩ 803 4 ((v16 : Nat) : Int)).2) := by
        unfold distB
        rw [if_neg h4, if_neg h14, ← hn, ← hr, ← hP, ← hb, ← hrs, ← hrest, ← hhi, hv16]
        rfl
      rw [hres]
      obtain ⟨o, ho⟩ : ∃ o, o = (revP M ⟨sl.2.ps, hi.2⟩ 803 4 ((v16 : Nat) : Int)).1 := ⟨_, rfl⟩
      rw [← ho] at hR HKR ⊢
      have ho16 : o < 16 := hR
      obtain ⟨hv1, hhv⟩ : ∃ x, x = hi.1 := ⟨_, rfl⟩
      rw [← hhv] at hS HKS ⊢
      have hh4 := hS.1
      obtain ⟨res, hrs2⟩ : ∃ x, x = base + 16 * hv1 + o := ⟨_, rfl⟩
      rw [← hrs2]
      obtain ⟨n4, hn4⟩ : ∃ x, x = n - 4 := ⟨_, rfl⟩
      rw [← hn4] at HKS
      have g14 : ¬ (sl.1 : Int) < 14 := by omega
      have f1 : IntKind.u32.wrap (base : Int) = (base : Int) := u32_fit' _ (by omega) (by omega)
      have f2 : IntKind.u32.wrap ((v : Int) - (base : Int)) = (rs : Int) := by simp [IntKind.wrap, IntKind.bits, IntKind.signed]; omega
      have f3 : (rs : Int) / 16 = (rest : Int) := by omega
      have f3' : (rs : Int).tdiv 16 = (rest : Int) := by rw [Int.tdiv_eq_ediv_of_nonneg (by omega)]; exact f3
      have f3'' : IntKind.u32.wrap (rest : Int) = (rest : Int) := u32_fit' _ (by omega) (by omega)
      have f4 : IntKind.i64.wrap ((n : Int) - 4) = (n4 : Int) := by rw [show (n : Int) - 4 = (n4 : Int) by omega]; exact IntWalk.i64_in _ (by omega)
      have f5 : IntKind.u32.wrap (16 * (hv1 : Int)) = 16 * (hv1 : Int) := u32_fit' _ (by omega) (by omega)
      have f6 : IntKind.u32.wrap ((base : Int) + 16 * (hv1 : Int)) = (base : Int) + 16 * (hv1 : Int) := u32_fit' _ (by omega) (by omega)
      have f7 : (v : Int).tmod 16 = (v16 : Int) := by rw [Int.tmod_eq_emod_of_nonneg (by omega)]; omega
      have f7' : IntKind.u32.wrap (v16 : Int) = (v16 : Int) := u32_fit' _ (by omega) (by omega)
      have f8 : IntKind.i64.wrap (v16 : Int) = (v16 : Int) := IntWalk.i64_in _ (by omega)
      have f9 : IntKind.u32.wrap (o : Int) = (o : Int) := u32_fit' _ (by omega) (by omega)
      have f10 : IntKind.u32.wrap ((base : Int) + 16 * (hv1 : Int) + (o : Int)) = (res : Int) := by rw [show (base : Int) + 16 * (hv1 : Int) + (o : Int) = (res : Int) by omega]; exact u32_fit' _ (by omega) (by omega)
      clear hres h4 h14 hs64 hp1 htell hsl s1 s2 s3 hL0 hL hl hv hn hq hr hP hb hn30 hP30 hb3 hspec hn5 hrs hrest hP4 hPP hst hS hhi hv16 hp2 hmr hR ho ho16 hhv hh4 hrs2 hn4
      go_enter Tryz.func54, Tryz.ntmps54
      go_wp2_with fail
      refine (KS.out _).mono ?_
      rintro e w1 ⟨rfl, rfl⟩
      clear KS
      go_wp2_with fail
      refine HKT.out.mono ?_
      rintro e w2 ⟨rfl, hz2⟩
      have HS2 := Lib.hid (HKS.out w2 hz2)
      clear hz2 HKT HKS
      go_wp2_with fail
      refine (KP.out _).mono ?_
      rintro e w3 ⟨rfl, rfl⟩
      clear KP
      go_wp2_with fail
      (with_reducible refine HS2.out.mono ?_)
      rintro e w4 ⟨rfl, hz4⟩
      have HR4 := Lib.hid (HKR.out w4 hz4)
      clear hz4 HS2 HKR
      go_wp2_with fail
      refine HR4.out.mono ?_
      rintro e w5 ⟨rfl, hz5⟩
      have HZ5 := Lib.hid hz5
      clear hz5 HR4
      go_wp2_with fail
      go_ret
      exact ⟨rfl, HZ5.out⟩
end
end Go.Proofs.YtiolfjhddbiglaaGreatDoor

/-
  The reference of LZMA: one number or the other; the state behind.
-/
namespace Go.Proofs.YtiolfjhddbiglaaGreatDoor
open Go.RowKit

set_option maxHeartbeats 1000000 in
theorem choose_any (b : Bool) (w : World) : Calls Tryz.prog 81 #[.bool b, .int .i64 0, .int .i64 1] w fun x w' => x = .returned (.int .i64 (if b = true then 0 else 1)) ∧ w = w' := by
  cases b
  all_goals
    go_enter Tryz.func81, Tryz.ntmps81
    go_wp2_with fail
    go_ret
    exact ⟨rfl, rfl⟩

section
variable {σ : Type} {M : Mach σ} {ok : Nat → σ → Prop} {R : Nat → Prop} {K : World → Value → Value → (Nat → Prop) → σ → Prop} {w : World} {g : Nat} {G : Nat → Prop} {z : Lzs} {t : Pm σ}

set_option maxHeartbeats 1000000 in
theorem zafter_any (Z : ZOps M ok R K) {w0 : World} {G0 : Nat → Prop} {a b : Nat} (h : ZAt R K w0 G0 w g z t) :
    Calls Tryz.prog 53 #[.pointer (some ⟨g, 0, none⟩), .int .i64 (a : Int), .int .i64 (b : Int)] w fun x w' => x = .returned (.tuple #[]) ∧ ZAt R K w0 G0 w' g { z with st := if z.st < 7 then a else b } t := by
  obtain ⟨_, _, _, _, s8, _, _, _, _, _, _, fz⟩ := h.cells
  have fz8 := fz 8
  have hput := fun n : Nat => ZAt.put Z h (i := 8) (u := .int .i64 (n : Int)) (z' := { z with st := n }) (fun _ _ _ _ _ _ => rfl) rfl
  have HPUT := Lib.hid hput
  clear hput h fz
  by_cases h7 : z.st < 7
  · have g7 : (z.st : Int) < 7 := by omega
    rw [if_pos h7]
    clear h7
    go_enter Tryz.func53, Tryz.ntmps53
    go_wp2_with fail
    first | go_end0 | refine bodyPost_ret (results_none rfl _ _ _) rfl ?_
    exact ⟨rfl, HPUT.out a⟩
  · have g7 : ¬ (z.st : Int) < 7 := by omega
    rw [if_neg h7]
    clear h7
    go_enter Tryz.func53, Tryz.ntmps53
    go_wp2_with fail
    first | go_end0 | refine bodyPost_ret (results_none rfl _ _ _) rfl ?_
    exact ⟨rfl, HPUT.out b⟩

end
end Go.Proofs.YtiolfjhddbiglaaGreatDoor

/-
  A region that draws its order, walked by hand: the condition on the world may be strengthened on the way.
-/
namespace Go.Proofs.YtiolfjhddbiglaaGreatDoor

section
variable {P : Program} {ops : Array Oper} {Q : Exit → Act → World → Prop} {md : Region.Mode} {S S' : World → Prop}
/-- What holds under the stronger condition holds under the weaker one: so a cell that turns within the region is named behind its turning. -/
theorem wpAnyH_strong (hSS : ∀ w, S' w → S w) : ∀ (fuel : Nat) (listed : Array Bool) (a : Act) (w : World), wpAnyH P md ops Q S' fuel listed a w → wpAnyH P md ops Q S fuel listed a w
  | 0, _, _, _, h => h
  | fuel + 1, _, _, _, h => ⟨h.1, fun i hi => wpOp_mono (fun _ _ h' => ⟨hSS _ h'.1, wpAnyH_strong hSS fuel _ _ _ h'.2⟩) (h.2 i hi)⟩
end
end Go.Proofs.YtiolfjhddbiglaaGreatDoor

/-
  The reference of LZMA: which packet it is.
-/
namespace Go.Proofs.YtiolfjhddbiglaaGreatDoor
open Go.RowKit

section
variable {σ : Type} {M : Mach σ} {ok : Nat → σ → Prop} {R : Nat → Prop} {K : World → Value → Value → (Nat → Prop) → σ → Prop} {w : World} {g : Nat} {G : Nat → Prop} {z : Lzs} {t : Pm σ}

/-- What the kind leaves. -/
def KindPost (R : Nat → Prop) (K : World → Value → Value → (Nat → Prop) → σ → Prop) (w0 : World) (G0 : Nat → Prop) (g : Nat) (z : Lzs) (r : Nat × Bool × Pm σ) (x : Ending) (w' : World) : Prop :=
  x = .returned (.int .i64 (r.1 : Int)) ∧ ZAt R K w0 G0 w' g { z with bad := z.bad || r.2.1 } r.2.2
theorem kind_end {w0 : World} {G0 : Nat → Prop} {t : Pm σ} (h : ZAt R K w0 G0 w g z t) : ZAt R K w0 G0 w g { z with bad := z.bad || false } t := by
  rw [Bool.or_false]
  exact h
theorem ch_eq (kd c : Int) (p : Prop) [Decidable p] (hp : p ↔ kd = c) (w : World) : Calls Tryz.prog 81 #[.bool (kd == c), .int .i64 0, .int .i64 1] w fun x w' => x = .returned (.int .i64 (chI p)) ∧ w = w' := by
  have h := choose_any (kd == c) w
  have e : (if (kd == c) = true then (0 : Int) else 1) = chI p := by
    unfold chI
    by_cases hc : kd = c
    · rw [if_pos (by simp [hc]), if_pos (hp.2 hc)]
    · rw [if_neg (by simp [hc]), if_neg (fun h => hc (hp.1 h))]
  rw [e] at h
  exact h
theorem pi_add {a b c : Nat} (h : a + b = c) (hc : c < 1000000) : IntKind.i64.wrap ((a : Int) + (b : Int)) = (c : Int) := by
  rw [show (a : Int) + (b : Int) = (c : Int) by omega]
  exact IntWalk.i64_in _ (by omega)

set_option maxRecDepth 100000 in
set_option maxHeartbeats 16000000 in
theorem zkind_any (Z : ZOps M ok R K) {w0 : World} {G0 : Nat → Prop} {L k s : Nat} {kd : Int} (h : ZAt R K w0 G0 w g z t) (ht : PmOk ok L (k + 5) t) (hf : ZFine z L) (hs : s ≤ 15) (hk : M.mayN kd) (h0 : -1000000 ≤ kd) (h1 : kd ≤ 1000000) :
    Calls Tryz.prog 50 #[.pointer (some ⟨g, 0, none⟩), .int .i64 (s : Int), .int .i64 kd] w (KindPost R K w0 G0 g z (kindP M t (decide (z.out.length = 0)) z.st s kd)) := by
  have hst := hf.st
  have hL0 : 1847 ≤ L := by have := hf.len; omega
  have hL := (hf.small).1
  obtain ⟨st, hste⟩ : ∃ st, st = z.st := ⟨_, rfl⟩
  rw [← hste] at hst ⊢
  obtain ⟨_, _, _, _, s8, _⟩ := h.cells
  rw [← hste] at s8
  obtain ⟨ad, had⟩ : ∃ a, a = 16 * st + s := ⟨_, rfl⟩
  have hmay : M.may (min kd 1) := fun he => by have := hk he; omega
  obtain ⟨b1, p1⟩ := bitP_ok Z.okm (k := k + 4) (a := ad) (w := min kd 1) ht (by omega) hmay
  have HK1 := Lib.hid (ZAt.bit Z h (k := k + 4) (a := ad) (b := min kd 1) ht (by omega) hL hmay)
  have hdef : kindP M t (decide (z.out.length = 0)) st s kd = kd1 M (bitP M t ad (min kd 1)) (decide (z.out.length = 0)) st s kd := by rw [had]; rfl
  rw [hdef]
  obtain ⟨B1, hB1⟩ : ∃ B, B = bitP M t ad (min kd 1) := ⟨_, rfl⟩
  rw [← hB1] at b1 p1 HK1 ⊢
  have HP1 := Lib.hid p1
  have e1 : IntKind.i64.wrap (16 * (st : Int)) = 16 * (st : Int) := IntWalk.i64_in _ (by omega)
  have e2 : IntKind.i64.wrap (16 * (st : Int) + (s : Int)) = (ad : Int) := by rw [show 16 * (st : Int) + (s : Int) = (ad : Int) by omega]; exact IntWalk.i64_in _ (by omega)
  have e3 : IntKind.i64.wrap (0 + 16 * (st : Int)) = 16 * (st : Int) := by rw [Int.zero_add]; exact e1
  have HST := Lib.hid hste
  have HS := Lib.hid (show s ≤ 15 ∧ st ≤ 11 ∧ 1847 ≤ L ∧ L ≤ 100000000 from ⟨hs, hst, hL0, hL⟩)
  have HB1 := Lib.hid b1
  obtain ⟨em, hem⟩ : ∃ e, e = decide (z.out.length = 0) := ⟨_, rfl⟩
  rw [← hem]
  obtain ⟨res, hr⟩ : ∃ r, r = kd1 M B1 em st s kd := ⟨_, rfl⟩
  rw [← hr]
  have HR := Lib.hid hr
  have HEM := Lib.hid hem
  clear b1 p1 hB1 hdef hmay had hste hst hL0 hL h ht hf hs hk h0 h1 hem hr
  go_enter Tryz.func50, Tryz.ntmps50
  go_wp2_with fail
  refine HK1.out.mono ?_
  rintro e w1 ⟨rfl, hz1⟩
  have HZ1 := Lib.hid hz1
  clear hz1 HK1 e1 e2 e3 s8
  by_cases hb0 : B1.1 = 0
  · have hres : kd1 M B1 (em) st s kd = (0, false, B1.2) := by unfold kd1; rw [if_pos hb0]
    rw [hb0]
    clear hb0
    go_wp2_with fail
    go_ret
    rw [HR.out, hres]
    refine ⟨rfl, ?_⟩
    show ZAt R K w0 G0 w1 g { z with bad := z.bad || false } B1.2
    rw [Bool.or_false]
    exact HZ1.out
  obtain ⟨bb, hbb⟩ : ∃ b, b = B1.1 := ⟨_, rfl⟩
  have gb : ¬ (bb : Int) = 0 := by omega
  have gb' : ((bb : Int) == 0) = false := by simp; omega
  rw [← hbb]
  obtain ⟨a2, ha2⟩ : ∃ a, a = 192 + st := ⟨_, rfl⟩
  have HD2 := Lib.hid (show kd1 M B1 (em) st s kd = kd2 M (bitP M B1.2 a2 (chI (kd = 1 ∨ kd = 7))) (em) st s kd by unfold kd1; rw [if_neg hb0, ha2])
  have HKB := Lib.hid (ZAt.bit Z (HZ1.out.drewN Z 1) (k := k + 3) (a := a2) (b := chI (kd = 1 ∨ kd = 7)) HP1.out (by have := HS.out; omega) HS.out.2.2.2 (chI_may _))
  obtain ⟨b2, p2⟩ := bitP_ok Z.okm (k := k + 3) (a := a2) (w := chI (kd = 1 ∨ kd = 7)) HP1.out (by have := HS.out; omega) (chI_may _)
  obtain ⟨B2, hB2⟩ : ∃ B, B = bitP M B1.2 a2 (chI (kd = 1 ∨ kd = 7)) := ⟨_, rfl⟩
  rw [← hB2] at b2 p2 HKB HD2
  have HP2 := Lib.hid p2
  have HB2 := Lib.hid b2
  have f1 : IntKind.i64.wrap (192 + (st : Int)) = (a2 : Int) := pi_add (a := 192) ha2.symm (by have := HS.out; omega)
  obtain ⟨_, _, _, _, s8x, _⟩ := HZ1.out.cells
  rw [← HST.out] at s8x
  obtain ⟨c2, hc2⟩ : ∃ c, c = chI (kd = 1 ∨ kd = 7) := ⟨_, rfl⟩
  rw [← hc2] at HKB
  clear b2 p2 hB2 ha2 hb0
  by_cases k1 : kd = 1
  focus
    have d1' : (kd == 1) = true := by simp [k1]
    have KC := Lib.hid (fun w => choose_any true w)
    have hc0 : c2 = 0 := by rw [hc2]; unfold chI; rw [if_pos (.inl k1)]
    rw [hc0] at HKB
    clear hc2 hbb hc0 k1
    go_wp2_with fail
    refine wp_region_held_drew (S := fun w' => w'.cell? ⟨g, 8, none⟩ = some (.int .i64 (st : Int))) (by kernel_rfl) s8x (fun hHeld => ?_)
    refine wpAnyH_take (i := 0) (v := ?_) rfl (by kernel_rfl) (by kernel_rfl) (by kernel_rfl) (fun _ _ _ h => h) (Or.inl ⟨by rfl, ?_⟩) (by assumption) ?_
    rotate_left
    · (intro w hSw; (try dsimp only at hSw); go_simp; try with_reducible rfl)
    try simp only [Act.put, List.setIfInBounds_toArray, List.set_cons_zero, List.set_cons_succ, List.getElem_toArray, List.getElem_cons_zero, List.getElem_cons_succ]
    refine wpAnyH_take (i := 1) (v := ?_) rfl (by kernel_rfl) (by kernel_rfl) (by kernel_rfl) (fun _ _ _ h => h) (Or.inl ⟨by rfl, ?_⟩) (by assumption) ?_
    rotate_left
    · (intro w hSw; (try dsimp only at hSw); go_simp; try with_reducible rfl)
    try simp only [Act.put, List.setIfInBounds_toArray, List.set_cons_zero, List.set_cons_succ, List.getElem_toArray, List.getElem_cons_zero, List.getElem_cons_succ]
    refine wpAnyH_take (i := 2) (v := ?_) rfl (by kernel_rfl) (by kernel_rfl) (by kernel_rfl) (fun _ _ _ h => h) (Or.inl ⟨by rfl, ?_⟩) (by assumption) ?_
    rotate_left
    · (intro w hSw; (try dsimp only at hSw); go_simp; try with_reducible rfl)
    try simp only [Act.put, List.setIfInBounds_toArray, List.set_cons_zero, List.set_cons_succ, List.getElem_toArray, List.getElem_cons_zero, List.getElem_cons_succ]
    refine wpAnyH_take (i := 3) (v := ?_) rfl (by kernel_rfl) (by kernel_rfl) (by kernel_rfl) (fun _ _ _ h => h) (Or.inl ⟨by rfl, ?_⟩) (by assumption) ?_
    rotate_left
    · (intro w hSw; (try dsimp only at hSw); go_simp; try with_reducible rfl)
    try simp only [Act.put, List.setIfInBounds_toArray, List.set_cons_zero, List.set_cons_succ, List.getElem_toArray, List.getElem_cons_zero, List.getElem_cons_succ]
    refine wpAnyH_take (i := 4) (v := ?_) rfl (by kernel_rfl) (by kernel_rfl) (by kernel_rfl) (fun _ _ _ h => h) (Or.inl ⟨by rfl, ?_⟩) (by assumption) ?_
    rotate_left
    · (intro w hSw; (try dsimp only at hSw); go_simp; try with_reducible rfl)
    try simp only [Act.put, List.setIfInBounds_toArray, List.set_cons_zero, List.set_cons_succ, List.getElem_toArray, List.getElem_cons_zero, List.getElem_cons_succ]
    refine wpAnyH_take (i := 5) (v := ?_) rfl (by kernel_rfl) (by kernel_rfl) (by kernel_rfl) (fun _ _ _ h => h) (Or.inl ⟨by rfl, ?_⟩) (by assumption) ?_
    rotate_left
    · (intro w hSw; (try dsimp only at hSw); go_simp; try with_reducible rfl)
    try simp only [Act.put, List.setIfInBounds_toArray, List.set_cons_zero, List.set_cons_succ, List.getElem_toArray, List.getElem_cons_zero, List.getElem_cons_succ]
    refine wpAnyH_take (i := 6) (v := ?_) rfl (by kernel_rfl) (by kernel_rfl) (by kernel_rfl) (fun _ _ _ h => h) (Or.inl ⟨by rfl, ?_⟩) (by assumption) ?_
    rotate_left
    · (intro w hSw; (try dsimp only at hSw); go_simp; try with_reducible rfl)
    try simp only [Act.put, List.setIfInBounds_toArray, List.set_cons_zero, List.set_cons_succ, List.getElem_toArray, List.getElem_cons_zero, List.getElem_cons_succ]
    refine wpAnyH_take (i := 7) (v := ?_) rfl (by kernel_rfl) (by kernel_rfl) (by kernel_rfl) (fun _ _ _ h => h) (Or.inl ⟨by rfl, ?_⟩) (by assumption) ?_
    rotate_left
    · (intro w hSw; (try dsimp only at hSw); go_simp; try with_reducible rfl)
    try simp only [Act.put, List.setIfInBounds_toArray, List.set_cons_zero, List.set_cons_succ, List.getElem_toArray, List.getElem_cons_zero, List.getElem_cons_succ]
    refine wpAnyH_take (i := 8) (v := ?_) rfl (by kernel_rfl) (by kernel_rfl) (by kernel_rfl) (fun _ _ _ h => h) (Or.inl ⟨by rfl, ?_⟩) (by assumption) ?_
    rotate_left
    · (intro w hSw; (try dsimp only at hSw); go_simp; try with_reducible rfl)
    try simp only [Act.put, List.setIfInBounds_toArray, List.set_cons_zero, List.set_cons_succ, List.getElem_toArray, List.getElem_cons_zero, List.getElem_cons_succ]
    refine wpAnyH_take (i := 9) (v := undef) rfl (by kernel_rfl) (by kernel_rfl) (by kernel_rfl) (fun _ _ _ h => h) (Or.inr ⟨by rfl, rfl⟩) (by assumption) ?_
    try simp only [Act.put, List.setIfInBounds_toArray, List.set_cons_zero, List.set_cons_succ, List.getElem_toArray, List.getElem_cons_zero, List.getElem_cons_succ]
    refine wpAnyH_take (i := 10) (v := undef) rfl (by kernel_rfl) (by kernel_rfl) (by kernel_rfl) (fun _ _ _ h => h) (Or.inr ⟨by rfl, rfl⟩) (by assumption) ?_
    try simp only [Act.put, List.setIfInBounds_toArray, List.set_cons_zero, List.set_cons_succ, List.getElem_toArray, List.getElem_cons_zero, List.getElem_cons_succ]
    refine wpAnyH_take (i := 11) (v := ?_) rfl (by kernel_rfl) (by kernel_rfl) (by kernel_rfl) (fun _ _ _ h => h) (Or.inl ⟨by rfl, ?_⟩) (by assumption) ?_
    rotate_left
    · (intro w hSw; (try dsimp only at hSw); go_simp; try with_reducible rfl)
    try simp only [Act.put, List.setIfInBounds_toArray, List.set_cons_zero, List.set_cons_succ, List.getElem_toArray, List.getElem_cons_zero, List.getElem_cons_succ]
    refine wpAnyH_ready (rs := [12]) (by kernel_rfl) (by simp) (AllReadyH.cons (i := 12) rfl (fun K hK => ?_) AllReadyH.nil)
    try simp only [List.getElem_toArray, List.getElem_cons_zero, List.getElem_cons_succ]
    go_simp
    go_at_call 81
    refine (KC.out _).mono ?_
    rintro e w9 ⟨rfl, rfl⟩
    refine hK.out _ _ s8x (fun hHeld => ?_)
    clear hK K
    try simp only [Act.put, List.setIfInBounds_toArray, List.set_cons_zero, List.set_cons_succ]
    refine wpAnyH_ready (rs := [13]) (by kernel_rfl) (by simp) (AllReadyH.cons (i := 13) rfl (fun K hK => ?_) AllReadyH.nil)
    try simp only [List.getElem_toArray, List.getElem_cons_zero, List.getElem_cons_succ]
    go_simp
    go_at_call 80
    refine HKB.out.mono ?_
    rintro e w2 ⟨rfl, hz2⟩
    have j0 : w2.cell? ⟨g, 8, none⟩ = some (.int .i64 (st : Int)) := by have h8 := hz2.cells.2.2.2.2.1; rw [← HST.out] at h8; exact h8
    have HZ2 := Lib.hid hz2
    clear hz2
    refine hK.out _ _ j0 (fun hHeld => ?_)
    clear hK K
    try simp only [Act.put, List.setIfInBounds_toArray, List.set_cons_zero, List.set_cons_succ]
    refine wpAnyH_take (i := 14) (v := ?_) rfl (by kernel_rfl) (by kernel_rfl) (by kernel_rfl) (fun _ _ _ h => h) (Or.inl ⟨by rfl, ?_⟩) (by assumption) ?_
    rotate_left
    · (intro w hSw; (try dsimp only at hSw); go_simp; try with_reducible rfl)
    try simp only [Act.put, List.setIfInBounds_toArray, List.set_cons_zero, List.set_cons_succ, List.getElem_toArray, List.getElem_cons_zero, List.getElem_cons_succ]
    refine wpAnyH_done (by kernel_rfl) ?_ _
  rotate_left
  focus
    have d1' : (kd == 1) = false := by simp [k1]
    have KC := Lib.hid (ch_eq kd 7 (kd = 1 ∨ kd = 7) ⟨fun h => h.resolve_left k1, .inr⟩)
    rw [← hc2] at KC
    clear hc2 hbb k1
    go_wp2_with fail
    refine wp_region_held_drew (S := fun w' => w'.cell? ⟨g, 8, none⟩ = some (.int .i64 (st : Int))) (by kernel_rfl) s8x (fun hHeld => ?_)
    refine wpAnyH_take (i := 0) (v := ?_) rfl (by kernel_rfl) (by kernel_rfl) (by kernel_rfl) (fun _ _ _ h => h) (Or.inl ⟨by rfl, ?_⟩) (by assumption) ?_
    rotate_left
    · (intro w hSw; (try dsimp only at hSw); go_simp; try with_reducible rfl)
    try simp only [Act.put, List.setIfInBounds_toArray, List.set_cons_zero, List.set_cons_succ, List.getElem_toArray, List.getElem_cons_zero, List.getElem_cons_succ]
    refine wpAnyH_take (i := 1) (v := ?_) rfl (by kernel_rfl) (by kernel_rfl) (by kernel_rfl) (fun _ _ _ h => h) (Or.inl ⟨by rfl, ?_⟩) (by assumption) ?_
    rotate_left
    · (intro w hSw; (try dsimp only at hSw); go_simp; try with_reducible rfl)
    try simp only [Act.put, List.setIfInBounds_toArray, List.set_cons_zero, List.set_cons_succ, List.getElem_toArray, List.getElem_cons_zero, List.getElem_cons_succ]
    refine wpAnyH_take (i := 2) (v := ?_) rfl (by kernel_rfl) (by kernel_rfl) (by kernel_rfl) (fun _ _ _ h => h) (Or.inl ⟨by rfl, ?_⟩) (by assumption) ?_
    rotate_left
    · (intro w hSw; (try dsimp only at hSw); go_simp; try with_reducible rfl)
    try simp only [Act.put, List.setIfInBounds_toArray, List.set_cons_zero, List.set_cons_succ, List.getElem_toArray, List.getElem_cons_zero, List.getElem_cons_succ]
    refine wpAnyH_take (i := 3) (v := ?_) rfl (by kernel_rfl) (by kernel_rfl) (by kernel_rfl) (fun _ _ _ h => h) (Or.inl ⟨by rfl, ?_⟩) (by assumption) ?_
    rotate_left
    · (intro w hSw; (try dsimp only at hSw); go_simp; try with_reducible rfl)
    try simp only [Act.put, List.setIfInBounds_toArray, List.set_cons_zero, List.set_cons_succ, List.getElem_toArray, List.getElem_cons_zero, List.getElem_cons_succ]
    refine wpAnyH_take (i := 4) (v := ?_) rfl (by kernel_rfl) (by kernel_rfl) (by kernel_rfl) (fun _ _ _ h => h) (Or.inl ⟨by rfl, ?_⟩) (by assumption) ?_
    rotate_left
    · (intro w hSw; (try dsimp only at hSw); go_simp; try with_reducible rfl)
    try simp only [Act.put, List.setIfInBounds_toArray, List.set_cons_zero, List.set_cons_succ, List.getElem_toArray, List.getElem_cons_zero, List.getElem_cons_succ]
    refine wpAnyH_take (i := 5) (v := ?_) rfl (by kernel_rfl) (by kernel_rfl) (by kernel_rfl) (fun _ _ _ h => h) (Or.inl ⟨by rfl, ?_⟩) (by assumption) ?_
    rotate_left
    · (intro w hSw; (try dsimp only at hSw); go_simp; try with_reducible rfl)
    try simp only [Act.put, List.setIfInBounds_toArray, List.set_cons_zero, List.set_cons_succ, List.getElem_toArray, List.getElem_cons_zero, List.getElem_cons_succ]
    refine wpAnyH_take (i := 6) (v := ?_) rfl (by kernel_rfl) (by kernel_rfl) (by kernel_rfl) (fun _ _ _ h => h) (Or.inl ⟨by rfl, ?_⟩) (by assumption) ?_
    rotate_left
    · (intro w hSw; (try dsimp only at hSw); go_simp; try with_reducible rfl)
    try simp only [Act.put, List.setIfInBounds_toArray, List.set_cons_zero, List.set_cons_succ, List.getElem_toArray, List.getElem_cons_zero, List.getElem_cons_succ]
    refine wpAnyH_take (i := 7) (v := ?_) rfl (by kernel_rfl) (by kernel_rfl) (by kernel_rfl) (fun _ _ _ h => h) (Or.inl ⟨by rfl, ?_⟩) (by assumption) ?_
    rotate_left
    · (intro w hSw; (try dsimp only at hSw); go_simp; try with_reducible rfl)
    try simp only [Act.put, List.setIfInBounds_toArray, List.set_cons_zero, List.set_cons_succ, List.getElem_toArray, List.getElem_cons_zero, List.getElem_cons_succ]
    refine wpAnyH_take (i := 8) (v := ?_) rfl (by kernel_rfl) (by kernel_rfl) (by kernel_rfl) (fun _ _ _ h => h) (Or.inl ⟨by rfl, ?_⟩) (by assumption) ?_
    rotate_left
    · (intro w hSw; (try dsimp only at hSw); go_simp; try with_reducible rfl)
    try simp only [Act.put, List.setIfInBounds_toArray, List.set_cons_zero, List.set_cons_succ, List.getElem_toArray, List.getElem_cons_zero, List.getElem_cons_succ]
    refine wpAnyH_take (i := 9) (v := ?_) rfl (by kernel_rfl) (by kernel_rfl) (by kernel_rfl) (fun _ _ _ h => h) (Or.inl ⟨by rfl, ?_⟩) (by assumption) ?_
    rotate_left
    · (intro w hSw; (try dsimp only at hSw); go_simp; try with_reducible rfl)
    try simp only [Act.put, List.setIfInBounds_toArray, List.set_cons_zero, List.set_cons_succ, List.getElem_toArray, List.getElem_cons_zero, List.getElem_cons_succ]
    refine wpAnyH_take (i := 10) (v := ?_) rfl (by kernel_rfl) (by kernel_rfl) (by kernel_rfl) (fun _ _ _ h => h) (Or.inl ⟨by rfl, ?_⟩) (by assumption) ?_
    rotate_left
    · (intro w hSw; (try dsimp only at hSw); go_simp; try with_reducible rfl)
    try simp only [Act.put, List.setIfInBounds_toArray, List.set_cons_zero, List.set_cons_succ, List.getElem_toArray, List.getElem_cons_zero, List.getElem_cons_succ]
    refine wpAnyH_take (i := 11) (v := ?_) rfl (by kernel_rfl) (by kernel_rfl) (by kernel_rfl) (fun _ _ _ h => h) (Or.inl ⟨by rfl, ?_⟩) (by assumption) ?_
    rotate_left
    · (intro w hSw; (try dsimp only at hSw); go_simp; try with_reducible rfl)
    try simp only [Act.put, List.setIfInBounds_toArray, List.set_cons_zero, List.set_cons_succ, List.getElem_toArray, List.getElem_cons_zero, List.getElem_cons_succ]
    refine wpAnyH_ready (rs := [12]) (by kernel_rfl) (by simp) (AllReadyH.cons (i := 12) rfl (fun K hK => ?_) AllReadyH.nil)
    try simp only [List.getElem_toArray, List.getElem_cons_zero, List.getElem_cons_succ]
    go_simp
    go_at_call 81
    refine (KC.out _).mono ?_
    rintro e w9 ⟨rfl, rfl⟩
    refine hK.out _ _ s8x (fun hHeld => ?_)
    clear hK K
    try simp only [Act.put, List.setIfInBounds_toArray, List.set_cons_zero, List.set_cons_succ]
    refine wpAnyH_ready (rs := [13]) (by kernel_rfl) (by simp) (AllReadyH.cons (i := 13) rfl (fun K hK => ?_) AllReadyH.nil)
    try simp only [List.getElem_toArray, List.getElem_cons_zero, List.getElem_cons_succ]
    go_simp
    go_at_call 80
    refine HKB.out.mono ?_
    rintro e w2 ⟨rfl, hz2⟩
    have j0 : w2.cell? ⟨g, 8, none⟩ = some (.int .i64 (st : Int)) := by have h8 := hz2.cells.2.2.2.2.1; rw [← HST.out] at h8; exact h8
    have HZ2 := Lib.hid hz2
    clear hz2
    refine hK.out _ _ j0 (fun hHeld => ?_)
    clear hK K
    try simp only [Act.put, List.setIfInBounds_toArray, List.set_cons_zero, List.set_cons_succ]
    refine wpAnyH_take (i := 14) (v := ?_) rfl (by kernel_rfl) (by kernel_rfl) (by kernel_rfl) (fun _ _ _ h => h) (Or.inl ⟨by rfl, ?_⟩) (by assumption) ?_
    rotate_left
    · (intro w hSw; (try dsimp only at hSw); go_simp; try with_reducible rfl)
    try simp only [Act.put, List.setIfInBounds_toArray, List.set_cons_zero, List.set_cons_succ, List.getElem_toArray, List.getElem_cons_zero, List.getElem_cons_succ]
    refine wpAnyH_done (by kernel_rfl) ?_ _
  all_goals
    clear HKB KC s8x f1 d1' gb gb'
    by_cases hb20 : B2.1 = 0
    · rw [hb20]
      have hres : kd2 M B2 (em) st s kd = (1, false, B2.2) := by unfold kd2; rw [if_pos hb20]
      clear hb20
      go_wp2_with fail
      go_ret
      rw [HR.out, HD2.out, hres]
      exact ⟨rfl, kind_end HZ2.out⟩
    obtain ⟨bb2, hbb2⟩ : ∃ b, b = B2.1 := ⟨_, rfl⟩
    have gb : ¬ (bb2 : Int) = 0 := by omega
    have gb' : ((bb2 : Int) == 0) = false := by simp; omega
    rw [← hbb2]
    obtain ⟨A7, c7, o7, _⟩ := HZ2.out.told
    by_cases hn0 : z.out.length = 0
    · have hres : kd2 M B2 (em) st s kd = (6, true, B2.2) := by unfold kd2; rw [if_neg hb20, if_pos (by rw [HEM.out]; simp [hn0])]
      obtain ⟨_, _, _, _, _, _, _, _, _, _, s14, fz⟩ := HZ2.out.cells
      have fz14 := fz 14
      have HPUT := Lib.hid (ZAt.put Z HZ2.out (i := 14) (u := .bool true) (z' := { z with bad := true }) (fun _ _ _ _ _ _ => rfl) rfl)
      rw [hn0] at o7
      clear fz hbb2 hb20
      go_wp2_with fail
      go_ret
      rw [HR.out, HD2.out, hres]
      refine ⟨rfl, ?_⟩
      show ZAt R K w0 G0 _ g { z with bad := z.bad || true } B2.2
      rw [Bool.or_true]
      exact HPUT.out
    have gn : ¬ ((z.out.length : Nat) : Int) = 0 := by omega
    have gn' : (((z.out.length : Nat) : Int) == 0) = false := beq_eq_false_iff_ne.2 gn
    obtain ⟨a3, ha3⟩ : ∃ a, a = 204 + st := ⟨_, rfl⟩
    have HD3 := Lib.hid (show kd2 M B2 (em) st s kd = kd3 M (bitP M B2.2 a3 (chI (kd = 2 ∨ kd = 6))) st s kd by unfold kd2; rw [if_neg hb20, if_neg (by rw [HEM.out]; simp [hn0]), ha3])
    have HKB := Lib.hid (ZAt.bit Z (HZ2.out.drewN Z 1) (k := k + 2) (a := a3) (b := chI (kd = 2 ∨ kd = 6)) HP2.out (by have := HS.out; omega) HS.out.2.2.2 (chI_may _))
    obtain ⟨b3, p3⟩ := bitP_ok Z.okm (k := k + 2) (a := a3) (w := chI (kd = 2 ∨ kd = 6)) HP2.out (by have := HS.out; omega) (chI_may _)
    obtain ⟨B3, hB3⟩ : ∃ B, B = bitP M B2.2 a3 (chI (kd = 2 ∨ kd = 6)) := ⟨_, rfl⟩
    rw [← hB3] at b3 p3 HKB HD3
    have HP3 := Lib.hid p3
    have HB3 := Lib.hid b3
    have f1 : IntKind.i64.wrap (204 + (st : Int)) = (a3 : Int) := pi_add (a := 204) ha3.symm (by have := HS.out; omega)
    obtain ⟨_, _, _, _, s8x, _⟩ := HZ2.out.cells
    rw [← HST.out] at s8x
    obtain ⟨c3, hc3⟩ : ∃ c, c = chI (kd = 2 ∨ kd = 6) := ⟨_, rfl⟩
    rw [← hc3] at HKB
    clear b3 p3 hB3 ha3 hb20 hbb2 hn0
    have HZ1 := HZ2
    clear HZ2
    by_cases k2 : kd = 2
    focus
      have d1' : (kd == 2) = true := by simp [k2]
      have KC := Lib.hid (fun w => choose_any true w)
      have hc0 : c3 = 0 := by rw [hc3]; unfold chI; rw [if_pos (.inl k2)]
      rw [hc0] at HKB
      clear hc3 hc0 k2
      go_wp2_with fail
      refine wp_region_held_drew (S := fun w' => w'.cell? ⟨g, 8, none⟩ = some (.int .i64 (st : Int))) (by kernel_rfl) s8x (fun hHeld => ?_)
      refine wpAnyH_take (i := 0) (v := ?_) rfl (by kernel_rfl) (by kernel_rfl) (by kernel_rfl) (fun _ _ _ h => h) (Or.inl ⟨by rfl, ?_⟩) (by assumption) ?_
      rotate_left
      · (intro w hSw; (try dsimp only at hSw); go_simp; try with_reducible rfl)
      try simp only [Act.put, List.setIfInBounds_toArray, List.set_cons_zero, List.set_cons_succ, List.getElem_toArray, List.getElem_cons_zero, List.getElem_cons_succ]
      refine wpAnyH_take (i := 1) (v := ?_) rfl (by kernel_rfl) (by kernel_rfl) (by kernel_rfl) (fun _ _ _ h => h) (Or.inl ⟨by rfl, ?_⟩) (by assumption) ?_
      rotate_left
      · (intro w hSw; (try dsimp only at hSw); go_simp; try with_reducible rfl)
      try simp only [Act.put, List.setIfInBounds_toArray, List.set_cons_zero, List.set_cons_succ, List.getElem_toArray, List.getElem_cons_zero, List.getElem_cons_succ]
      refine wpAnyH_take (i := 2) (v := ?_) rfl (by kernel_rfl) (by kernel_rfl) (by kernel_rfl) (fun _ _ _ h => h) (Or.inl ⟨by rfl, ?_⟩) (by assumption) ?_
      rotate_left
      · (intro w hSw; (try dsimp only at hSw); go_simp; try with_reducible rfl)
      try simp only [Act.put, List.setIfInBounds_toArray, List.set_cons_zero, List.set_cons_succ, List.getElem_toArray, List.getElem_cons_zero, List.getElem_cons_succ]
      refine wpAnyH_take (i := 3) (v := ?_) rfl (by kernel_rfl) (by kernel_rfl) (by kernel_rfl) (fun _ _ _ h => h) (Or.inl ⟨by rfl, ?_⟩) (by assumption) ?_
      rotate_left
      · (intro w hSw; (try dsimp only at hSw); go_simp; try with_reducible rfl)
      try simp only [Act.put, List.setIfInBounds_toArray, List.set_cons_zero, List.set_cons_succ, List.getElem_toArray, List.getElem_cons_zero, List.getElem_cons_succ]
      refine wpAnyH_take (i := 4) (v := ?_) rfl (by kernel_rfl) (by kernel_rfl) (by kernel_rfl) (fun _ _ _ h => h) (Or.inl ⟨by rfl, ?_⟩) (by assumption) ?_
      rotate_left
      · (intro w hSw; (try dsimp only at hSw); go_simp; try with_reducible rfl)
      try simp only [Act.put, List.setIfInBounds_toArray, List.set_cons_zero, List.set_cons_succ, List.getElem_toArray, List.getElem_cons_zero, List.getElem_cons_succ]
      refine wpAnyH_take (i := 5) (v := ?_) rfl (by kernel_rfl) (by kernel_rfl) (by kernel_rfl) (fun _ _ _ h => h) (Or.inl ⟨by rfl, ?_⟩) (by assumption) ?_
      rotate_left
      · (intro w hSw; (try dsimp only at hSw); go_simp; try with_reducible rfl)
      try simp only [Act.put, List.setIfInBounds_toArray, List.set_cons_zero, List.set_cons_succ, List.getElem_toArray, List.getElem_cons_zero, List.getElem_cons_succ]
      refine wpAnyH_take (i := 6) (v := ?_) rfl (by kernel_rfl) (by kernel_rfl) (by kernel_rfl) (fun _ _ _ h => h) (Or.inl ⟨by rfl, ?_⟩) (by assumption) ?_
      rotate_left
      · (intro w hSw; (try dsimp only at hSw); go_simp; try with_reducible rfl)
      try simp only [Act.put, List.setIfInBounds_toArray, List.set_cons_zero, List.set_cons_succ, List.getElem_toArray, List.getElem_cons_zero, List.getElem_cons_succ]
      refine wpAnyH_take (i := 7) (v := ?_) rfl (by kernel_rfl) (by kernel_rfl) (by kernel_rfl) (fun _ _ _ h => h) (Or.inl ⟨by rfl, ?_⟩) (by assumption) ?_
      rotate_left
      · (intro w hSw; (try dsimp only at hSw); go_simp; try with_reducible rfl)
      try simp only [Act.put, List.setIfInBounds_toArray, List.set_cons_zero, List.set_cons_succ, List.getElem_toArray, List.getElem_cons_zero, List.getElem_cons_succ]
      refine wpAnyH_take (i := 8) (v := ?_) rfl (by kernel_rfl) (by kernel_rfl) (by kernel_rfl) (fun _ _ _ h => h) (Or.inl ⟨by rfl, ?_⟩) (by assumption) ?_
      rotate_left
      · (intro w hSw; (try dsimp only at hSw); go_simp; try with_reducible rfl)
      try simp only [Act.put, List.setIfInBounds_toArray, List.set_cons_zero, List.set_cons_succ, List.getElem_toArray, List.getElem_cons_zero, List.getElem_cons_succ]
      refine wpAnyH_take (i := 9) (v := undef) rfl (by kernel_rfl) (by kernel_rfl) (by kernel_rfl) (fun _ _ _ h => h) (Or.inr ⟨by rfl, rfl⟩) (by assumption) ?_
      try simp only [Act.put, List.setIfInBounds_toArray, List.set_cons_zero, List.set_cons_succ, List.getElem_toArray, List.getElem_cons_zero, List.getElem_cons_succ]
      refine wpAnyH_take (i := 10) (v := undef) rfl (by kernel_rfl) (by kernel_rfl) (by kernel_rfl) (fun _ _ _ h => h) (Or.inr ⟨by rfl, rfl⟩) (by assumption) ?_
      try simp only [Act.put, List.setIfInBounds_toArray, List.set_cons_zero, List.set_cons_succ, List.getElem_toArray, List.getElem_cons_zero, List.getElem_cons_succ]
      refine wpAnyH_take (i := 11) (v := ?_) rfl (by kernel_rfl) (by kernel_rfl) (by kernel_rfl) (fun _ _ _ h => h) (Or.inl ⟨by rfl, ?_⟩) (by assumption) ?_
      rotate_left
      · (intro w hSw; (try dsimp only at hSw); go_simp; try with_reducible rfl)
      try simp only [Act.put, List.setIfInBounds_toArray, List.set_cons_zero, List.set_cons_succ, List.getElem_toArray, List.getElem_cons_zero, List.getElem_cons_succ]
      refine wpAnyH_ready (rs := [12]) (by kernel_rfl) (by simp) (AllReadyH.cons (i := 12) rfl (fun K hK => ?_) AllReadyH.nil)
      try simp only [List.getElem_toArray, List.getElem_cons_zero, List.getElem_cons_succ]
      go_simp
      go_at_call 81
      refine (KC.out _).mono ?_
      rintro e w9 ⟨rfl, rfl⟩
      refine hK.out _ _ s8x (fun hHeld => ?_)
      clear hK K
      try simp only [Act.put, List.setIfInBounds_toArray, List.set_cons_zero, List.set_cons_succ]
      refine wpAnyH_ready (rs := [13]) (by kernel_rfl) (by simp) (AllReadyH.cons (i := 13) rfl (fun K hK => ?_) AllReadyH.nil)
      try simp only [List.getElem_toArray, List.getElem_cons_zero, List.getElem_cons_succ]
      go_simp
      go_at_call 80
      refine HKB.out.mono ?_
      rintro e w2 ⟨rfl, hz2⟩
      have j0 : w2.cell? ⟨g, 8, none⟩ = some (.int .i64 (st : Int)) := by have h8 := hz2.cells.2.2.2.2.1; rw [← HST.out] at h8; exact h8
      have HZ2 := Lib.hid hz2
      clear hz2
      refine hK.out _ _ j0 (fun hHeld => ?_)
      clear hK K
      try simp only [Act.put, List.setIfInBounds_toArray, List.set_cons_zero, List.set_cons_succ]
      refine wpAnyH_take (i := 14) (v := ?_) rfl (by kernel_rfl) (by kernel_rfl) (by kernel_rfl) (fun _ _ _ h => h) (Or.inl ⟨by rfl, ?_⟩) (by assumption) ?_
      rotate_left
      · (intro w hSw; (try dsimp only at hSw); go_simp; try with_reducible rfl)
      try simp only [Act.put, List.setIfInBounds_toArray, List.set_cons_zero, List.set_cons_succ, List.getElem_toArray, List.getElem_cons_zero, List.getElem_cons_succ]
      refine wpAnyH_done (by kernel_rfl) ?_ _
    rotate_left
    focus
      have d1' : (kd == 2) = false := by simp [k2]
      have KC := Lib.hid (ch_eq kd 6 (kd = 2 ∨ kd = 6) ⟨fun h => h.resolve_left k2, .inr⟩)
      rw [← hc3] at KC
      clear hc3 k2
      go_wp2_with fail
      refine wp_region_held_drew (S := fun w' => w'.cell? ⟨g, 8, none⟩ = some (.int .i64 (st : Int))) (by kernel_rfl) s8x (fun hHeld => ?_)
      refine wpAnyH_take (i := 0) (v := ?_) rfl (by kernel_rfl) (by kernel_rfl) (by kernel_rfl) (fun _ _ _ h => h) (Or.inl ⟨by rfl, ?_⟩) (by assumption) ?_
      rotate_left
      · (intro w hSw; (try dsimp only at hSw); go_simp; try with_reducible rfl)
      try simp only [Act.put, List.setIfInBounds_toArray, List.set_cons_zero, List.set_cons_succ, List.getElem_toArray, List.getElem_cons_zero, List.getElem_cons_succ]
      refine wpAnyH_take (i := 1) (v := ?_) rfl (by kernel_rfl) (by kernel_rfl) (by kernel_rfl) (fun _ _ _ h => h) (Or.inl ⟨by rfl, ?_⟩) (by assumption) ?_
      rotate_left
      · (intro w hSw; (try dsimp only at hSw); go_simp; try with_reducible rfl)
      try simp only [Act.put, List.setIfInBounds_toArray, List.set_cons_zero, List.set_cons_succ, List.getElem_toArray, List.getElem_cons_zero, List.getElem_cons_succ]
      refine wpAnyH_take (i := 2) (v := ?_) rfl (by kernel_rfl) (by kernel_rfl) (by kernel_rfl) (fun _ _ _ h => h) (Or.inl ⟨by rfl, ?_⟩) (by assumption) ?_
      rotate_left
      · (intro w hSw; (try dsimp only at hSw); go_simp; try with_reducible rfl)
      try simp only [Act.put, List.setIfInBounds_toArray, List.set_cons_zero, List.set_cons_succ, List.getElem_toArray, List.getElem_cons_zero, List.getElem_cons_succ]
      refine wpAnyH_take (i := 3) (v := ?_) rfl (by kernel_rfl) (by kernel_rfl) (by kernel_rfl) (fun _ _ _ h => h) (Or.inl ⟨by rfl, ?_⟩) (by assumption) ?_
      rotate_left
      · (intro w hSw; (try dsimp only at hSw); go_simp; try with_reducible rfl)
      try simp only [Act.put, List.setIfInBounds_toArray, List.set_cons_zero, List.set_cons_succ, List.getElem_toArray, List.getElem_cons_zero, List.getElem_cons_succ]
      refine wpAnyH_take (i := 4) (v := ?_) rfl (by kernel_rfl) (by kernel_rfl) (by kernel_rfl) (fun _ _ _ h => h) (Or.inl ⟨by rfl, ?_⟩) (by assumption) ?_
      rotate_left
      · (intro w hSw; (try dsimp only at hSw); go_simp; try with_reducible rfl)
      try simp only [Act.put, List.setIfInBounds_toArray, List.set_cons_zero, List.set_cons_succ, List.getElem_toArray, List.getElem_cons_zero, List.getElem_cons_succ]
      refine wpAnyH_take (i := 5) (v := ?_) rfl (by kernel_rfl) (by kernel_rfl) (by kernel_rfl) (fun _ _ _ h => h) (Or.inl ⟨by rfl, ?_⟩) (by assumption) ?_
      rotate_left
      · (intro w hSw; (try dsimp only at hSw); go_simp; try with_reducible rfl)
      try simp only [Act.put, List.setIfInBounds_toArray, List.set_cons_zero, List.set_cons_succ, List.getElem_toArray, List.getElem_cons_zero, List.getElem_cons_succ]
      refine wpAnyH_take (i := 6) (v := ?_) rfl (by kernel_rfl) (by kernel_rfl) (by kernel_rfl) (fun _ _ _ h => h) (Or.inl ⟨by rfl, ?_⟩) (by assumption) ?_
      rotate_left
      · (intro w hSw; (try dsimp only at hSw); go_simp; try with_reducible rfl)
      try simp only [Act.put, List.setIfInBounds_toArray, List.set_cons_zero, List.set_cons_succ, List.getElem_toArray, List.getElem_cons_zero, List.getElem_cons_succ]
      refine wpAnyH_take (i := 7) (v := ?_) rfl (by kernel_rfl) (by kernel_rfl) (by kernel_rfl) (fun _ _ _ h => h) (Or.inl ⟨by rfl, ?_⟩) (by assumption) ?_
      rotate_left
      · (intro w hSw; (try dsimp only at hSw); go_simp; try with_reducible rfl)
      try simp only [Act.put, List.setIfInBounds_toArray, List.set_cons_zero, List.set_cons_succ, List.getElem_toArray, List.getElem_cons_zero, List.getElem_cons_succ]
      refine wpAnyH_take (i := 8) (v := ?_) rfl (by kernel_rfl) (by kernel_rfl) (by kernel_rfl) (fun _ _ _ h => h) (Or.inl ⟨by rfl, ?_⟩) (by assumption) ?_
      rotate_left
      · (intro w hSw; (try dsimp only at hSw); go_simp; try with_reducible rfl)
      try simp only [Act.put, List.setIfInBounds_toArray, List.set_cons_zero, List.set_cons_succ, List.getElem_toArray, List.getElem_cons_zero, List.getElem_cons_succ]
      refine wpAnyH_take (i := 9) (v := ?_) rfl (by kernel_rfl) (by kernel_rfl) (by kernel_rfl) (fun _ _ _ h => h) (Or.inl ⟨by rfl, ?_⟩) (by assumption) ?_
      rotate_left
      · (intro w hSw; (try dsimp only at hSw); go_simp; try with_reducible rfl)
      try simp only [Act.put, List.setIfInBounds_toArray, List.set_cons_zero, List.set_cons_succ, List.getElem_toArray, List.getElem_cons_zero, List.getElem_cons_succ]
      refine wpAnyH_take (i := 10) (v := ?_) rfl (by kernel_rfl) (by kernel_rfl) (by kernel_rfl) (fun _ _ _ h => h) (Or.inl ⟨by rfl, ?_⟩) (by assumption) ?_
      rotate_left
      · (intro w hSw; (try dsimp only at hSw); go_simp; try with_reducible rfl)
      try simp only [Act.put, List.setIfInBounds_toArray, List.set_cons_zero, List.set_cons_succ, List.getElem_toArray, List.getElem_cons_zero, List.getElem_cons_succ]
      refine wpAnyH_take (i := 11) (v := ?_) rfl (by kernel_rfl) (by kernel_rfl) (by kernel_rfl) (fun _ _ _ h => h) (Or.inl ⟨by rfl, ?_⟩) (by assumption) ?_
      rotate_left
      · (intro w hSw; (try dsimp only at hSw); go_simp; try with_reducible rfl)
      try simp only [Act.put, List.setIfInBounds_toArray, List.set_cons_zero, List.set_cons_succ, List.getElem_toArray, List.getElem_cons_zero, List.getElem_cons_succ]
      refine wpAnyH_ready (rs := [12]) (by kernel_rfl) (by simp) (AllReadyH.cons (i := 12) rfl (fun K hK => ?_) AllReadyH.nil)
      try simp only [List.getElem_toArray, List.getElem_cons_zero, List.getElem_cons_succ]
      go_simp
      go_at_call 81
      refine (KC.out _).mono ?_
      rintro e w9 ⟨rfl, rfl⟩
      refine hK.out _ _ s8x (fun hHeld => ?_)
      clear hK K
      try simp only [Act.put, List.setIfInBounds_toArray, List.set_cons_zero, List.set_cons_succ]
      refine wpAnyH_ready (rs := [13]) (by kernel_rfl) (by simp) (AllReadyH.cons (i := 13) rfl (fun K hK => ?_) AllReadyH.nil)
      try simp only [List.getElem_toArray, List.getElem_cons_zero, List.getElem_cons_succ]
      go_simp
      go_at_call 80
      refine HKB.out.mono ?_
      rintro e w2 ⟨rfl, hz2⟩
      have j0 : w2.cell? ⟨g, 8, none⟩ = some (.int .i64 (st : Int)) := by have h8 := hz2.cells.2.2.2.2.1; rw [← HST.out] at h8; exact h8
      have HZ2 := Lib.hid hz2
      clear hz2
      refine hK.out _ _ j0 (fun hHeld => ?_)
      clear hK K
      try simp only [Act.put, List.setIfInBounds_toArray, List.set_cons_zero, List.set_cons_succ]
      refine wpAnyH_take (i := 14) (v := ?_) rfl (by kernel_rfl) (by kernel_rfl) (by kernel_rfl) (fun _ _ _ h => h) (Or.inl ⟨by rfl, ?_⟩) (by assumption) ?_
      rotate_left
      · (intro w hSw; (try dsimp only at hSw); go_simp; try with_reducible rfl)
      try simp only [Act.put, List.setIfInBounds_toArray, List.set_cons_zero, List.set_cons_succ, List.getElem_toArray, List.getElem_cons_zero, List.getElem_cons_succ]
      refine wpAnyH_done (by kernel_rfl) ?_ _
    all_goals
      clear HKB KC s8x f1 d1' gb gb' gn gn' o7
      by_cases hb30 : B3.1 = 0
      · rw [hb30]
        obtain ⟨m16, hm16⟩ : ∃ a, a = 240 + 16 * st := ⟨_, rfl⟩
        obtain ⟨a4, ha4⟩ : ∃ a, a = m16 + s := ⟨_, rfl⟩
        have HD4 := Lib.hid (show kd3 M B3 st s kd = kdL (bitP M B3.2 a4 (chI (kd = 6))) by unfold kd3; rw [if_pos hb30, ha4, hm16])
        have HKB := Lib.hid (ZAt.bit Z (HZ2.out.drewN Z 1) (k := k + 1) (a := a4) (b := chI (kd = 6)) HP3.out (by have := HS.out; omega) HS.out.2.2.2 (chI_may _))
        obtain ⟨b4, _⟩ := bitP_ok Z.okm (k := k + 1) (a := a4) (w := chI (kd = 6)) HP3.out (by have := HS.out; omega) (chI_may _)
        obtain ⟨B4, hB4⟩ : ∃ B, B = bitP M B3.2 a4 (chI (kd = 6)) := ⟨_, rfl⟩
        rw [← hB4] at b4 HKB HD4
        have g1 : IntKind.i64.wrap (16 * (st : Int)) = 16 * (st : Int) := IntWalk.i64_in _ (by have := HS.out; omega)
        have g2 : IntKind.i64.wrap (240 + 16 * (st : Int)) = (m16 : Int) := by rw [show 240 + 16 * (st : Int) = (m16 : Int) by omega]; exact IntWalk.i64_in _ (by have := HS.out; omega)
        have g3 : IntKind.i64.wrap ((m16 : Int) + (s : Int)) = (a4 : Int) := pi_add ha4.symm (by have := HS.out; omega)
        obtain ⟨_, _, _, _, s8x, _⟩ := HZ2.out.cells
        rw [← HST.out] at s8x
        have KC := Lib.hid (ch_eq kd 6 (kd = 6) Iff.rfl)
        have HB4 := Lib.hid b4
        have HZ1 := HZ2
        clear HZ2 hB4 ha4 hm16 hb30 b4
        go_wp2_with fail
        refine wp_region_held_drew (S := fun w' => w'.cell? ⟨g, 8, none⟩ = some (.int .i64 (st : Int))) (by kernel_rfl) s8x (fun hHeld => ?_)
        refine wpAnyH_take (i := 0) (v := ?_) rfl (by kernel_rfl) (by kernel_rfl) (by kernel_rfl) (fun _ _ _ h => h) (Or.inl ⟨by rfl, ?_⟩) (by assumption) ?_
        rotate_left
        · (intro w hSw; (try dsimp only at hSw); go_simp; try with_reducible rfl)
        try simp only [Act.put, List.setIfInBounds_toArray, List.set_cons_zero, List.set_cons_succ, List.getElem_toArray, List.getElem_cons_zero, List.getElem_cons_succ]
        refine wpAnyH_take (i := 1) (v := ?_) rfl (by kernel_rfl) (by kernel_rfl) (by kernel_rfl) (fun _ _ _ h => h) (Or.inl ⟨by rfl, ?_⟩) (by assumption) ?_
        rotate_left
        · (intro w hSw; (try dsimp only at hSw); go_simp; try with_reducible rfl)
        try simp only [Act.put, List.setIfInBounds_toArray, List.set_cons_zero, List.set_cons_succ, List.getElem_toArray, List.getElem_cons_zero, List.getElem_cons_succ]
        refine wpAnyH_take (i := 2) (v := ?_) rfl (by kernel_rfl) (by kernel_rfl) (by kernel_rfl) (fun _ _ _ h => h) (Or.inl ⟨by rfl, ?_⟩) (by assumption) ?_
        rotate_left
        · (intro w hSw; (try dsimp only at hSw); go_simp; try with_reducible rfl)
        try simp only [Act.put, List.setIfInBounds_toArray, List.set_cons_zero, List.set_cons_succ, List.getElem_toArray, List.getElem_cons_zero, List.getElem_cons_succ]
        refine wpAnyH_take (i := 3) (v := ?_) rfl (by kernel_rfl) (by kernel_rfl) (by kernel_rfl) (fun _ _ _ h => h) (Or.inl ⟨by rfl, ?_⟩) (by assumption) ?_
        rotate_left
        · (intro w hSw; (try dsimp only at hSw); go_simp; try with_reducible rfl)
        try simp only [Act.put, List.setIfInBounds_toArray, List.set_cons_zero, List.set_cons_succ, List.getElem_toArray, List.getElem_cons_zero, List.getElem_cons_succ]
        refine wpAnyH_take (i := 4) (v := ?_) rfl (by kernel_rfl) (by kernel_rfl) (by kernel_rfl) (fun _ _ _ h => h) (Or.inl ⟨by rfl, ?_⟩) (by assumption) ?_
        rotate_left
        · (intro w hSw; (try dsimp only at hSw); go_simp; try with_reducible rfl)
        try simp only [Act.put, List.setIfInBounds_toArray, List.set_cons_zero, List.set_cons_succ, List.getElem_toArray, List.getElem_cons_zero, List.getElem_cons_succ]
        refine wpAnyH_take (i := 5) (v := ?_) rfl (by kernel_rfl) (by kernel_rfl) (by kernel_rfl) (fun _ _ _ h => h) (Or.inl ⟨by rfl, ?_⟩) (by assumption) ?_
        rotate_left
        · (intro w hSw; (try dsimp only at hSw); go_simp; try with_reducible rfl)
        try simp only [Act.put, List.setIfInBounds_toArray, List.set_cons_zero, List.set_cons_succ, List.getElem_toArray, List.getElem_cons_zero, List.getElem_cons_succ]
        refine wpAnyH_take (i := 6) (v := ?_) rfl (by kernel_rfl) (by kernel_rfl) (by kernel_rfl) (fun _ _ _ h => h) (Or.inl ⟨by rfl, ?_⟩) (by assumption) ?_
        rotate_left
        · (intro w hSw; (try dsimp only at hSw); go_simp; try with_reducible rfl)
        try simp only [Act.put, List.setIfInBounds_toArray, List.set_cons_zero, List.set_cons_succ, List.getElem_toArray, List.getElem_cons_zero, List.getElem_cons_succ]
        refine wpAnyH_take (i := 7) (v := ?_) rfl (by kernel_rfl) (by kernel_rfl) (by kernel_rfl) (fun _ _ _ h => h) (Or.inl ⟨by rfl, ?_⟩) (by assumption) ?_
        rotate_left
        · (intro w hSw; (try dsimp only at hSw); go_simp; try with_reducible rfl)
        try simp only [Act.put, List.setIfInBounds_toArray, List.set_cons_zero, List.set_cons_succ, List.getElem_toArray, List.getElem_cons_zero, List.getElem_cons_succ]
        refine wpAnyH_take (i := 8) (v := ?_) rfl (by kernel_rfl) (by kernel_rfl) (by kernel_rfl) (fun _ _ _ h => h) (Or.inl ⟨by rfl, ?_⟩) (by assumption) ?_
        rotate_left
        · (intro w hSw; (try dsimp only at hSw); go_simp; try with_reducible rfl)
        try simp only [Act.put, List.setIfInBounds_toArray, List.set_cons_zero, List.set_cons_succ, List.getElem_toArray, List.getElem_cons_zero, List.getElem_cons_succ]
        refine wpAnyH_take (i := 9) (v := ?_) rfl (by kernel_rfl) (by kernel_rfl) (by kernel_rfl) (fun _ _ _ h => h) (Or.inl ⟨by rfl, ?_⟩) (by assumption) ?_
        rotate_left
        · (intro w hSw; (try dsimp only at hSw); go_simp; try with_reducible rfl)
        try simp only [Act.put, List.setIfInBounds_toArray, List.set_cons_zero, List.set_cons_succ, List.getElem_toArray, List.getElem_cons_zero, List.getElem_cons_succ]
        refine wpAnyH_take (i := 10) (v := ?_) rfl (by kernel_rfl) (by kernel_rfl) (by kernel_rfl) (fun _ _ _ h => h) (Or.inl ⟨by rfl, ?_⟩) (by assumption) ?_
        rotate_left
        · (intro w hSw; (try dsimp only at hSw); go_simp; try with_reducible rfl)
        try simp only [Act.put, List.setIfInBounds_toArray, List.set_cons_zero, List.set_cons_succ, List.getElem_toArray, List.getElem_cons_zero, List.getElem_cons_succ]
        refine wpAnyH_ready (rs := [11]) (by kernel_rfl) (by simp) (AllReadyH.cons (i := 11) rfl (fun K hK => ?_) AllReadyH.nil)
        try simp only [List.getElem_toArray, List.getElem_cons_zero, List.getElem_cons_succ]
        go_simp
        go_at_call 81
        refine (KC.out _).mono ?_
        rintro e w9 ⟨rfl, rfl⟩
        refine hK.out _ _ s8x (fun hHeld => ?_)
        clear hK K
        try simp only [Act.put, List.setIfInBounds_toArray, List.set_cons_zero, List.set_cons_succ]
        refine wpAnyH_ready (rs := [12]) (by kernel_rfl) (by simp) (AllReadyH.cons (i := 12) rfl (fun K hK => ?_) AllReadyH.nil)
        try simp only [List.getElem_toArray, List.getElem_cons_zero, List.getElem_cons_succ]
        go_simp
        go_at_call 80
        refine HKB.out.mono ?_
        rintro e w2 ⟨rfl, hz2⟩
        have j0 : w2.cell? ⟨g, 8, none⟩ = some (.int .i64 (st : Int)) := by have h8 := hz2.cells.2.2.2.2.1; rw [← HST.out] at h8; exact h8
        have HZ2 := Lib.hid hz2
        clear hz2
        refine hK.out _ _ j0 (fun hHeld => ?_)
        clear hK K
        try simp only [Act.put, List.setIfInBounds_toArray, List.set_cons_zero, List.set_cons_succ]
        refine wpAnyH_take (i := 13) (v := ?_) rfl (by kernel_rfl) (by kernel_rfl) (by kernel_rfl) (fun _ _ _ h => h) (Or.inl ⟨by rfl, ?_⟩) (by assumption) ?_
        rotate_left
        · (intro w hSw; (try dsimp only at hSw); go_simp; try with_reducible rfl)
        try simp only [Act.put, List.setIfInBounds_toArray, List.set_cons_zero, List.set_cons_succ, List.getElem_toArray, List.getElem_cons_zero, List.getElem_cons_succ]
        refine wpAnyH_done (by kernel_rfl) ?_ _
        clear HKB KC s8x g1 g2 g3
        by_cases hb40 : B4.1 = 0
        · have hres : kdL B4 = (6, false, B4.2) := by unfold kdL; rw [if_pos hb40]
          rw [hb40]
          clear hb40
          go_wp2_with fail
          go_ret
          rw [HR.out, HD2.out, HD3.out, HD4.out, hres]
          exact ⟨rfl, kind_end HZ2.out⟩
        · have hres : kdL B4 = (2, false, B4.2) := by unfold kdL; rw [if_neg hb40]
          obtain ⟨b4, hb4⟩ : ∃ b, b = B4.1 := ⟨_, rfl⟩
          have gb : ¬ (b4 : Int) = 0 := by omega
          have gb' : ((b4 : Int) == 0) = false := by simp; omega
          rw [← hb4]
          clear hb40 hb4
          go_wp2_with fail
          go_ret
          rw [HR.out, HD2.out, HD3.out, HD4.out, hres]
          exact ⟨rfl, kind_end HZ2.out⟩
      obtain ⟨bb3, hbb3⟩ : ∃ b, b = B3.1 := ⟨_, rfl⟩
      have gb : ¬ (bb3 : Int) = 0 := by omega
      have gb' : ((bb3 : Int) == 0) = false := by simp; omega
      rw [← hbb3]
      obtain ⟨a4, ha4⟩ : ∃ a, a = 216 + st := ⟨_, rfl⟩
      have HD4 := Lib.hid (show kd3 M B3 st s kd = kd4 M (bitP M B3.2 a4 (chI (kd = 3))) st kd by unfold kd3; rw [if_neg hb30, ha4])
      have HKB := Lib.hid (ZAt.bit Z (HZ2.out.drewN Z 1) (k := k + 1) (a := a4) (b := chI (kd = 3)) HP3.out (by have := HS.out; omega) HS.out.2.2.2 (chI_may _))
      obtain ⟨b4, p4⟩ := bitP_ok Z.okm (k := k + 1) (a := a4) (w := chI (kd = 3)) HP3.out (by have := HS.out; omega) (chI_may _)
      obtain ⟨B4, hB4⟩ : ∃ B, B = bitP M B3.2 a4 (chI (kd = 3)) := ⟨_, rfl⟩
      rw [← hB4] at b4 p4 HKB HD4
      have HP4 := Lib.hid p4
      have f1 : IntKind.i64.wrap (216 + (st : Int)) = (a4 : Int) := pi_add (a := 216) ha4.symm (by have := HS.out; omega)
      obtain ⟨_, _, _, _, s8x, _⟩ := HZ2.out.cells
      rw [← HST.out] at s8x
      have KC := Lib.hid (ch_eq kd 3 (kd = 3) Iff.rfl)
      have HZ1 := HZ2
      clear HZ2 hB4 ha4 hb30 hbb3 b4 p4
      go_wp2_with fail
      refine wp_region_held_drew (S := fun w' => w'.cell? ⟨g, 8, none⟩ = some (.int .i64 (st : Int))) (by kernel_rfl) s8x (fun hHeld => ?_)
      refine wpAnyH_take (i := 0) (v := ?_) rfl (by kernel_rfl) (by kernel_rfl) (by kernel_rfl) (fun _ _ _ h => h) (Or.inl ⟨by rfl, ?_⟩) (by assumption) ?_
      rotate_left
      · (intro w hSw; (try dsimp only at hSw); go_simp; try with_reducible rfl)
      try simp only [Act.put, List.setIfInBounds_toArray, List.set_cons_zero, List.set_cons_succ, List.getElem_toArray, List.getElem_cons_zero, List.getElem_cons_succ]
      refine wpAnyH_take (i := 1) (v := ?_) rfl (by kernel_rfl) (by kernel_rfl) (by kernel_rfl) (fun _ _ _ h => h) (Or.inl ⟨by rfl, ?_⟩) (by assumption) ?_
      rotate_left
      · (intro w hSw; (try dsimp only at hSw); go_simp; try with_reducible rfl)
      try simp only [Act.put, List.setIfInBounds_toArray, List.set_cons_zero, List.set_cons_succ, List.getElem_toArray, List.getElem_cons_zero, List.getElem_cons_succ]
      refine wpAnyH_take (i := 2) (v := ?_) rfl (by kernel_rfl) (by kernel_rfl) (by kernel_rfl) (fun _ _ _ h => h) (Or.inl ⟨by rfl, ?_⟩) (by assumption) ?_
      rotate_left
      · (intro w hSw; (try dsimp only at hSw); go_simp; try with_reducible rfl)
      try simp only [Act.put, List.setIfInBounds_toArray, List.set_cons_zero, List.set_cons_succ, List.getElem_toArray, List.getElem_cons_zero, List.getElem_cons_succ]
      refine wpAnyH_take (i := 3) (v := ?_) rfl (by kernel_rfl) (by kernel_rfl) (by kernel_rfl) (fun _ _ _ h => h) (Or.inl ⟨by rfl, ?_⟩) (by assumption) ?_
      rotate_left
      · (intro w hSw; (try dsimp only at hSw); go_simp; try with_reducible rfl)
      try simp only [Act.put, List.setIfInBounds_toArray, List.set_cons_zero, List.set_cons_succ, List.getElem_toArray, List.getElem_cons_zero, List.getElem_cons_succ]
      refine wpAnyH_take (i := 4) (v := ?_) rfl (by kernel_rfl) (by kernel_rfl) (by kernel_rfl) (fun _ _ _ h => h) (Or.inl ⟨by rfl, ?_⟩) (by assumption) ?_
      rotate_left
      · (intro w hSw; (try dsimp only at hSw); go_simp; try with_reducible rfl)
      try simp only [Act.put, List.setIfInBounds_toArray, List.set_cons_zero, List.set_cons_succ, List.getElem_toArray, List.getElem_cons_zero, List.getElem_cons_succ]
      refine wpAnyH_take (i := 5) (v := ?_) rfl (by kernel_rfl) (by kernel_rfl) (by kernel_rfl) (fun _ _ _ h => h) (Or.inl ⟨by rfl, ?_⟩) (by assumption) ?_
      rotate_left
      · (intro w hSw; (try dsimp only at hSw); go_simp; try with_reducible rfl)
      try simp only [Act.put, List.setIfInBounds_toArray, List.set_cons_zero, List.set_cons_succ, List.getElem_toArray, List.getElem_cons_zero, List.getElem_cons_succ]
      refine wpAnyH_take (i := 6) (v := ?_) rfl (by kernel_rfl) (by kernel_rfl) (by kernel_rfl) (fun _ _ _ h => h) (Or.inl ⟨by rfl, ?_⟩) (by assumption) ?_
      rotate_left
      · (intro w hSw; (try dsimp only at hSw); go_simp; try with_reducible rfl)
      try simp only [Act.put, List.setIfInBounds_toArray, List.set_cons_zero, List.set_cons_succ, List.getElem_toArray, List.getElem_cons_zero, List.getElem_cons_succ]
      refine wpAnyH_take (i := 7) (v := ?_) rfl (by kernel_rfl) (by kernel_rfl) (by kernel_rfl) (fun _ _ _ h => h) (Or.inl ⟨by rfl, ?_⟩) (by assumption) ?_
      rotate_left
      · (intro w hSw; (try dsimp only at hSw); go_simp; try with_reducible rfl)
      try simp only [Act.put, List.setIfInBounds_toArray, List.set_cons_zero, List.set_cons_succ, List.getElem_toArray, List.getElem_cons_zero, List.getElem_cons_succ]
      refine wpAnyH_ready (rs := [8]) (by kernel_rfl) (by simp) (AllReadyH.cons (i := 8) rfl (fun K hK => ?_) AllReadyH.nil)
      try simp only [List.getElem_toArray, List.getElem_cons_zero, List.getElem_cons_succ]
      go_simp
      go_at_call 81
      refine (KC.out _).mono ?_
      rintro e w9 ⟨rfl, rfl⟩
      refine hK.out _ _ s8x (fun hHeld => ?_)
      clear hK K
      try simp only [Act.put, List.setIfInBounds_toArray, List.set_cons_zero, List.set_cons_succ]
      refine wpAnyH_ready (rs := [9]) (by kernel_rfl) (by simp) (AllReadyH.cons (i := 9) rfl (fun K hK => ?_) AllReadyH.nil)
      try simp only [List.getElem_toArray, List.getElem_cons_zero, List.getElem_cons_succ]
      go_simp
      go_at_call 80
      refine HKB.out.mono ?_
      rintro e w2 ⟨rfl, hz2⟩
      have j0 : w2.cell? ⟨g, 8, none⟩ = some (.int .i64 (st : Int)) := by have h8 := hz2.cells.2.2.2.2.1; rw [← HST.out] at h8; exact h8
      have HZ2 := Lib.hid hz2
      clear hz2
      refine hK.out _ _ j0 (fun hHeld => ?_)
      clear hK K
      try simp only [Act.put, List.setIfInBounds_toArray, List.set_cons_zero, List.set_cons_succ]
      refine wpAnyH_take (i := 10) (v := ?_) rfl (by kernel_rfl) (by kernel_rfl) (by kernel_rfl) (fun _ _ _ h => h) (Or.inl ⟨by rfl, ?_⟩) (by assumption) ?_
      rotate_left
      · (intro w hSw; (try dsimp only at hSw); go_simp; try with_reducible rfl)
      try simp only [Act.put, List.setIfInBounds_toArray, List.set_cons_zero, List.set_cons_succ, List.getElem_toArray, List.getElem_cons_zero, List.getElem_cons_succ]
      refine wpAnyH_done (by kernel_rfl) ?_ _
      clear HKB KC s8x f1 gb gb'
      by_cases hb40 : B4.1 = 0
      · have hres : kd4 M B4 st kd = (3, false, B4.2) := by unfold kd4; rw [if_pos hb40]
        rw [hb40]
        clear hb40
        go_wp2_with fail
        go_ret
        rw [HR.out, HD2.out, HD3.out, HD4.out, hres]
        exact ⟨rfl, kind_end HZ2.out⟩
      obtain ⟨bb4, hbb4⟩ : ∃ b, b = B4.1 := ⟨_, rfl⟩
      have gb : ¬ (bb4 : Int) = 0 := by omega
      have gb' : ((bb4 : Int) == 0) = false := by simp; omega
      rw [← hbb4]
      obtain ⟨a5, ha5⟩ : ∃ a, a = 228 + st := ⟨_, rfl⟩
      have HD5 := Lib.hid (show kd4 M B4 st kd = kd5 (bitP M B4.2 a5 (chI (kd = 4))) by unfold kd4; rw [if_neg hb40, ha5])
      have HKB := Lib.hid (ZAt.bit Z (HZ2.out.drewN Z 1) (k := k) (a := a5) (b := chI (kd = 4)) HP4.out (by have := HS.out; omega) HS.out.2.2.2 (chI_may _))
      obtain ⟨B5, hB5⟩ : ∃ B, B = bitP M B4.2 a5 (chI (kd = 4)) := ⟨_, rfl⟩
      rw [← hB5] at HKB HD5
      have f1 : IntKind.i64.wrap (228 + (st : Int)) = (a5 : Int) := pi_add (a := 228) ha5.symm (by have := HS.out; omega)
      obtain ⟨_, _, _, _, s8x, _⟩ := HZ2.out.cells
      rw [← HST.out] at s8x
      have KC := Lib.hid (ch_eq kd 4 (kd = 4) Iff.rfl)
      have HZ1 := HZ2
      clear HZ2 hB5 ha5 hb40 hbb4
      go_wp2_with fail
      refine wp_region_held_drew (S := fun w' => w'.cell? ⟨g, 8, none⟩ = some (.int .i64 (st : Int))) (by kernel_rfl) s8x (fun hHeld => ?_)
      refine wpAnyH_take (i := 0) (v := ?_) rfl (by kernel_rfl) (by kernel_rfl) (by kernel_rfl) (fun _ _ _ h => h) (Or.inl ⟨by rfl, ?_⟩) (by assumption) ?_
      rotate_left
      · (intro w hSw; (try dsimp only at hSw); go_simp; try with_reducible rfl)
      try simp only [Act.put, List.setIfInBounds_toArray, List.set_cons_zero, List.set_cons_succ, List.getElem_toArray, List.getElem_cons_zero, List.getElem_cons_succ]
      refine wpAnyH_take (i := 1) (v := ?_) rfl (by kernel_rfl) (by kernel_rfl) (by kernel_rfl) (fun _ _ _ h => h) (Or.inl ⟨by rfl, ?_⟩) (by assumption) ?_
      rotate_left
      · (intro w hSw; (try dsimp only at hSw); go_simp; try with_reducible rfl)
      try simp only [Act.put, List.setIfInBounds_toArray, List.set_cons_zero, List.set_cons_succ, List.getElem_toArray, List.getElem_cons_zero, List.getElem_cons_succ]
      refine wpAnyH_take (i := 2) (v := ?_) rfl (by kernel_rfl) (by kernel_rfl) (by kernel_rfl) (fun _ _ _ h => h) (Or.inl ⟨by rfl, ?_⟩) (by assumption) ?_
      rotate_left
      · (intro w hSw; (try dsimp only at hSw); go_simp; try with_reducible rfl)
      try simp only [Act.put, List.setIfInBounds_toArray, List.set_cons_zero, List.set_cons_succ, List.getElem_toArray, List.getElem_cons_zero, List.getElem_cons_succ]
      refine wpAnyH_take (i := 3) (v := ?_) rfl (by kernel_rfl) (by kernel_rfl) (by kernel_rfl) (fun _ _ _ h => h) (Or.inl ⟨by rfl, ?_⟩) (by assumption) ?_
      rotate_left
      · (intro w hSw; (try dsimp only at hSw); go_simp; try with_reducible rfl)
      try simp only [Act.put, List.setIfInBounds_toArray, List.set_cons_zero, List.set_cons_succ, List.getElem_toArray, List.getElem_cons_zero, List.getElem_cons_succ]
      refine wpAnyH_take (i := 4) (v := ?_) rfl (by kernel_rfl) (by kernel_rfl) (by kernel_rfl) (fun _ _ _ h => h) (Or.inl ⟨by rfl, ?_⟩) (by assumption) ?_
      rotate_left
      · (intro w hSw; (try dsimp only at hSw); go_simp; try with_reducible rfl)
      try simp only [Act.put, List.setIfInBounds_toArray, List.set_cons_zero, List.set_cons_succ, List.getElem_toArray, List.getElem_cons_zero, List.getElem_cons_succ]
      refine wpAnyH_take (i := 5) (v := ?_) rfl (by kernel_rfl) (by kernel_rfl) (by kernel_rfl) (fun _ _ _ h => h) (Or.inl ⟨by rfl, ?_⟩) (by assumption) ?_
      rotate_left
      · (intro w hSw; (try dsimp only at hSw); go_simp; try with_reducible rfl)
      try simp only [Act.put, List.setIfInBounds_toArray, List.set_cons_zero, List.set_cons_succ, List.getElem_toArray, List.getElem_cons_zero, List.getElem_cons_succ]
      refine wpAnyH_take (i := 6) (v := ?_) rfl (by kernel_rfl) (by kernel_rfl) (by kernel_rfl) (fun _ _ _ h => h) (Or.inl ⟨by rfl, ?_⟩) (by assumption) ?_
      rotate_left
      · (intro w hSw; (try dsimp only at hSw); go_simp; try with_reducible rfl)
      try simp only [Act.put, List.setIfInBounds_toArray, List.set_cons_zero, List.set_cons_succ, List.getElem_toArray, List.getElem_cons_zero, List.getElem_cons_succ]
      refine wpAnyH_take (i := 7) (v := ?_) rfl (by kernel_rfl) (by kernel_rfl) (by kernel_rfl) (fun _ _ _ h => h) (Or.inl ⟨by rfl, ?_⟩) (by assumption) ?_
      rotate_left
      · (intro w hSw; (try dsimp only at hSw); go_simp; try with_reducible rfl)
      try simp only [Act.put, List.setIfInBounds_toArray, List.set_cons_zero, List.set_cons_succ, List.getElem_toArray, List.getElem_cons_zero, List.getElem_cons_succ]
      refine wpAnyH_ready (rs := [8]) (by kernel_rfl) (by simp) (AllReadyH.cons (i := 8) rfl (fun K hK => ?_) AllReadyH.nil)
      try simp only [List.getElem_toArray, List.getElem_cons_zero, List.getElem_cons_succ]
      go_simp
      go_at_call 81
      refine (KC.out _).mono ?_
      rintro e w9 ⟨rfl, rfl⟩
      refine hK.out _ _ s8x (fun hHeld => ?_)
      clear hK K
      try simp only [Act.put, List.setIfInBounds_toArray, List.set_cons_zero, List.set_cons_succ]
      refine wpAnyH_ready (rs := [9]) (by kernel_rfl) (by simp) (AllReadyH.cons (i := 9) rfl (fun K hK => ?_) AllReadyH.nil)
      try simp only [List.getElem_toArray, List.getElem_cons_zero, List.getElem_cons_succ]
      go_simp
      go_at_call 80
      refine HKB.out.mono ?_
      rintro e w2 ⟨rfl, hz2⟩
      have j0 : w2.cell? ⟨g, 8, none⟩ = some (.int .i64 (st : Int)) := by have h8 := hz2.cells.2.2.2.2.1; rw [← HST.out] at h8; exact h8
      have HZ2 := Lib.hid hz2
      clear hz2
      refine hK.out _ _ j0 (fun hHeld => ?_)
      clear hK K
      try simp only [Act.put, List.setIfInBounds_toArray, List.set_cons_zero, List.set_cons_succ]
      refine wpAnyH_take (i := 10) (v := ?_) rfl (by kernel_rfl) (by kernel_rfl) (by kernel_rfl) (fun _ _ _ h => h) (Or.inl ⟨by rfl, ?_⟩) (by assumption) ?_
      rotate_left
      · (intro w hSw; (try dsimp only at hSw); go_simp; try with_reducible rfl)
      try simp only [Act.put, List.setIfInBounds_toArray, List.set_cons_zero, List.set_cons_succ, List.getElem_toArray, List.getElem_cons_zero, List.getElem_cons_succ]
      refine wpAnyH_done (by kernel_rfl) ?_ _
      clear HKB KC s8x f1 gb gb'
      by_cases hb50 : B5.1 = 0
      · have hres : kd5 B5 = (4, false, B5.2) := by unfold kd5; rw [if_pos hb50]
        rw [hb50]
        clear hb50
        go_wp2_with fail
        go_ret
        rw [HR.out, HD2.out, HD3.out, HD4.out, HD5.out, hres]
        exact ⟨rfl, kind_end HZ2.out⟩
      · have hres : kd5 B5 = (5, false, B5.2) := by unfold kd5; rw [if_neg hb50]
        obtain ⟨b5, hb5⟩ : ∃ b, b = B5.1 := ⟨_, rfl⟩
        have gb : ¬ (b5 : Int) = 0 := by omega
        have gb' : ((b5 : Int) == 0) = false := by simp; omega
        rw [← hb5]
        clear hb50 hb5
        go_wp2_with fail
        go_ret
        rw [HR.out, HD2.out, HD3.out, HD4.out, HD5.out, hres]
        exact ⟨rfl, kind_end HZ2.out⟩
end
end Go.Proofs.YtiolfjhddbiglaaGreatDoor

/-
  The reference of LZMA tells bits: its machine is the reference's decoder.
-/
namespace Go.Proofs.YtiolfjhddbiglaaGreatDoor
open Go.RowKit

/-- the blocks that are read alone -/
def rowOf (A : Option Addr) (n : Nat) : Nat → Prop := fun i => 0 < n ∧ ∃ o, A = some ⟨i, o, none⟩
/-- the reference's decoder over the bytes bs, its state d -/
def Kd (A : Option Addr) (bs : List UInt8) (w : World) (Dv Ev : Value) (Gm : Nat → Prop) (d : Dc) : Prop :=
  ∃ db c, Dv = .pointer (some ⟨db, 0, none⟩) ∧ Ev = .pointer none ∧ (∀ i, Gm i ↔ i = db) ∧ Rf w db A c bs d ∧ Sl w A bs.length (bv bs) ∧ (0 < bs.length → ∀ q o, A = some ⟨q, o, none⟩ → q ≠ db) ∧ bs.length ≤ 1000000000

theorem kd_mem (A : Option Addr) (bs : List UInt8) : MachMem (rowOf A bs.length) (Kd A bs) where
  old := by
    rintro w Dv Ev G x i ⟨db, c, rfl, rfl, hG, hR, _⟩ hi
    rw [(hG i).1 hi]
    exact hR.lt
  only := by
    rintro w w' Dv Ev G x S ⟨db, c, rfl, rfl, hG, hR, hS, hn, hl⟩ hO hG' hR'
    exact ⟨db, c, rfl, rfl, hG, hR.only hO (hG' db ((hG db).2 rfl)), hS.only hO (fun h0 b o e => hR' b ⟨h0, o, e⟩), hn, hl⟩

section
variable {w : World} {g : Nat} {G : Nat → Prop} {z : Lzs} {t : Pm Dc} {A : Option Addr} {bs : List UInt8}

set_option maxHeartbeats 4000000 in
theorem zbit_dec {L k a : Nat} {b : Int} (h : Zz (rowOf A bs.length) (Kd A bs) w g G z t) (ht : PmOk okD L (k + 1) t) (ha : a < L) (hL : L ≤ 100000000) :
    Calls Tryz.prog 80 #[.pointer (some ⟨g, 0, none⟩), .int .i64 (a : Int), .int .i64 b] w (ZPost (rowOf A bs.length) (Kd A bs) w g G z (bitP decM t a b).2 (.int .i64 ((bitP decM t a b).1 : Int))) := by
  obtain ⟨Gm, Dv, Ev, p, pc, A1, c1, hz⟩ := h
  obtain ⟨db, c, rfl, rfl, hGm, hRf, hSl, hne, hlen⟩ := hz.mch
  have hlt : a < t.ps.length := by rw [ht.len]; exact ha
  have d4 : w.cell? ⟨g, 4, none⟩ = some (.pointer (some ⟨db, 0, none⟩)) := hz.blk.cell 4
  have d5 : w.cell? ⟨g, 5, none⟩ = some (.pointer none) := hz.blk.cell 5
  have d6 : w.cell? ⟨g, 6, none⟩ = some (.slice (some ⟨p, 0, none⟩) t.ps.length pc) := hz.blk.cell 6
  have dp : w.cell? ⟨p, a, none⟩ = some (.int .u16 ((t.ps.getD a 0 : Nat) : Int)) := hz.row.cell hlt
  have K := Lib.hid (rfbit_any (w := w.drew) (p := t.ps.getD a 0) (by obtain ⟨at_, r, k, bad, hB, h⟩ := hRf; exact ⟨at_, r, k, bad, hB, h⟩) (show Sl w.drew A bs.length (bv bs) from hSl) hlen hne ht.x (getD_ok ht.ps hlt))
  have i0 : (0 : Int) ≤ (a : Int) := by omega
  have i1 : (a : Int) < (t.ps.length : Int) := by omega
  have HZ := Lib.hid hz
  have HGM := Lib.hid hGm
  have HSL := Lib.hid hSl
  have HNE := Lib.hid hne
  have HLEN := Lib.hid hlen
  have hbit : bitP decM t a b = ((bitD t.x (t.ps.getD a 0)).1, ⟨t.ps.set a (bitD t.x (t.ps.getD a 0)).2.1, (bitD t.x (t.ps.getD a 0)).2.2⟩) := rfl
  rw [hbit]
  have HRL := Lib.hid (show ∀ i, rowOf A bs.length i → i < w.heap.size from fun i ⟨h0, o, e⟩ => by
    obtain ⟨b', o', e', hb, _⟩ := hSl.2 h0
    rw [e] at e'
    injection e' with e'
    injection e' with e'
    omega)
  have HLT := Lib.hid hlt
  clear hbit hz hGm hRf hSl hne hlen ht ha hL hlt
  generalize (bitD t.x (t.ps.getD a 0)).1 = v at *
  generalize (bitD t.x (t.ps.getD a 0)).2.1 = q at *
  generalize (bitD t.x (t.ps.getD a 0)).2.2 = d' at *
  obtain ⟨pr, hpr⟩ : ∃ pr, pr = t.ps.getD a 0 := ⟨_, rfl⟩
  rw [← hpr] at dp K
  have HDP := Lib.hid hpr
  clear hpr
  obtain ⟨N, hN⟩ : ∃ N, N = t.ps.length := ⟨_, rfl⟩
  rw [← hN] at d6 i1
  have HN := Lib.hid hN
  clear hN
  go_enter Tryz.func80, Tryz.ntmps80
  go_wp2_with fail
  go_region_held3 (fun w' => w'.cell? ⟨g, 4, none⟩ = some (.pointer (some ⟨db, 0, none⟩)) ∧ w'.cell? ⟨g, 6, none⟩ = some (.slice (some ⟨p, 0, none⟩) N pc) ∧ w'.cell? ⟨p, a, none⟩ = some (.int .u16 (pr : Int)))
    (first | assumption | go_keep)
    (first | (go_at_call 112; refine K.out.mono ?_; rintro e w1 ⟨rfl, hR1, hg1⟩; have hO1 : Only (fun i => i = db) w w1 := ((Only.refl (fun i => i = db) w).drew).trans (Only.of_grown hg1 rfl); have hz1 := HZ.out.mach (w' := w1) (Gm' := Gm) (x := d') (hO1.mono (fun i hi => (HGM.out i).2 hi)) ⟨db, c, rfl, rfl, HGM.out, hR1, HSL.out.only hO1 (fun h0 b o e => HNE.out h0 b o e), HNE.out, HLEN.out⟩ (fun i hi => .inl hi) (fun i hi => by have := HZ.out.old i (HZ.out.gm i hi); have := hO1.size; omega) HRL.out; have j0 : w1.cell? ⟨g, 4, none⟩ = some (.pointer (some ⟨db, 0, none⟩)) := hz1.blk.cell 4; have j1 : w1.cell? ⟨g, 6, none⟩ = some (.slice (some ⟨p, 0, none⟩) N pc) := (by rw [HN.out]; exact hz1.blk.cell 6); have j2 : w1.cell? ⟨p, a, none⟩ = some (.int .u16 (pr : Int)) := (by rw [HDP.out]; exact hz1.row.cell HLT.out); have HZ1 := Lib.hid hz1; have HO1 := Lib.hid hO1; clear hz1 hO1 hR1 hg1))
  all_goals
    have zp : w1.frozen? ⟨p, a, none⟩ = false := HZ1.out.row.free a
    go_wp2_with fail
    go_ret
    exact ⟨rfl, fun i => G i ∨ Gm i, ⟨Gm, _, _, p, pc, A1, c1, HZ1.out.prob (kd_mem A bs) a q⟩, fun i hi => .inl (by rcases hi with h | h; exact h; exact HZ.out.gm i h), (HO1.out.mono (fun i hi => HZ.out.gm i ((HGM.out i).2 hi))).setCell (p := ⟨p, a, none⟩) (.inl HZ.out.gp) _⟩
end
end Go.Proofs.YtiolfjhddbiglaaGreatDoor

/-
  The reference of LZMA tells bits straight, by the reference's decoder; what it owes.
-/
namespace Go.Proofs.YtiolfjhddbiglaaGreatDoor
open Go.RowKit

section
variable {w : World} {g : Nat} {G : Nat → Prop} {z : Lzs} {t : Pm Dc} {A : Option Addr} {bs : List UInt8}
set_option maxHeartbeats 2000000 in
theorem zstr_dec {L k n v : Nat} (h : Zz (rowOf A bs.length) (Kd A bs) w g G z t) (ht : PmOk okD L (k + 1) t) (hn : n ≤ 26) :
    Calls Tryz.prog 85 #[.pointer (some ⟨g, 0, none⟩), .int .i64 (n : Int), .int .u32 (v : Int)] w (ZPost (rowOf A bs.length) (Kd A bs) w g G z ⟨t.ps, (decM.str t.x n v).2⟩ (.int .u32 ((decM.str t.x n v).1 : Int))) := by
  obtain ⟨Gm, Dv, Ev, p, pc, A1, c1, hz⟩ := h
  obtain ⟨db, c, rfl, rfl, hGm, hRf, hSl, hne, hlen⟩ := hz.mch
  have d4 : w.cell? ⟨g, 4, none⟩ = some (.pointer (some ⟨db, 0, none⟩)) := hz.blk.cell 4
  have d5 : w.cell? ⟨g, 5, none⟩ = some (.pointer none) := hz.blk.cell 5
  have K := Lib.hid (rstraight_any hRf hSl hlen hne ht.x (show n ≤ 32 by omega))
  have HZ := Lib.hid hz
  have HGM := Lib.hid hGm
  have HSL := Lib.hid hSl
  have HNE := Lib.hid hne
  have HLEN := Lib.hid hlen
  have HRL := Lib.hid (show ∀ i, rowOf A bs.length i → i < w.heap.size from fun i ⟨h0, o, e⟩ => by
    obtain ⟨b', o', e', hb, _⟩ := hSl.2 h0
    rw [e] at e'
    injection e' with e'
    injection e' with e'
    omega)
  show Calls _ _ _ _ (ZPost (rowOf A bs.length) (Kd A bs) w g G z ⟨t.ps, (straightD n t.x).2⟩ (.int .u32 ((straightD n t.x).1 : Int)))
  clear hz hGm hRf hSl hne hlen ht hn
  generalize (straightD n t.x).1 = x at *
  generalize (straightD n t.x).2 = d' at *
  go_enter Tryz.func85, Tryz.ntmps85
  go_wp2_with fail
  refine K.out.mono ?_
  rintro e w1 ⟨rfl, hR1, hg1⟩
  have hO1 : Only (fun i => i = db) w w1 := Only.of_grown hg1 rfl
  have hz1 := HZ.out.mach (w' := w1) (Gm' := Gm) (x := d') (hO1.mono (fun i hi => (HGM.out i).2 hi)) ⟨db, c, rfl, rfl, HGM.out, hR1, HSL.out.only hO1 (fun h0 b o e => HNE.out h0 b o e), HNE.out, HLEN.out⟩ (fun i hi => .inl hi) (fun i hi => by have := HZ.out.old i (HZ.out.gm i hi); have := hO1.size; omega) HRL.out
  have HZ1 := Lib.hid hz1
  have HO1 := Lib.hid hO1
  clear hz1 hO1 hR1 hg1 K d4 d5
  go_wp2_with fail
  go_ret
  exact ⟨rfl, fun i => G i ∨ Gm i, ⟨Gm, _, _, p, pc, A1, c1, HZ1.out⟩, fun i hi => .inl (by rcases hi with h | h; exact h; exact HZ.out.gm i h), HO1.out.mono (fun i hi => HZ.out.gm i ((HGM.out i).2 hi))⟩
end
theorem dec_ops (A : Option Addr) (bs : List UInt8) : ZOps decM okD (rowOf A bs.length) (Kd A bs) where
  mem := kd_mem A bs
  okm := decM_ok
  bit := fun h ht ha hL _ => zbit_dec h ht ha hL
  str := fun h ht hn _ _ => zstr_dec h ht hn
end Go.Proofs.YtiolfjhddbiglaaGreatDoor

/-
  The reference's coder: each call a contract.
-/
namespace Go.Proofs.YtiolfjhddbiglaaGreatDoor
open Go.RowKit

def rnCells (q L c r : Nat) : Array Value := #[.slice (some ⟨q, 0, none⟩) L c, .int .u64 (r : Int)]

/-- Block g is the reference's coder, its bytes at block q; its state is e. -/
def Rn (w : World) (g q : Nat) (e : En) : Prop :=
  ∃ c bs, Blk w g 208 (rnCells q bs.length c e.r) ∧ Byt w q c bs ∧ be bs = e.n ∧ bs.length = e.l ∧ q ≠ g
theorem Rn.lt {w : World} {g q : Nat} {e : En} (h : Rn w g q e) : g < w.heap.size ∧ q < w.heap.size := by
  obtain ⟨c, bs, hB, hb, _⟩ := h
  exact ⟨hB.lt, hb.lt⟩
theorem Rn.only {S : Nat → Prop} {w w' : World} {g q : Nat} {e : En} (h : Rn w g q e) (hb : Only S w w') (hg : ¬ S g) (hq : ¬ S q) : Rn w' g q e := by
  obtain ⟨c, bs, hB, hy, r⟩ := h
  exact ⟨c, bs, hB.only hb hg, hy.only hb hq, r⟩
theorem Rn.drewN {w : World} {g q : Nat} {e : En} (h : Rn w g q e) (n : Nat) : Rn (w.drewN n) g q e := h

/-- What an addition leaves: behind a definition, so that no walk looks into it. -/
def RcAddPost (w : World) (g q c r N L : Nat) (e : Ending) (w' : World) : Prop :=
  e = .returned (.tuple #[]) ∧ ∃ cs, Blk w' g 208 (rnCells q L c r) ∧ Byt w' q c cs ∧ be cs = N ∧ cs.length = L ∧ Only (fun i => i = q) w w'

end Go.Proofs.YtiolfjhddbiglaaGreatDoor

/-
  The reference's coder: evened out, made, a bit, a question.
-/
namespace Go.Proofs.YtiolfjhddbiglaaGreatDoor
open Go.RowKit

def twain (f g : Nat) : Nat → Prop := fun i => i = f ∨ i = g
/-- What a call of the reference's coder leaves. -/
def RnPost5 (w : World) (g q : Nat) (v : Value) (e' : En) (e : Ending) (w' : World) : Prop :=
  e = .returned v ∧ ∃ q', Rn w' g q' e' ∧ (q' = q ∨ w.heap.size ≤ q') ∧ Only (twain g q) w w'

section
variable {w : World} {g q c r : Nat} {bs : List UInt8}

/-- the range has been multiplied, and a byte is behind -/
def LowDone (w wr : World) (g q : Nat) (bs : List UInt8) (R : Nat) : Prop :=
  ∃ q' c', Blk wr g 208 (rnCells q' (bs ++ [0]).length c' R) ∧ Byt wr q' c' (bs ++ [0]) ∧ q' ≠ g ∧ (q' = q ∨ w.heap.size ≤ q') ∧ Only (twain g q) w wr
open Classical in
/-- whether the range is still the one that was -/
noncomputable def lowLeft (wr : World) (g r : Nat) : Nat := if wr.cell? ⟨g, 1, none⟩ = some (.int .u64 (r : Int)) then 1 else 0

end
end Go.Proofs.YtiolfjhddbiglaaGreatDoor

/-
  The reference of LZMA codes bits: its machine is the reference's coder.
-/
namespace Go.Proofs.YtiolfjhddbiglaaGreatDoor
open Go.RowKit

/-- the reference's coder, its state e -/
def Ke (w : World) (Dv Ev : Value) (Gm : Nat → Prop) (e : En) : Prop :=
  ∃ eb q, Dv = .pointer none ∧ Ev = .pointer (some ⟨eb, 0, none⟩) ∧ (∀ i, Gm i ↔ (i = eb ∨ i = q)) ∧ Rn w eb q e

section
variable {w : World} {g : Nat} {G : Nat → Prop} {z : Lzs} {t : Pm En}

end
end Go.Proofs.YtiolfjhddbiglaaGreatDoor

/-
  The reference's coder codes bits straight.
-/
namespace Go.Proofs.YtiolfjhddbiglaaGreatDoor
open Go.RowKit

/-- an addition, over the coder's state -/
def AddEPost (w : World) (g q : Nat) (e' : En) (e : Ending) (w' : World) : Prop := e = .returned (.tuple #[]) ∧ Rn w' g q e' ∧ Only (fun i => i = q) w w'
/-- What bits straight leave. -/
def StrEPost (w : World) (g q : Nat) (e' : En) (e : Ending) (w' : World) : Prop :=
  e = .returned (.tuple #[]) ∧ ∃ q', Rn w' g q' e' ∧ (q' = q ∨ w.heap.size ≤ q') ∧ Only (twain g q) w w'

end Go.Proofs.YtiolfjhddbiglaaGreatDoor

/-
  The reference of LZMA codes bits straight; what it owes.
-/
namespace Go.Proofs.YtiolfjhddbiglaaGreatDoor
open Go.RowKit

section
variable {w : World} {g : Nat} {G : Nat → Prop} {z : Lzs} {t : Pm En}
end
end Go.Proofs.YtiolfjhddbiglaaGreatDoor

/-
  The reference of LZMA in memory: what its machine tells of itself; a byte more is told.
-/
namespace Go.Proofs.YtiolfjhddbiglaaGreatDoor
open Go.RowKit


/-- What a machine tells of itself: whether it is bad (a coder never is); what it reads alone was there. -/
structure MachMore {σ : Type} (M : Mach σ) (R : Nat → Prop) (K : World → Value → Value → (Nat → Prop) → σ → Prop) : Prop where
  bad : ∀ {w Dv Ev G x}, K w Dv Ev G x → (Dv = .pointer none ∧ M.bad x = false) ∨ ∃ d, Dv = .pointer (some ⟨d, 0, none⟩) ∧ w.cell? ⟨d, 4, none⟩ = some (.bool (M.bad x))
  rold : ∀ {w Dv Ev G x i}, K w Dv Ev G x → R i → i < w.heap.size

theorem dec_more (A : Option Addr) (bs : List UInt8) : MachMore decM (rowOf A bs.length) (Kd A bs) where
  bad := by
    rintro w Dv Ev G x ⟨db, c, rfl, rfl, hG, ⟨at_, r, k, bad, hB, hT⟩, _⟩
    refine .inr ⟨db, rfl, ?_⟩
    have e : decM.bad x = bad := by
      obtain ⟨_, _, _, h | h⟩ := hT
      · rw [h.1, h.2]; rfl
      · rw [h.1, h.2]; rfl
    rw [e]
    exact hB.cell 4
  rold := by
    rintro w Dv Ev G x i ⟨db, c, rfl, rfl, hG, _, hS, _⟩ ⟨h0, o, rfl⟩
    obtain ⟨b, o', e, hb, _⟩ := hS.2 h0
    injection e with e
    injection e with e
    omega
section
variable {σ : Type} {M : Mach σ} {ok : Nat → σ → Prop} {R : Nat → Prop} {K : World → Value → Value → (Nat → Prop) → σ → Prop} {w w' w0 : World} {g : Nat} {G G0 : Nat → Prop} {z : Lzs} {t : Pm σ}

/-- a block that was there, and isn't its own, stays -/
theorem ZAt.stays (h : ZAt R K w0 G0 w g z t) {b : Nat} (hb : b < w0.heap.size) (hn : ¬ G0 b) (k : Nat) : w.cell? ⟨b, k, none⟩ = w0.cell? ⟨b, k, none⟩ := by
  obtain ⟨G, _, _, hO⟩ := h
  exact World.cell?_of_block (hO.block b hb hn)
theorem ZAt.mbad (X : MachMore M R K) (h : ZAt R K w0 G0 w g z t) : ∃ Dv, w.cell? ⟨g, 4, none⟩ = some Dv ∧ ((Dv = .pointer none ∧ M.bad t.x = false) ∨ ∃ d, Dv = .pointer (some ⟨d, 0, none⟩) ∧ w.cell? ⟨d, 4, none⟩ = some (.bool (M.bad t.x))) := by
  obtain ⟨G, ⟨Gm, Dv, Ev, p, pc, A, c, h⟩, _⟩ := h
  exact ⟨Dv, h.blk.cell 4, X.bad h.mch⟩

/-- a byte more is told -/
theorem ZAt.push (Z : ZOps M ok R K) (X : MachMore M R K) (h : ZAt R K w0 G0 w g z t) (b : UInt8) :
    ∃ A c, w.cell? ⟨g, 7, none⟩ = some (.slice A z.out.length c) ∧ w.ownsRow 0 5 1 (.slice A z.out.length c) z.out.length (bv z.out) ∧
      ∀ (w1 w3 : World) (A' : Option Addr) (c' : Nat), Only (fun _ => False) w w1 → w3.ownsRow 0 5 1 (.slice A' (z.out.length + 1) c') (z.out.length + 1) (bv z.out ++ [.int .u8 (b.toNat : Int)]) → w1.grownBy w3 (Value.slice A z.out.length c).ownBlock →
        ((Value.slice A' (z.out.length + 1) c').ownBlock = (Value.slice A z.out.length c).ownBlock ∨ (Value.slice A' (z.out.length + 1) c').ownBlock = some w1.heap.size) →
        w3.cell? ⟨g, 7, none⟩ = some (.slice A z.out.length c) ∧ w3.frozen? ⟨g, 7, none⟩ = false ∧ ZAt R K w0 G0 (w3.setCell ⟨g, 7, none⟩ (.slice A' (z.out.length + 1) c')) g (z.push b) t := by
  obtain ⟨G, ⟨Gm, Dv, Ev, p, pc, A, c, h⟩, hN, hO⟩ := h
  refine ⟨A, c, h.blk.cell 7, h.out, fun w1 w3 A' c' h1 ho hg hq => ?_⟩
  have hlen : (z.push b).out.length = z.out.length + 1 := by show (z.out ++ [b]).length = _; simp
  have hz1 := h.only Z.mem h1 (fun _ _ h => h) (fun _ _ h => h)
  have hgr : Only (fun i => (Value.slice A z.out.length c).ownBlock = some i) w1 w3 := ⟨hg.os, hg.tape, hg.output, hg.size, fun i hi hn => hg.block i hi (fun e => hn e.symm)⟩
  have hrow := fun i (hi : (Value.slice A z.out.length c).ownBlock = some i) => h.go i hi
  have hB3 := hz1.blk.only hgr (fun e => (hrow g e).2.1 rfl)
  have hset : ∀ (S : Nat → Prop), S g → Only S w3 (w3.setCell ⟨g, 7, none⟩ (.slice A' (z.out.length + 1) c')) := fun S hS => (Only.refl S w3).setCell (p := ⟨g, 7, none⟩) (.inl hS) _
  have hOwn' : ∀ i, (Value.slice A' (z.out.length + 1) c').ownBlock = some i → ((Value.slice A z.out.length c).ownBlock = some i ∨ i = w1.heap.size) := by
    intro i hi
    rcases hq with e | e
    · exact .inl (e ▸ hi)
    · rw [e] at hi; injection hi with hi; exact .inr hi.symm
  have hlt : ∀ i, (Value.slice A' (z.out.length + 1) c').ownBlock = some i → i < w3.heap.size := by
    intro i hi
    rcases ho.2 with ⟨_, e⟩ | ⟨g', cap, cur, hv, _, hh, _⟩
    · cases e
    · rw [hv] at hi
      have e : g' = i := by injection hi
      subst e
      rcases Nat.lt_or_ge g' w3.heap.size with hlt | hge
      · exact hlt
      · rw [Array.getElem?_eq_none hge] at hh; cases hh
  have hs1 := h1.size
  have hs3 := hg.size
  have hng : ∀ i, (Value.slice A' (z.out.length + 1) c').ownBlock = some i → i ≠ g ∧ i ≠ p ∧ ¬ Gm i ∧ ¬ R i := by
    intro i hi
    rcases hOwn' i hi with e | rfl
    · obtain ⟨a1, a2, a3, a4⟩ := hrow i e
      exact ⟨a2, a3, a4, h.far i a1⟩
    · have b1 := h.old g h.gg
      have b2 := h.old p h.gp
      refine ⟨by omega, by omega, fun hm => ?_, fun hr => ?_⟩
      · have := h.old _ (h.gm _ hm); omega
      · have := X.rold h.mch hr; omega
  refine ⟨hB3.cell 7, hB3.free 7, fun i => G i ∨ (Value.slice A' (z.out.length + 1) c').ownBlock = some i, ⟨Gm, Dv, Ev, p, pc, A', c', ?_⟩, ?_, ?_⟩
  · refine ⟨?_, (hz1.row.only hgr (fun e => (hrow p e).2.2.1 rfl)).only (hset (fun i => i = g) rfl) h.pg, ?_, Z.mem.only (Z.mem.only hz1.mch hgr (fun i hi e => (hrow i e).2.2.2 hi) (fun i hi e => h.far i (hrow i e).1 hi)) (hset (fun i => i = g) rfl) (fun i hi e => h.mg (e ▸ hi)) (fun i hi e => h.far g h.gg (e ▸ hi)),
      .inl h.gg, .inl h.gp, fun i hi => .inl (h.gm i hi), ?_, h.pg, h.mg, h.mp, ?_, ?_⟩
    · have := hB3.put 7 (.slice A' (z.out.length + 1) c')
      show Blk _ g _ (zCells (z.push b) Dv Ev p t.ps.length pc A' (z.push b).out.length c')
      rw [hlen]
      exact this
    · rw [hlen, show bv (z.push b).out = bv z.out ++ [.int .u8 (b.toNat : Int)] from bv_append _ _]
      exact own_only' ho (hset (fun i => i = g) rfl) (fun i hi => (hng i hi).1)
    · intro i hi
      rw [hlen] at hi
      exact ⟨.inr hi, (hng i hi).1, (hng i hi).2.1, (hng i hi).2.2.1⟩
    · rintro i (hi | hi)
      · have := h.old i hi
        have h5 : i < w3.heap.size := by omega
        simpa [World.setCell] using h5
      · have := hlt i hi
        simpa [World.setCell] using this
    · rintro i (hi | hi)
      · exact h.far i hi
      · exact (hng i hi).2.2.2
  · rintro i (hi | hi)
    · exact hN i hi
    · rcases hOwn' i hi with e | rfl
      · exact hN i (hrow i e).1
      · have := hO.size
        exact .inr (by omega)
  · have e1 : Only G w w3 := (h1.mono (fun _ h => h.elim)).trans (hgr.mono (fun i hi => (hrow i hi).1))
    exact (hO.trans' (e1.trans (hset G h.gg)) hN)
end
end Go.Proofs.YtiolfjhddbiglaaGreatDoor
