/-
  LzSlot, LzDist, LzAfter, Held: put together.
-/
import Derived.Test.YtpdpbbmkicemdaaGreatMc15
import Derived.Deep.RegionHeld3
set_option linter.unusedVariables false
set_option linter.unusedSimpArgs false
/-
  The slots of distances, as numbers; the reference of LZMA reckons them.
-/
namespace Go.Proofs.YtpdpbbmkicemdaaGreat
open Go.RowKit

section
variable {σ : Type}
end

set_option maxHeartbeats 1000000 in
theorem slotOf_any {d : Nat} (hd : d < 4294967296) (w : World) : Calls Tryz.prog 84 #[.int .u32 (d : Int)] w fun x w' => x = .returned (.int .i64 ((slotOf d : Nat) : Int)) ∧ w = w' := by
  have HD := Lib.hid hd
  clear hd
  go_enter Tryz.func84, Tryz.ntmps84
  go_wp2_with fail
  go_loopw [0, 3] (fun xv nv wr => ∃ x c : Nat, xv = .int .u32 (x : Int) ∧ nv = .int .i64 (c : Int) ∧ c ≤ 32 ∧ x < 2 ^ (32 - c) ∧ slotGo (32 - c) (x, c) = slotGo 32 (d, 0) ∧ w = wr) (fun xv _ _ => (intOf xv).toNat)
  case atStart => exact ⟨d, 0, rfl, rfl, Nat.zero_le _, HD.out, rfl, rfl⟩
  case round =>
    obtain ⟨x, c, rfl, rfl, hc, hx, hs, hw⟩ := hrel
    subst hw
    have hx32 : 2 ^ (32 - c) ≤ 2 ^ 32 := pow_le_of (by omega)
    by_cases h4 : 4 ≤ x
    · obtain ⟨f, hf⟩ : ∃ f, 32 - c = f + 1 := by
        refine ⟨32 - c - 1, ?_⟩
        rcases Nat.eq_zero_or_pos (32 - c) with h | h
        · rw [h] at hx; simp at hx; omega
        · omega
      obtain ⟨y, hy⟩ : ∃ y, y = x / 2 := ⟨_, rfl⟩
      have hs2 : slotGo (32 - (c + 1)) (y, c + 1) = slotGo 32 (d, 0) := by
        rw [← hs, hf, show 32 - (c + 1) = f by omega]
        show _ = (if 4 ≤ x then slotGo f (x / 2, c + 1) else (x, c))
        rw [if_pos h4, hy]
      have hy2 : y < 2 ^ (32 - (c + 1)) := by rw [hf, Nat.pow_succ] at hx; rw [show 32 - (c + 1) = f by omega]; omega
      have HR := Lib.hid (show c + 1 ≤ 32 ∧ y < 2 ^ (32 - (c + 1)) ∧ slotGo (32 - (c + 1)) (y, c + 1) = slotGo 32 (d, 0) ∧ y < x from ⟨by omega, hy2, hs2, by omega⟩)
      have g4 : (x : Int) ≥ 4 := by omega
      have e1 : (x : Int) / 2 = (y : Int) := by omega
      have e2 : IntKind.u32.wrap (y : Int) = (y : Int) := by simp [IntKind.wrap, IntKind.bits, IntKind.signed]; omega
      have e3 : IntKind.i64.wrap ((c : Int) + 1) = (c : Int) + 1 := IntWalk.i64_in _ (by omega)
      clear hc hx hs hx32 h4 hf hy hs2 hy2
      go_wp2_with fail
      go_roundw
      case rel => exact ⟨y, c + 1, rfl, by go_num, HR.out.1, HR.out.2.1, HR.out.2.2.1, by first | trivial | rfl⟩
      case measure => simp [intOf]; have := HR.out.2.2.2; omega
    · have g4 : ¬ (x : Int) ≥ 4 := by omega
      have hgo : slotGo (32 - c) (x, c) = (x, c) := by
        cases 32 - c with
        | zero => rfl
        | succ f => show (if 4 ≤ x then slotGo f (x / 2, c + 1) else (x, c)) = _; rw [if_neg h4]
      have HS := Lib.hid (show slotOf d = 2 * c + x by unfold slotOf; rw [← hs, hgo])
      have e1 : IntKind.i64.wrap (2 * (c : Int)) = 2 * (c : Int) := IntWalk.i64_in _ (by omega)
      have e2 : IntKind.i64.wrap (x : Int) = (x : Int) := IntWalk.i64_in _ (by omega)
      obtain ⟨u, hu⟩ : ∃ u, u = 2 * c + x := ⟨_, rfl⟩
      have e3 : IntKind.i64.wrap (2 * (c : Int) + (x : Int)) = (u : Int) := by rw [show 2 * (c : Int) + (x : Int) = (u : Int) by omega]; exact IntWalk.i64_in _ (by omega)
      have HU := Lib.hid hu
      clear hc hx hs hx32 h4 hgo hu
      go_wp2_with fail
      go_ret
      refine ⟨?_, by first | trivial | rfl⟩
      rw [HS.out, ← HU.out]
      rfl
end Go.Proofs.YtpdpbbmkicemdaaGreat

/-
  The reference of LZMA: a distance.
-/
namespace Go.Proofs.YtpdpbbmkicemdaaGreat
open Go.RowKit

theorem u32_fit' (x : Int) (h0 : 0 ≤ x) (h : x < 4294967296) : IntKind.u32.wrap x = x := by
  simp [IntKind.wrap, IntKind.bits, IntKind.signed]; omega
section
variable {σ : Type} {M : Mach σ} {ok : Nat → σ → Prop} {R : Nat → Prop} {K : World → Value → Value → (Nat → Prop) → σ → Prop} {w : World} {g : Nat} {G : Nat → Prop} {z : Lzs} {t : Pm σ}

/-- what a distance leaves -/
def DistPost (R : Nat → Prop) (K : World → Value → Value → (Nat → Prop) → σ → Prop) (w0 : World) (G0 : Nat → Prop) (g : Nat) (z : Lzs) (r : Nat × Pm σ) (x : Ending) (w' : World) : Prop :=
  x = .returned (.int .u32 (r.1 : Int)) ∧ ZAt R K w0 G0 w' g z r.2

set_option maxHeartbeats 4000000 in
theorem zdist_any (Z : ZOps M ok R K) {w0 : World} {G0 : Nat → Prop} {L k l v : Nat} (h : ZAt R K w0 G0 w g z t) (ht : PmOk ok L (k + 12) t) (hL0 : 1847 ≤ L) (hL : L ≤ 100000000) (hl : l ≤ 1000) (hv : v < 4294967296) :
    Calls Tryz.prog 54 #[.pointer (some ⟨g, 0, none⟩), .int .i64 (l : Int), .int .u32 (v : Int)] w (DistPost R K w0 G0 g z (distP M t l v)) := by
  obtain ⟨s1, s2, s3⟩ := slot_spec hv
  have KS := Lib.hid (slotOf_any hv)
  obtain ⟨ml, hml⟩ : ∃ m, m = min l 3 := ⟨_, rfl⟩
  obtain ⟨a, ha⟩ : ∃ a, a = 432 + 64 * ml := ⟨_, rfl⟩
  have hmv : M.mayN ((slotOf v : Nat) : Int) := fun _ => by omega
  have hT := treeP_ok Z.okm (k := k + 6) (n := 6) (a := a) (v := ((slotOf v : Nat) : Int)) (t := t) ht (by show a + 64 ≤ L; omega) hmv
  have hKT := ztree_any Z h (k := k + 6) (n := 6) (a := a) (v := ((slotOf v : Nat) : Int)) ht (by show a + 64 ≤ L; omega) hL (by decide) hmv (by omega) (by omega)
  have htell : M.enc = true → (treeP M t a 6 ((slotOf v : Nat) : Int)).1 = slotOf v := fun he => treeP_tell Z.okm he s1
  have hdef : distP M t l v = distB M (treeP M t a 6 ((slotOf v : Nat) : Int)) v := by rw [ha, hml]; rfl
  rw [hdef]
  obtain ⟨sl, hsl⟩ : ∃ sl, sl = treeP M t a 6 ((slotOf v : Nat) : Int) := ⟨_, rfl⟩
  rw [← hsl] at hT hKT htell ⊢
  have hs64 : sl.1 < 64 := hT.1
  have hp1 := hT.2
  have HKT := Lib.hid hKT
  have m1 : min (l : Int) 3 = (ml : Int) := by omega
  have m2 : IntKind.i64.wrap (64 * (ml : Int)) = 64 * (ml : Int) := IntWalk.i64_in _ (by omega)
  have m3 : IntKind.i64.wrap (432 + 64 * (ml : Int)) = (a : Int) := by rw [show 432 + 64 * (ml : Int) = (a : Int) by omega]; exact IntWalk.i64_in _ (by omega)
  clear hT hKT hdef hmv ht h hml ha
  by_cases h4 : sl.1 < 4
  · have hres : distB M sl v = sl := by unfold distB; rw [if_pos h4]
    rw [hres]
    have g4 : (sl.1 : Int) < 4 := by omega
    have e1 : IntKind.u32.wrap (sl.1 : Int) = (sl.1 : Int) := u32_fit' _ (by omega) (by omega)
    clear hres h4 hs64 hp1 htell hsl s1 s2 s3 hL0 hL hl hv
    go_enter Tryz.func54, Tryz.ntmps54
    go_wp2_with fail
    refine (KS.out _).mono ?_
    rintro e w1 ⟨rfl, rfl⟩
    clear KS
    go_wp2_with fail
    refine HKT.out.mono ?_
    rintro e w2 ⟨rfl, hz2⟩
    have HZ2 := Lib.hid hz2
    clear hz2 HKT
    go_wp2_with fail
    go_ret
    exact ⟨rfl, HZ2.out⟩
  · obtain ⟨n, hn⟩ : ∃ n, n = sl.1 / 2 - 1 := ⟨_, rfl⟩
    obtain ⟨q, hq⟩ : ∃ q, q = sl.1 / 2 := ⟨_, rfl⟩
    obtain ⟨r, hr⟩ : ∃ r, r = sl.1 % 2 := ⟨_, rfl⟩
    obtain ⟨P, hP⟩ : ∃ P, P = 2 ^ n := ⟨_, rfl⟩
    obtain ⟨base, hb⟩ : ∃ b, b = (2 + r) * P := ⟨_, rfl⟩
    have hn30 : n ≤ 30 := by omega
    have hP30 : P ≤ 2 ^ 30 := by rw [hP]; exact pow_le_of hn30
    have hb3 : base ≤ 3 * P := by rw [hb]; exact Nat.mul_le_mul_right P (by omega)
    have hspec : M.enc = true → base ≤ v ∧ v < base + P := fun he => by
      have h1 := htell he
      have h2 := s3 (by omega)
      rw [← h1, ← hn, ← hr, ← hP, ← hb] at h2
      exact h2
    have KP := Lib.hid (fun w => power_any (n := n) (by omega) w)
    rw [← hP] at KP
    have g4 : ¬ (sl.1 : Int) < 4 := by omega
    have e1 : (sl.1 : Int) / 2 = (q : Int) := by omega
    have e1' : (sl.1 : Int).tdiv 2 = (q : Int) := by rw [Int.tdiv_eq_ediv_of_nonneg (by omega)]; exact e1
    have e2 : IntKind.i64.wrap (q : Int) = (q : Int) := IntWalk.i64_in _ (by omega)
    have e3 : IntKind.i64.wrap ((q : Int) - 1) = (n : Int) := by rw [show (q : Int) - 1 = (n : Int) by omega]; exact IntWalk.i64_in _ (by omega)
    have e4 : (sl.1 : Int).tmod 2 = (r : Int) := by rw [Int.tmod_eq_emod_of_nonneg (by omega)]; omega
    have e5 : IntKind.i64.wrap (r : Int) = (r : Int) := IntWalk.i64_in _ (by omega)
    have e6 : IntKind.i64.wrap (2 + (r : Int)) = 2 + (r : Int) := IntWalk.i64_in _ (by omega)
    have e7 : IntKind.i64.wrap ((2 + (r : Int)) * (P : Int)) = (base : Int) := by
      have hc : (2 + (r : Int)) * (P : Int) = (base : Int) := by rw [hb, Int.natCast_mul, Int.natCast_add]; rfl
      rw [hc]
      exact IntWalk.i64_in _ (by omega)
    by_cases h14 : sl.1 < 14
    · obtain ⟨c1, c2, c3⟩ := special_in ⟨sl.1, h14⟩ (by show 4 ≤ sl.1; omega)
      dsimp only at c1 c2 c3
      rw [← hn, ← hr, ← hP, ← hb] at c1
      rw [← hn] at c3
      obtain ⟨ad, had⟩ : ∃ ad, ad = 688 + base - sl.1 := ⟨_, rfl⟩
      obtain ⟨u, hu⟩ : ∃ u : Int, u = (v : Int) - (base : Int) := ⟨_, rfl⟩
      have hmu : M.mayN u := fun he => by have := (hspec he).1; omega
      have hR := (revP_ok Z.okm (k := k) (n := n) (a := ad) (v := u) (hp1.mono Z.okm (show k + n ≤ k + 6 by omega)) (by rw [← hP]; omega) hmu).1
      rw [← hP] at hR
      have HKR := Lib.hid (fun (w1 : World) (hz : ZAt R K w0 G0 w1 g z sl.2) => zrev_any Z hz (k := k) (n := n) (a := ad) (v := u) (hp1.mono Z.okm (show k + n ≤ k + 6 by omega)) (by rw [← hP]; omega) hL (by omega) hmu (by omega) (by omega))
      have hres : distB M sl v = (base + (revP M sl.2 ad n u).1, (revP M sl.2 ad n u).2) := by
        unfold distB
        rw [if_neg h4, if_pos h14, ← hn, ← hr, ← hP, ← hb, ← had, ← hu]
      rw [hres]
      obtain ⟨o, ho⟩ : ∃ o, o = (revP M sl.2 ad n u).1 := ⟨_, rfl⟩
      rw [← ho] at hR HKR ⊢
      obtain ⟨res, hrs⟩ : ∃ x, x = base + o := ⟨_, rfl⟩
      rw [← hrs]
      have g14 : (sl.1 : Int) < 14 := by omega
      have f1 : IntKind.i64.wrap (688 + (base : Int)) = 688 + (base : Int) := IntWalk.i64_in _ (by omega)
      have f2 : IntKind.i64.wrap (688 + (base : Int) - (sl.1 : Int)) = (ad : Int) := by rw [show 688 + (base : Int) - (sl.1 : Int) = (ad : Int) by omega]; exact IntWalk.i64_in _ (by omega)
      have f3 : IntKind.i64.wrap (v : Int) = (v : Int) := IntWalk.i64_in _ (by omega)
      have f4 : IntKind.i64.wrap ((v : Int) - (base : Int)) = u := by rw [← hu]; exact IntWalk.i64_in _ (by omega)
      have f5 : IntKind.i64.wrap ((base : Int) + (o : Int)) = (res : Int) := by rw [show (base : Int) + (o : Int) = (res : Int) by omega]; exact IntWalk.i64_in _ (by omega)
      have f6 : IntKind.u32.wrap (res : Int) = (res : Int) := u32_fit' _ (by omega) (by omega)
      clear hres h4 h14 hs64 hp1 htell hsl s1 s2 s3 hL0 hL hl hv hn hq hr hP hb hn30 hP30 hb3 hspec c1 c2 c3 had hu hmu hR ho hrs
      go_enter Tryz.func54, Tryz.ntmps54
      go_wp2_with fail
      refine (KS.out _).mono ?_
      rintro e w1 ⟨rfl, rfl⟩
      clear KS
      go_wp2_with fail
      refine HKT.out.mono ?_
      rintro e w2 ⟨rfl, hz2⟩
      have HR2 := Lib.hid (HKR.out w2 hz2)
      clear hz2 HKT HKR
      go_wp2_with fail
      refine (KP.out _).mono ?_
      rintro e w3 ⟨rfl, rfl⟩
      clear KP
      go_wp2_with fail
      (with_reducible refine HR2.out.mono ?_)
      rintro e w4 ⟨rfl, hz4⟩
      have HZ4 := Lib.hid hz4
      clear hz4 HR2
      go_wp2_with fail
      go_ret
      exact ⟨rfl, HZ4.out⟩
    · have hn5 : 6 ≤ n := by omega
      obtain ⟨rs, hrs⟩ : ∃ x, x = (v + 4294967296 - base) % 4294967296 := ⟨_, rfl⟩
      obtain ⟨rest, hrest⟩ : ∃ x, x = rs / 16 := ⟨_, rfl⟩
      obtain ⟨P4, hP4⟩ : ∃ P, P = 2 ^ (n - 4) := ⟨_, rfl⟩
      have hPP : P = 16 * P4 := by rw [hP, hP4, show (16 : Nat) = 2 ^ 4 from rfl, ← Nat.pow_add, show 4 + (n - 4) = n by omega]
      have hst : M.enc = true → rest < 2 ^ (n - 4) := fun he => by
        have := hspec he
        rw [← hP4]
        omega
      have hS := Z.okm.str (k := k + 5) (n := n - 4) (v := rest) hp1.x (by omega) hst
      have HKS := Lib.hid (fun (w1 : World) (hz : ZAt R K w0 G0 w1 g z sl.2) => ZAt.str Z hz (k := k + 5) (n := n - 4) (v := rest) hp1 (by omega) (by omega) hst)
      obtain ⟨hi, hhi⟩ : ∃ h, h = M.str sl.2.x (n - 4) rest := ⟨_, rfl⟩
      rw [← hhi] at hS HKS
      rw [← hP4] at hS
      obtain ⟨v16, hv16⟩ : ∃ x, x = v % 16 := ⟨_, rfl⟩
      have hp2 : PmOk ok L (k + 5) (⟨sl.2.ps, hi.2⟩ : Pm σ) := ⟨hp1.ps, hp1.len, hS.2⟩
      have hmr : M.mayN ((v16 : Nat) : Int) := fun _ => by omega
      have hR := (revP_ok Z.okm (k := k) (n := 4) (a := 803) (v := ((v16 : Nat) : Int)) (hp2.mono Z.okm (show k + 4 ≤ k + 5 by omega)) (by show 803 + 16 ≤ L; omega) hmr).1
      have HKR := Lib.hid (fun (w1 : World) (hz : ZAt R K w0 G0 w1 g z (⟨sl.2.ps, hi.2⟩ : Pm σ)) => zrev_any Z hz (k := k) (n := 4) (a := 803) (v := ((v16 : Nat) : Int)) (hp2.mono Z.okm (show k + 4 ≤ k + 5 by omega)) (by show 803 + 16 ≤ L; omega) hL (by decide) hmr (by omega) (by omega))
      have hres : distB M sl v = (base + 16 * hi.1 + (revP M ⟨sl.2.ps, hi.2⟩ 803 4 ((v16 : Nat) : Int)).1, (revP M ⟨sl.2.ps, hi.2⟩ 803 4 ((v16 : Nat) : Int)).2) := by
        unfold distB
        rw [if_neg h4, if_neg h14, ← hn, ← hr, ← hP, ← hb, ← hrs, ← hrest, ← hhi, hv16]
        rfl
      rw [hres]
      obtain ⟨o, ho⟩ : ∃ o, o = (revP M ⟨sl.2.ps, hi.2⟩ 803 4 ((v16 : Nat) : Int)).1 := ⟨_, rfl⟩
      rw [← ho] at hR HKR ⊢
      have ho16 : o < 16 := hR
      obtain ⟨hv1, hhv⟩ : ∃ x, x = hi.1 := ⟨_, rfl⟩
      rw [← hhv] at hS HKS ⊢
      have hh4 := hS.1
      obtain ⟨res, hrs2⟩ : ∃ x, x = base + 16 * hv1 + o := ⟨_, rfl⟩
      rw [← hrs2]
      obtain ⟨n4, hn4⟩ : ∃ x, x = n - 4 := ⟨_, rfl⟩
      rw [← hn4] at HKS
      have g14 : ¬ (sl.1 : Int) < 14 := by omega
      have f1 : IntKind.u32.wrap (base : Int) = (base : Int) := u32_fit' _ (by omega) (by omega)
      have f2 : IntKind.u32.wrap ((v : Int) - (base : Int)) = (rs : Int) := by simp [IntKind.wrap, IntKind.bits, IntKind.signed]; omega
      have f3 : (rs : Int) / 16 = (rest : Int) := by omega
      have f3' : (rs : Int).tdiv 16 = (rest : Int) := by rw [Int.tdiv_eq_ediv_of_nonneg (by omega)]; exact f3
      have f3'' : IntKind.u32.wrap (rest : Int) = (rest : Int) := u32_fit' _ (by omega) (by omega)
      have f4 : IntKind.i64.wrap ((n : Int) - 4) = (n4 : Int) := by rw [show (n : Int) - 4 = (n4 : Int) by omega]; exact IntWalk.i64_in _ (by omega)
      have f5 : IntKind.u32.wrap (16 * (hv1 : Int)) = 16 * (hv1 : Int) := u32_fit' _ (by omega) (by omega)
      have f6 : IntKind.u32.wrap ((base : Int) + 16 * (hv1 : Int)) = (base : Int) + 16 * (hv1 : Int) := u32_fit' _ (by omega) (by omega)
      have f7 : (v : Int).tmod 16 = (v16 : Int) := by rw [Int.tmod_eq_emod_of_nonneg (by omega)]; omega
      have f7' : IntKind.u32.wrap (v16 : Int) = (v16 : Int) := u32_fit' _ (by omega) (by omega)
      have f8 : IntKind.i64.wrap (v16 : Int) = (v16 : Int) := IntWalk.i64_in _ (by omega)
      have f9 : IntKind.u32.wrap (o : Int) = (o : Int) := u32_fit' _ (by omega) (by omega)
      have f10 : IntKind.u32.wrap ((base : Int) + 16 * (hv1 : Int) + (o : Int)) = (res : Int) := by rw [show (base : Int) + 16 * (hv1 : Int) + (o : Int) = (res : Int) by omega]; exact u32_fit' _ (by omega) (by omega)
      clear hres h4 h14 hs64 hp1 htell hsl s1 s2 s3 hL0 hL hl hv hn hq hr hP hb hn30 hP30 hb3 hspec hn5 hrs hrest hP4 hPP hst hS hhi hv16 hp2 hmr hR ho ho16 hhv hh4 hrs2 hn4
      go_enter Tryz.func54, Tryz.ntmps54
      go_wp2_with fail
      refine (KS.out _).mono ?_
      rintro e w1 ⟨rfl, rfl⟩
      clear KS
      go_wp2_with fail
      refine HKT.out.mono ?_
      rintro e w2 ⟨rfl, hz2⟩
      have HS2 := Lib.hid (HKS.out w2 hz2)
      clear hz2 HKT HKS
      go_wp2_with fail
      refine (KP.out _).mono ?_
      rintro e w3 ⟨rfl, rfl⟩
      clear KP
      go_wp2_with fail
      (with_reducible refine HS2.out.mono ?_)
      rintro e w4 ⟨rfl, hz4⟩
      have HR4 := Lib.hid (HKR.out w4 hz4)
      clear hz4 HS2 HKR
      go_wp2_with fail
      refine HR4.out.mono ?_
      rintro e w5 ⟨rfl, hz5⟩
      have HZ5 := Lib.hid hz5
      clear hz5 HR4
      go_wp2_with fail
      go_ret
      exact ⟨rfl, HZ5.out⟩
end
end Go.Proofs.YtpdpbbmkicemdaaGreat

/-
  The reference of LZMA: one number or the other; the state behind.
-/
namespace Go.Proofs.YtpdpbbmkicemdaaGreat
open Go.RowKit

set_option maxHeartbeats 1000000 in
theorem choose_any (b : Bool) (w : World) : Calls Tryz.prog 82 #[.bool b, .int .i64 0, .int .i64 1] w fun x w' => x = .returned (.int .i64 (if b = true then 0 else 1)) ∧ w = w' := by
  cases b
  all_goals
    go_enter Tryz.func82, Tryz.ntmps82
    go_wp2_with fail
    go_ret
    exact ⟨rfl, rfl⟩

section
variable {σ : Type} {M : Mach σ} {ok : Nat → σ → Prop} {R : Nat → Prop} {K : World → Value → Value → (Nat → Prop) → σ → Prop} {w : World} {g : Nat} {G : Nat → Prop} {z : Lzs} {t : Pm σ}

set_option maxHeartbeats 1000000 in
theorem zafter_any (Z : ZOps M ok R K) {w0 : World} {G0 : Nat → Prop} {a b : Nat} (h : ZAt R K w0 G0 w g z t) :
    Calls Tryz.prog 53 #[.pointer (some ⟨g, 0, none⟩), .int .i64 (a : Int), .int .i64 (b : Int)] w fun x w' => x = .returned (.tuple #[]) ∧ ZAt R K w0 G0 w' g { z with st := if z.st < 7 then a else b } t := by
  obtain ⟨_, _, _, _, s8, _, _, _, _, _, _, fz⟩ := h.cells
  have fz8 := fz 8
  have hput := fun n : Nat => ZAt.put Z h (i := 8) (u := .int .i64 (n : Int)) (z' := { z with st := n }) (fun _ _ _ _ _ _ => rfl) rfl
  have HPUT := Lib.hid hput
  clear hput h fz
  by_cases h7 : z.st < 7
  · have g7 : (z.st : Int) < 7 := by omega
    rw [if_pos h7]
    clear h7
    go_enter Tryz.func53, Tryz.ntmps53
    go_wp2_with fail
    first | go_end0 | refine bodyPost_ret (results_none rfl _ _ _) rfl ?_
    exact ⟨rfl, HPUT.out a⟩
  · have g7 : ¬ (z.st : Int) < 7 := by omega
    rw [if_neg h7]
    clear h7
    go_enter Tryz.func53, Tryz.ntmps53
    go_wp2_with fail
    first | go_end0 | refine bodyPost_ret (results_none rfl _ _ _) rfl ?_
    exact ⟨rfl, HPUT.out b⟩

end
end Go.Proofs.YtpdpbbmkicemdaaGreat

/-
  A region that draws its order, walked by hand: the condition on the world may be strengthened on the way.
-/
namespace Go.Proofs.YtpdpbbmkicemdaaGreat

section
variable {P : Program} {ops : Array Oper} {Q : Exit → Act → World → Prop} {md : Region.Mode} {S S' : World → Prop}
/-- What holds under the stronger condition holds under the weaker one: so a cell that turns within the region is named behind its turning. -/
theorem wpAnyH_strong (hSS : ∀ w, S' w → S w) : ∀ (fuel : Nat) (listed : Array Bool) (a : Act) (w : World), wpAnyH P md ops Q S' fuel listed a w → wpAnyH P md ops Q S fuel listed a w
  | 0, _, _, _, h => h
  | fuel + 1, _, _, _, h => ⟨h.1, fun i hi => wpOp_mono (fun _ _ h' => ⟨hSS _ h'.1, wpAnyH_strong hSS fuel _ _ _ h'.2⟩) (h.2 i hi)⟩
end
end Go.Proofs.YtpdpbbmkicemdaaGreat
