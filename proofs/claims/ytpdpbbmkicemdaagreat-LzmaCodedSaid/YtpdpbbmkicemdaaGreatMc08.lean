/-
  LwDist, PkReps, LwCome, LwMatch, LwAgain: put together.
-/
import Derived.Test.YtpdpbbmkicemdaaGreatMc07
import Derived.Test.YtpdpbbmkicemdaaGreatMc01
import Derived.Laws.IdiomCopy
import Derived.Deep.RegionLaw
import Derived.Deep.RegionHeld3
set_option linter.unusedVariables false
set_option linter.unusedSimpArgs false
/-
  The program's decoder of LZMA: a distance.
-/
namespace Go.Proofs.YtpdpbbmkicemdaaGreat
open Go.RowKit

def DistPost1 (K : Kon) (w : World) (Gw : Nat → Prop) (z : Lzs) (r : Nat × Pm Dc) (left : Nat) (e : Ending) (w' : World) : Prop :=
  ∃ v : Nat, MidPost K w Gw (.int .u32 (v : Int)) z r.2 left e w' ∧ v < 4294967296 ∧ (r.2.x ≠ none → v = r.1)

section
variable {K : Kon} {w w' : World} {Gw : Nat → Prop} {z : Lzs} {t : Pm Dc} {left : Nat}

set_option maxRecDepth 100000 in
set_option maxHeartbeats 8000000 in
theorem ldist_any {l : Nat} (v : Nat) (h : Lw K w Gw z t left) (hl : l ≤ 1000) (hv : v < 4294967296) :
    Calls Tryz.prog 99 #[.pointer (some ⟨K.g, 0, none⟩), .int .i64 (l : Int)] w (DistPost1 K w Gw z (distP decM t l v) left) := by
  obtain ⟨ml, hml⟩ : ∃ m, m = min l 3 := ⟨_, rfl⟩
  obtain ⟨a, ha⟩ : ∃ a, a = 432 + 64 * ml := ⟨_, rfl⟩
  have hT := treeP_ok decM_ok (k := 0) (n := 6) (a := a) (v := ((slotOf v : Nat) : Int)) (t := t) (okD_any h.mch.ok) (by show a + 64 ≤ _; omega) (fun h => by cases h)
  have hKT := fun n => (h.drewN n).tree (a := a) (n := 6) (b := K.g) (o := 15 + 1591 + ml * 64) (len := 64) (cap := 64) ((slotOf v : Nat) : Int) (fun m hm => Kon.ad_slot (by omega) (by have : m < 64 := hm; omega) (by omega)) (by show a + 64 ≤ _; omega) (by decide) (by decide)
  have HKS := Lib.hid (fun w => pslot_any (g := K.g) (o0 := 15) hml w)
  have hbound := (distP_ok decM_ok (k := 0) (l := l) (v := v) (L := 1847 + K.nl) (okD_any h.mch.ok) (by omega) hv).1
  have hdef : distP decM t l v = distB decM (treeP decM t a 6 ((slotOf v : Nat) : Int)) v := by rw [ha, hml]; rfl
  rw [hdef] at hbound ⊢
  obtain ⟨sl, hsl⟩ : ∃ sl, sl = treeP decM t a 6 ((slotOf v : Nat) : Int) := ⟨_, rfl⟩
  rw [← hsl] at hT hKT hbound ⊢
  have hs64 : sl.1 < 64 := hT.1
  have hp1 := hT.2
  obtain ⟨x, hx⟩ : ∃ x, x = Alive sl.2 0 sl.1 := ⟨_, rfl⟩
  have hx64 : x < 64 := by rw [hx]; exact alive_le hs64
  unfold TreePost at hKT
  rw [← hx] at hKT
  have HKT := Lib.hid hKT
  have c5 := h.f.c5
  have c5f := Lib.hid (fun (w1 : World) (h1 : Lw K w1 Gw z sl.2 left) => h1.f.c5)
  clear hT hKT hdef h hml ha hsl hl
  by_cases h4 : x < 4
  · have hres : (distB decM sl v).2 = sl.2 ∧ ((distB decM sl v).2.x ≠ none → x = (distB decM sl v).1) := by
      by_cases hd : sl.2.x = none
      · refine ⟨distB_none hd, fun h => absurd ?_ h⟩
        rw [distB_none hd]
        exact hd
      · have e : x = sl.1 := by rw [hx]; exact alive_is hd
        have : distB decM sl v = sl := by unfold distB; rw [if_pos (by omega)]
        rw [this]
        exact ⟨rfl, fun _ => e⟩
    unfold DistPost1
    rw [hres.1]
    have HR := Lib.hid (show sl.2.x ≠ none → x = (distB decM sl v).1 from fun h => hres.2 (by rw [hres.1]; exact h))
    have g4 : (x : Int) < 4 := by omega
    have e1 : IntKind.u32.wrap (x : Int) = (x : Int) := u32_of _ (by omega) (by omega)
    have HX4 := Lib.hid h4
    clear hres h4 hs64 hp1 hx hx64 hv hbound c5f
    go_enter Tryz.func99, Tryz.ntmps99
    go_wp2_with fail
    go_region_held3 (fun w' => w'.cell? ⟨K.g, 5, none⟩ = some (.pointer (some ⟨K.dg, 0, none⟩))) (first | assumption | go_keep | exact c5) (first | (go_at_call 111; refine (HKS.out _).mono ?_; rintro e w1 ⟨rfl, rfl⟩) | (go_at_call 72; refine (HKT.out _).mono ?_; rintro e w2 ⟨rfl, hz2, ho2⟩; have e5 := hz2.f.c5; have HZ2 := Lib.hid hz2; have HO2 := Lib.hid (Only.of_drewN ho2); clear hz2 ho2))
    clear HKT c5 e5
    go_wp2_with fail
    go_ret
    exact ⟨x, ⟨rfl, HZ2.out, HO2.out⟩, by have := HX4.out; omega, HR.out⟩
  · have hd : sl.2.x ≠ none := fun hd => by
      rw [hx] at h4
      unfold Alive at h4
      rw [if_pos hd] at h4
      omega
    obtain rfl : x = sl.1 := by rw [hx]; exact alive_is hd
    obtain ⟨n, hn⟩ : ∃ n, n = sl.1 / 2 - 1 := ⟨_, rfl⟩
    obtain ⟨q, hq⟩ : ∃ q, q = sl.1 / 2 := ⟨_, rfl⟩
    obtain ⟨r, hr⟩ : ∃ r, r = sl.1 % 2 := ⟨_, rfl⟩
    obtain ⟨P, hP⟩ : ∃ P, P = 2 ^ n := ⟨_, rfl⟩
    obtain ⟨base, hb⟩ : ∃ b, b = (2 + r) * P := ⟨_, rfl⟩
    have hn30 : n ≤ 30 := by omega
    have hP30 : P ≤ 2 ^ 30 := by rw [hP]; exact pow_le_of hn30
    have hb3 : base ≤ 3 * P := by rw [hb]; exact Nat.mul_le_mul_right P (by omega)
    have g4 : ¬ (sl.1 : Int) < 4 := by omega
    have e1 : (sl.1 : Int) / 2 = (q : Int) := by omega
    have e1' : (sl.1 : Int).tdiv 2 = (q : Int) := by rw [Int.tdiv_eq_ediv_of_nonneg (by omega)]; exact e1
    have e2 : IntKind.i64.wrap (q : Int) = (q : Int) := IntWalk.i64_in _ (by omega)
    have e3 : IntKind.i64.wrap ((q : Int) - 1) = (n : Int) := by rw [show (q : Int) - 1 = (n : Int) by omega]; exact IntWalk.i64_in _ (by omega)
    have e4 : (sl.1 : Int).tmod 2 = (r : Int) := by rw [Int.tmod_eq_emod_of_nonneg (by omega)]; omega
    have e5 : IntKind.i64.wrap (r : Int) = (r : Int) := IntWalk.i64_in _ (by omega)
    have e6 : IntKind.i64.wrap (2 + (r : Int)) = 2 + (r : Int) := IntWalk.i64_in _ (by omega)
    have e6' : IntKind.u32.wrap (2 + (r : Int)) = 2 + (r : Int) := u32_of _ (by omega) (by omega)
    have e7 : IntKind.u32.wrap ((2 + (r : Int)) * 2 ^ n) = (base : Int) := by
      have hc : (2 + (r : Int)) * 2 ^ n = (base : Int) := by rw [cast_pow2, ← hP, hb, Int.natCast_mul, Int.natCast_add]; rfl
      rw [hc]
      exact u32_of _ (by omega) (by omega)
    have e8 : min n 32 = n := by omega
    have e9 : (0 : Int) ≤ (n : Int) := by omega
    by_cases h14 : sl.1 < 14
    · obtain ⟨c1, c2, c3⟩ := special_in ⟨sl.1, h14⟩ (by show 4 ≤ sl.1; omega)
      dsimp only at c1 c2 c3
      rw [← hn, ← hr, ← hP, ← hb] at c1
      rw [← hn] at c3
      have hbs : sl.1 ≤ base := by
        have hlow := (show ∀ s : Fin 14, 4 ≤ s.val → s.val ≤ (2 + s.val % 2) * 2 ^ (s.val / 2 - 1) by decide) ⟨sl.1, h14⟩ (by show 4 ≤ sl.1; omega)
        dsimp only at hlow
        rw [← hn, ← hr, ← hP, ← hb] at hlow
        exact hlow
      obtain ⟨lo, hlo⟩ : ∃ lo, lo = base - sl.1 := ⟨_, rfl⟩
      obtain ⟨ad, had⟩ : ∃ ad, ad = 688 + base - sl.1 := ⟨_, rfl⟩
      obtain ⟨u, hu⟩ : ∃ u : Int, u = (v : Int) - (base : Int) := ⟨_, rfl⟩
      have hR := (revP_ok decM_ok (k := 0) (n := n) (a := ad) (v := u) (okD_any hp1) (by rw [← hP]; omega) (fun h => by cases h)).1
      rw [← hP] at hR
      have HKR := Lib.hid (fun (w1 : World) (h1 : Lw K w1 Gw z sl.2 left) => (h1.drewN 1).rev (a := ad) (n := n) (b := K.g) (o := 447 + lo) (len := 115 - lo) (cap := 115 - lo) u (fun m hm => Kon.ad_rest (by omega) (by rw [← hP] at hm; omega) (by omega)) (by rw [← hP]; omega) (by rw [← hP]; omega) (by omega))
      have hres : distB decM sl v = (base + (revP decM sl.2 ad n u).1, (revP decM sl.2 ad n u).2) := by
        unfold distB
        rw [if_neg h4, if_pos h14, ← hn, ← hr, ← hP, ← hb, ← had, ← hu]
      rw [hres] at hbound ⊢
      obtain ⟨T, hTT⟩ : ∃ T, T = revP decM sl.2 ad n u := ⟨_, rfl⟩
      rw [← hTT] at hR HKR hbound ⊢
      obtain ⟨o, ho⟩ : ∃ o, o = Alive T.2 0 T.1 := ⟨_, rfl⟩
      have ho2 : o < P := by rw [ho]; exact alive_le hR
      unfold TreePost at HKR
      rw [← ho] at HKR
      have g14 : (sl.1 : Int) < 14 := by omega
      have f0 : IntKind.i64.wrap (base : Int) = (base : Int) := IntWalk.i64_in _ (by omega)
      have f1 : IntKind.i64.wrap ((base : Int) - (sl.1 : Int)) = (lo : Int) := by rw [show (base : Int) - (sl.1 : Int) = (lo : Int) by omega]; exact IntWalk.i64_in _ (by omega)
      have f2 : (lo : Int) ≤ 115 := by omega
      have f2' : (0 : Int) ≤ (lo : Int) := by omega
      have f2'' : ¬ 115 = lo := by have := Nat.two_pow_pos n; omega
      have f3 : IntKind.u32.wrap (o : Int) = (o : Int) := u32_of _ (by omega) (by omega)
      have f4 : IntKind.u32.wrap ((base : Int) + (o : Int)) = ((base + o : Nat) : Int) := by rw [show (base : Int) + (o : Int) = ((base + o : Nat) : Int) by omega]; exact u32_of _ (by omega) (by omega)
      have HX := Lib.hid (show base + o < 4294967296 ∧ (T.2.x ≠ none → base + o = base + T.1) from ⟨by omega, fun h => by rw [ho, alive_is h]⟩)
      clear hres h4 h14 hs64 hp1 hx hx64 hv hbound hd hn hq hr hP hb hn30 hP30 hb3 c1 c2 c3 had hu hR ho ho2 hTT hbs hlo c5f
      go_enter Tryz.func99, Tryz.ntmps99
      go_wp2_with fail
      go_region_held3 (fun w' => w'.cell? ⟨K.g, 5, none⟩ = some (.pointer (some ⟨K.dg, 0, none⟩))) (first | assumption | go_keep | exact c5) (first | (go_at_call 111; refine (HKS.out _).mono ?_; rintro e w1 ⟨rfl, rfl⟩) | (go_at_call 72; refine (HKT.out _).mono ?_; rintro e w2 ⟨rfl, hz2, ho2⟩; have e5 := hz2.f.c5; have HZ2 := Lib.hid hz2; have HO2 := Lib.hid (Only.of_drewN ho2); clear hz2 ho2))
      have HR2 := Lib.hid (HKR.out w2 HZ2.out)
      have d5 := HZ2.out.f.c5
      clear HZ2 HKT HKR c5
      go_wp2_with fail
      go_region_held3 (fun w' => w'.cell? ⟨K.g, 5, none⟩ = some (.pointer (some ⟨K.dg, 0, none⟩))) (first | assumption | go_keep | exact d5) (first | (go_at_call 112; refine HR2.out.mono ?_; rintro e w3 ⟨rfl, hz3, ho3⟩; have d6 := hz3.f.c5; have HZ3 := Lib.hid hz3; have HO3 := Lib.hid (HO2.out.trans (Only.of_drewN ho3)); clear hz3 ho3))
      go_wp2_with fail
      go_ret
      exact ⟨base + o, ⟨rfl, HZ3.out, HO3.out⟩, HX.out.1, HX.out.2⟩
    · have hn5 : 6 ≤ n := by omega
      obtain ⟨rest, hrest⟩ : ∃ x, x = (v + 4294967296 - base) % 4294967296 / 16 := ⟨_, rfl⟩
      obtain ⟨n4, hn4⟩ : ∃ x, x = n - 4 := ⟨_, rfl⟩
      obtain ⟨P4, hP4⟩ : ∃ P, P = 2 ^ n4 := ⟨_, rfl⟩
      have hPP : P = 16 * P4 := by rw [hP, hP4, hn4, show (16 : Nat) = 2 ^ 4 from rfl, ← Nat.pow_add, show 4 + (n - 4) = n by omega]
      have hSt := straightD_ok (n := n4) (d := sl.2.x) hp1.x
      have HKSS := Lib.hid (fun (w1 : World) (h1 : Lw K w1 Gw z sl.2 left) => h1.straight (n := n4) (by omega))
      obtain ⟨hi, hhi⟩ : ∃ h, h = straightD n4 sl.2.x := ⟨_, rfl⟩
      rw [← hhi] at hSt HKSS
      have hh4 := hSt.2
      rw [← hP4] at hh4
      have hp2 : PmOk okD (1847 + K.nl) 0 (⟨sl.2.ps, hi.2⟩ : Pm Dc) := ⟨hp1.ps, hp1.len, hSt.1⟩
      obtain ⟨u, hu⟩ : ∃ u : Int, u = ((v % 16 : Nat) : Int) := ⟨_, rfl⟩
      have hR := (revP_ok decM_ok (k := 0) (n := 4) (a := 803) (v := u) (okD_any hp2) (by show 803 + 16 ≤ _; omega) (fun h => by cases h)).1
      have HKR := Lib.hid (fun (w1 : World) (h1 : Lw K w1 Gw z (⟨sl.2.ps, hi.2⟩ : Pm Dc) left) => (h1.drewN 1).rev (a := 803) (n := 4) (b := K.g) (o := 562) (len := 16) (cap := 16) u (fun m hm => Kon.ad_rest (by omega) (by have : m < 16 := hm; omega) (by omega)) (by show 803 + 16 ≤ _; omega) (by decide) (by decide))
      have hres : distB decM sl v = (base + 16 * hi.1 + (revP decM ⟨sl.2.ps, hi.2⟩ 803 4 u).1, (revP decM ⟨sl.2.ps, hi.2⟩ 803 4 u).2) := by
        unfold distB
        rw [if_neg h4, if_neg h14, ← hn, ← hr, ← hP, ← hb, ← hrest, ← hn4, hu, hhi]
        rfl
      rw [hres] at hbound ⊢
      obtain ⟨T, hTT⟩ : ∃ T, T = revP decM ⟨sl.2.ps, hi.2⟩ 803 4 u := ⟨_, rfl⟩
      rw [← hTT] at hR HKR hbound ⊢
      obtain ⟨o, ho⟩ : ∃ o, o = Alive T.2 0 T.1 := ⟨_, rfl⟩
      have hR : T.1 < 16 := hR
      have ho2 : o < 16 := by rw [ho]; exact alive_le hR
      unfold TreePost at HKR
      rw [← ho] at HKR
      obtain ⟨hv1, hhv⟩ : ∃ x, x = hi.1 := ⟨_, rfl⟩
      rw [← hhv] at hh4 HKSS hbound ⊢
      have g14 : ¬ (sl.1 : Int) < 14 := by omega
      have f1 : IntKind.i64.wrap ((n : Int) - 4) = (n4 : Int) := by rw [show (n : Int) - 4 = (n4 : Int) by omega]; exact IntWalk.i64_in _ (by omega)
      have f2 : IntKind.u32.wrap ((hv1 : Int) * 16) = (hv1 : Int) * 16 := u32_of _ (by omega) (by omega)
      have f3 : IntKind.u32.wrap ((base : Int) + (hv1 : Int) * 16) = (base : Int) + (hv1 : Int) * 16 := u32_of _ (by omega) (by omega)
      have f4 : IntKind.u32.wrap (o : Int) = (o : Int) := u32_of _ (by omega) (by omega)
      have f5 : IntKind.u32.wrap ((base : Int) + (hv1 : Int) * 16 + (o : Int)) = ((base + 16 * hv1 + o : Nat) : Int) := by rw [show (base : Int) + (hv1 : Int) * 16 + (o : Int) = ((base + 16 * hv1 + o : Nat) : Int) by omega]; exact u32_of _ (by omega) (by omega)
      have HX := Lib.hid (show base + 16 * hv1 + o < 4294967296 ∧ (T.2.x ≠ none → base + 16 * hv1 + o = base + 16 * hv1 + T.1) from ⟨by omega, fun h => by rw [ho, alive_is h]⟩)
      clear hres h4 h14 hs64 hp1 hp2 hx hx64 hv hbound hd hn hq hr hP hb hn30 hP30 hb3 hu hR ho ho2 hTT hn5 hrest hn4 hP4 hPP hSt hhi hhv hh4 c5f
      go_enter Tryz.func99, Tryz.ntmps99
      go_wp2_with fail
      go_region_held3 (fun w' => w'.cell? ⟨K.g, 5, none⟩ = some (.pointer (some ⟨K.dg, 0, none⟩))) (first | assumption | go_keep | exact c5) (first | (go_at_call 111; refine (HKS.out _).mono ?_; rintro e w1 ⟨rfl, rfl⟩) | (go_at_call 72; refine (HKT.out _).mono ?_; rintro e w2 ⟨rfl, hz2, ho2⟩; have e5 := hz2.f.c5; have HZ2 := Lib.hid hz2; have HO2 := Lib.hid (Only.of_drewN ho2); clear hz2 ho2))
      have HR2 := Lib.hid (HKSS.out w2 HZ2.out)
      have d5 := HZ2.out.f.c5
      clear HZ2 HKT HKSS c5
      go_wp2_with fail
      refine HR2.out.mono ?_
      rintro e w3 ⟨rfl, hz3, ho3⟩
      have HO3 := Lib.hid (HO2.out.trans ho3)
      have HR3 := Lib.hid (HKR.out w3 hz3)
      have d6 := hz3.f.c5
      clear hz3 ho3 HR2 HO2 HKR d5
      go_wp2_with fail
      go_region_held3 (fun w' => w'.cell? ⟨K.g, 5, none⟩ = some (.pointer (some ⟨K.dg, 0, none⟩))) (first | assumption | go_keep | exact d6) (first | (go_at_call 112; refine HR3.out.mono ?_; rintro e w4 ⟨rfl, hz4, ho4⟩; have d7 := hz4.f.c5; have HZ4 := Lib.hid hz4; have HO4 := Lib.hid (HO3.out.trans (Only.of_drewN ho4)); clear hz4 ho4))
      go_wp2_with fail
      go_ret
      exact ⟨base + 16 * hv1 + o, ⟨rfl, HZ4.out, HO4.out⟩, HX.out.1, HX.out.2⟩
end
end Go.Proofs.YtpdpbbmkicemdaaGreat

/-
  The program's elder distances: rows of them, moved by one.
-/
namespace Go.Proofs.YtpdpbbmkicemdaaGreat
open Go.RowKit
theorem info_u32 : (Tryz.prog.info? 39).map (·.size) = some 1 := by kernel_rfl
/-- rows of the distances, which begin at the cell o, moved by one -/
theorem copy_reps {W : World} {g o n m : Nat} {k : Nat} (cs : List Value) (hk : cs.length = Nat.min m n) (hc : ∀ j v, cs[j]? = some v → W.cell? ((⟨g, o, none⟩ : Addr).add j) = some v) (hd : ∀ j, j < cs.length → (W.cell? ⟨g, o + 1 + j, none⟩).isSome = true) (hf : ∀ j, W.frozen? ⟨g, j, none⟩ = false) (h1 : ∀ v ∈ cs, v.oneCell' = true) :
    (Builtin.copy_ #[162, 162] 3 #[.slice (some ⟨g, o + 1, none⟩) n 3, .slice (some ⟨g, o, none⟩) m k]).run Tryz.prog W = .ok (goInt cs.length) (W.setCells g (o + 1) cs) :=
  run_copy_cells (P := Tryz.prog) W 162 162 3 39 g (o + 1) n 3 ⟨g, o, none⟩ m k cs Tryz.underlying162 info_u32 hk hc hd (fun _ _ => hf _) h1
end Go.Proofs.YtpdpbbmkicemdaaGreat

/-
  The program's decoder of LZMA: a distance comes first.
-/
namespace Go.Proofs.YtpdpbbmkicemdaaGreat
open Go.RowKit
section
variable {K : Kon} {w w' : World} {Gw : Nat → Prop} {z : Lzs} {t : Pm Dc} {left : Nat}

set_option maxRecDepth 100000 in
set_option maxHeartbeats 4000000 in
theorem lcome_1 (h : Lw K w Gw z t left) :
    Calls Tryz.prog 100 #[.pointer (some ⟨K.g, 11, none⟩), .int .i64 1] w (MidPost K w Gw (.tuple #[]) (z.again 1) t left) := by
  have hcp : (Builtin.copy_ #[162, 162] 3 #[.slice (some ⟨K.g, 12, none⟩) 1 3, .slice (some ⟨K.g, 11, none⟩) 1 4]).run Tryz.prog w.drew = .ok (goInt 1) ((w.drew).setCell ⟨K.g, 12, none⟩ (.int .u32 (z.r0 : Int))) := by
    refine copy_reps (W := w.drew) (g := K.g) (o := 11) (n := 1) (m := 1) (k := 4) [.int .u32 (z.r0 : Int)] rfl (fun i v hv => ?_) (fun i hi => ?_) (fun i => h.f.fz i) (by simp [Value.oneCell'])
    · match i, hv with
      | 0, hv => injection hv with hv; rw [← hv]; exact h.f.c11
    · match i, hi with
      | 0, _ => show (w.cell? ⟨K.g, 12, none⟩).isSome = true; rw [h.f.c12]; rfl
  have H0 : Lw K (w.drew) Gw (z) t left := h.drewN 1
  have H1 : Lw K ((w.drew).setCell ⟨K.g, 12, none⟩ (.int .u32 (z.r0 : Int))) Gw (({ z with r1 := z.r0 } : Lzs)) t left := H0.put 12 (by decide) _ rfl rfl
  have HF : Lw K (((w.drew).setCell ⟨K.g, 12, none⟩ (.int .u32 (z.r0 : Int))).setCell ⟨K.g, 11, none⟩ (.int .u32 (z.r1 : Int))) Gw (z.again 1) t left := H1.put 11 (by decide) _ rfl rfl
  have HO : Only K.own w (((w.drew).setCell ⟨K.g, 12, none⟩ (.int .u32 (z.r0 : Int))).setCell ⟨K.g, 11, none⟩ (.int .u32 (z.r1 : Int))) := by
    have h0 : Only K.own w w.drew := (Only.refl _ w).drew
    have h1 := Only.own_put h0 12 (.int .u32 (z.r0 : Int))
    exact Only.own_put h1 11 (.int .u32 (z.r1 : Int))
  have H := Lib.hid (And.intro HF HO)
  have c11 := h.f.c11
  have c12 := h.f.c12
  have c13 := h.f.c13
  have c14 := h.f.c14
  have z11 := h.f.fz 11
  have z12 := h.f.fz 12
  have z13 := h.f.fz 13
  have z14 := h.f.fz 14
  clear h HF HO H0 H1
  go_enter Tryz.func100, Tryz.ntmps100
  go_wp2_with fail
  go_region
  all_goals go_wp2_with fail
  first | go_end0 | refine bodyPost_ret (results_none rfl _ _ _) rfl ?_
  exact ⟨rfl, H.out.1, H.out.2⟩

set_option maxRecDepth 100000 in
set_option maxHeartbeats 4000000 in
theorem lcome_2 (h : Lw K w Gw z t left) :
    Calls Tryz.prog 100 #[.pointer (some ⟨K.g, 11, none⟩), .int .i64 2] w (MidPost K w Gw (.tuple #[]) (z.again 2) t left) := by
  have hcp : (Builtin.copy_ #[162, 162] 3 #[.slice (some ⟨K.g, 12, none⟩) 2 3, .slice (some ⟨K.g, 11, none⟩) 2 4]).run Tryz.prog w.drew = .ok (goInt 2) (((w.drew).setCell ⟨K.g, 12, none⟩ (.int .u32 (z.r0 : Int))).setCell ⟨K.g, 13, none⟩ (.int .u32 (z.r1 : Int))) := by
    refine copy_reps (W := w.drew) (g := K.g) (o := 11) (n := 2) (m := 2) (k := 4) [.int .u32 (z.r0 : Int), .int .u32 (z.r1 : Int)] rfl (fun i v hv => ?_) (fun i hi => ?_) (fun i => h.f.fz i) (by simp [Value.oneCell'])
    · match i, hv with
      | 0, hv => injection hv with hv; rw [← hv]; exact h.f.c11
      | 1, hv => injection hv with hv; rw [← hv]; exact h.f.c12
    · match i, hi with
      | 0, _ => show (w.cell? ⟨K.g, 12, none⟩).isSome = true; rw [h.f.c12]; rfl
      | 1, _ => show (w.cell? ⟨K.g, 13, none⟩).isSome = true; rw [h.f.c13]; rfl
  have H0 : Lw K (w.drew) Gw (z) t left := h.drewN 1
  have H1 : Lw K ((w.drew).setCell ⟨K.g, 12, none⟩ (.int .u32 (z.r0 : Int))) Gw (({ z with r1 := z.r0 } : Lzs)) t left := H0.put 12 (by decide) _ rfl rfl
  have H2 : Lw K (((w.drew).setCell ⟨K.g, 12, none⟩ (.int .u32 (z.r0 : Int))).setCell ⟨K.g, 13, none⟩ (.int .u32 (z.r1 : Int))) Gw (({ ({ z with r1 := z.r0 } : Lzs) with r2 := z.r1 } : Lzs)) t left := H1.put 13 (by decide) _ rfl rfl
  have HF : Lw K ((((w.drew).setCell ⟨K.g, 12, none⟩ (.int .u32 (z.r0 : Int))).setCell ⟨K.g, 13, none⟩ (.int .u32 (z.r1 : Int))).setCell ⟨K.g, 11, none⟩ (.int .u32 (z.r2 : Int))) Gw (z.again 2) t left := H2.put 11 (by decide) _ rfl rfl
  have HO : Only K.own w ((((w.drew).setCell ⟨K.g, 12, none⟩ (.int .u32 (z.r0 : Int))).setCell ⟨K.g, 13, none⟩ (.int .u32 (z.r1 : Int))).setCell ⟨K.g, 11, none⟩ (.int .u32 (z.r2 : Int))) := by
    have h0 : Only K.own w w.drew := (Only.refl _ w).drew
    have h1 := Only.own_put h0 12 (.int .u32 (z.r0 : Int))
    have h2 := Only.own_put h1 13 (.int .u32 (z.r1 : Int))
    exact Only.own_put h2 11 (.int .u32 (z.r2 : Int))
  have H := Lib.hid (And.intro HF HO)
  have c11 := h.f.c11
  have c12 := h.f.c12
  have c13 := h.f.c13
  have c14 := h.f.c14
  have z11 := h.f.fz 11
  have z12 := h.f.fz 12
  have z13 := h.f.fz 13
  have z14 := h.f.fz 14
  clear h HF HO H0 H1 H2
  go_enter Tryz.func100, Tryz.ntmps100
  go_wp2_with fail
  go_region
  all_goals go_wp2_with fail
  first | go_end0 | refine bodyPost_ret (results_none rfl _ _ _) rfl ?_
  exact ⟨rfl, H.out.1, H.out.2⟩

set_option maxRecDepth 100000 in
set_option maxHeartbeats 4000000 in
theorem lcome_3 (h : Lw K w Gw z t left) :
    Calls Tryz.prog 100 #[.pointer (some ⟨K.g, 11, none⟩), .int .i64 3] w (MidPost K w Gw (.tuple #[]) (z.again 3) t left) := by
  have hcp : (Builtin.copy_ #[162, 162] 3 #[.slice (some ⟨K.g, 12, none⟩) 3 3, .slice (some ⟨K.g, 11, none⟩) 3 4]).run Tryz.prog w.drew = .ok (goInt 3) ((((w.drew).setCell ⟨K.g, 12, none⟩ (.int .u32 (z.r0 : Int))).setCell ⟨K.g, 13, none⟩ (.int .u32 (z.r1 : Int))).setCell ⟨K.g, 14, none⟩ (.int .u32 (z.r2 : Int))) := by
    refine copy_reps (W := w.drew) (g := K.g) (o := 11) (n := 3) (m := 3) (k := 4) [.int .u32 (z.r0 : Int), .int .u32 (z.r1 : Int), .int .u32 (z.r2 : Int)] rfl (fun i v hv => ?_) (fun i hi => ?_) (fun i => h.f.fz i) (by simp [Value.oneCell'])
    · match i, hv with
      | 0, hv => injection hv with hv; rw [← hv]; exact h.f.c11
      | 1, hv => injection hv with hv; rw [← hv]; exact h.f.c12
      | 2, hv => injection hv with hv; rw [← hv]; exact h.f.c13
    · match i, hi with
      | 0, _ => show (w.cell? ⟨K.g, 12, none⟩).isSome = true; rw [h.f.c12]; rfl
      | 1, _ => show (w.cell? ⟨K.g, 13, none⟩).isSome = true; rw [h.f.c13]; rfl
      | 2, _ => show (w.cell? ⟨K.g, 14, none⟩).isSome = true; rw [h.f.c14]; rfl
  have H0 : Lw K (w.drew) Gw (z) t left := h.drewN 1
  have H1 : Lw K ((w.drew).setCell ⟨K.g, 12, none⟩ (.int .u32 (z.r0 : Int))) Gw (({ z with r1 := z.r0 } : Lzs)) t left := H0.put 12 (by decide) _ rfl rfl
  have H2 : Lw K (((w.drew).setCell ⟨K.g, 12, none⟩ (.int .u32 (z.r0 : Int))).setCell ⟨K.g, 13, none⟩ (.int .u32 (z.r1 : Int))) Gw (({ ({ z with r1 := z.r0 } : Lzs) with r2 := z.r1 } : Lzs)) t left := H1.put 13 (by decide) _ rfl rfl
  have H3 : Lw K ((((w.drew).setCell ⟨K.g, 12, none⟩ (.int .u32 (z.r0 : Int))).setCell ⟨K.g, 13, none⟩ (.int .u32 (z.r1 : Int))).setCell ⟨K.g, 14, none⟩ (.int .u32 (z.r2 : Int))) Gw (({ ({ ({ z with r1 := z.r0 } : Lzs) with r2 := z.r1 } : Lzs) with r3 := z.r2 } : Lzs)) t left := H2.put 14 (by decide) _ rfl rfl
  have HF : Lw K (((((w.drew).setCell ⟨K.g, 12, none⟩ (.int .u32 (z.r0 : Int))).setCell ⟨K.g, 13, none⟩ (.int .u32 (z.r1 : Int))).setCell ⟨K.g, 14, none⟩ (.int .u32 (z.r2 : Int))).setCell ⟨K.g, 11, none⟩ (.int .u32 (z.r3 : Int))) Gw (z.again 3) t left := H3.put 11 (by decide) _ rfl rfl
  have HO : Only K.own w (((((w.drew).setCell ⟨K.g, 12, none⟩ (.int .u32 (z.r0 : Int))).setCell ⟨K.g, 13, none⟩ (.int .u32 (z.r1 : Int))).setCell ⟨K.g, 14, none⟩ (.int .u32 (z.r2 : Int))).setCell ⟨K.g, 11, none⟩ (.int .u32 (z.r3 : Int))) := by
    have h0 : Only K.own w w.drew := (Only.refl _ w).drew
    have h1 := Only.own_put h0 12 (.int .u32 (z.r0 : Int))
    have h2 := Only.own_put h1 13 (.int .u32 (z.r1 : Int))
    have h3 := Only.own_put h2 14 (.int .u32 (z.r2 : Int))
    exact Only.own_put h3 11 (.int .u32 (z.r3 : Int))
  have H := Lib.hid (And.intro HF HO)
  have c11 := h.f.c11
  have c12 := h.f.c12
  have c13 := h.f.c13
  have c14 := h.f.c14
  have z11 := h.f.fz 11
  have z12 := h.f.fz 12
  have z13 := h.f.fz 13
  have z14 := h.f.fz 14
  clear h HF HO H0 H1 H2 H3
  go_enter Tryz.func100, Tryz.ntmps100
  go_wp2_with fail
  go_region
  all_goals go_wp2_with fail
  first | go_end0 | refine bodyPost_ret (results_none rfl _ _ _) rfl ?_
  exact ⟨rfl, H.out.1, H.out.2⟩

set_option maxRecDepth 100000 in
set_option maxHeartbeats 4000000 in
theorem lpush_any {d : Nat} (h : Lw K w Gw z t left) :
    Calls Tryz.prog 98 #[.pointer (some ⟨K.g, 11, none⟩), .int .u32 (d : Int)] w (MidPost K w Gw (.tuple #[]) (({ z with r0 := d, r1 := z.r0, r2 := z.r1, r3 := z.r2 } : Lzs)) t left) := by
  have hcp : (Builtin.copy_ #[162, 162] 3 #[.slice (some ⟨K.g, 12, none⟩) 3 3, .slice (some ⟨K.g, 11, none⟩) 4 4]).run Tryz.prog w.drew = .ok (goInt 3) ((((w.drew).setCell ⟨K.g, 12, none⟩ (.int .u32 (z.r0 : Int))).setCell ⟨K.g, 13, none⟩ (.int .u32 (z.r1 : Int))).setCell ⟨K.g, 14, none⟩ (.int .u32 (z.r2 : Int))) := by
    refine copy_reps (W := w.drew) (g := K.g) (o := 11) (n := 3) (m := 4) (k := 4) [.int .u32 (z.r0 : Int), .int .u32 (z.r1 : Int), .int .u32 (z.r2 : Int)] rfl (fun i v hv => ?_) (fun i hi => ?_) (fun i => h.f.fz i) (by simp [Value.oneCell'])
    · match i, hv with
      | 0, hv => injection hv with hv; rw [← hv]; exact h.f.c11
      | 1, hv => injection hv with hv; rw [← hv]; exact h.f.c12
      | 2, hv => injection hv with hv; rw [← hv]; exact h.f.c13
    · match i, hi with
      | 0, _ => show (w.cell? ⟨K.g, 12, none⟩).isSome = true; rw [h.f.c12]; rfl
      | 1, _ => show (w.cell? ⟨K.g, 13, none⟩).isSome = true; rw [h.f.c13]; rfl
      | 2, _ => show (w.cell? ⟨K.g, 14, none⟩).isSome = true; rw [h.f.c14]; rfl
  have H0 : Lw K (w.drew) Gw (z) t left := h.drewN 1
  have H1 : Lw K ((w.drew).setCell ⟨K.g, 12, none⟩ (.int .u32 (z.r0 : Int))) Gw (({ z with r1 := z.r0 } : Lzs)) t left := H0.put 12 (by decide) _ rfl rfl
  have H2 : Lw K (((w.drew).setCell ⟨K.g, 12, none⟩ (.int .u32 (z.r0 : Int))).setCell ⟨K.g, 13, none⟩ (.int .u32 (z.r1 : Int))) Gw (({ ({ z with r1 := z.r0 } : Lzs) with r2 := z.r1 } : Lzs)) t left := H1.put 13 (by decide) _ rfl rfl
  have H3 : Lw K ((((w.drew).setCell ⟨K.g, 12, none⟩ (.int .u32 (z.r0 : Int))).setCell ⟨K.g, 13, none⟩ (.int .u32 (z.r1 : Int))).setCell ⟨K.g, 14, none⟩ (.int .u32 (z.r2 : Int))) Gw (({ ({ ({ z with r1 := z.r0 } : Lzs) with r2 := z.r1 } : Lzs) with r3 := z.r2 } : Lzs)) t left := H2.put 14 (by decide) _ rfl rfl
  have HF : Lw K (((((w.drew).setCell ⟨K.g, 12, none⟩ (.int .u32 (z.r0 : Int))).setCell ⟨K.g, 13, none⟩ (.int .u32 (z.r1 : Int))).setCell ⟨K.g, 14, none⟩ (.int .u32 (z.r2 : Int))).setCell ⟨K.g, 11, none⟩ (.int .u32 (d : Int))) Gw (({ z with r0 := d, r1 := z.r0, r2 := z.r1, r3 := z.r2 } : Lzs)) t left := H3.put 11 (by decide) _ rfl rfl
  have HO : Only K.own w (((((w.drew).setCell ⟨K.g, 12, none⟩ (.int .u32 (z.r0 : Int))).setCell ⟨K.g, 13, none⟩ (.int .u32 (z.r1 : Int))).setCell ⟨K.g, 14, none⟩ (.int .u32 (z.r2 : Int))).setCell ⟨K.g, 11, none⟩ (.int .u32 (d : Int))) := by
    have h0 : Only K.own w w.drew := (Only.refl _ w).drew
    have h1 := Only.own_put h0 12 (.int .u32 (z.r0 : Int))
    have h2 := Only.own_put h1 13 (.int .u32 (z.r1 : Int))
    have h3 := Only.own_put h2 14 (.int .u32 (z.r2 : Int))
    exact Only.own_put h3 11 (.int .u32 (d : Int))
  have H := Lib.hid (And.intro HF HO)
  have c11 := h.f.c11
  have c12 := h.f.c12
  have c13 := h.f.c13
  have c14 := h.f.c14
  have z11 := h.f.fz 11
  have z12 := h.f.fz 12
  have z13 := h.f.fz 13
  have z14 := h.f.fz 14
  clear h HF HO H0 H1 H2 H3
  go_enter Tryz.func98, Tryz.ntmps98
  go_wp2_with fail
  go_region
  all_goals go_wp2_with fail
  first | go_end0 | refine bodyPost_ret (results_none rfl _ _ _) rfl ?_
  exact ⟨rfl, H.out.1, H.out.2⟩

theorem lcome_any {j : Nat} (h1 : 1 ≤ j) (h3 : j ≤ 3) (h : Lw K w Gw z t left) :
    Calls Tryz.prog 100 #[.pointer (some ⟨K.g, 11, none⟩), .int .i64 (j : Int)] w (MidPost K w Gw (.tuple #[]) (z.again j) t left) := by
  match j, h1, h3 with
  | 1, _, _ => exact lcome_1 h
  | 2, _, _ => exact lcome_2 h
  | 3, _, _ => exact lcome_3 h
end
end Go.Proofs.YtpdpbbmkicemdaaGreat

/-
  The program's decoder of LZMA: a match with a new distance.
-/
namespace Go.Proofs.YtpdpbbmkicemdaaGreat
open Go.RowKit

/-- a new distance comes first -/
def Lzs.fresh (z : Lzs) (d : Nat) : Lzs := { z with r0 := d, r1 := z.r0, r2 := z.r1, r3 := z.r2, st := aft 7 10 z.st, ended := decide (d = 4294967295) }
def MatchPost (K : Kon) (w : World) (Gw : Nat → Prop) (z : Lzs) (B : Nat × Pm Dc) (v : Nat) (left : Nat) (e : Ending) (w' : World) : Prop :=
  ∃ l d : Nat, MidPost K w Gw (.int .i64 ((l + 2 : Nat) : Int)) (z.fresh d) (distP decM B.2 B.1 v).2 left e w' ∧ l < 272 ∧ d < 4294967296 ∧ ((distP decM B.2 B.1 v).2.x ≠ none → l = B.1 ∧ d = (distP decM B.2 B.1 v).1)

section
variable {K : Kon} {w w' : World} {Gw : Nat → Prop} {z : Lzs} {t : Pm Dc} {left : Nat}

theorem dist_same {B : Nat × Pm Dc} {l v : Nat} (h : B.2.x ≠ none → l = B.1) : (distP decM B.2 l v).2 = (distP decM B.2 B.1 v).2 ∧ ((distP decM B.2 B.1 v).2.x ≠ none → l = B.1) := by
  by_cases hd : B.2.x = none
  · rw [distP_none hd, distP_none hd]
    exact ⟨rfl, fun h2 => absurd hd h2⟩
  · rw [h hd]
    exact ⟨rfl, fun _ => rfl⟩

set_option maxRecDepth 100000 in
set_option maxHeartbeats 4000000 in
theorem lmatch_any {s : Nat} (u : Int) (v : Nat) (h : Lw K w Gw z t left) (hp : z.pb ≤ 4) (ho : z.out.length ≤ 1000000) (hs : s = z.out.length % 2 ^ z.pb) (hv : v < 4294967296) :
    Calls Tryz.prog 75 #[.pointer (some ⟨K.g, 0, none⟩)] w (MatchPost K w Gw z (lenP decM t 819 s u) v left) := by
  have KL := Lib.hid (llen_any (A := 819) (o := 578) (v := u) h hp ho (by omega) (by omega) rfl hs)
  obtain ⟨B, hB⟩ : ∃ B, B = lenP decM t 819 s u := ⟨_, rfl⟩
  rw [← hB] at KL ⊢
  have HV := Lib.hid hv
  have HS := Lib.hid (fun (w1 : World) (h1 : Lw K w1 Gw z B.2 left) => (h1.put 10 (by decide) (.int .i64 ((aft 7 10 z.st : Nat) : Int)) (z' := { z with st := aft 7 10 z.st }) rfl rfl))
  obtain ⟨st, hst⟩ : ∃ st, st = z.st := ⟨_, rfl⟩
  have HST := Lib.hid hst
  clear h hp ho hs hB hv hst
  go_enter Tryz.func75, Tryz.ntmps75
  go_wp2_with fail
  refine KL.out.mono ?_
  rintro e w1 ⟨l, ⟨rfl, hz1, ho1⟩, hl, hlv⟩
  have HO1 := Lib.hid (ho1.own_put 10 (.int .i64 ((aft 7 10 z.st : Nat) : Int)))
  have HZ1 := Lib.hid (HS.out w1 hz1)
  have HLV := Lib.hid (And.intro hl hlv)
  have c10 := hz1.f.c10
  rw [← HST.out] at c10
  have z10 := hz1.f.fz 10
  have KC := Lib.hid (pmat_any st w1)
  have e1 : IntKind.i64.wrap ((l : Int) + 2) = ((l + 2 : Nat) : Int) := by rw [show (l : Int) + 2 = ((l + 2 : Nat) : Int) by omega]; exact IntWalk.i64_in _ (by omega)
  have HE1 := Lib.hid e1
  clear hz1 ho1 hl hlv KL HS e1
  go_wp2_with fail
  refine KC.out.mono ?_
  rintro e w2 ⟨rfl, rfl⟩
  clear KC
  go_wp2_with fail
  have ez : (Value.int .i64 ((aft 7 10 st : Nat) : Int)) = .int .i64 ((aft 7 10 z.st : Nat) : Int) := by rw [HST.out]
  rw [show w1.setCell ⟨K.g, 10, none⟩ (.int .i64 ((aft 7 10 st : Nat) : Int)) = w1.setCell ⟨K.g, fat 10, none⟩ (.int .i64 ((aft 7 10 z.st : Nat) : Int)) by rw [ez]; rfl]
  generalize w1.setCell ⟨K.g, fat 10, none⟩ (.int .i64 ((aft 7 10 z.st : Nat) : Int)) = w3 at *
  clear c10 z10 ez
  have KD := Lib.hid (fun n => ldist_any (l := l) v (HZ1.out.drewN n) (by have := HLV.out.1; omega) HV.out)
  have KP := Lib.hid (fun (w5 : World) (d : Nat) (t' : Pm Dc) (h5 : Lw K w5 Gw { z with st := aft 7 10 z.st } t' left) => lpush_any (d := d) h5)
  go_wp2_with fail
  go_region_held3 (fun _ => True) (first | trivial | assumption | go_keep)
    (first
      | (go_at_call 99; refine (KD.out _).mono ?_; rintro e w4 ⟨d, ⟨rfl, hz4, ho4⟩, hd, hdv⟩; have KQ := Lib.hid (KP.out w4 d _ hz4); have HO4 := Lib.hid (Only.of_drewN ho4); have HD := Lib.hid (And.intro hd hdv); clear hz4 ho4 hd hdv KP)
      | (go_at_call 98; refine KQ.out.mono ?_; rintro e w6 ⟨rfl, hz6, ho6⟩; have HZ6 := Lib.hid hz6; have HO6 := Lib.hid (HO1.out.trans (HO4.out.trans ho6)); clear hz6 ho6 KQ))
  have c11 := HZ6.out.f.c11
  have z64 := HZ6.out.f.fz 1864
  have c64 := HZ6.out.f.ended
  have HN := Lib.hid (HZ6.out.put 17 (by decide) (.bool (decide (d = 4294967295))) (z' := z.fresh d) rfl rfl)
  have HNO := Lib.hid (HO6.out.own_put 17 (.bool (decide (d = 4294967295))))
  clear KD HZ1 HO1
  have q1 : ((d : Int) == 4294967295) = decide (d = 4294967295) := by rw [Bool.eq_iff_iff]; simp; omega
  obtain ⟨b, hb⟩ : ∃ b, b = decide (d = 4294967295) := ⟨_, rfl⟩
  rw [← hb] at q1 HN HNO
  have HB := Lib.hid hb
  have e1 := HE1.out
  clear hb HE1
  go_wp2_with fail
  go_ret
  refine ⟨l, d, ⟨rfl, ?_, HNO.out⟩, HLV.out.1, HD.out.1, ?_⟩
  · have := HN.out
    rw [(dist_same HLV.out.2).1] at this
    exact this
  · have h2 := dist_same (v := v) HLV.out.2
    intro hx
    have hl := h2.2 hx
    refine ⟨hl, ?_⟩
    have h3 := HD.out.2 (by rw [h2.1]; exact hx)
    rw [h3, hl]
end
end Go.Proofs.YtpdpbbmkicemdaaGreat

/-
  The program's decoder of LZMA: a packet by an elder distance.
-/
namespace Go.Proofs.YtpdpbbmkicemdaaGreat
open Go.RowKit

def AgainPost (K : Kon) (w : World) (Gw : Nat → Prop) (z : Lzs) (kd : Nat × Bool × Pm Dc) (s : Nat) (u : Int) (left : Nat) (e : Ending) (w' : World) : Prop :=
  (kd.1 = 6 ∧ MidPost K w Gw (.int .i64 ((1 : Nat) : Int)) { z with st := aft 9 11 z.st } kd.2.2 left e w') ∨
  (2 ≤ kd.1 ∧ kd.1 ≤ 5 ∧ ∃ l : Nat, MidPost K w Gw (.int .i64 ((l + 2 : Nat) : Int)) { z.again (kd.1 - 2) with st := aft 8 11 z.st } (lenP decM kd.2.2 1333 s u).2 left e w' ∧ l < 272 ∧ ((lenP decM kd.2.2 1333 s u).2.x ≠ none → l = (lenP decM kd.2.2 1333 s u).1))

section
variable {K : Kon} {w w' : World} {Gw : Nat → Prop} {z : Lzs} {t : Pm Dc} {left : Nat}

theorem elder_kd {e : Ending} (hs : z.st ≤ 11) (hok : PmOk okD (1847 + K.nl) 0 t) (h : ElderPost K w Gw z t left e w') :
    ∃ j : Nat, (kd4 decM (bitP decM t (216 + z.st) 0) z.st 0).1 = j + 2 ∧ 1 ≤ j ∧ j ≤ 3 ∧ MidPost K w Gw (.int .i64 (j : Int)) z (kd4 decM (bitP decM t (216 + z.st) 0) z.st 0).2.2 left e w' := by
  rcases h with ⟨h0, hm⟩ | ⟨h0, hm⟩
  · refine ⟨1, ?_, by omega, by omega, ?_⟩
    · unfold kd4
      rw [if_pos h0]
    · unfold kd4
      rw [if_pos h0]
      exact hm
  · have hb1 := (bitP_ok decM_ok (k := 0) (a := 216 + z.st) (w := 0) (okD_any hok) (by omega) (fun h => by cases h))
    have hb2 := (bitP_ok decM_ok (k := 0) (a := 228 + z.st) (w := 0) (okD_any hb1.2) (by omega) (fun h => by cases h)).1
    refine ⟨2 + (bitP decM (bitP decM t (216 + z.st) 0).2 (228 + z.st) 0).1, ?_, by omega, by omega, ?_⟩
    · unfold kd4
      rw [if_neg h0]
      show (if (bitP decM (bitP decM t (216 + z.st) 0).2 (228 + z.st) 0).1 = 0 then 4 else 5) = _
      split <;> omega
    · unfold kd4
      rw [if_neg h0]
      exact hm

set_option maxRecDepth 100000 in
set_option maxHeartbeats 8000000 in
theorem lagain_any {s : Nat} (u : Int) (h : Lw K w Gw z t left) (hst0 : z.st ≤ 11) (hp : z.pb ≤ 4) (ho : z.out.length ≤ 1000000) (hs : s = z.out.length % 2 ^ z.pb) :
    Calls Tryz.prog 77 #[.pointer (some ⟨K.g, 0, none⟩)] w (AgainPost K w Gw z (kd3 decM (bitP decM t (204 + z.st) 0) z.st s 0) s u left) := by
  have hs15 : s ≤ 15 := by rw [hs]; exact mod_pb hp
  have hb1 := (bitP_ok decM_ok (k := 0) (a := 204 + z.st) (w := 0) (okD_any h.mch.ok) (by omega) (fun h => by cases h))
  have KB := Lib.hid ((h.drewN 1).bit (a := 204 + z.st) (b := K.g) (i := 411 + z.st) 0 (Kon.ad_rep (by omega) (by omega) (by omega)) (by omega))
  have c10 := h.f.c10
  have c5 := h.f.c5
  obtain ⟨B, hB⟩ : ∃ B, B = bitP decM t (204 + z.st) 0 := ⟨_, rfl⟩
  rw [← hB] at KB hb1 ⊢
  have HOUT := Lib.hid (And.intro hst0 (And.intro hp (And.intro ho hs)))
  have HBO := Lib.hid hb1.2
  obtain ⟨st, hst⟩ : ∃ st, st = z.st := ⟨_, rfl⟩
  rw [← hst] at c10 KB
  have i1 : (st : Int) < 12 := by omega
  have i0 : (0 : Int) ≤ (st : Int) := by omega
  have j1 : (s : Int) < 16 := by omega
  have j0 : (0 : Int) ≤ (s : Int) := by omega
  have HST := Lib.hid hst
  by_cases hu : B.1 = 0
  · have hu2 : ((B.1 : Int) == 1) = false := by rw [hu]; rfl
    have KB2 := Lib.hid (fun (w1 : World) (h1 : Lw K w1 Gw z B.2 left) => h1.bit (a := 240 + 16 * z.st + s) (b := K.g) (i := 207 + z.st * 16 + s) 0 (Kon.ad_long (by omega) (by omega) (by omega)) (by omega))
    have hb2 := (bitP_ok decM_ok (k := 0) (a := 240 + 16 * z.st + s) (w := 0) (okD_any hb1.2) (by omega) (fun h => by cases h)).1
    have hkd : kd3 decM B z.st s 0 = (if (bitP decM B.2 (240 + 16 * z.st + s) 0).1 = 0 then 6 else 2, false, (bitP decM B.2 (240 + 16 * z.st + s) 0).2) := by unfold kd3; rw [if_pos hu]; rfl
    rw [hkd]
    obtain ⟨C, hC⟩ : ∃ C, C = bitP decM B.2 (240 + 16 * z.st + s) 0 := ⟨_, rfl⟩
    rw [← hC] at KB2 hb2 ⊢
    rw [← hst] at KB2
    have KP := Lib.hid (fun (w1 : World) (h1 : Lw K w1 Gw z B.2 left) => lplace_mid h1 hp ho)
    rw [← hs] at KP
    have hB1 : B.1 = 0 := hu
    clear h hst hs hB hst0 hs15 hp ho hkd hC hb1 hu
    by_cases hc : C.1 = 0
    · have hc2 : ((C.1 : Int) == 0) = true := by simp [hc]
      rw [if_pos hc]
      clear hc
      go_enter Tryz.func77, Tryz.ntmps77
      go_wp2_with fail
      go_still_tail 12, (by kernel_rfl)
      change wpList _ _ _ _ _ w.drew
      go_wp2_with fail
      refine KB.out.mono ?_
      rintro e w2 ⟨rfl, hz2, ho2⟩
      have HO2 := Lib.hid (Only.of_drewN ho2)
      have HZ2 := Lib.hid hz2
      clear hz2 ho2 KB c5 c10
      have KP2 := Lib.hid (KP.out _ (HZ2.out.drewN 1))
      have c5 := HZ2.out.f.c5
      have c10 := HZ2.out.f.c10
      rw [← HST.out] at c10
      clear KP
      go_wp2_with fail
      go_region_held3 (fun w' => w'.cell? ⟨K.g, 5, none⟩ = some (.pointer (some ⟨K.dg, 0, none⟩)) ∧ w'.cell? ⟨K.g, 10, none⟩ = some (.int .i64 (st : Int)))
        (first | assumption | go_keep | exact ⟨c5, c10⟩ | exact ⟨f5, f10⟩ | exact ⟨e5, e10⟩)
        (first
          | (go_at_call 67; refine KP2.out.mono ?_; rintro e w3 ⟨rfl, hz3, ho3⟩; have f5 := hz3.f.c5; have f10 := hz3.f.c10; rw [← HST.out] at f10; have HO3 := Lib.hid (HO2.out.trans (Only.of_drewN ho3)); have KC2 := Lib.hid (KB2.out w3 hz3); clear hz3 ho3 KP2)
          | (go_at_call 66; refine KC2.out.mono ?_; rintro e w4 ⟨rfl, hz4, ho4⟩; have e5 := hz4.f.c5; have e10 := hz4.f.c10; rw [← HST.out] at e10; have HZ4 := Lib.hid hz4; have HO4 := Lib.hid (HO3.out.trans ho4); clear hz4 ho4 KC2))
      have z10 := HZ4.out.f.fz 10
      have c10 := HZ4.out.f.c10
      rw [← HST.out] at c10
      have KC := Lib.hid (psing_any st w4)
      have HY := Lib.hid (HZ4.out.put 10 (by decide) (.int .i64 ((aft 9 11 st : Nat) : Int)) (z' := { z with st := aft 9 11 st }) rfl rfl)
      have HYO := Lib.hid (HO4.out.own_put 10 (.int .i64 ((aft 9 11 st : Nat) : Int)))
      go_wp2_with fail
      refine KC.out.mono ?_
      rintro e v2 ⟨rfl, rfl⟩
      clear KC
      go_wp2_with fail
      go_ret
      have hy := HY.out
      have hyo := HYO.out
      rw [HST.out] at hy hyo
      have hrw : Value.int .i64 ((aft 9 11 st : Nat) : Int) = .int .i64 ((aft 9 11 z.st : Nat) : Int) := by rw [HST.out]
      rw [hrw]
      exact .inl ⟨rfl, rfl, hy, hyo⟩
    · have hc2 : ((C.1 : Int) == 0) = false := by simp; omega
      rw [if_neg hc]
      clear hc
      go_enter Tryz.func77, Tryz.ntmps77
      go_wp2_with fail
      go_still_tail 12, (by kernel_rfl)
      change wpList _ _ _ _ _ w.drew
      go_wp2_with fail
      refine KB.out.mono ?_
      rintro e w2 ⟨rfl, hz2, ho2⟩
      have HO2 := Lib.hid (Only.of_drewN ho2)
      have HZ2 := Lib.hid hz2
      clear hz2 ho2 KB c5 c10
      have KP2 := Lib.hid (KP.out _ (HZ2.out.drewN 1))
      have c5 := HZ2.out.f.c5
      have c10 := HZ2.out.f.c10
      rw [← HST.out] at c10
      clear KP
      go_wp2_with fail
      go_region_held3 (fun w' => w'.cell? ⟨K.g, 5, none⟩ = some (.pointer (some ⟨K.dg, 0, none⟩)) ∧ w'.cell? ⟨K.g, 10, none⟩ = some (.int .i64 (st : Int)))
        (first | assumption | go_keep | exact ⟨c5, c10⟩ | exact ⟨f5, f10⟩ | exact ⟨e5, e10⟩)
        (first
          | (go_at_call 67; refine KP2.out.mono ?_; rintro e w3 ⟨rfl, hz3, ho3⟩; have f5 := hz3.f.c5; have f10 := hz3.f.c10; rw [← HST.out] at f10; have HO3 := Lib.hid (HO2.out.trans (Only.of_drewN ho3)); have KC2 := Lib.hid (KB2.out w3 hz3); clear hz3 ho3 KP2)
          | (go_at_call 66; refine KC2.out.mono ?_; rintro e w4 ⟨rfl, hz4, ho4⟩; have e5 := hz4.f.c5; have e10 := hz4.f.c10; rw [← HST.out] at e10; have HZ4 := Lib.hid hz4; have HO4 := Lib.hid (HO3.out.trans ho4); clear hz4 ho4 KC2))
      have hout : (z).out = z.out := rfl
      have KL := Lib.hid (llen_any (A := 1333) (o := 1092) (s := s) (v := u) HZ4.out (by exact HOUT.out.2.1) (by exact HOUT.out.2.2.1) (by omega) (by omega) rfl (by exact HOUT.out.2.2.2))
      clear hout
      go_wp2_with fail
      refine KL.out.mono ?_
      rintro e v1 ⟨l, ⟨rfl, hy1, hq1⟩, hl, hlv⟩
      clear KL
      have HQ1 := Lib.hid (HO4.out.trans hq1)
      have HLV := Lib.hid (And.intro hl hlv)
      have d10 := hy1.f.c10
      rw [show (z).st = st from HST.out.symm] at d10
      have z10 := hy1.f.fz 10
      have KC := Lib.hid (pag_any st v1)
      have HY := Lib.hid (hy1.put 10 (by decide) (.int .i64 ((aft 8 11 st : Nat) : Int)) (z' := { z with st := aft 8 11 st }) rfl rfl)
      have HYO := Lib.hid (HQ1.out.own_put 10 (.int .i64 ((aft 8 11 st : Nat) : Int)))
      have e1 : IntKind.i64.wrap ((l : Int) + 2) = ((l + 2 : Nat) : Int) := by rw [show (l : Int) + 2 = ((l + 2 : Nat) : Int) by omega]; exact IntWalk.i64_in _ (by omega)
      have HE1 := Lib.hid e1
      clear hy1 hq1 hl hlv e1
      go_wp2_with fail
      refine KC.out.mono ?_
      rintro e v2 ⟨rfl, rfl⟩
      clear KC
      have e1 := HE1.out
      go_wp2_with fail
      go_ret
      have hy := HY.out
      have hyo := HYO.out
      rw [HST.out] at hy hyo
      have hrw : Value.int .i64 ((aft 8 11 st : Nat) : Int) = .int .i64 ((aft 8 11 z.st : Nat) : Int) := by rw [HST.out]
      rw [hrw]
      exact .inr ⟨Nat.le_refl 2, (by show 2 ≤ 5; omega), l, ⟨rfl, hy, hyo⟩, HLV.out.1, HLV.out.2⟩
  · have hu1 : B.1 = 1 := by have := hb1.1; omega
    have hu2 : ((B.1 : Int) == 1) = true := by rw [hu1]; rfl
    have hkd : kd3 decM B z.st s 0 = kd4 decM (bitP decM B.2 (216 + z.st) 0) z.st 0 := by unfold kd3; rw [if_neg hu]; rfl
    rw [hkd]
    have KE := Lib.hid (fun (w1 : World) (h1 : Lw K w1 Gw z B.2 left) => lelder_any h1 hst0)
    obtain ⟨C, hC⟩ : ∃ C, C = kd4 decM (bitP decM B.2 (216 + z.st) 0) z.st 0 := ⟨_, rfl⟩
    rw [← hC]
    have HC := Lib.hid hC
    clear h hst hs hB hst0 hs15 hp ho hkd hC hb1 hu
    go_enter Tryz.func77, Tryz.ntmps77
    go_wp2_with fail
    go_still_tail 12, (by kernel_rfl)
    change wpList _ _ _ _ _ w.drew
    go_wp2_with fail
    refine KB.out.mono ?_
    rintro e w2 ⟨rfl, hz2, ho2⟩
    have HO2 := Lib.hid (Only.of_drewN ho2)
    have HZ2 := Lib.hid hz2
    clear hz2 ho2 KB c5 c10
    have KE2 := Lib.hid (fun n => KE.out (w2.drewN n) (HZ2.out.drewN n))
    have KF := Lib.hid (fun (w3 : World) (j : Nat) (t' : Pm Dc) (hj1 : 1 ≤ j) (hj3 : j ≤ 3) (h3 : Lw K w3 Gw z t' left) => lcome_any hj1 hj3 h3)
    clear KE
    go_wp2_with fail
    go_region_held3 (fun _ => True) (first | trivial | assumption | go_keep)
      (first
        | (go_at_call 101; refine (KE2.out _).mono ?_; intro e w3 he3; obtain ⟨j, hj, hj1, hj3, rfl, hz3, ho3⟩ := elder_kd HOUT.out.1 HBO.out he3; rw [← HC.out] at hj hz3; have KG := Lib.hid (KF.out w3 j _ hj1 hj3 hz3); have HO3 := Lib.hid (HO2.out.trans (Only.of_drewN ho3)); have HJ := Lib.hid (And.intro hj (And.intro hj1 hj3)); clear he3 hz3 ho3 hj hj1 hj3 KE2)
        | (go_at_call 100; refine KG.out.mono ?_; rintro e w4 ⟨rfl, hz4, ho4⟩; have HZ4 := Lib.hid hz4; have HO4 := Lib.hid (HO3.out.trans ho4); clear hz4 ho4 KG))
    clear KF
    have hout : (z.again j).out = z.out := rfl
    have KL := Lib.hid (llen_any (A := 1333) (o := 1092) (s := s) (v := u) HZ4.out (by exact HOUT.out.2.1) (by exact HOUT.out.2.2.1) (by omega) (by omega) rfl (by exact HOUT.out.2.2.2))
    clear hout
    go_wp2_with fail
    refine KL.out.mono ?_
    rintro e v1 ⟨l, ⟨rfl, hy1, hq1⟩, hl, hlv⟩
    clear KL
    have HQ1 := Lib.hid (HO4.out.trans hq1)
    have HLV := Lib.hid (And.intro hl hlv)
    have d10 := hy1.f.c10
    rw [show (z.again j).st = st from HST.out.symm] at d10
    have z10 := hy1.f.fz 10
    have KC := Lib.hid (pag_any st v1)
    have HY := Lib.hid (hy1.put 10 (by decide) (.int .i64 ((aft 8 11 st : Nat) : Int)) (z' := { z.again j with st := aft 8 11 st }) rfl rfl)
    have HYO := Lib.hid (HQ1.out.own_put 10 (.int .i64 ((aft 8 11 st : Nat) : Int)))
    have e1 : IntKind.i64.wrap ((l : Int) + 2) = ((l + 2 : Nat) : Int) := by rw [show (l : Int) + 2 = ((l + 2 : Nat) : Int) by omega]; exact IntWalk.i64_in _ (by omega)
    have HE1 := Lib.hid e1
    clear hy1 hq1 hl hlv e1
    go_wp2_with fail
    refine KC.out.mono ?_
    rintro e v2 ⟨rfl, rfl⟩
    clear KC
    have e1 := HE1.out
    go_wp2_with fail
    go_ret
    have hy := HY.out
    have hyo := HYO.out
    rw [HST.out] at hy hyo
    have hrw : Value.int .i64 ((aft 8 11 st : Nat) : Int) = .int .i64 ((aft 8 11 z.st : Nat) : Int) := by rw [HST.out]
    rw [hrw]
    have hj := HJ.out
    have hjj : C.1 - 2 = j := by omega
    refine .inr ⟨by omega, by omega, l, ⟨rfl, ?_, hyo⟩, HLV.out.1, HLV.out.2⟩
    rw [hjj]
    exact hy
end
end Go.Proofs.YtpdpbbmkicemdaaGreat
