/-
  LwDist, PkReps, LwCome: put together.
-/
import Derived.Test.YtoencondpbkomaaGreatDoorT15
import Derived.Test.YtoencondpbkomaaGreatDoorT02
import Derived.Test.YtoencondpbkomaaGreatDoorT01
import Derived.Laws.IdiomCopy
import Derived.Deep.RegionLaw
set_option linter.unusedVariables false
set_option linter.unusedSimpArgs false
/-
  The program's decoder of LZMA: a distance.
-/
namespace Go.Proofs.YtoencondpbkomaaGreatDoor
open Go.RowKit

def DistPost1 (K : Kon) (w : World) (Gw : Nat → Prop) (z : Lzs) (r : Nat × Pm Dc) (left : Nat) (e : Ending) (w' : World) : Prop :=
  ∃ v : Nat, MidPost K w Gw (.int .u32 (v : Int)) z r.2 left e w' ∧ v < 4294967296 ∧ (r.2.x ≠ none → v = r.1)

section
variable {K : Kon} {w w' : World} {Gw : Nat → Prop} {z : Lzs} {t : Pm Dc} {left : Nat}

set_option maxRecDepth 100000 in
set_option maxHeartbeats 8000000 in
theorem ldist_any {l : Nat} (v : Nat) (h : Lw K w Gw z t left) (hl : l ≤ 1000) (hv : v < 4294967296) :
    Calls Tryz.prog 182 #[.pointer (some ⟨K.g, 0, none⟩), .int .i64 (l : Int)] w (DistPost1 K w Gw z (distP decM t l v) left) := by
  obtain ⟨ml, hml⟩ : ∃ m, m = min l 3 := ⟨_, rfl⟩
  obtain ⟨a, ha⟩ : ∃ a, a = 432 + 64 * ml := ⟨_, rfl⟩
  have hT := treeP_ok decM_ok (k := 0) (n := 6) (a := a) (v := ((slotOf v : Nat) : Int)) (t := t) (okD_any h.mch.ok) (by show a + 64 ≤ _; omega) (fun h => by cases h)
  have hKT := fun n => (h.drewN n).tree (a := a) (n := 6) (b := K.g) (o := 15 + 1591 + ml * 64) (len := 64) (cap := 64) ((slotOf v : Nat) : Int) (fun m hm => Kon.ad_slot (by omega) (by have : m < 64 := hm; omega) (by omega)) (by show a + 64 ≤ _; omega) (by decide) (by decide)
  have HKS := Lib.hid (fun w => pslot_any (g := K.g) (o0 := 15) hml w)
  have hbound := (distP_ok decM_ok (k := 0) (l := l) (v := v) (L := 1847 + K.nl) (okD_any h.mch.ok) (by omega) hv).1
  have hdef : distP decM t l v = distB decM (treeP decM t a 6 ((slotOf v : Nat) : Int)) v := by rw [ha, hml]; rfl
  rw [hdef] at hbound ⊢
  obtain ⟨sl, hsl⟩ : ∃ sl, sl = treeP decM t a 6 ((slotOf v : Nat) : Int) := ⟨_, rfl⟩
  rw [← hsl] at hT hKT hbound ⊢
  have hs64 : sl.1 < 64 := hT.1
  have hp1 := hT.2
  obtain ⟨x, hx⟩ : ∃ x, x = Alive sl.2 0 sl.1 := ⟨_, rfl⟩
  have hx64 : x < 64 := by rw [hx]; exact alive_le hs64
  unfold TreePost at hKT
  rw [← hx] at hKT
  have HKT := Lib.hid hKT
  have c5 := h.f.c5
  have c5f := Lib.hid (fun (w1 : World) (h1 : Lw K w1 Gw z sl.2 left) => h1.f.c5)
  clear hT hKT hdef h hml ha hsl hl
  by_cases h4 : x < 4
  · have hres : (distB decM sl v).2 = sl.2 ∧ ((distB decM sl v).2.x ≠ none → x = (distB decM sl v).1) := by
      by_cases hd : sl.2.x = none
      · refine ⟨distB_none hd, fun h => absurd ?_ h⟩
        rw [distB_none hd]
        exact hd
      · have e : x = sl.1 := by rw [hx]; exact alive_is hd
        have : distB decM sl v = sl := by unfold distB; rw [if_pos (by omega)]
        rw [this]
        exact ⟨rfl, fun _ => e⟩
    unfold DistPost1
    rw [hres.1]
    have HR := Lib.hid (show sl.2.x ≠ none → x = (distB decM sl v).1 from fun h => hres.2 (by rw [hres.1]; exact h))
    have g4 : (x : Int) < 4 := by omega
    have e1 : IntKind.u32.wrap (x : Int) = (x : Int) := u32_of _ (by omega) (by omega)
    have HX4 := Lib.hid h4
    clear hres h4 hs64 hp1 hx hx64 hv hbound c5f
    go_enter Tryz.func182, Tryz.ntmps182
    go_wp2_with fail
    go_region_held3 (fun w' => w'.cell? ⟨K.g, 5, none⟩ = some (.pointer (some ⟨K.dg, 0, none⟩))) (first | assumption | go_keep | exact c5) (first | (go_at_call 190; refine (HKS.out _).mono ?_; rintro e w1 ⟨rfl, rfl⟩) | (go_at_call 140; refine (HKT.out _).mono ?_; rintro e w2 ⟨rfl, hz2, ho2⟩; have e5 := hz2.f.c5; have HZ2 := Lib.hid hz2; have HO2 := Lib.hid (Only.of_drewN ho2); clear hz2 ho2))
    clear HKT c5 e5
    go_wp2_with fail
    go_ret
    exact ⟨x, ⟨rfl, HZ2.out, HO2.out⟩, by have := HX4.out; omega, HR.out⟩
  · have hd : sl.2.x ≠ none := fun hd => by
      rw [hx] at h4
      unfold Alive at h4
      rw [if_pos hd] at h4
      omega
    obtain rfl : x = sl.1 := by rw [hx]; exact alive_is hd
    obtain ⟨n, hn⟩ : ∃ n, n = sl.1 / 2 - 1 := ⟨_, rfl⟩
    obtain ⟨q, hq⟩ : ∃ q, q = sl.1 / 2 := ⟨_, rfl⟩
    obtain ⟨r, hr⟩ : ∃ r, r = sl.1 % 2 := ⟨_, rfl⟩
    obtain ⟨P, hP⟩ : ∃ P, P = 2 ^ n := ⟨_, rfl⟩
    obtain ⟨base, hb⟩ : ∃ b, b = (2 + r) * P := ⟨_, rfl⟩
    have hn30 : n ≤ 30 := by omega
    have hP30 : P ≤ 2 ^ 30 := by rw [hP]; exact pow_le_of hn30
    have hb3 : base ≤ 3 * P := by rw [hb]; exact Nat.mul_le_mul_right P (by omega)
    have g4 : ¬ (sl.1 : Int) < 4 := by omega
    have e1 : (sl.1 : Int) / 2 = (q : Int) := by omega
    have e1' : (sl.1 : Int).tdiv 2 = (q : Int) := by rw [Int.tdiv_eq_ediv_of_nonneg (by omega)]; exact e1
    have e2 : IntKind.i64.wrap (q : Int) = (q : Int) := IntWalk.i64_in _ (by omega)
    have e3 : IntKind.i64.wrap ((q : Int) - 1) = (n : Int) := by rw [show (q : Int) - 1 = (n : Int) by omega]; exact IntWalk.i64_in _ (by omega)
    have e4 : (sl.1 : Int).tmod 2 = (r : Int) := by rw [Int.tmod_eq_emod_of_nonneg (by omega)]; omega
    have e5 : IntKind.i64.wrap (r : Int) = (r : Int) := IntWalk.i64_in _ (by omega)
    have e6 : IntKind.i64.wrap (2 + (r : Int)) = 2 + (r : Int) := IntWalk.i64_in _ (by omega)
    have e6' : IntKind.u32.wrap (2 + (r : Int)) = 2 + (r : Int) := u32_of _ (by omega) (by omega)
    have e7 : IntKind.u32.wrap ((2 + (r : Int)) * 2 ^ n) = (base : Int) := by
      have hc : (2 + (r : Int)) * 2 ^ n = (base : Int) := by rw [cast_pow2, ← hP, hb, Int.natCast_mul, Int.natCast_add]; rfl
      rw [hc]
      exact u32_of _ (by omega) (by omega)
    have e8 : min n 32 = n := by omega
    have e9 : (0 : Int) ≤ (n : Int) := by omega
    by_cases h14 : sl.1 < 14
    · obtain ⟨c1, c2, c3⟩ := special_in ⟨sl.1, h14⟩ (by show 4 ≤ sl.1; omega)
      dsimp only at c1 c2 c3
      rw [← hn, ← hr, ← hP, ← hb] at c1
      rw [← hn] at c3
      have hbs : sl.1 ≤ base := by
        have hlow := (show ∀ s : Fin 14, 4 ≤ s.val → s.val ≤ (2 + s.val % 2) * 2 ^ (s.val / 2 - 1) by decide) ⟨sl.1, h14⟩ (by show 4 ≤ sl.1; omega)
        dsimp only at hlow
        rw [← hn, ← hr, ← hP, ← hb] at hlow
        exact hlow
      obtain ⟨lo, hlo⟩ : ∃ lo, lo = base - sl.1 := ⟨_, rfl⟩
      obtain ⟨ad, had⟩ : ∃ ad, ad = 688 + base - sl.1 := ⟨_, rfl⟩
      obtain ⟨u, hu⟩ : ∃ u : Int, u = (v : Int) - (base : Int) := ⟨_, rfl⟩
      have hR := (revP_ok decM_ok (k := 0) (n := n) (a := ad) (v := u) (okD_any hp1) (by rw [← hP]; omega) (fun h => by cases h)).1
      rw [← hP] at hR
      have HKR := Lib.hid (fun (w1 : World) (h1 : Lw K w1 Gw z sl.2 left) => (h1.drewN 1).rev (a := ad) (n := n) (b := K.g) (o := 447 + lo) (len := 115 - lo) (cap := 115 - lo) u (fun m hm => Kon.ad_rest (by omega) (by rw [← hP] at hm; omega) (by omega)) (by rw [← hP]; omega) (by rw [← hP]; omega) (by omega))
      have hres : distB decM sl v = (base + (revP decM sl.2 ad n u).1, (revP decM sl.2 ad n u).2) := by
        unfold distB
        rw [if_neg h4, if_pos h14, ← hn, ← hr, ← hP, ← hb, ← had, ← hu]
      rw [hres] at hbound ⊢
      obtain ⟨T, hTT⟩ : ∃ T, T = revP decM sl.2 ad n u := ⟨_, rfl⟩
      rw [← hTT] at hR HKR hbound ⊢
      obtain ⟨o, ho⟩ : ∃ o, o = Alive T.2 0 T.1 := ⟨_, rfl⟩
      have ho2 : o < P := by rw [ho]; exact alive_le hR
      unfold TreePost at HKR
      rw [← ho] at HKR
      have g14 : (sl.1 : Int) < 14 := by omega
      have f0 : IntKind.i64.wrap (base : Int) = (base : Int) := IntWalk.i64_in _ (by omega)
      have f1 : IntKind.i64.wrap ((base : Int) - (sl.1 : Int)) = (lo : Int) := by rw [show (base : Int) - (sl.1 : Int) = (lo : Int) by omega]; exact IntWalk.i64_in _ (by omega)
      have f2 : (lo : Int) ≤ 115 := by omega
      have f2' : (0 : Int) ≤ (lo : Int) := by omega
      have f2'' : ¬ 115 = lo := by have := Nat.two_pow_pos n; omega
      have f3 : IntKind.u32.wrap (o : Int) = (o : Int) := u32_of _ (by omega) (by omega)
      have f4 : IntKind.u32.wrap ((base : Int) + (o : Int)) = ((base + o : Nat) : Int) := by rw [show (base : Int) + (o : Int) = ((base + o : Nat) : Int) by omega]; exact u32_of _ (by omega) (by omega)
      have HX := Lib.hid (show base + o < 4294967296 ∧ (T.2.x ≠ none → base + o = base + T.1) from ⟨by omega, fun h => by rw [ho, alive_is h]⟩)
      clear hres h4 h14 hs64 hp1 hx hx64 hv hbound hd hn hq hr hP hb hn30 hP30 hb3 c1 c2 c3 had hu hR ho ho2 hTT hbs hlo c5f
      go_enter Tryz.func182, Tryz.ntmps182
      go_wp2_with fail
      go_region_held3 (fun w' => w'.cell? ⟨K.g, 5, none⟩ = some (.pointer (some ⟨K.dg, 0, none⟩))) (first | assumption | go_keep | exact c5) (first | (go_at_call 190; refine (HKS.out _).mono ?_; rintro e w1 ⟨rfl, rfl⟩) | (go_at_call 140; refine (HKT.out _).mono ?_; rintro e w2 ⟨rfl, hz2, ho2⟩; have e5 := hz2.f.c5; have HZ2 := Lib.hid hz2; have HO2 := Lib.hid (Only.of_drewN ho2); clear hz2 ho2))
      have HR2 := Lib.hid (HKR.out w2 HZ2.out)
      have d5 := HZ2.out.f.c5
      clear HZ2 HKT HKR c5
      go_wp2_with fail
      go_region_held3 (fun w' => w'.cell? ⟨K.g, 5, none⟩ = some (.pointer (some ⟨K.dg, 0, none⟩))) (first | assumption | go_keep | exact d5) (first | (go_at_call 198; refine HR2.out.mono ?_; rintro e w3 ⟨rfl, hz3, ho3⟩; have d6 := hz3.f.c5; have HZ3 := Lib.hid hz3; have HO3 := Lib.hid (HO2.out.trans (Only.of_drewN ho3)); clear hz3 ho3))
      go_wp2_with fail
      go_ret
      exact ⟨base + o, ⟨rfl, HZ3.out, HO3.out⟩, HX.out.1, HX.out.2⟩
    · have hn5 : 6 ≤ n := by omega
      obtain ⟨rest, hrest⟩ : ∃ x, x = (v + 4294967296 - base) % 4294967296 / 16 := ⟨_, rfl⟩
      obtain ⟨n4, hn4⟩ : ∃ x, x = n - 4 := ⟨_, rfl⟩
      obtain ⟨P4, hP4⟩ : ∃ P, P = 2 ^ n4 := ⟨_, rfl⟩
      have hPP : P = 16 * P4 := by rw [hP, hP4, hn4, show (16 : Nat) = 2 ^ 4 from rfl, ← Nat.pow_add, show 4 + (n - 4) = n by omega]
      have hSt := straightD_ok (n := n4) (d := sl.2.x) hp1.x
      have HKSS := Lib.hid (fun (w1 : World) (h1 : Lw K w1 Gw z sl.2 left) => h1.straight (n := n4) (by omega))
      obtain ⟨hi, hhi⟩ : ∃ h, h = straightD n4 sl.2.x := ⟨_, rfl⟩
      rw [← hhi] at hSt HKSS
      have hh4 := hSt.2
      rw [← hP4] at hh4
      have hp2 : PmOk okD (1847 + K.nl) 0 (⟨sl.2.ps, hi.2⟩ : Pm Dc) := ⟨hp1.ps, hp1.len, hSt.1⟩
      obtain ⟨u, hu⟩ : ∃ u : Int, u = ((v % 16 : Nat) : Int) := ⟨_, rfl⟩
      have hR := (revP_ok decM_ok (k := 0) (n := 4) (a := 803) (v := u) (okD_any hp2) (by show 803 + 16 ≤ _; omega) (fun h => by cases h)).1
      have HKR := Lib.hid (fun (w1 : World) (h1 : Lw K w1 Gw z (⟨sl.2.ps, hi.2⟩ : Pm Dc) left) => (h1.drewN 1).rev (a := 803) (n := 4) (b := K.g) (o := 562) (len := 16) (cap := 16) u (fun m hm => Kon.ad_rest (by omega) (by have : m < 16 := hm; omega) (by omega)) (by show 803 + 16 ≤ _; omega) (by decide) (by decide))
      have hres : distB decM sl v = (base + 16 * hi.1 + (revP decM ⟨sl.2.ps, hi.2⟩ 803 4 u).1, (revP decM ⟨sl.2.ps, hi.2⟩ 803 4 u).2) := by
        unfold distB
        rw [if_neg h4, if_neg h14, ← hn, ← hr, ← hP, ← hb, ← hrest, ← hn4, hu, hhi]
        rfl
      rw [hres] at hbound ⊢
      obtain ⟨T, hTT⟩ : ∃ T, T = revP decM ⟨sl.2.ps, hi.2⟩ 803 4 u := ⟨_, rfl⟩
      rw [← hTT] at hR HKR hbound ⊢
      obtain ⟨o, ho⟩ : ∃ o, o = Alive T.2 0 T.1 := ⟨_, rfl⟩
      have hR : T.1 < 16 := hR
      have ho2 : o < 16 := by rw [ho]; exact alive_le hR
      unfold TreePost at HKR
      rw [← ho] at HKR
      obtain ⟨hv1, hhv⟩ : ∃ x, x = hi.1 := ⟨_, rfl⟩
      rw [← hhv] at hh4 HKSS hbound ⊢
      have g14 : ¬ (sl.1 : Int) < 14 := by omega
      have f1 : IntKind.i64.wrap ((n : Int) - 4) = (n4 : Int) := by rw [show (n : Int) - 4 = (n4 : Int) by omega]; exact IntWalk.i64_in _ (by omega)
      have f2 : IntKind.u32.wrap ((hv1 : Int) * 16) = (hv1 : Int) * 16 := u32_of _ (by omega) (by omega)
      have f3 : IntKind.u32.wrap ((base : Int) + (hv1 : Int) * 16) = (base : Int) + (hv1 : Int) * 16 := u32_of _ (by omega) (by omega)
      have f4 : IntKind.u32.wrap (o : Int) = (o : Int) := u32_of _ (by omega) (by omega)
      have f5 : IntKind.u32.wrap ((base : Int) + (hv1 : Int) * 16 + (o : Int)) = ((base + 16 * hv1 + o : Nat) : Int) := by rw [show (base : Int) + (hv1 : Int) * 16 + (o : Int) = ((base + 16 * hv1 + o : Nat) : Int) by omega]; exact u32_of _ (by omega) (by omega)
      have HX := Lib.hid (show base + 16 * hv1 + o < 4294967296 ∧ (T.2.x ≠ none → base + 16 * hv1 + o = base + 16 * hv1 + T.1) from ⟨by omega, fun h => by rw [ho, alive_is h]⟩)
      clear hres h4 h14 hs64 hp1 hp2 hx hx64 hv hbound hd hn hq hr hP hb hn30 hP30 hb3 hu hR ho ho2 hTT hn5 hrest hn4 hP4 hPP hSt hhi hhv hh4 c5f
      go_enter Tryz.func182, Tryz.ntmps182
      go_wp2_with fail
      go_region_held3 (fun w' => w'.cell? ⟨K.g, 5, none⟩ = some (.pointer (some ⟨K.dg, 0, none⟩))) (first | assumption | go_keep | exact c5) (first | (go_at_call 190; refine (HKS.out _).mono ?_; rintro e w1 ⟨rfl, rfl⟩) | (go_at_call 140; refine (HKT.out _).mono ?_; rintro e w2 ⟨rfl, hz2, ho2⟩; have e5 := hz2.f.c5; have HZ2 := Lib.hid hz2; have HO2 := Lib.hid (Only.of_drewN ho2); clear hz2 ho2))
      have HR2 := Lib.hid (HKSS.out w2 HZ2.out)
      have d5 := HZ2.out.f.c5
      clear HZ2 HKT HKSS c5
      go_wp2_with fail
      refine HR2.out.mono ?_
      rintro e w3 ⟨rfl, hz3, ho3⟩
      have HO3 := Lib.hid (HO2.out.trans ho3)
      have HR3 := Lib.hid (HKR.out w3 hz3)
      have d6 := hz3.f.c5
      clear hz3 ho3 HR2 HO2 HKR d5
      go_wp2_with fail
      go_region_held3 (fun w' => w'.cell? ⟨K.g, 5, none⟩ = some (.pointer (some ⟨K.dg, 0, none⟩))) (first | assumption | go_keep | exact d6) (first | (go_at_call 198; refine HR3.out.mono ?_; rintro e w4 ⟨rfl, hz4, ho4⟩; have d7 := hz4.f.c5; have HZ4 := Lib.hid hz4; have HO4 := Lib.hid (HO3.out.trans (Only.of_drewN ho4)); clear hz4 ho4))
      go_wp2_with fail
      go_ret
      exact ⟨base + 16 * hv1 + o, ⟨rfl, HZ4.out, HO4.out⟩, HX.out.1, HX.out.2⟩
end
end Go.Proofs.YtoencondpbkomaaGreatDoor

/-
  The program's elder distances: rows of them, moved by one.
-/
namespace Go.Proofs.YtoencondpbkomaaGreatDoor
open Go.RowKit
theorem info_u32 : (Tryz.prog.info? 63).map (·.size) = some 1 := by kernel_rfl
/-- rows of the distances, which begin at the cell o, moved by one -/
theorem copy_reps {W : World} {g o n m : Nat} {k : Nat} (cs : List Value) (hk : cs.length = Nat.min m n) (hc : ∀ j v, cs[j]? = some v → W.cell? ((⟨g, o, none⟩ : Addr).add j) = some v) (hd : ∀ j, j < cs.length → (W.cell? ⟨g, o + 1 + j, none⟩).isSome = true) (hf : ∀ j, W.frozen? ⟨g, j, none⟩ = false) (h1 : ∀ v ∈ cs, v.oneCell' = true) :
    (Builtin.copy_ #[189, 189] 3 #[.slice (some ⟨g, o + 1, none⟩) n 3, .slice (some ⟨g, o, none⟩) m k]).run Tryz.prog W = .ok (goInt cs.length) (W.setCells g (o + 1) cs) :=
  run_copy_cells (P := Tryz.prog) W 189 189 3 63 g (o + 1) n 3 ⟨g, o, none⟩ m k cs Tryz.underlying189 info_u32 hk hc hd (fun _ _ => hf _) h1
end Go.Proofs.YtoencondpbkomaaGreatDoor

/-
  The program's decoder of LZMA: a distance comes first.
-/
namespace Go.Proofs.YtoencondpbkomaaGreatDoor
open Go.RowKit
section
variable {K : Kon} {w w' : World} {Gw : Nat → Prop} {z : Lzs} {t : Pm Dc} {left : Nat}

set_option maxRecDepth 100000 in
set_option maxHeartbeats 4000000 in
theorem lcome_1 (h : Lw K w Gw z t left) :
    Calls Tryz.prog 154 #[.pointer (some ⟨K.g, 11, none⟩), .int .i64 1] w (MidPost K w Gw (.tuple #[]) (z.again 1) t left) := by
  have hcp : (Builtin.copy_ #[189, 189] 3 #[.slice (some ⟨K.g, 12, none⟩) 1 3, .slice (some ⟨K.g, 11, none⟩) 1 4]).run Tryz.prog w.drew = .ok (goInt 1) ((w.drew).setCell ⟨K.g, 12, none⟩ (.int .u32 (z.r0 : Int))) := by
    refine copy_reps (W := w.drew) (g := K.g) (o := 11) (n := 1) (m := 1) (k := 4) [.int .u32 (z.r0 : Int)] rfl (fun i v hv => ?_) (fun i hi => ?_) (fun i => h.f.fz i) (by simp [Value.oneCell'])
    · match i, hv with
      | 0, hv => injection hv with hv; rw [← hv]; exact h.f.c11
    · match i, hi with
      | 0, _ => show (w.cell? ⟨K.g, 12, none⟩).isSome = true; rw [h.f.c12]; rfl
  have H0 : Lw K (w.drew) Gw (z) t left := h.drewN 1
  have H1 : Lw K ((w.drew).setCell ⟨K.g, 12, none⟩ (.int .u32 (z.r0 : Int))) Gw (({ z with r1 := z.r0 } : Lzs)) t left := H0.put 12 (by decide) _ rfl rfl
  have HF : Lw K (((w.drew).setCell ⟨K.g, 12, none⟩ (.int .u32 (z.r0 : Int))).setCell ⟨K.g, 11, none⟩ (.int .u32 (z.r1 : Int))) Gw (z.again 1) t left := H1.put 11 (by decide) _ rfl rfl
  have HO : Only K.own w (((w.drew).setCell ⟨K.g, 12, none⟩ (.int .u32 (z.r0 : Int))).setCell ⟨K.g, 11, none⟩ (.int .u32 (z.r1 : Int))) := by
    have h0 : Only K.own w w.drew := (Only.refl _ w).drew
    have h1 := Only.own_put h0 12 (.int .u32 (z.r0 : Int))
    exact Only.own_put h1 11 (.int .u32 (z.r1 : Int))
  have H := Lib.hid (And.intro HF HO)
  have c11 := h.f.c11
  have c12 := h.f.c12
  have c13 := h.f.c13
  have c14 := h.f.c14
  have z11 := h.f.fz 11
  have z12 := h.f.fz 12
  have z13 := h.f.fz 13
  have z14 := h.f.fz 14
  clear h HF HO H0 H1
  go_enter Tryz.func154, Tryz.ntmps154
  go_wp2_with fail
  go_region
  all_goals go_wp2_with fail
  first | go_end0 | refine bodyPost_ret (results_none rfl _ _ _) rfl ?_
  exact ⟨rfl, H.out.1, H.out.2⟩

set_option maxRecDepth 100000 in
set_option maxHeartbeats 4000000 in
theorem lcome_2 (h : Lw K w Gw z t left) :
    Calls Tryz.prog 154 #[.pointer (some ⟨K.g, 11, none⟩), .int .i64 2] w (MidPost K w Gw (.tuple #[]) (z.again 2) t left) := by
  have hcp : (Builtin.copy_ #[189, 189] 3 #[.slice (some ⟨K.g, 12, none⟩) 2 3, .slice (some ⟨K.g, 11, none⟩) 2 4]).run Tryz.prog w.drew = .ok (goInt 2) (((w.drew).setCell ⟨K.g, 12, none⟩ (.int .u32 (z.r0 : Int))).setCell ⟨K.g, 13, none⟩ (.int .u32 (z.r1 : Int))) := by
    refine copy_reps (W := w.drew) (g := K.g) (o := 11) (n := 2) (m := 2) (k := 4) [.int .u32 (z.r0 : Int), .int .u32 (z.r1 : Int)] rfl (fun i v hv => ?_) (fun i hi => ?_) (fun i => h.f.fz i) (by simp [Value.oneCell'])
    · match i, hv with
      | 0, hv => injection hv with hv; rw [← hv]; exact h.f.c11
      | 1, hv => injection hv with hv; rw [← hv]; exact h.f.c12
    · match i, hi with
      | 0, _ => show (w.cell? ⟨K.g, 12, none⟩).isSome = true; rw [h.f.c12]; rfl
      | 1, _ => show (w.cell? ⟨K.g, 13, none⟩).isSome = true; rw [h.f.c13]; rfl
  have H0 : Lw K (w.drew) Gw (z) t left := h.drewN 1
  have H1 : Lw K ((w.drew).setCell ⟨K.g, 12, none⟩ (.int .u32 (z.r0 : Int))) Gw (({ z with r1 := z.r0 } : Lzs)) t left := H0.put 12 (by decide) _ rfl rfl
  have H2 : Lw K (((w.drew).setCell ⟨K.g, 12, none⟩ (.int .u32 (z.r0 : Int))).setCell ⟨K.g, 13, none⟩ (.int .u32 (z.r1 : Int))) Gw (({ ({ z with r1 := z.r0 } : Lzs) with r2 := z.r1 } : Lzs)) t left := H1.put 13 (by decide) _ rfl rfl
  have HF : Lw K ((((w.drew).setCell ⟨K.g, 12, none⟩ (.int .u32 (z.r0 : Int))).setCell ⟨K.g, 13, none⟩ (.int .u32 (z.r1 : Int))).setCell ⟨K.g, 11, none⟩ (.int .u32 (z.r2 : Int))) Gw (z.again 2) t left := H2.put 11 (by decide) _ rfl rfl
  have HO : Only K.own w ((((w.drew).setCell ⟨K.g, 12, none⟩ (.int .u32 (z.r0 : Int))).setCell ⟨K.g, 13, none⟩ (.int .u32 (z.r1 : Int))).setCell ⟨K.g, 11, none⟩ (.int .u32 (z.r2 : Int))) := by
    have h0 : Only K.own w w.drew := (Only.refl _ w).drew
    have h1 := Only.own_put h0 12 (.int .u32 (z.r0 : Int))
    have h2 := Only.own_put h1 13 (.int .u32 (z.r1 : Int))
    exact Only.own_put h2 11 (.int .u32 (z.r2 : Int))
  have H := Lib.hid (And.intro HF HO)
  have c11 := h.f.c11
  have c12 := h.f.c12
  have c13 := h.f.c13
  have c14 := h.f.c14
  have z11 := h.f.fz 11
  have z12 := h.f.fz 12
  have z13 := h.f.fz 13
  have z14 := h.f.fz 14
  clear h HF HO H0 H1 H2
  go_enter Tryz.func154, Tryz.ntmps154
  go_wp2_with fail
  go_region
  all_goals go_wp2_with fail
  first | go_end0 | refine bodyPost_ret (results_none rfl _ _ _) rfl ?_
  exact ⟨rfl, H.out.1, H.out.2⟩

set_option maxRecDepth 100000 in
set_option maxHeartbeats 4000000 in
theorem lcome_3 (h : Lw K w Gw z t left) :
    Calls Tryz.prog 154 #[.pointer (some ⟨K.g, 11, none⟩), .int .i64 3] w (MidPost K w Gw (.tuple #[]) (z.again 3) t left) := by
  have hcp : (Builtin.copy_ #[189, 189] 3 #[.slice (some ⟨K.g, 12, none⟩) 3 3, .slice (some ⟨K.g, 11, none⟩) 3 4]).run Tryz.prog w.drew = .ok (goInt 3) ((((w.drew).setCell ⟨K.g, 12, none⟩ (.int .u32 (z.r0 : Int))).setCell ⟨K.g, 13, none⟩ (.int .u32 (z.r1 : Int))).setCell ⟨K.g, 14, none⟩ (.int .u32 (z.r2 : Int))) := by
    refine copy_reps (W := w.drew) (g := K.g) (o := 11) (n := 3) (m := 3) (k := 4) [.int .u32 (z.r0 : Int), .int .u32 (z.r1 : Int), .int .u32 (z.r2 : Int)] rfl (fun i v hv => ?_) (fun i hi => ?_) (fun i => h.f.fz i) (by simp [Value.oneCell'])
    · match i, hv with
      | 0, hv => injection hv with hv; rw [← hv]; exact h.f.c11
      | 1, hv => injection hv with hv; rw [← hv]; exact h.f.c12
      | 2, hv => injection hv with hv; rw [← hv]; exact h.f.c13
    · match i, hi with
      | 0, _ => show (w.cell? ⟨K.g, 12, none⟩).isSome = true; rw [h.f.c12]; rfl
      | 1, _ => show (w.cell? ⟨K.g, 13, none⟩).isSome = true; rw [h.f.c13]; rfl
      | 2, _ => show (w.cell? ⟨K.g, 14, none⟩).isSome = true; rw [h.f.c14]; rfl
  have H0 : Lw K (w.drew) Gw (z) t left := h.drewN 1
  have H1 : Lw K ((w.drew).setCell ⟨K.g, 12, none⟩ (.int .u32 (z.r0 : Int))) Gw (({ z with r1 := z.r0 } : Lzs)) t left := H0.put 12 (by decide) _ rfl rfl
  have H2 : Lw K (((w.drew).setCell ⟨K.g, 12, none⟩ (.int .u32 (z.r0 : Int))).setCell ⟨K.g, 13, none⟩ (.int .u32 (z.r1 : Int))) Gw (({ ({ z with r1 := z.r0 } : Lzs) with r2 := z.r1 } : Lzs)) t left := H1.put 13 (by decide) _ rfl rfl
  have H3 : Lw K ((((w.drew).setCell ⟨K.g, 12, none⟩ (.int .u32 (z.r0 : Int))).setCell ⟨K.g, 13, none⟩ (.int .u32 (z.r1 : Int))).setCell ⟨K.g, 14, none⟩ (.int .u32 (z.r2 : Int))) Gw (({ ({ ({ z with r1 := z.r0 } : Lzs) with r2 := z.r1 } : Lzs) with r3 := z.r2 } : Lzs)) t left := H2.put 14 (by decide) _ rfl rfl
  have HF : Lw K (((((w.drew).setCell ⟨K.g, 12, none⟩ (.int .u32 (z.r0 : Int))).setCell ⟨K.g, 13, none⟩ (.int .u32 (z.r1 : Int))).setCell ⟨K.g, 14, none⟩ (.int .u32 (z.r2 : Int))).setCell ⟨K.g, 11, none⟩ (.int .u32 (z.r3 : Int))) Gw (z.again 3) t left := H3.put 11 (by decide) _ rfl rfl
  have HO : Only K.own w (((((w.drew).setCell ⟨K.g, 12, none⟩ (.int .u32 (z.r0 : Int))).setCell ⟨K.g, 13, none⟩ (.int .u32 (z.r1 : Int))).setCell ⟨K.g, 14, none⟩ (.int .u32 (z.r2 : Int))).setCell ⟨K.g, 11, none⟩ (.int .u32 (z.r3 : Int))) := by
    have h0 : Only K.own w w.drew := (Only.refl _ w).drew
    have h1 := Only.own_put h0 12 (.int .u32 (z.r0 : Int))
    have h2 := Only.own_put h1 13 (.int .u32 (z.r1 : Int))
    have h3 := Only.own_put h2 14 (.int .u32 (z.r2 : Int))
    exact Only.own_put h3 11 (.int .u32 (z.r3 : Int))
  have H := Lib.hid (And.intro HF HO)
  have c11 := h.f.c11
  have c12 := h.f.c12
  have c13 := h.f.c13
  have c14 := h.f.c14
  have z11 := h.f.fz 11
  have z12 := h.f.fz 12
  have z13 := h.f.fz 13
  have z14 := h.f.fz 14
  clear h HF HO H0 H1 H2 H3
  go_enter Tryz.func154, Tryz.ntmps154
  go_wp2_with fail
  go_region
  all_goals go_wp2_with fail
  first | go_end0 | refine bodyPost_ret (results_none rfl _ _ _) rfl ?_
  exact ⟨rfl, H.out.1, H.out.2⟩

set_option maxRecDepth 100000 in
set_option maxHeartbeats 4000000 in
theorem lpush_any {d : Nat} (h : Lw K w Gw z t left) :
    Calls Tryz.prog 153 #[.pointer (some ⟨K.g, 11, none⟩), .int .u32 (d : Int)] w (MidPost K w Gw (.tuple #[]) (({ z with r0 := d, r1 := z.r0, r2 := z.r1, r3 := z.r2 } : Lzs)) t left) := by
  have hcp : (Builtin.copy_ #[189, 189] 3 #[.slice (some ⟨K.g, 12, none⟩) 3 3, .slice (some ⟨K.g, 11, none⟩) 4 4]).run Tryz.prog w.drew = .ok (goInt 3) ((((w.drew).setCell ⟨K.g, 12, none⟩ (.int .u32 (z.r0 : Int))).setCell ⟨K.g, 13, none⟩ (.int .u32 (z.r1 : Int))).setCell ⟨K.g, 14, none⟩ (.int .u32 (z.r2 : Int))) := by
    refine copy_reps (W := w.drew) (g := K.g) (o := 11) (n := 3) (m := 4) (k := 4) [.int .u32 (z.r0 : Int), .int .u32 (z.r1 : Int), .int .u32 (z.r2 : Int)] rfl (fun i v hv => ?_) (fun i hi => ?_) (fun i => h.f.fz i) (by simp [Value.oneCell'])
    · match i, hv with
      | 0, hv => injection hv with hv; rw [← hv]; exact h.f.c11
      | 1, hv => injection hv with hv; rw [← hv]; exact h.f.c12
      | 2, hv => injection hv with hv; rw [← hv]; exact h.f.c13
    · match i, hi with
      | 0, _ => show (w.cell? ⟨K.g, 12, none⟩).isSome = true; rw [h.f.c12]; rfl
      | 1, _ => show (w.cell? ⟨K.g, 13, none⟩).isSome = true; rw [h.f.c13]; rfl
      | 2, _ => show (w.cell? ⟨K.g, 14, none⟩).isSome = true; rw [h.f.c14]; rfl
  have H0 : Lw K (w.drew) Gw (z) t left := h.drewN 1
  have H1 : Lw K ((w.drew).setCell ⟨K.g, 12, none⟩ (.int .u32 (z.r0 : Int))) Gw (({ z with r1 := z.r0 } : Lzs)) t left := H0.put 12 (by decide) _ rfl rfl
  have H2 : Lw K (((w.drew).setCell ⟨K.g, 12, none⟩ (.int .u32 (z.r0 : Int))).setCell ⟨K.g, 13, none⟩ (.int .u32 (z.r1 : Int))) Gw (({ ({ z with r1 := z.r0 } : Lzs) with r2 := z.r1 } : Lzs)) t left := H1.put 13 (by decide) _ rfl rfl
  have H3 : Lw K ((((w.drew).setCell ⟨K.g, 12, none⟩ (.int .u32 (z.r0 : Int))).setCell ⟨K.g, 13, none⟩ (.int .u32 (z.r1 : Int))).setCell ⟨K.g, 14, none⟩ (.int .u32 (z.r2 : Int))) Gw (({ ({ ({ z with r1 := z.r0 } : Lzs) with r2 := z.r1 } : Lzs) with r3 := z.r2 } : Lzs)) t left := H2.put 14 (by decide) _ rfl rfl
  have HF : Lw K (((((w.drew).setCell ⟨K.g, 12, none⟩ (.int .u32 (z.r0 : Int))).setCell ⟨K.g, 13, none⟩ (.int .u32 (z.r1 : Int))).setCell ⟨K.g, 14, none⟩ (.int .u32 (z.r2 : Int))).setCell ⟨K.g, 11, none⟩ (.int .u32 (d : Int))) Gw (({ z with r0 := d, r1 := z.r0, r2 := z.r1, r3 := z.r2 } : Lzs)) t left := H3.put 11 (by decide) _ rfl rfl
  have HO : Only K.own w (((((w.drew).setCell ⟨K.g, 12, none⟩ (.int .u32 (z.r0 : Int))).setCell ⟨K.g, 13, none⟩ (.int .u32 (z.r1 : Int))).setCell ⟨K.g, 14, none⟩ (.int .u32 (z.r2 : Int))).setCell ⟨K.g, 11, none⟩ (.int .u32 (d : Int))) := by
    have h0 : Only K.own w w.drew := (Only.refl _ w).drew
    have h1 := Only.own_put h0 12 (.int .u32 (z.r0 : Int))
    have h2 := Only.own_put h1 13 (.int .u32 (z.r1 : Int))
    have h3 := Only.own_put h2 14 (.int .u32 (z.r2 : Int))
    exact Only.own_put h3 11 (.int .u32 (d : Int))
  have H := Lib.hid (And.intro HF HO)
  have c11 := h.f.c11
  have c12 := h.f.c12
  have c13 := h.f.c13
  have c14 := h.f.c14
  have z11 := h.f.fz 11
  have z12 := h.f.fz 12
  have z13 := h.f.fz 13
  have z14 := h.f.fz 14
  clear h HF HO H0 H1 H2 H3
  go_enter Tryz.func153, Tryz.ntmps153
  go_wp2_with fail
  go_region
  all_goals go_wp2_with fail
  first | go_end0 | refine bodyPost_ret (results_none rfl _ _ _) rfl ?_
  exact ⟨rfl, H.out.1, H.out.2⟩

theorem lcome_any {j : Nat} (h1 : 1 ≤ j) (h3 : j ≤ 3) (h : Lw K w Gw z t left) :
    Calls Tryz.prog 154 #[.pointer (some ⟨K.g, 11, none⟩), .int .i64 (j : Int)] w (MidPost K w Gw (.tuple #[]) (z.again j) t left) := by
  match j, h1, h3 with
  | 1, _, _ => exact lcome_1 h
  | 2, _, _ => exact lcome_2 h
  | 3, _, _ => exact lcome_3 h
end
end Go.Proofs.YtoencondpbkomaaGreatDoor
