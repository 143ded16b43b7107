/-
  LwLen, LwDist, PkReps: put together.
-/
import Derived.Test.YtjgdjobhhdhfjaaSa14
import Derived.Test.YtjgdjobhhdhfjaaSa01
import Derived.Laws.IdiomCopy
set_option linter.unusedVariables false
set_option linter.unusedSimpArgs false
/-
  The program's decoder of LZMA: a length.
-/
namespace Go.Proofs.Ytjgdjobhhdhfjaa
open Go.RowKit

def LenPost (K : Kon) (w : World) (Gw : Nat → Prop) (z : Lzs) (r : Nat × Pm Dc) (left : Nat) (e : Ending) (w' : World) : Prop :=
  ∃ v : Nat, MidPost K w Gw (.int .i64 (v : Int)) z r.2 left e w' ∧ v < 272 ∧ (r.2.x ≠ none → v = r.1)
theorem alive_le {t : Pm Dc} {u n : Nat} (h : u < n) : Alive t 0 u < n := by unfold Alive; split <;> omega
theorem alive_is {t : Pm Dc} {u : Nat} (h : t.x ≠ none) : Alive t 0 u = u := by unfold Alive; rw [if_neg h]

section
variable {K : Kon} {w w' : World} {Gw : Nat → Prop} {z : Lzs} {t : Pm Dc} {left : Nat}

set_option maxRecDepth 100000 in
set_option maxHeartbeats 4000000 in
theorem llen_any {A o s : Nat} {v : Int} (h : Lw K w Gw z t left) (hp : z.pb ≤ 4) (ho : z.out.length ≤ 1000000) (hA : 688 ≤ A) (hA2 : A + 514 ≤ 1847) (hoA : o = 15 + (A - 256)) (hs : s = z.out.length % 2 ^ z.pb) :
    Calls Try.prog 120 #[.pointer (some ⟨K.g, 0, none⟩), .pointer (some ⟨K.g, o, none⟩)] w (LenPost K w Gw z (lenP decM t A s v) left) := by
  have hs15 : s ≤ 15 := by rw [hs]; exact mod_pb hp
  have KP := lplace_mid h hp ho
  rw [← hs] at KP
  have KP := Lib.hid KP
  have hb1 := bitP_ok decM_ok (k := 0) (a := A) (w := min (v.tdiv 8) 1) (okD_any h.mch.ok) (by omega) (fun h => by cases h)
  have hdef : lenP decM t A s v = lenA decM (bitP decM t A (min (v.tdiv 8) 1)) A s v := rfl
  rw [hdef]
  have KB := Lib.hid (fun (w1 : World) (h1 : Lw K w1 Gw z t left) => (h1.drewN 1).bit (a := A) (b := K.g) (i := o) (min (v.tdiv 8) 1) (Kon.ad_rest (by omega) (by omega) hoA) (by omega))
  obtain ⟨B, hB⟩ : ∃ B, B = bitP decM t A (min (v.tdiv 8) 1) := ⟨_, rfl⟩
  rw [← hB] at KB hb1 ⊢
  have j1 : (s : Int) < 16 := by omega
  have j0 : (0 : Int) ≤ (s : Int) := by omega
  by_cases hu : B.1 = 0
  · have KT := Lib.hid (fun (w1 : World) (h1 : Lw K w1 Gw z B.2 left) => (h1.drewN 1).tree (a := A + 2 + 8 * s) (n := 3) (b := K.g) (o := o + 2 + s * 8) (len := 8) (cap := 8) v (fun m hm => Kon.ad_rest (by omega) (by have : m < 8 := hm; omega) (by omega)) (by show A + 2 + 8 * s + 8 ≤ _; omega) (by decide) (by decide))
    have hlt := (treeP_ok decM_ok (k := 0) (a := A + 2 + 8 * s) (n := 3) (v := v) (okD_any hb1.2) (by show A + 2 + 8 * s + 8 ≤ _; omega) (fun h => by cases h)).1
    have hres : lenA decM B A s v = treeP decM B.2 (A + 2 + 8 * s) 3 v := by unfold lenA; rw [if_pos hu]
    rw [hres]
    obtain ⟨T, hT⟩ : ∃ T, T = treeP decM B.2 (A + 2 + 8 * s) 3 v := ⟨_, rfl⟩
    rw [← hT] at KT hlt ⊢
    have hu2 : ((B.1 : Int) == 0) = true := by simp [hu]
    have hlt : T.1 < 8 := hlt
    have HX := Lib.hid hlt
    clear h hs hB hT hu hres hdef hb1 hA hA2 hoA hs15 hp ho hlt
    go_enter Try.func120, Try.ntmps120
    go_wp2_with fail
    refine KP.out.mono ?_
    rintro e w1 ⟨rfl, hz1, ho1⟩
    have HO1 := Lib.hid ho1
    have c5 := hz1.f.c5
    have KB := Lib.hid (KB.out w1 hz1)
    clear KP hz1 ho1
    go_wp2_with fail
    go_still_tail 7, (by kernel_rfl)
    change wpList _ _ _ _ _ w1.drew
    go_wp2_with fail
    refine KB.out.mono ?_
    rintro e w2 ⟨rfl, hz2, ho2⟩
    have HO2 := Lib.hid (HO1.out.trans (Only.of_drewN ho2))
    have e5 := hz2.f.c5
    have KC := Lib.hid (KT.out w2 hz2)
    clear hz2 ho2 KB KT c5
    go_wp2_with fail
    go_still_tail 10, (by kernel_rfl)
    change wpList _ _ _ _ _ w2.drew
    go_wp2_with fail
    refine KC.out.mono ?_
    rintro e w3 ⟨rfl, hz3, ho3⟩
    have HZ3 := Lib.hid hz3
    have HO3 := Lib.hid (HO2.out.trans (Only.of_drewN ho3))
    clear hz3 ho3 KC
    go_wp2_with fail
    go_ret
    exact ⟨Alive T.2 0 T.1, ⟨rfl, HZ3.out, HO3.out⟩, by have := alive_le (t := T.2) HX.out; omega, fun hx => alive_is hx⟩
  · have hu2 : ((B.1 : Int) == 0) = false := by simp; omega
    have KB2 := Lib.hid (fun (w1 : World) (h1 : Lw K w1 Gw z B.2 left) => (h1.drewN 1).bit (a := A + 1) (b := K.g) (i := o + 1) (min (v.tdiv 16) 1) (Kon.ad_rest (by omega) (by omega) (by omega)) (by omega))
    have hb2 := bitP_ok decM_ok (k := 0) (a := A + 1) (w := min (v.tdiv 16) 1) (okD_any hb1.2) (by omega) (fun h => by cases h)
    have hres : lenA decM B A s v = lenB decM (bitP decM B.2 (A + 1) (min (v.tdiv 16) 1)) A s v := by unfold lenA; rw [if_neg hu]
    rw [hres]
    obtain ⟨B2, hB2⟩ : ∃ B2, B2 = bitP decM B.2 (A + 1) (min (v.tdiv 16) 1) := ⟨_, rfl⟩
    rw [← hB2] at KB2 hb2 ⊢
    by_cases hv : B2.1 = 0
    · have KT := Lib.hid (fun (w1 : World) (h1 : Lw K w1 Gw z B2.2 left) => (h1.drewN 1).tree (a := A + 130 + 8 * s) (n := 3) (b := K.g) (o := o + 130 + s * 8) (len := 8) (cap := 8) (v - 8) (fun m hm => Kon.ad_rest (by omega) (by have : m < 8 := hm; omega) (by omega)) (by show A + 130 + 8 * s + 8 ≤ _; omega) (by decide) (by decide))
      have hlt := (treeP_ok decM_ok (k := 0) (a := A + 130 + 8 * s) (n := 3) (v := v - 8) (okD_any hb2.2) (by show A + 130 + 8 * s + 8 ≤ _; omega) (fun h => by cases h)).1
      have hres2 : lenB decM B2 A s v = (8 + (treeP decM B2.2 (A + 130 + 8 * s) 3 (v - 8)).1, (treeP decM B2.2 (A + 130 + 8 * s) 3 (v - 8)).2) := by unfold lenB; rw [if_pos hv]
      rw [hres2]
      obtain ⟨T, hT⟩ : ∃ T, T = treeP decM B2.2 (A + 130 + 8 * s) 3 (v - 8) := ⟨_, rfl⟩
      rw [← hT] at KT hlt ⊢
      have hv2 : ((B2.1 : Int) == 0) = true := by simp [hv]
      have hlt : T.1 < 8 := hlt
      obtain ⟨x, hx⟩ : ∃ x, x = Alive T.2 0 T.1 := ⟨_, rfl⟩
      have hx8 : x < 8 := by rw [hx]; exact alive_le hlt
      have e7 : IntKind.i64.wrap (8 + (x : Int)) = ((8 + x : Nat) : Int) := by rw [show 8 + (x : Int) = ((8 + x : Nat) : Int) by omega]; exact IntWalk.i64_in _ (by omega)
      unfold TreePost at KT
      rw [← hx] at KT
      have HX := Lib.hid (And.intro hx hx8)
      clear h hs hB hB2 hT hu hv hres hres2 hdef hb1 hb2 hA hA2 hoA hs15 hp ho hlt hx hx8
      go_enter Try.func120, Try.ntmps120
      go_wp2_with fail
      refine KP.out.mono ?_
      rintro e w1 ⟨rfl, hz1, ho1⟩
      have HO1 := Lib.hid ho1
      have c5 := hz1.f.c5
      have KB := Lib.hid (KB.out w1 hz1)
      clear KP hz1 ho1
      go_wp2_with fail
      go_still_tail 7, (by kernel_rfl)
      change wpList _ _ _ _ _ w1.drew
      go_wp2_with fail
      refine KB.out.mono ?_
      rintro e w2 ⟨rfl, hz2, ho2⟩
      have HO2 := Lib.hid (HO1.out.trans (Only.of_drewN ho2))
      have e5 := hz2.f.c5
      have KC := Lib.hid (KB2.out w2 hz2)
      clear hz2 ho2 KB KB2 c5
      go_wp2_with fail
      go_still_tail 7, (by kernel_rfl)
      change wpList _ _ _ _ _ w2.drew
      go_wp2_with fail
      refine KC.out.mono ?_
      rintro e w3 ⟨rfl, hz3, ho3⟩
      have HO3 := Lib.hid (HO2.out.trans (Only.of_drewN ho3))
      have f5 := hz3.f.c5
      have KD := Lib.hid (KT.out w3 hz3)
      clear hz3 ho3 KC KT HO2 e5
      go_wp2_with fail
      go_still_tail 10, (by kernel_rfl)
      change wpList _ _ _ _ _ w3.drew
      go_wp2_with fail
      refine KD.out.mono ?_
      rintro e w4 ⟨rfl, hz4, ho4⟩
      have HZ4 := Lib.hid hz4
      have HO4 := Lib.hid (HO3.out.trans (Only.of_drewN ho4))
      clear hz4 ho4 KD
      go_wp2_with fail
      go_ret
      exact ⟨8 + x, ⟨rfl, HZ4.out, HO4.out⟩, by have := HX.out; omega, fun hn => by have := HX.out.1; rw [alive_is hn] at this; dsimp only; omega⟩
    · have KT := Lib.hid (fun (w1 : World) (h1 : Lw K w1 Gw z B2.2 left) => (h1.drewN 1).tree (a := A + 258) (n := 8) (b := K.g) (o := o + 258) (len := 256) (cap := 256) (v - 16) (fun m hm => Kon.ad_rest (by omega) (by have : m < 256 := hm; omega) (by omega)) (by show A + 258 + 256 ≤ _; omega) (by decide) (by decide))
      have hlt := (treeP_ok decM_ok (k := 0) (a := A + 258) (n := 8) (v := v - 16) (okD_any hb2.2) (by show A + 258 + 256 ≤ _; omega) (fun h => by cases h)).1
      have hres2 : lenB decM B2 A s v = (16 + (treeP decM B2.2 (A + 258) 8 (v - 16)).1, (treeP decM B2.2 (A + 258) 8 (v - 16)).2) := by unfold lenB; rw [if_neg hv]
      rw [hres2]
      obtain ⟨T, hT⟩ : ∃ T, T = treeP decM B2.2 (A + 258) 8 (v - 16) := ⟨_, rfl⟩
      rw [← hT] at KT hlt ⊢
      have hv2 : ((B2.1 : Int) == 0) = false := by simp; omega
      have hlt : T.1 < 256 := hlt
      obtain ⟨x, hx⟩ : ∃ x, x = Alive T.2 0 T.1 := ⟨_, rfl⟩
      have hx8 : x < 256 := by rw [hx]; exact alive_le hlt
      have e7 : IntKind.i64.wrap (16 + (x : Int)) = ((16 + x : Nat) : Int) := by rw [show 16 + (x : Int) = ((16 + x : Nat) : Int) by omega]; exact IntWalk.i64_in _ (by omega)
      unfold TreePost at KT
      rw [← hx] at KT
      have HX := Lib.hid (And.intro hx hx8)
      clear h hs hB hB2 hT hu hv hres hres2 hdef hb1 hb2 hA hA2 hoA hs15 hp ho hlt hx hx8
      go_enter Try.func120, Try.ntmps120
      go_wp2_with fail
      refine KP.out.mono ?_
      rintro e w1 ⟨rfl, hz1, ho1⟩
      have HO1 := Lib.hid ho1
      have c5 := hz1.f.c5
      have KB := Lib.hid (KB.out w1 hz1)
      clear KP hz1 ho1
      go_wp2_with fail
      go_still_tail 7, (by kernel_rfl)
      change wpList _ _ _ _ _ w1.drew
      go_wp2_with fail
      refine KB.out.mono ?_
      rintro e w2 ⟨rfl, hz2, ho2⟩
      have HO2 := Lib.hid (HO1.out.trans (Only.of_drewN ho2))
      have e5 := hz2.f.c5
      have KC := Lib.hid (KB2.out w2 hz2)
      clear hz2 ho2 KB KB2 c5
      go_wp2_with fail
      go_still_tail 7, (by kernel_rfl)
      change wpList _ _ _ _ _ w2.drew
      go_wp2_with fail
      refine KC.out.mono ?_
      rintro e w3 ⟨rfl, hz3, ho3⟩
      have HO3 := Lib.hid (HO2.out.trans (Only.of_drewN ho3))
      have f5 := hz3.f.c5
      have KD := Lib.hid (KT.out w3 hz3)
      clear hz3 ho3 KC KT HO2 e5
      go_wp2_with fail
      go_still_tail 8, (by kernel_rfl)
      change wpList _ _ _ _ _ w3.drew
      go_wp2_with fail
      refine KD.out.mono ?_
      rintro e w4 ⟨rfl, hz4, ho4⟩
      have HZ4 := Lib.hid hz4
      have HO4 := Lib.hid (HO3.out.trans (Only.of_drewN ho4))
      clear hz4 ho4 KD
      go_wp2_with fail
      go_ret
      exact ⟨16 + x, ⟨rfl, HZ4.out, HO4.out⟩, by have := HX.out; omega, fun hn => by have := HX.out.1; rw [alive_is hn] at this; dsimp only; omega⟩
end
end Go.Proofs.Ytjgdjobhhdhfjaa

/-
  The program's decoder of LZMA: a distance.
-/
namespace Go.Proofs.Ytjgdjobhhdhfjaa
open Go.RowKit

def DistPost1 (K : Kon) (w : World) (Gw : Nat → Prop) (z : Lzs) (r : Nat × Pm Dc) (left : Nat) (e : Ending) (w' : World) : Prop :=
  ∃ v : Nat, MidPost K w Gw (.int .u32 (v : Int)) z r.2 left e w' ∧ v < 4294967296 ∧ (r.2.x ≠ none → v = r.1)

section
variable {K : Kon} {w w' : World} {Gw : Nat → Prop} {z : Lzs} {t : Pm Dc} {left : Nat}

set_option maxRecDepth 100000 in
set_option maxHeartbeats 8000000 in
theorem ldist_any {l : Nat} (v : Nat) (h : Lw K w Gw z t left) (hl : l ≤ 1000) (hv : v < 4294967296) :
    Calls Try.prog 121 #[.pointer (some ⟨K.g, 0, none⟩), .int .i64 (l : Int)] w (DistPost1 K w Gw z (distP decM t l v) left) := by
  obtain ⟨ml, hml⟩ : ∃ m, m = min l 3 := ⟨_, rfl⟩
  obtain ⟨a, ha⟩ : ∃ a, a = 432 + 64 * ml := ⟨_, rfl⟩
  have hT := treeP_ok decM_ok (k := 0) (n := 6) (a := a) (v := ((slotOf v : Nat) : Int)) (t := t) (okD_any h.mch.ok) (by show a + 64 ≤ _; omega) (fun h => by cases h)
  have hKT := fun n => (h.drewN n).tree (a := a) (n := 6) (b := K.g) (o := 15 + 1591 + ml * 64) (len := 64) (cap := 64) ((slotOf v : Nat) : Int) (fun m hm => Kon.ad_slot (by omega) (by have : m < 64 := hm; omega) (by omega)) (by show a + 64 ≤ _; omega) (by decide) (by decide)
  have HKS := Lib.hid (fun w => pslot_any (g := K.g) (o0 := 15) hml w)
  have hbound := (distP_ok decM_ok (k := 0) (l := l) (v := v) (L := 1847 + K.nl) (okD_any h.mch.ok) (by omega) hv).1
  have hdef : distP decM t l v = distB decM (treeP decM t a 6 ((slotOf v : Nat) : Int)) v := by rw [ha, hml]; rfl
  rw [hdef] at hbound ⊢
  obtain ⟨sl, hsl⟩ : ∃ sl, sl = treeP decM t a 6 ((slotOf v : Nat) : Int) := ⟨_, rfl⟩
  rw [← hsl] at hT hKT hbound ⊢
  have hs64 : sl.1 < 64 := hT.1
  have hp1 := hT.2
  obtain ⟨x, hx⟩ : ∃ x, x = Alive sl.2 0 sl.1 := ⟨_, rfl⟩
  have hx64 : x < 64 := by rw [hx]; exact alive_le hs64
  unfold TreePost at hKT
  rw [← hx] at hKT
  have HKT := Lib.hid hKT
  have c5 := h.f.c5
  have c5f := Lib.hid (fun (w1 : World) (h1 : Lw K w1 Gw z sl.2 left) => h1.f.c5)
  clear hT hKT hdef h hml ha hsl hl
  by_cases h4 : x < 4
  · have hres : (distB decM sl v).2 = sl.2 ∧ ((distB decM sl v).2.x ≠ none → x = (distB decM sl v).1) := by
      by_cases hd : sl.2.x = none
      · refine ⟨distB_none hd, fun h => absurd ?_ h⟩
        rw [distB_none hd]
        exact hd
      · have e : x = sl.1 := by rw [hx]; exact alive_is hd
        have : distB decM sl v = sl := by unfold distB; rw [if_pos (by omega)]
        rw [this]
        exact ⟨rfl, fun _ => e⟩
    unfold DistPost1
    rw [hres.1]
    have HR := Lib.hid (show sl.2.x ≠ none → x = (distB decM sl v).1 from fun h => hres.2 (by rw [hres.1]; exact h))
    have g4 : (x : Int) < 4 := by omega
    have e1 : IntKind.u32.wrap (x : Int) = (x : Int) := u32_of _ (by omega) (by omega)
    have HX4 := Lib.hid h4
    clear hres h4 hs64 hp1 hx hx64 hv hbound c5f
    go_enter Try.func121, Try.ntmps121
    go_wp2_with fail
    go_region_held3 (fun w' => w'.cell? ⟨K.g, 5, none⟩ = some (.pointer (some ⟨K.dg, 0, none⟩))) (first | assumption | go_keep | exact c5) (first | (go_at_call 126; refine (HKS.out _).mono ?_; rintro e w1 ⟨rfl, rfl⟩) | (go_at_call 80; refine (HKT.out _).mono ?_; rintro e w2 ⟨rfl, hz2, ho2⟩; have e5 := hz2.f.c5; have HZ2 := Lib.hid hz2; have HO2 := Lib.hid (Only.of_drewN ho2); clear hz2 ho2))
    clear HKT c5 e5
    go_wp2_with fail
    go_ret
    exact ⟨x, ⟨rfl, HZ2.out, HO2.out⟩, by have := HX4.out; omega, HR.out⟩
  · have hd : sl.2.x ≠ none := fun hd => by
      rw [hx] at h4
      unfold Alive at h4
      rw [if_pos hd] at h4
      omega
    obtain rfl : x = sl.1 := by rw [hx]; exact alive_is hd
    obtain ⟨n, hn⟩ : ∃ n, n = sl.1 / 2 - 1 := ⟨_, rfl⟩
    obtain ⟨q, hq⟩ : ∃ q, q = sl.1 / 2 := ⟨_, rfl⟩
    obtain ⟨r, hr⟩ : ∃ r, r = sl.1 % 2 := ⟨_, rfl⟩
    obtain ⟨P, hP⟩ : ∃ P, P = 2 ^ n := ⟨_, rfl⟩
    obtain ⟨base, hb⟩ : ∃ b, b = (2 + r) * P := ⟨_, rfl⟩
    have hn30 : n ≤ 30 := by omega
    have hP30 : P ≤ 2 ^ 30 := by rw [hP]; exact pow_le_of hn30
    have hb3 : base ≤ 3 * P := by rw [hb]; exact Nat.mul_le_mul_right P (by omega)
    have g4 : ¬ (sl.1 : Int) < 4 := by omega
    have e1 : (sl.1 : Int) / 2 = (q : Int) := by omega
    have e1' : (sl.1 : Int).tdiv 2 = (q : Int) := by rw [Int.tdiv_eq_ediv_of_nonneg (by omega)]; exact e1
    have e2 : IntKind.i64.wrap (q : Int) = (q : Int) := IntWalk.i64_in _ (by omega)
    have e3 : IntKind.i64.wrap ((q : Int) - 1) = (n : Int) := by rw [show (q : Int) - 1 = (n : Int) by omega]; exact IntWalk.i64_in _ (by omega)
    have e4 : (sl.1 : Int).tmod 2 = (r : Int) := by rw [Int.tmod_eq_emod_of_nonneg (by omega)]; omega
    have e5 : IntKind.i64.wrap (r : Int) = (r : Int) := IntWalk.i64_in _ (by omega)
    have e6 : IntKind.i64.wrap (2 + (r : Int)) = 2 + (r : Int) := IntWalk.i64_in _ (by omega)
    have e6' : IntKind.u32.wrap (2 + (r : Int)) = 2 + (r : Int) := u32_of _ (by omega) (by omega)
    have e7 : IntKind.u32.wrap ((2 + (r : Int)) * 2 ^ n) = (base : Int) := by
      have hc : (2 + (r : Int)) * 2 ^ n = (base : Int) := by rw [cast_pow2, ← hP, hb, Int.natCast_mul, Int.natCast_add]; rfl
      rw [hc]
      exact u32_of _ (by omega) (by omega)
    have e8 : min n 32 = n := by omega
    have e9 : (0 : Int) ≤ (n : Int) := by omega
    by_cases h14 : sl.1 < 14
    · obtain ⟨c1, c2, c3⟩ := special_in ⟨sl.1, h14⟩ (by show 4 ≤ sl.1; omega)
      dsimp only at c1 c2 c3
      rw [← hn, ← hr, ← hP, ← hb] at c1
      rw [← hn] at c3
      have hbs : sl.1 ≤ base := by
        have hlow := (show ∀ s : Fin 14, 4 ≤ s.val → s.val ≤ (2 + s.val % 2) * 2 ^ (s.val / 2 - 1) by decide) ⟨sl.1, h14⟩ (by show 4 ≤ sl.1; omega)
        dsimp only at hlow
        rw [← hn, ← hr, ← hP, ← hb] at hlow
        exact hlow
      obtain ⟨lo, hlo⟩ : ∃ lo, lo = base - sl.1 := ⟨_, rfl⟩
      obtain ⟨ad, had⟩ : ∃ ad, ad = 688 + base - sl.1 := ⟨_, rfl⟩
      obtain ⟨u, hu⟩ : ∃ u : Int, u = (v : Int) - (base : Int) := ⟨_, rfl⟩
      have hR := (revP_ok decM_ok (k := 0) (n := n) (a := ad) (v := u) (okD_any hp1) (by rw [← hP]; omega) (fun h => by cases h)).1
      rw [← hP] at hR
      have HKR := Lib.hid (fun (w1 : World) (h1 : Lw K w1 Gw z sl.2 left) => (h1.drewN 1).rev (a := ad) (n := n) (b := K.g) (o := 447 + lo) (len := 115 - lo) (cap := 115 - lo) u (fun m hm => Kon.ad_rest (by omega) (by rw [← hP] at hm; omega) (by omega)) (by rw [← hP]; omega) (by rw [← hP]; omega) (by omega))
      have hres : distB decM sl v = (base + (revP decM sl.2 ad n u).1, (revP decM sl.2 ad n u).2) := by
        unfold distB
        rw [if_neg h4, if_pos h14, ← hn, ← hr, ← hP, ← hb, ← had, ← hu]
      rw [hres] at hbound ⊢
      obtain ⟨T, hTT⟩ : ∃ T, T = revP decM sl.2 ad n u := ⟨_, rfl⟩
      rw [← hTT] at hR HKR hbound ⊢
      obtain ⟨o, ho⟩ : ∃ o, o = Alive T.2 0 T.1 := ⟨_, rfl⟩
      have ho2 : o < P := by rw [ho]; exact alive_le hR
      unfold TreePost at HKR
      rw [← ho] at HKR
      have g14 : (sl.1 : Int) < 14 := by omega
      have f0 : IntKind.i64.wrap (base : Int) = (base : Int) := IntWalk.i64_in _ (by omega)
      have f1 : IntKind.i64.wrap ((base : Int) - (sl.1 : Int)) = (lo : Int) := by rw [show (base : Int) - (sl.1 : Int) = (lo : Int) by omega]; exact IntWalk.i64_in _ (by omega)
      have f2 : (lo : Int) ≤ 115 := by omega
      have f2' : (0 : Int) ≤ (lo : Int) := by omega
      have f2'' : ¬ 115 = lo := by have := Nat.two_pow_pos n; omega
      have f3 : IntKind.u32.wrap (o : Int) = (o : Int) := u32_of _ (by omega) (by omega)
      have f4 : IntKind.u32.wrap ((base : Int) + (o : Int)) = ((base + o : Nat) : Int) := by rw [show (base : Int) + (o : Int) = ((base + o : Nat) : Int) by omega]; exact u32_of _ (by omega) (by omega)
      have HX := Lib.hid (show base + o < 4294967296 ∧ (T.2.x ≠ none → base + o = base + T.1) from ⟨by omega, fun h => by rw [ho, alive_is h]⟩)
      clear hres h4 h14 hs64 hp1 hx hx64 hv hbound hd hn hq hr hP hb hn30 hP30 hb3 c1 c2 c3 had hu hR ho ho2 hTT hbs hlo c5f
      go_enter Try.func121, Try.ntmps121
      go_wp2_with fail
      go_region_held3 (fun w' => w'.cell? ⟨K.g, 5, none⟩ = some (.pointer (some ⟨K.dg, 0, none⟩))) (first | assumption | go_keep | exact c5) (first | (go_at_call 126; refine (HKS.out _).mono ?_; rintro e w1 ⟨rfl, rfl⟩) | (go_at_call 80; refine (HKT.out _).mono ?_; rintro e w2 ⟨rfl, hz2, ho2⟩; have e5 := hz2.f.c5; have HZ2 := Lib.hid hz2; have HO2 := Lib.hid (Only.of_drewN ho2); clear hz2 ho2))
      have HR2 := Lib.hid (HKR.out w2 HZ2.out)
      have d5 := HZ2.out.f.c5
      clear HZ2 HKT HKR c5
      go_wp2_with fail
      go_region_held3 (fun w' => w'.cell? ⟨K.g, 5, none⟩ = some (.pointer (some ⟨K.dg, 0, none⟩))) (first | assumption | go_keep | exact d5) (first | (go_at_call 131; refine HR2.out.mono ?_; rintro e w3 ⟨rfl, hz3, ho3⟩; have d6 := hz3.f.c5; have HZ3 := Lib.hid hz3; have HO3 := Lib.hid (HO2.out.trans (Only.of_drewN ho3)); clear hz3 ho3))
      go_wp2_with fail
      go_ret
      exact ⟨base + o, ⟨rfl, HZ3.out, HO3.out⟩, HX.out.1, HX.out.2⟩
    · have hn5 : 6 ≤ n := by omega
      obtain ⟨rest, hrest⟩ : ∃ x, x = (v + 4294967296 - base) % 4294967296 / 16 := ⟨_, rfl⟩
      obtain ⟨n4, hn4⟩ : ∃ x, x = n - 4 := ⟨_, rfl⟩
      obtain ⟨P4, hP4⟩ : ∃ P, P = 2 ^ n4 := ⟨_, rfl⟩
      have hPP : P = 16 * P4 := by rw [hP, hP4, hn4, show (16 : Nat) = 2 ^ 4 from rfl, ← Nat.pow_add, show 4 + (n - 4) = n by omega]
      have hSt := straightD_ok (n := n4) (d := sl.2.x) hp1.x
      have HKSS := Lib.hid (fun (w1 : World) (h1 : Lw K w1 Gw z sl.2 left) => h1.straight (n := n4) (by omega))
      obtain ⟨hi, hhi⟩ : ∃ h, h = straightD n4 sl.2.x := ⟨_, rfl⟩
      rw [← hhi] at hSt HKSS
      have hh4 := hSt.2
      rw [← hP4] at hh4
      have hp2 : PmOk okD (1847 + K.nl) 0 (⟨sl.2.ps, hi.2⟩ : Pm Dc) := ⟨hp1.ps, hp1.len, hSt.1⟩
      obtain ⟨u, hu⟩ : ∃ u : Int, u = ((v % 16 : Nat) : Int) := ⟨_, rfl⟩
      have hR := (revP_ok decM_ok (k := 0) (n := 4) (a := 803) (v := u) (okD_any hp2) (by show 803 + 16 ≤ _; omega) (fun h => by cases h)).1
      have HKR := Lib.hid (fun (w1 : World) (h1 : Lw K w1 Gw z (⟨sl.2.ps, hi.2⟩ : Pm Dc) left) => (h1.drewN 1).rev (a := 803) (n := 4) (b := K.g) (o := 562) (len := 16) (cap := 16) u (fun m hm => Kon.ad_rest (by omega) (by have : m < 16 := hm; omega) (by omega)) (by show 803 + 16 ≤ _; omega) (by decide) (by decide))
      have hres : distB decM sl v = (base + 16 * hi.1 + (revP decM ⟨sl.2.ps, hi.2⟩ 803 4 u).1, (revP decM ⟨sl.2.ps, hi.2⟩ 803 4 u).2) := by
        unfold distB
        rw [if_neg h4, if_neg h14, ← hn, ← hr, ← hP, ← hb, ← hrest, ← hn4, hu, hhi]
        rfl
      rw [hres] at hbound ⊢
      obtain ⟨T, hTT⟩ : ∃ T, T = revP decM ⟨sl.2.ps, hi.2⟩ 803 4 u := ⟨_, rfl⟩
      rw [← hTT] at hR HKR hbound ⊢
      obtain ⟨o, ho⟩ : ∃ o, o = Alive T.2 0 T.1 := ⟨_, rfl⟩
      have hR : T.1 < 16 := hR
      have ho2 : o < 16 := by rw [ho]; exact alive_le hR
      unfold TreePost at HKR
      rw [← ho] at HKR
      obtain ⟨hv1, hhv⟩ : ∃ x, x = hi.1 := ⟨_, rfl⟩
      rw [← hhv] at hh4 HKSS hbound ⊢
      have g14 : ¬ (sl.1 : Int) < 14 := by omega
      have f1 : IntKind.i64.wrap ((n : Int) - 4) = (n4 : Int) := by rw [show (n : Int) - 4 = (n4 : Int) by omega]; exact IntWalk.i64_in _ (by omega)
      have f2 : IntKind.u32.wrap ((hv1 : Int) * 16) = (hv1 : Int) * 16 := u32_of _ (by omega) (by omega)
      have f3 : IntKind.u32.wrap ((base : Int) + (hv1 : Int) * 16) = (base : Int) + (hv1 : Int) * 16 := u32_of _ (by omega) (by omega)
      have f4 : IntKind.u32.wrap (o : Int) = (o : Int) := u32_of _ (by omega) (by omega)
      have f5 : IntKind.u32.wrap ((base : Int) + (hv1 : Int) * 16 + (o : Int)) = ((base + 16 * hv1 + o : Nat) : Int) := by rw [show (base : Int) + (hv1 : Int) * 16 + (o : Int) = ((base + 16 * hv1 + o : Nat) : Int) by omega]; exact u32_of _ (by omega) (by omega)
      have HX := Lib.hid (show base + 16 * hv1 + o < 4294967296 ∧ (T.2.x ≠ none → base + 16 * hv1 + o = base + 16 * hv1 + T.1) from ⟨by omega, fun h => by rw [ho, alive_is h]⟩)
      clear hres h4 h14 hs64 hp1 hp2 hx hx64 hv hbound hd hn hq hr hP hb hn30 hP30 hb3 hu hR ho ho2 hTT hn5 hrest hn4 hP4 hPP hSt hhi hhv hh4 c5f
      go_enter Try.func121, Try.ntmps121
      go_wp2_with fail
      go_region_held3 (fun w' => w'.cell? ⟨K.g, 5, none⟩ = some (.pointer (some ⟨K.dg, 0, none⟩))) (first | assumption | go_keep | exact c5) (first | (go_at_call 126; refine (HKS.out _).mono ?_; rintro e w1 ⟨rfl, rfl⟩) | (go_at_call 80; refine (HKT.out _).mono ?_; rintro e w2 ⟨rfl, hz2, ho2⟩; have e5 := hz2.f.c5; have HZ2 := Lib.hid hz2; have HO2 := Lib.hid (Only.of_drewN ho2); clear hz2 ho2))
      have HR2 := Lib.hid (HKSS.out w2 HZ2.out)
      have d5 := HZ2.out.f.c5
      clear HZ2 HKT HKSS c5
      go_wp2_with fail
      refine HR2.out.mono ?_
      rintro e w3 ⟨rfl, hz3, ho3⟩
      have HO3 := Lib.hid (HO2.out.trans ho3)
      have HR3 := Lib.hid (HKR.out w3 hz3)
      have d6 := hz3.f.c5
      clear hz3 ho3 HR2 HO2 HKR d5
      go_wp2_with fail
      go_region_held3 (fun w' => w'.cell? ⟨K.g, 5, none⟩ = some (.pointer (some ⟨K.dg, 0, none⟩))) (first | assumption | go_keep | exact d6) (first | (go_at_call 131; refine HR3.out.mono ?_; rintro e w4 ⟨rfl, hz4, ho4⟩; have d7 := hz4.f.c5; have HZ4 := Lib.hid hz4; have HO4 := Lib.hid (HO3.out.trans (Only.of_drewN ho4)); clear hz4 ho4))
      go_wp2_with fail
      go_ret
      exact ⟨base + 16 * hv1 + o, ⟨rfl, HZ4.out, HO4.out⟩, HX.out.1, HX.out.2⟩
end
end Go.Proofs.Ytjgdjobhhdhfjaa

/-
  The program's elder distances: rows of them, moved by one.
-/
namespace Go.Proofs.Ytjgdjobhhdhfjaa
open Go.RowKit
theorem info_u32 : (Try.prog.info? 53).map (·.size) = some 1 := by kernel_rfl
/-- rows of the distances, which begin at the cell o, moved by one -/
theorem copy_reps {W : World} {g o n m : Nat} {k : Nat} (cs : List Value) (hk : cs.length = Nat.min m n) (hc : ∀ j v, cs[j]? = some v → W.cell? ((⟨g, o, none⟩ : Addr).add j) = some v) (hd : ∀ j, j < cs.length → (W.cell? ⟨g, o + 1 + j, none⟩).isSome = true) (hf : ∀ j, W.frozen? ⟨g, j, none⟩ = false) (h1 : ∀ v ∈ cs, v.oneCell' = true) :
    (Builtin.copy_ #[168, 168] 3 #[.slice (some ⟨g, o + 1, none⟩) n 3, .slice (some ⟨g, o, none⟩) m k]).run Try.prog W = .ok (goInt cs.length) (W.setCells g (o + 1) cs) :=
  run_copy_cells (P := Try.prog) W 168 168 3 53 g (o + 1) n 3 ⟨g, o, none⟩ m k cs Try.underlying168 info_u32 hk hc hd (fun _ _ => hf _) h1
end Go.Proofs.Ytjgdjobhhdhfjaa
