/-
  CwDist, PkReps, CwCome, CwPackE: put together.
-/
import Derived.Test.YtdhhibfppcpieaaQ12
import Derived.Test.YtdhhibfppcpieaaQ01
import Derived.Laws.IdiomCopy
import Derived.Test.YtdhhibfppcpieaaQ07
import Derived.Deep.RegionLaw
import Derived.Test.YtdhhibfppcpieaaQ10
set_option linter.unusedVariables false
set_option linter.unusedSimpArgs false
/-
  The program's coder of LZMA: a distance.
-/
namespace Go.Proofs.Ytdhhibfppcpieaa
open Go.RowKit

theorem strE_okE {e : En} {k n : Nat} (h : okE (k + 1) e) (hn : n ≤ 32) (u : Nat) : okE k (strE e u n n) := by
  refine ⟨strE_ok h.1 u n n, ?_⟩
  have := strE_len e u n n
  have := h.2
  omega

section
variable {K : Koc} {w w' : World} {Ge Ge' : Option Nat} {A' : Option Addr} {c : Nat} {z : Lzs} {k : Nat} {t : Pm En}

set_option maxRecDepth 100000 in
set_option maxHeartbeats 16000000 in
/-- The coder codes a distance. -/
theorem cdist_any {l v : Nat} (h : Cw K w Ge A' c z (k + 12) t) (hv : v < 4294967296) :
    Calls Try.prog 77 #[.pointer (some ⟨K.g, 0, none⟩), .int .i64 (l : Int), .int .u32 (v : Int)] w (CMid K w Ge (.tuple #[]) A' c z k (distP encM t l v).2) := by
  obtain ⟨ml, hml⟩ : ∃ m, m = min l 3 := ⟨_, rfl⟩
  have KS := Lib.hid (fun w => pslot_any (g := K.g) (o0 := 11) hml w)
  have KN := Lib.hid (fun w => cslot_any hv w)
  have hs64 := (slot_spec hv).1
  have hml3 : ml ≤ 3 := by omega
  obtain ⟨s, hs⟩ : ∃ s, s = slotOf v := ⟨_, rfl⟩
  have e1 : IntKind.u32.wrap (s : Int) = (s : Int) := u32_of _ (by omega) (by omega)
  have HV := Lib.hid (And.intro hv hml3)
  by_cases h4 : s < 4
  · rw [distE0 hv (by rw [← hs]; exact h4), ← hml, ← hs]
    rw [← hs] at KN
    have g4 : (s : Int) < 4 := by omega
    have HS := Lib.hid (show s < 64 by omega)
    have HZ0 := Lib.hid h
    have HN0 := Lib.hid (Nwr.refl w Ge)
    have HO0 := Lib.hid (Only.refl (K.own Ge) w)
    clear h hml hs64 hml3 h4 hs hv
    go_enter Try.func77, Try.ntmps77
    go_wp2_with fail
    refine (KN.out _).mono ?_
    rintro e w0 ⟨⟨n', rfl, hn'⟩, rfl⟩
    clear hn'
    clear KN
    go_wp2_with fail
    have c4 := HZ0.out.f.c4
    have KC := Lib.hid (fun n => ((HZ0.out.drewN n).less (k' := k + 6 + 6) (by omega)).tree (k := k + 6) (n := 6) (a := 432 + 64 * ml) (b := K.g) (o := 11 + 1591 + ml * 64) (len := 64) (cap := 64) (V := s) (fun m hm => K.lay.slot (by omega) (by have : m < 64 := hm; have := HV.out; omega) (by omega)) (by show _ + 64 ≤ _; have := HV.out; omega) (by decide) (by decide) (by have := HS.out; omega))
    go_region_held3 (fun w' => w'.cell? ⟨K.g, 4, none⟩ = some (.pointer (some ⟨K.eg, 0, none⟩))) (first | assumption | go_keep | exact c4 | exact f4) (first | (go_at_call 86; refine (KS.out _).mono ?_; rintro e w1 ⟨rfl, rfl⟩) | (go_at_call 73; refine (KC.out _).mono ?_; rintro e w1 ⟨rfl, G1, hz1, hn1, ho1⟩; have HZ1 := Lib.hid hz1; have HN1 := Lib.hid (HN0.out.trans hn1 HO0.out.size); have HO1 := Lib.hid (cset_trans HO0.out HN0.out (Only.of_drewN ho1)); have f4 := hz1.f.c4; clear hz1 hn1 ho1))
    clear KC c4 f4
    clear HZ0 HN0 HO0
    clear KS
    go_wp2_with fail
    first | go_end0 | refine bodyPost_ret (results_none rfl _ _ _) rfl ?_
    exact ⟨rfl, G1, HZ1.out.less (by omega), HN1.out, HO1.out⟩
  obtain ⟨n, hn⟩ : ∃ n, n = s / 2 - 1 := ⟨_, rfl⟩
  have hn30 : n ≤ 30 := by omega
  obtain ⟨P, hP⟩ : ∃ P, P = 2 ^ n := ⟨_, rfl⟩
  obtain ⟨b, hb⟩ : ∃ b, b = (2 + s % 2) * 2 ^ n := ⟨_, rfl⟩
  have hB := base_of hv hs (by omega)
  rw [← hn, ← hb] at hB
  have hle := hB.le
  by_cases h14 : s < 14
  · rw [distE1 hv hs (by omega) h14 hn hb, ← hml]
    rw [← hs] at KN
    obtain ⟨c1, c2, c3⟩ := special_in ⟨s, h14⟩ (by show 4 ≤ s; omega)
    dsimp only at c1 c2 c3
    rw [← hn, ← hb, ← hP] at c1
    rw [← hn] at c3
    have hbs : s ≤ b := by
      have hlow := (show ∀ s : Fin 14, 4 ≤ s.val → s.val ≤ (2 + s.val % 2) * 2 ^ (s.val / 2 - 1) by decide) ⟨s, h14⟩ (by show 4 ≤ s; omega)
      dsimp only at hlow
      rw [← hn, ← hb] at hlow
      exact hlow
    obtain ⟨y, hy⟩ : ∃ y, y = v / 2 ^ n := ⟨_, rfl⟩
    have f0 : (v : Int) / 2 ^ n = (y : Int) := by rw [cast_pow2, hy]; exact (Int.natCast_ediv v (2 ^ n)).symm
    have hyb : y * 2 ^ n = b := by rw [hy]; exact hB.shf
    have f0' : (y : Int) * 2 ^ n = (b : Int) := by rw [cast_pow2, ← Int.natCast_mul, hyb]
    have f1 : IntKind.u32.wrap ((y : Int) * 2 ^ n) = (b : Int) := by rw [f0']; exact u32_of _ (by omega) (by omega)
    have f2 : IntKind.i64.wrap (b : Int) = (b : Int) := IntWalk.i64_in _ (by omega)
    obtain ⟨lo, hlo⟩ : ∃ lo, lo = b - s := ⟨_, rfl⟩
    have f3 : IntKind.i64.wrap ((b : Int) - (s : Int)) = (lo : Int) := by rw [show (b : Int) - (s : Int) = (lo : Int) by omega]; exact IntWalk.i64_in _ (by omega)
    have hPp : 0 < P := by rw [hP]; exact Nat.two_pow_pos n
    have f4 : (lo : Int) ≤ 115 := by omega
    have f5 : (0 : Int) ≤ (lo : Int) := by omega
    have f6 : ¬ 115 = lo := by omega
    have g4 : ¬ (s : Int) < 4 := by omega
    have g14 : (s : Int) < 14 := by omega
    have e8 : min n 32 = n := by omega
    have e9 : (0 : Int) ≤ (n : Int) := by omega
    have HS := Lib.hid (show s < 64 by omega)
    have HR := Lib.hid (show n ≤ 6 ∧ 2 ^ n ≤ 115 - lo ∧ 688 + b - s = 688 + lo ∧ lo + P ≤ 115 ∧ 2 ^ n = P from ⟨by omega, by rw [← hP]; omega, by omega, by omega, hP.symm⟩)
    rw [HR.out.2.2.1]
    have HZ0 := Lib.hid h
    have HN0 := Lib.hid (Nwr.refl w Ge)
    have HO0 := Lib.hid (Only.refl (K.own Ge) w)
    have HNN := Lib.hid (show 4 ≤ s ∧ n = s / 2 - 1 from ⟨by omega, hn⟩)
    clear h hml hs64 hml3 h4 hs hb hP hPp hB hle h14 c1 c2 c3 hbs hy hyb f0' hlo hn30 hn
    go_enter Try.func77, Try.ntmps77
    go_wp2_with fail
    refine (KN.out _).mono ?_
    rintro e w0 ⟨⟨n', rfl, hn'⟩, rfl⟩
    have hnn := (hn' HNN.out.1).trans HNN.out.2.symm
    clear hn' KN
    subst hnn
    go_wp2_with fail
    have c4 := HZ0.out.f.c4
    have KC := Lib.hid (fun n => ((HZ0.out.drewN n).less (k' := k + 6 + 6) (by omega)).tree (k := k + 6) (n := 6) (a := 432 + 64 * ml) (b := K.g) (o := 11 + 1591 + ml * 64) (len := 64) (cap := 64) (V := s) (fun m hm => K.lay.slot (by omega) (by have : m < 64 := hm; have := HV.out; omega) (by omega)) (by show _ + 64 ≤ _; have := HV.out; omega) (by decide) (by decide) (by have := HS.out; omega))
    go_region_held3 (fun w' => w'.cell? ⟨K.g, 4, none⟩ = some (.pointer (some ⟨K.eg, 0, none⟩))) (first | assumption | go_keep | exact c4 | exact f4) (first | (go_at_call 86; refine (KS.out _).mono ?_; rintro e w1 ⟨rfl, rfl⟩) | (go_at_call 73; refine (KC.out _).mono ?_; rintro e w1 ⟨rfl, G1, hz1, hn1, ho1⟩; have HZ1 := Lib.hid hz1; have HN1 := Lib.hid (HN0.out.trans hn1 HO0.out.size); have HO1 := Lib.hid (cset_trans HO0.out HN0.out (Only.of_drewN ho1)); have f4 := hz1.f.c4; clear hz1 hn1 ho1))
    clear KC c4 f4
    clear HZ0 HN0 HO0
    clear KS
    go_wp2_with fail
    have c4 := HZ1.out.f.c4
    have KC := Lib.hid (fun n => ((HZ1.out.drewN n).less (k' := k + n') (by have := HR.out; omega)).rev (n := n') (a := 688 + lo) (b := K.g) (o := 11 + 432 + lo) (len := 115 - lo) (cap := 115 - lo) (V := v) (fun m hm => K.lay.rest (by omega) (by rw [HR.out.2.2.2.2] at hm; have := HR.out; omega) (by omega)) (by rw [HR.out.2.2.2.2]; have := HR.out; omega) HR.out.2.1 (by have := HR.out; omega) HV.out.1)
    go_region_held3 (fun w' => w'.cell? ⟨K.g, 4, none⟩ = some (.pointer (some ⟨K.eg, 0, none⟩))) (first | assumption | go_keep | exact c4 | exact f4) (first | (go_at_call 87; refine (KC.out _).mono ?_; rintro e w2 ⟨rfl, G2, hz2, hn2, ho2⟩; have HZ2 := Lib.hid hz2; have HN2 := Lib.hid (HN1.out.trans hn2 HO1.out.size); have HO2 := Lib.hid (cset_trans HO1.out HN1.out (Only.of_drewN ho2)); have f4 := hz2.f.c4; clear hz2 hn2 ho2))
    clear KC c4 f4
    clear HZ1 HN1 HO1
    go_wp2_with fail
    first | go_end0 | refine bodyPost_ret (results_none rfl _ _ _) rfl ?_
    exact ⟨rfl, G2, HZ2.out, HN2.out, HO2.out⟩
  rw [distE2 hv hs (by omega) hn, ← hml]
  rw [← hs] at KN
  obtain ⟨n4, hn4⟩ : ∃ x, x = n - 4 := ⟨_, rfl⟩
  rw [← hn4]
  obtain ⟨u, hu⟩ : ∃ u, u = v / 16 := ⟨_, rfl⟩
  rw [← hu]
  have g4 : ¬ (s : Int) < 4 := by omega
  have g14 : ¬ (s : Int) < 14 := by omega
  have f1 : IntKind.i64.wrap ((n : Int) - 4) = (n4 : Int) := by rw [show (n : Int) - 4 = (n4 : Int) by omega]; exact IntWalk.i64_in _ (by omega)
  have f2 : (v : Int) / 16 = (u : Int) := by omega
  have HS := Lib.hid (show s < 64 by omega)
  have HR := Lib.hid (show n4 ≤ 32 ∧ u < 4294967296 ∧ u < 268435456 from ⟨by omega, by omega, by omega⟩)
  have HZ0 := Lib.hid h
  have HN0 := Lib.hid (Nwr.refl w Ge)
  have HO0 := Lib.hid (Only.refl (K.own Ge) w)
  have HNN := Lib.hid (show 4 ≤ s ∧ n = s / 2 - 1 from ⟨by omega, hn⟩)
  clear h hml hs64 hml3 h4 hs hb hP hB hle h14 hn30 hn hn4 hu
  go_enter Try.func77, Try.ntmps77
  go_wp2_with fail
  refine (KN.out _).mono ?_
  rintro e w0 ⟨⟨n', rfl, hn'⟩, rfl⟩
  have hnn := (hn' HNN.out.1).trans HNN.out.2.symm
  clear hn' KN
  subst hnn
  go_wp2_with fail
  have c4 := HZ0.out.f.c4
  have KC := Lib.hid (fun n => ((HZ0.out.drewN n).less (k' := k + 6 + 6) (by omega)).tree (k := k + 6) (n := 6) (a := 432 + 64 * ml) (b := K.g) (o := 11 + 1591 + ml * 64) (len := 64) (cap := 64) (V := s) (fun m hm => K.lay.slot (by omega) (by have : m < 64 := hm; have := HV.out; omega) (by omega)) (by show _ + 64 ≤ _; have := HV.out; omega) (by decide) (by decide) (by have := HS.out; omega))
  go_region_held3 (fun w' => w'.cell? ⟨K.g, 4, none⟩ = some (.pointer (some ⟨K.eg, 0, none⟩))) (first | assumption | go_keep | exact c4 | exact f4) (first | (go_at_call 86; refine (KS.out _).mono ?_; rintro e w1 ⟨rfl, rfl⟩) | (go_at_call 73; refine (KC.out _).mono ?_; rintro e w1 ⟨rfl, G1, hz1, hn1, ho1⟩; have HZ1 := Lib.hid hz1; have HN1 := Lib.hid (HN0.out.trans hn1 HO0.out.size); have HO1 := Lib.hid (cset_trans HO0.out HN0.out (Only.of_drewN ho1)); have f4 := hz1.f.c4; clear hz1 hn1 ho1))
  clear KC c4 f4
  clear HZ0 HN0 HO0
  clear KS
  have hso := (strE_okE HZ1.out.mch.ok.x HR.out.1 u)
  have HSO := Lib.hid hso
  clear hso
  have c4 := HZ1.out.f.c4
  have KC := Lib.hid ((HZ1.out.straight (k := k + 5) (n := n4) (V := u) HR.out.1 HR.out.2.1 HSO.out))
  go_wp2_with fail
  refine KC.out.mono ?_
  rintro e w2 ⟨rfl, G2, hz2, hn2, ho2⟩
  have HZ2 := Lib.hid hz2
  have HN2 := Lib.hid (HN1.out.trans hn2 HO1.out.size)
  have HO2 := Lib.hid (cset_trans HO1.out HN1.out (ho2))
  have f4 := hz2.f.c4
  clear hz2 hn2 ho2
  clear KC c4 f4
  clear HZ1 HN1 HO1
  go_wp2_with fail
  have c4 := HZ2.out.f.c4
  have KC := Lib.hid (fun n => ((HZ2.out.drewN n).less (k' := k + 4) (by omega)).rev (n := 4) (a := 803) (b := K.g) (o := 558) (len := 16) (cap := 16) (V := v) (fun m hm => K.lay.rest (by omega) (by have : m < 16 := hm; omega) (by omega)) (by show 803 + 16 ≤ _; omega) (by decide) (by decide) HV.out.1)
  go_region_held3 (fun w' => w'.cell? ⟨K.g, 4, none⟩ = some (.pointer (some ⟨K.eg, 0, none⟩))) (first | assumption | go_keep | exact c4 | exact f4) (first | (go_at_call 87; refine (KC.out _).mono ?_; rintro e w3 ⟨rfl, G3, hz3, hn3, ho3⟩; have HZ3 := Lib.hid hz3; have HN3 := Lib.hid (HN2.out.trans hn3 HO2.out.size); have HO3 := Lib.hid (cset_trans HO2.out HN2.out (Only.of_drewN ho3)); have f4 := hz3.f.c4; clear hz3 hn3 ho3))
  clear KC c4 f4
  clear HZ2 HN2 HO2
  go_wp2_with fail
  first | go_end0 | refine bodyPost_ret (results_none rfl _ _ _) rfl ?_
  exact ⟨rfl, G3, HZ3.out, HN3.out, HO3.out⟩
end
end Go.Proofs.Ytdhhibfppcpieaa

/-
  The program's elder distances: rows of them, moved by one.
-/
namespace Go.Proofs.Ytdhhibfppcpieaa
open Go.RowKit
theorem info_u32 : (Try.prog.info? 23).map (·.size) = some 1 := by kernel_rfl
/-- rows of the distances, which begin at the cell o, moved by one -/
theorem copy_reps {W : World} {g o n m : Nat} {k : Nat} (cs : List Value) (hk : cs.length = Nat.min m n) (hc : ∀ j v, cs[j]? = some v → W.cell? ((⟨g, o, none⟩ : Addr).add j) = some v) (hd : ∀ j, j < cs.length → (W.cell? ⟨g, o + 1 + j, none⟩).isSome = true) (hf : ∀ j, W.frozen? ⟨g, j, none⟩ = false) (h1 : ∀ v ∈ cs, v.oneCell' = true) :
    (Builtin.copy_ #[46, 46] 3 #[.slice (some ⟨g, o + 1, none⟩) n 3, .slice (some ⟨g, o, none⟩) m k]).run Try.prog W = .ok (goInt cs.length) (W.setCells g (o + 1) cs) :=
  run_copy_cells (P := Try.prog) W 46 46 3 23 g (o + 1) n 3 ⟨g, o, none⟩ m k cs Try.underlying46 info_u32 hk hc hd (fun _ _ => hf _) h1
end Go.Proofs.Ytdhhibfppcpieaa

/-
  The program's coder of LZMA: a distance comes first.
-/
namespace Go.Proofs.Ytdhhibfppcpieaa
open Go.RowKit
section
variable {K : Koc} {w w' : World} {Ge : Option Nat} {A : Option Addr} {c : Nat} {z : Lzs} {k : Nat} {t : Pm En}

set_option maxRecDepth 100000 in
set_option maxHeartbeats 4000000 in
theorem ccome_1 (h : Cw K w Ge A c z k t) :
    Calls Try.prog 25 #[.pointer (some ⟨K.g, 7, none⟩), .int .i64 1] w (CMid K w Ge (.tuple #[]) A c (z.again 1) k t) := by
  have hcp : (Builtin.copy_ #[46, 46] 3 #[.slice (some ⟨K.g, 8, none⟩) 1 3, .slice (some ⟨K.g, 7, none⟩) 1 4]).run Try.prog w.drew = .ok (goInt 1) ((w.drew).setCell ⟨K.g, 8, none⟩ (.int .u32 (z.r0 : Int))) := by
    refine copy_reps (W := w.drew) (g := K.g) (o := 7) (n := 1) (m := 1) (k := 4) [.int .u32 (z.r0 : Int)] rfl (fun i v hv => ?_) (fun i hi => ?_) (fun i => h.f.fz i) (by simp [Value.oneCell'])
    · match i, hv with
      | 0, hv => injection hv with hv; rw [← hv]; exact h.f.c7
    · match i, hi with
      | 0, _ => show (w.cell? ⟨K.g, 8, none⟩).isSome = true; rw [h.f.c8]; rfl
  have H0 : Cw K (w.drew) Ge A c (z) k t := h.drewN 1
  have H1 : Cw K ((w.drew).setCell ⟨K.g, 8, none⟩ (.int .u32 (z.r0 : Int))) Ge A c (({ z with r1 := z.r0 } : Lzs)) k t := H0.put 8 (by decide) _ rfl rfl
  have HF : Cw K (((w.drew).setCell ⟨K.g, 8, none⟩ (.int .u32 (z.r0 : Int))).setCell ⟨K.g, 7, none⟩ (.int .u32 (z.r1 : Int))) Ge A c (z.again 1) k t := H1.put 7 (by decide) _ rfl rfl
  have HO : Only (K.own Ge) w (((w.drew).setCell ⟨K.g, 8, none⟩ (.int .u32 (z.r0 : Int))).setCell ⟨K.g, 7, none⟩ (.int .u32 (z.r1 : Int))) := by
    have h0 : Only (K.own Ge) w w.drew := (Only.refl _ w).drew
    have h1 := Only.cwn_put h0 8 (.int .u32 (z.r0 : Int))
    exact Only.cwn_put h1 7 (.int .u32 (z.r1 : Int))
  have H := Lib.hid (And.intro HF HO)
  have c7 := h.f.c7
  have c8 := h.f.c8
  have c9 := h.f.c9
  have c10 := h.f.c10
  have z7 := h.f.fz 7
  have z8 := h.f.fz 8
  have z9 := h.f.fz 9
  have z10 := h.f.fz 10
  clear h HF HO H0 H1
  go_enter Try.func25, Try.ntmps25
  go_wp2_with fail
  go_region
  all_goals go_wp2_with fail
  first | go_end0 | refine bodyPost_ret (results_none rfl _ _ _) rfl ?_
  exact ⟨rfl, Ge, H.out.1, Nwr.refl _ _, H.out.2⟩

set_option maxRecDepth 100000 in
set_option maxHeartbeats 4000000 in
theorem ccome_2 (h : Cw K w Ge A c z k t) :
    Calls Try.prog 25 #[.pointer (some ⟨K.g, 7, none⟩), .int .i64 2] w (CMid K w Ge (.tuple #[]) A c (z.again 2) k t) := by
  have hcp : (Builtin.copy_ #[46, 46] 3 #[.slice (some ⟨K.g, 8, none⟩) 2 3, .slice (some ⟨K.g, 7, none⟩) 2 4]).run Try.prog w.drew = .ok (goInt 2) (((w.drew).setCell ⟨K.g, 8, none⟩ (.int .u32 (z.r0 : Int))).setCell ⟨K.g, 9, none⟩ (.int .u32 (z.r1 : Int))) := by
    refine copy_reps (W := w.drew) (g := K.g) (o := 7) (n := 2) (m := 2) (k := 4) [.int .u32 (z.r0 : Int), .int .u32 (z.r1 : Int)] rfl (fun i v hv => ?_) (fun i hi => ?_) (fun i => h.f.fz i) (by simp [Value.oneCell'])
    · match i, hv with
      | 0, hv => injection hv with hv; rw [← hv]; exact h.f.c7
      | 1, hv => injection hv with hv; rw [← hv]; exact h.f.c8
    · match i, hi with
      | 0, _ => show (w.cell? ⟨K.g, 8, none⟩).isSome = true; rw [h.f.c8]; rfl
      | 1, _ => show (w.cell? ⟨K.g, 9, none⟩).isSome = true; rw [h.f.c9]; rfl
  have H0 : Cw K (w.drew) Ge A c (z) k t := h.drewN 1
  have H1 : Cw K ((w.drew).setCell ⟨K.g, 8, none⟩ (.int .u32 (z.r0 : Int))) Ge A c (({ z with r1 := z.r0 } : Lzs)) k t := H0.put 8 (by decide) _ rfl rfl
  have H2 : Cw K (((w.drew).setCell ⟨K.g, 8, none⟩ (.int .u32 (z.r0 : Int))).setCell ⟨K.g, 9, none⟩ (.int .u32 (z.r1 : Int))) Ge A c (({ ({ z with r1 := z.r0 } : Lzs) with r2 := z.r1 } : Lzs)) k t := H1.put 9 (by decide) _ rfl rfl
  have HF : Cw K ((((w.drew).setCell ⟨K.g, 8, none⟩ (.int .u32 (z.r0 : Int))).setCell ⟨K.g, 9, none⟩ (.int .u32 (z.r1 : Int))).setCell ⟨K.g, 7, none⟩ (.int .u32 (z.r2 : Int))) Ge A c (z.again 2) k t := H2.put 7 (by decide) _ rfl rfl
  have HO : Only (K.own Ge) w ((((w.drew).setCell ⟨K.g, 8, none⟩ (.int .u32 (z.r0 : Int))).setCell ⟨K.g, 9, none⟩ (.int .u32 (z.r1 : Int))).setCell ⟨K.g, 7, none⟩ (.int .u32 (z.r2 : Int))) := by
    have h0 : Only (K.own Ge) w w.drew := (Only.refl _ w).drew
    have h1 := Only.cwn_put h0 8 (.int .u32 (z.r0 : Int))
    have h2 := Only.cwn_put h1 9 (.int .u32 (z.r1 : Int))
    exact Only.cwn_put h2 7 (.int .u32 (z.r2 : Int))
  have H := Lib.hid (And.intro HF HO)
  have c7 := h.f.c7
  have c8 := h.f.c8
  have c9 := h.f.c9
  have c10 := h.f.c10
  have z7 := h.f.fz 7
  have z8 := h.f.fz 8
  have z9 := h.f.fz 9
  have z10 := h.f.fz 10
  clear h HF HO H0 H1 H2
  go_enter Try.func25, Try.ntmps25
  go_wp2_with fail
  go_region
  all_goals go_wp2_with fail
  first | go_end0 | refine bodyPost_ret (results_none rfl _ _ _) rfl ?_
  exact ⟨rfl, Ge, H.out.1, Nwr.refl _ _, H.out.2⟩

set_option maxRecDepth 100000 in
set_option maxHeartbeats 4000000 in
theorem ccome_3 (h : Cw K w Ge A c z k t) :
    Calls Try.prog 25 #[.pointer (some ⟨K.g, 7, none⟩), .int .i64 3] w (CMid K w Ge (.tuple #[]) A c (z.again 3) k t) := by
  have hcp : (Builtin.copy_ #[46, 46] 3 #[.slice (some ⟨K.g, 8, none⟩) 3 3, .slice (some ⟨K.g, 7, none⟩) 3 4]).run Try.prog w.drew = .ok (goInt 3) ((((w.drew).setCell ⟨K.g, 8, none⟩ (.int .u32 (z.r0 : Int))).setCell ⟨K.g, 9, none⟩ (.int .u32 (z.r1 : Int))).setCell ⟨K.g, 10, none⟩ (.int .u32 (z.r2 : Int))) := by
    refine copy_reps (W := w.drew) (g := K.g) (o := 7) (n := 3) (m := 3) (k := 4) [.int .u32 (z.r0 : Int), .int .u32 (z.r1 : Int), .int .u32 (z.r2 : Int)] rfl (fun i v hv => ?_) (fun i hi => ?_) (fun i => h.f.fz i) (by simp [Value.oneCell'])
    · match i, hv with
      | 0, hv => injection hv with hv; rw [← hv]; exact h.f.c7
      | 1, hv => injection hv with hv; rw [← hv]; exact h.f.c8
      | 2, hv => injection hv with hv; rw [← hv]; exact h.f.c9
    · match i, hi with
      | 0, _ => show (w.cell? ⟨K.g, 8, none⟩).isSome = true; rw [h.f.c8]; rfl
      | 1, _ => show (w.cell? ⟨K.g, 9, none⟩).isSome = true; rw [h.f.c9]; rfl
      | 2, _ => show (w.cell? ⟨K.g, 10, none⟩).isSome = true; rw [h.f.c10]; rfl
  have H0 : Cw K (w.drew) Ge A c (z) k t := h.drewN 1
  have H1 : Cw K ((w.drew).setCell ⟨K.g, 8, none⟩ (.int .u32 (z.r0 : Int))) Ge A c (({ z with r1 := z.r0 } : Lzs)) k t := H0.put 8 (by decide) _ rfl rfl
  have H2 : Cw K (((w.drew).setCell ⟨K.g, 8, none⟩ (.int .u32 (z.r0 : Int))).setCell ⟨K.g, 9, none⟩ (.int .u32 (z.r1 : Int))) Ge A c (({ ({ z with r1 := z.r0 } : Lzs) with r2 := z.r1 } : Lzs)) k t := H1.put 9 (by decide) _ rfl rfl
  have H3 : Cw K ((((w.drew).setCell ⟨K.g, 8, none⟩ (.int .u32 (z.r0 : Int))).setCell ⟨K.g, 9, none⟩ (.int .u32 (z.r1 : Int))).setCell ⟨K.g, 10, none⟩ (.int .u32 (z.r2 : Int))) Ge A c (({ ({ ({ z with r1 := z.r0 } : Lzs) with r2 := z.r1 } : Lzs) with r3 := z.r2 } : Lzs)) k t := H2.put 10 (by decide) _ rfl rfl
  have HF : Cw K (((((w.drew).setCell ⟨K.g, 8, none⟩ (.int .u32 (z.r0 : Int))).setCell ⟨K.g, 9, none⟩ (.int .u32 (z.r1 : Int))).setCell ⟨K.g, 10, none⟩ (.int .u32 (z.r2 : Int))).setCell ⟨K.g, 7, none⟩ (.int .u32 (z.r3 : Int))) Ge A c (z.again 3) k t := H3.put 7 (by decide) _ rfl rfl
  have HO : Only (K.own Ge) w (((((w.drew).setCell ⟨K.g, 8, none⟩ (.int .u32 (z.r0 : Int))).setCell ⟨K.g, 9, none⟩ (.int .u32 (z.r1 : Int))).setCell ⟨K.g, 10, none⟩ (.int .u32 (z.r2 : Int))).setCell ⟨K.g, 7, none⟩ (.int .u32 (z.r3 : Int))) := by
    have h0 : Only (K.own Ge) w w.drew := (Only.refl _ w).drew
    have h1 := Only.cwn_put h0 8 (.int .u32 (z.r0 : Int))
    have h2 := Only.cwn_put h1 9 (.int .u32 (z.r1 : Int))
    have h3 := Only.cwn_put h2 10 (.int .u32 (z.r2 : Int))
    exact Only.cwn_put h3 7 (.int .u32 (z.r3 : Int))
  have H := Lib.hid (And.intro HF HO)
  have c7 := h.f.c7
  have c8 := h.f.c8
  have c9 := h.f.c9
  have c10 := h.f.c10
  have z7 := h.f.fz 7
  have z8 := h.f.fz 8
  have z9 := h.f.fz 9
  have z10 := h.f.fz 10
  clear h HF HO H0 H1 H2 H3
  go_enter Try.func25, Try.ntmps25
  go_wp2_with fail
  go_region
  all_goals go_wp2_with fail
  first | go_end0 | refine bodyPost_ret (results_none rfl _ _ _) rfl ?_
  exact ⟨rfl, Ge, H.out.1, Nwr.refl _ _, H.out.2⟩

set_option maxRecDepth 100000 in
set_option maxHeartbeats 4000000 in
theorem cpush_any {d : Nat} (h : Cw K w Ge A c z k t) :
    Calls Try.prog 24 #[.pointer (some ⟨K.g, 7, none⟩), .int .u32 (d : Int)] w (CMid K w Ge (.tuple #[]) A c (({ z with r0 := d, r1 := z.r0, r2 := z.r1, r3 := z.r2 } : Lzs)) k t) := by
  have hcp : (Builtin.copy_ #[46, 46] 3 #[.slice (some ⟨K.g, 8, none⟩) 3 3, .slice (some ⟨K.g, 7, none⟩) 4 4]).run Try.prog w.drew = .ok (goInt 3) ((((w.drew).setCell ⟨K.g, 8, none⟩ (.int .u32 (z.r0 : Int))).setCell ⟨K.g, 9, none⟩ (.int .u32 (z.r1 : Int))).setCell ⟨K.g, 10, none⟩ (.int .u32 (z.r2 : Int))) := by
    refine copy_reps (W := w.drew) (g := K.g) (o := 7) (n := 3) (m := 4) (k := 4) [.int .u32 (z.r0 : Int), .int .u32 (z.r1 : Int), .int .u32 (z.r2 : Int)] rfl (fun i v hv => ?_) (fun i hi => ?_) (fun i => h.f.fz i) (by simp [Value.oneCell'])
    · match i, hv with
      | 0, hv => injection hv with hv; rw [← hv]; exact h.f.c7
      | 1, hv => injection hv with hv; rw [← hv]; exact h.f.c8
      | 2, hv => injection hv with hv; rw [← hv]; exact h.f.c9
    · match i, hi with
      | 0, _ => show (w.cell? ⟨K.g, 8, none⟩).isSome = true; rw [h.f.c8]; rfl
      | 1, _ => show (w.cell? ⟨K.g, 9, none⟩).isSome = true; rw [h.f.c9]; rfl
      | 2, _ => show (w.cell? ⟨K.g, 10, none⟩).isSome = true; rw [h.f.c10]; rfl
  have H0 : Cw K (w.drew) Ge A c (z) k t := h.drewN 1
  have H1 : Cw K ((w.drew).setCell ⟨K.g, 8, none⟩ (.int .u32 (z.r0 : Int))) Ge A c (({ z with r1 := z.r0 } : Lzs)) k t := H0.put 8 (by decide) _ rfl rfl
  have H2 : Cw K (((w.drew).setCell ⟨K.g, 8, none⟩ (.int .u32 (z.r0 : Int))).setCell ⟨K.g, 9, none⟩ (.int .u32 (z.r1 : Int))) Ge A c (({ ({ z with r1 := z.r0 } : Lzs) with r2 := z.r1 } : Lzs)) k t := H1.put 9 (by decide) _ rfl rfl
  have H3 : Cw K ((((w.drew).setCell ⟨K.g, 8, none⟩ (.int .u32 (z.r0 : Int))).setCell ⟨K.g, 9, none⟩ (.int .u32 (z.r1 : Int))).setCell ⟨K.g, 10, none⟩ (.int .u32 (z.r2 : Int))) Ge A c (({ ({ ({ z with r1 := z.r0 } : Lzs) with r2 := z.r1 } : Lzs) with r3 := z.r2 } : Lzs)) k t := H2.put 10 (by decide) _ rfl rfl
  have HF : Cw K (((((w.drew).setCell ⟨K.g, 8, none⟩ (.int .u32 (z.r0 : Int))).setCell ⟨K.g, 9, none⟩ (.int .u32 (z.r1 : Int))).setCell ⟨K.g, 10, none⟩ (.int .u32 (z.r2 : Int))).setCell ⟨K.g, 7, none⟩ (.int .u32 (d : Int))) Ge A c (({ z with r0 := d, r1 := z.r0, r2 := z.r1, r3 := z.r2 } : Lzs)) k t := H3.put 7 (by decide) _ rfl rfl
  have HO : Only (K.own Ge) w (((((w.drew).setCell ⟨K.g, 8, none⟩ (.int .u32 (z.r0 : Int))).setCell ⟨K.g, 9, none⟩ (.int .u32 (z.r1 : Int))).setCell ⟨K.g, 10, none⟩ (.int .u32 (z.r2 : Int))).setCell ⟨K.g, 7, none⟩ (.int .u32 (d : Int))) := by
    have h0 : Only (K.own Ge) w w.drew := (Only.refl _ w).drew
    have h1 := Only.cwn_put h0 8 (.int .u32 (z.r0 : Int))
    have h2 := Only.cwn_put h1 9 (.int .u32 (z.r1 : Int))
    have h3 := Only.cwn_put h2 10 (.int .u32 (z.r2 : Int))
    exact Only.cwn_put h3 7 (.int .u32 (d : Int))
  have H := Lib.hid (And.intro HF HO)
  have c7 := h.f.c7
  have c8 := h.f.c8
  have c9 := h.f.c9
  have c10 := h.f.c10
  have z7 := h.f.fz 7
  have z8 := h.f.fz 8
  have z9 := h.f.fz 9
  have z10 := h.f.fz 10
  clear h HF HO H0 H1 H2 H3
  go_enter Try.func24, Try.ntmps24
  go_wp2_with fail
  go_region
  all_goals go_wp2_with fail
  first | go_end0 | refine bodyPost_ret (results_none rfl _ _ _) rfl ?_
  exact ⟨rfl, Ge, H.out.1, Nwr.refl _ _, H.out.2⟩

theorem ccome_any {j : Nat} (h1 : 1 ≤ j) (h3 : j ≤ 3) (h : Cw K w Ge A c z k t) :
    Calls Try.prog 25 #[.pointer (some ⟨K.g, 7, none⟩), .int .i64 (j : Int)] w (CMid K w Ge (.tuple #[]) A c (z.again j) k t) := by
  match j, h1, h3 with
  | 1, _, _ => exact ccome_1 h
  | 2, _, _ => exact ccome_2 h
  | 3, _, _ => exact ccome_3 h
set_option maxRecDepth 100000 in
set_option maxHeartbeats 4000000 in
theorem ccome_0 (h : Cw K w Ge A c z k t) :
    Calls Try.prog 25 #[.pointer (some ⟨K.g, 7, none⟩), .int .i64 0] w (CMid K w Ge (.tuple #[]) A c (z.again 0) k t) := by
  have hcp : (Builtin.copy_ #[46, 46] 3 #[.slice (some ⟨K.g, 8, none⟩) 0 3, .slice (some ⟨K.g, 7, none⟩) 0 4]).run Try.prog w.drew = .ok (goInt 0) w.drew := by
    refine copy_reps (W := w.drew) (g := K.g) (o := 7) (n := 0) (m := 0) (k := 4) [] rfl (fun i v hv => by cases hv) (fun i hi => absurd hi (Nat.not_lt_zero i)) (fun i => h.f.fz i) (by simp)
  have H0 : Cw K (w.drew) Ge A c (z) k t := h.drewN 1
  have HF : Cw K ((w.drew).setCell ⟨K.g, 7, none⟩ (.int .u32 (z.r0 : Int))) Ge A c (z.again 0) k t := H0.put 7 (by decide) _ rfl rfl
  have HO : Only (K.own Ge) w ((w.drew).setCell ⟨K.g, 7, none⟩ (.int .u32 (z.r0 : Int))) := by
    have h0 : Only (K.own Ge) w w.drew := (Only.refl _ w).drew
    exact Only.cwn_put h0 7 (.int .u32 (z.r0 : Int))
  have H := Lib.hid (And.intro HF HO)
  have c7 := h.f.c7
  have c8 := h.f.c8
  have z7 := h.f.fz 7
  have z8 := h.f.fz 8
  clear h HF HO H0
  go_enter Try.func25, Try.ntmps25
  go_wp2_with fail
  go_region
  all_goals go_wp2_with fail
  first | go_end0 | refine bodyPost_ret (results_none rfl _ _ _) rfl ?_
  exact ⟨rfl, Ge, H.out.1, Nwr.refl _ _, H.out.2⟩
theorem ccome_all {j : Nat} (h3 : j ≤ 3) (h : Cw K w Ge A c z k t) :
    Calls Try.prog 25 #[.pointer (some ⟨K.g, 7, none⟩), .int .i64 (j : Int)] w (CMid K w Ge (.tuple #[]) A c (z.again j) k t) := by
  match j, h3 with
  | 0, _ => exact ccome_0 h
  | j + 1, h3 => exact ccome_any (by omega) h3 h
end
end Go.Proofs.Ytdhhibfppcpieaa

/-
  The packets of LZMA as a coder leaves them, kind by kind: numbers.
-/
namespace Go.Proofs.Ytdhhibfppcpieaa

theorem litG_tell {t : Pm En} {A : Nat} {o v : UInt8} {same : Bool} : ∀ j, j ≤ 8 → (litG encM t A o v same j).m = 2 ^ j + v.toNat / 2 ^ (8 - j)
  | 0, _ => by
    have := v.toNat_lt
    show 1 = 1 + v.toNat / 256
    omega
  | j + 1, hj => by
    have ih := litG_tell (t := t) (A := A) (o := o) (v := v) (same := same) j (by omega)
    have hb : (litG encM t A o v same (j + 1)).m = 2 * (litG encM t A o v same j).m + bitOf v.toNat (7 - j) := by
      show (lgStep encM A (want (o.toNat : Int) (7 - j)) (want (v.toNat : Int) (7 - j)) (litG encM t A o v same j)).m = _
      unfold lgStep
      split
      · show 2 * _ + (bitP encM _ _ (want (v.toNat : Int) (7 - j))).1 = _
        rw [want_nat]
        rfl
      · show 2 * _ + (bitP encM _ _ (want (v.toNat : Int) (7 - j))).1 = _
        rw [want_nat]
        rfl
    rw [hb, ih, Nat.pow_succ, show 8 - (j + 1) = 7 - j by omega]
    have e : v.toNat / 2 ^ (8 - j) = v.toNat / 2 ^ (7 - j) / 2 := by rw [Nat.div_div_eq_div_mul, ← Nat.pow_succ, show (7 - j).succ = 8 - j by omega]
    unfold bitOf
    rw [e]
    generalize v.toNat / 2 ^ (7 - j) = y
    generalize 2 ^ j = P
    omega
theorem litP_tell {z : Lzs} {t : Pm En} {v : UInt8} : UInt8.ofNat (litP encM z t v).1 = v := by
  have h := litG_tell (t := t) (A := litAt z) (o := z.back z.r0) (v := v) (same := decide (7 ≤ z.st)) 8 (by decide)
  have e : (litP encM z t v).1 = 256 + v.toNat := by
    show (litG encM t (litAt z) (z.back z.r0) v (decide (7 ≤ z.st)) 8).m = _
    rw [h]
    simp
  rw [e]
  apply UInt8.toNat_inj.1
  have := v.toNat_lt
  simp
theorem lenP_tell {t : Pm En} {A s v : Nat} (hv : v < 272) : (lenP encM t A s (v : Int)).1 = v := by
  by_cases h8 : v < 8
  · have e : min ((v : Int).tdiv 8) 1 = 0 := by rw [Int.tdiv_eq_ediv_of_nonneg (by omega)]; omega
    unfold lenP lenA
    rw [e, if_pos (show (bitP encM t A 0).1 = 0 from rfl)]
    exact treeP_tell encM_ok rfl h8
  · have e : min ((v : Int).tdiv 8) 1 = 1 := by rw [Int.tdiv_eq_ediv_of_nonneg (by omega)]; omega
    unfold lenP lenA
    rw [e, if_neg (show ¬ (bitP encM t A 1).1 = 0 from by rw [enc_tell]; decide)]
    unfold lenB
    by_cases h16 : v < 16
    · have e2 : min ((v : Int).tdiv 16) 1 = 0 := by rw [Int.tdiv_eq_ediv_of_nonneg (by omega)]; omega
      rw [e2, if_pos (show (bitP encM (bitP encM t A 1).2 (A + 1) 0).1 = 0 from rfl), show (v : Int) - 8 = ((v - 8 : Nat) : Int) by omega]
      show 8 + (treeP encM _ _ 3 ((v - 8 : Nat) : Int)).1 = v
      rw [treeP_tell encM_ok rfl (show v - 8 < 2 ^ 3 by show v - 8 < 8; omega)]
      omega
    · have e2 : min ((v : Int).tdiv 16) 1 = 1 := by rw [Int.tdiv_eq_ediv_of_nonneg (by omega)]; omega
      rw [e2, if_neg (show ¬ (bitP encM (bitP encM t A 1).2 (A + 1) 1).1 = 0 from by rw [enc_tell]; decide), show (v : Int) - 16 = ((v - 16 : Nat) : Int) by omega]
      show 16 + (treeP encM _ _ 8 ((v - 16 : Nat) : Int)).1 = v
      rw [treeP_tell encM_ok rfl (show v - 16 < 2 ^ 8 by show v - 16 < 256; omega)]
      omega

/-- bytes at the first distance, so many, whether they are there or not -/
def copyN : Nat → Lzs → Lzs
  | 0, z => z
  | f + 1, z => copyN f (z.push (z.back z.r0))
theorem has_pushE {z : Lzs} {b : UInt8} {d : Nat} (h : z.has d = true) : (z.push b).has d = true := by
  unfold Lzs.has at h ⊢
  obtain ⟨h1, h2⟩ := of_decide_eq_true h
  refine decide_eq_true ⟨?_, h2⟩
  show d < (z.out ++ [b]).length
  simp
  omega
theorem copyG_is : ∀ (f n : Nat) {z : Lzs}, z.has z.r0 = true → copyG f n z = (n + f, copyN f z)
  | 0, _, _, _ => rfl
  | f + 1, n, z, h => by
    rw [copyG_go h, copyG_is f (n + 1) (z := z.push (z.back z.r0)) (has_pushE h), show n + 1 + f = n + (f + 1) by omega]
    rfl
theorem copyN_keep : ∀ (f : Nat) (z : Lzs), (copyN f z).bad = z.bad ∧ (copyN f z).ended = z.ended ∧ (copyN f z).out.length = z.out.length + f ∧ (copyN f z).lc = z.lc ∧ (copyN f z).lp = z.lp ∧ (copyN f z).pb = z.pb ∧ (copyN f z).dict = z.dict
  | 0, _ => ⟨rfl, rfl, rfl, rfl, rfl, rfl, rfl⟩
  | f + 1, z => by
    obtain ⟨h1, h2, h3, h4, h5, h6, h7⟩ := copyN_keep f (z.push (z.back z.r0))
    refine ⟨h1, h2, ?_, h4, h5, h6, h7⟩
    show (copyN f (z.push (z.back z.r0))).out.length = _
    rw [h3]
    show (z.out ++ [_]).length + f = _
    simp
    omega
theorem tail_is {many : Nat} {z : Lzs} {t : Pm En} (hb : z.bad = false) (he : z.ended = false) (h : z.has z.r0 = true) : (tailP encM many z t).2 = (copyN many z, t) := by
  unfold tailP
  rw [hb, he]
  show (if (false || false || false) = true then _ else _ : Nat × Lzs × Pm En).2 = _
  rw [if_neg (by decide), copyG_is many 0 h]

section
variable {z : Lzs} {t : Pm En} {d s : Nat} {len : Int} {b : UInt8}
/-- the kind's bits -/
def kdE (z : Lzs) (t : Pm En) (kd : Int) : Pm En := (kindP encM t (decide (z.out.length = 0)) z.st (z.out.length % 2 ^ z.pb) kd).2.2
theorem pack_split (hb : z.bad = false) (kd : Int) (h0 : 0 ≤ kd) (h7 : kd ≤ 7) (hem : z.out.length = 0 → kd = 0 ∨ kd = 1 ∨ kd = 7) :
    packP encM z t ⟨kd, d, len, b⟩ = packK encM ((if kd = 7 then 1 else kd.toNat), false, kdE z t kd) z (z.out.length % 2 ^ z.pb) ⟨kd, d, len, b⟩ := by
  obtain ⟨h1, h2⟩ := kindP_tell encM_ok rfl (t := t) (s := z.out.length % 2 ^ z.pb) (st := z.st) (em := decide (z.out.length = 0)) h0 h7 (fun h => hem (of_decide_eq_true h))
  unfold packP kdE
  dsimp only
  generalize kindP encM t (decide (z.out.length = 0)) z.st (z.out.length % 2 ^ z.pb) kd = kb at *
  obtain ⟨kv, kbad, tk⟩ := kb
  dsimp only at h1 h2 ⊢
  subst h2
  have : kv = (if kd = 7 then 1 else kd.toNat) := by
    split
    · rename_i h; rw [if_pos h] at h1; omega
    · rename_i h; rw [if_neg h] at h1; omega
  rw [this]
theorem with_bad (z : Lzs) (h : z.bad = false) : { z with bad := z.bad || false } = z := by
  cases z; simp at h ⊢
theorem packE_lit (hb : z.bad = false) : (packP encM z t ⟨0, d, len, b⟩).2 = (({ z with st := litSt z.st } : Lzs).push b, (litP encM z (kdE z t 0) b).2) := by
  rw [pack_split hb 0 (by decide) (by decide) (fun _ => .inl rfl)]
  unfold packK
  dsimp only
  rw [if_pos (by decide), with_bad z hb]
  unfold packL
  rw [if_neg (show ¬ encM.bad (litP encM z (kdE z t 0) b).2.x = true by show ¬ false = true; decide), litP_tell]
theorem packE_match (hb : z.bad = false) (he : z.ended = false) {n : Nat} (hn : 2 ≤ n) (hn2 : n ≤ 273) (hd : z.has d = true) (hdi : z.dict < 4294967296) (hL : ∃ k L, 1847 ≤ L ∧ PmOk okE L (k + 12) (lenP encM (kdE z t 1) 819 (z.out.length % 2 ^ z.pb) ((n - 2 : Nat) : Int)).2) :
    (packP encM z t ⟨1, d, n, b⟩).2 = (copyN n { z with r0 := d, r1 := z.r0, r2 := z.r1, r3 := z.r2, st := aft 7 10 z.st }, (distP encM (lenP encM (kdE z t 1) 819 (z.out.length % 2 ^ z.pb) ((n - 2 : Nat) : Int)).2 (n - 2) d).2) := by
  obtain ⟨k, L, hL0, hok⟩ := hL
  rw [pack_split hb 1 (by decide) (by decide) (fun _ => .inr (.inl rfl))]
  unfold packK
  dsimp only
  rw [if_neg (by decide), if_pos (by decide), if_neg (by decide), if_neg (by decide), with_bad z hb, show (n : Int) - 2 = ((n - 2 : Nat) : Int) by omega]
  unfold packM
  rw [lenP_tell (show n - 2 < 272 by omega)]
  generalize (lenP encM (kdE z t 1) 819 (z.out.length % 2 ^ z.pb) ((n - 2 : Nat) : Int)).2 = u at *
  have hlt := (of_decide_eq_true hd).2
  have ht := distP_tell (l := n - 2) (v := d) hok hL0 (by omega)
  generalize distP encM u (n - 2) d = D at *
  obtain ⟨d', t'⟩ := D
  dsimp only at ht
  subst ht
  unfold packD
  dsimp only
  have e : (decide (d' = 4294967295) && !encM.bad t'.x) = z.ended := by rw [he, decide_eq_false (by omega)]; rfl
  rw [e, show n - 2 + 2 = n by omega]
  exact tail_is hb he hd
theorem packE_end (hb : z.bad = false) (hL : ∃ k L, 1847 ≤ L ∧ PmOk okE L (k + 12) (lenP encM (kdE z t 7) 819 (z.out.length % 2 ^ z.pb) 0).2) :
    (packP encM z t ⟨7, d, len, b⟩).2 = ({ z with r0 := 4294967295, r1 := z.r0, r2 := z.r1, r3 := z.r2, st := aft 7 10 z.st, ended := true }, (distP encM (lenP encM (kdE z t 7) 819 (z.out.length % 2 ^ z.pb) 0).2 0 4294967295).2) := by
  obtain ⟨k, L, hL0, hok⟩ := hL
  rw [pack_split hb 7 (by decide) (by decide) (fun _ => .inr (.inr rfl))]
  unfold packK
  dsimp only
  rw [if_pos rfl, if_neg (by decide), if_pos rfl, if_pos rfl, if_pos rfl, with_bad z hb]
  unfold packM
  have hl0 := lenP_tell (t := kdE z t 7) (A := 819) (s := z.out.length % 2 ^ z.pb) (v := 0) (by decide)
  rw [show ((0 : Nat) : Int) = 0 from rfl] at hl0
  rw [hl0]
  generalize (lenP encM (kdE z t 7) 819 (z.out.length % 2 ^ z.pb) 0).2 = u at *
  have ht := distP_tell (l := 0) (v := 4294967295) hok hL0 (by decide)
  generalize distP encM u 0 4294967295 = D at *
  obtain ⟨d', t'⟩ := D
  dsimp only at ht
  subst ht
  unfold packD
  dsimp only
  rw [show (decide ((4294967295 : Nat) = 4294967295) && !encM.bad t'.x) = true from rfl]
  unfold tailP
  have hc : (z.bad || encM.bad t'.x || true) = true := by simp
  dsimp only
  rw [if_pos hc]
  have : (z.bad || encM.bad t'.x) = z.bad := by rw [hb]; rfl
  rw [this]
theorem packE_single (hb : z.bad = false) (he : z.ended = false) (h : z.has z.r0 = true) : (packP encM z t ⟨6, d, len, b⟩).2 = (copyN 1 { z with st := aft 9 11 z.st }, kdE z t 6) := by
  have hne : ¬ z.out.length = 0 := by have := (of_decide_eq_true h).1; omega
  rw [pack_split hb 6 (by decide) (by decide) (fun h => absurd h hne)]
  unfold packK
  dsimp only
  rw [if_neg (show ¬ (6 : Int) = 7 by decide), if_neg (by decide), if_neg (by decide), if_pos (by decide)]
  have e : ({ z with bad := z.bad || false, st := aft 9 11 z.st } : Lzs) = { z with st := aft 9 11 z.st } := by rw [hb]; cases z; simp at hb ⊢
  rw [e]
  exact tail_is hb he h
theorem packE_again (hb : z.bad = false) (he : z.ended = false) {j n : Nat} (hj : j ≤ 3) (hn : 2 ≤ n) (hn2 : n ≤ 273) (h : z.has (z.rep j) = true) :
    (packP encM z t ⟨(j + 2 : Nat), d, n, b⟩).2 = (copyN n { z.again j with st := aft 8 11 z.st }, (lenP encM (kdE z t ((j + 2 : Nat) : Int)) 1333 (z.out.length % 2 ^ z.pb) ((n - 2 : Nat) : Int)).2) := by
  have hne : ¬ z.out.length = 0 := by have := (of_decide_eq_true h).1; omega
  rw [pack_split hb ((j + 2 : Nat) : Int) (by omega) (by omega) (fun h => absurd h hne)]
  unfold packK
  dsimp only
  rw [if_neg (show ¬ ((j + 2 : Nat) : Int) = 7 by omega), Int.toNat_natCast, if_neg (by omega), if_neg (by omega), if_neg (by omega), with_bad z hb, show (n : Int) - 2 = ((n - 2 : Nat) : Int) by omega]
  unfold packR
  rw [lenP_tell (show n - 2 < 272 by omega), show n - 2 + 2 = n by omega, show j + 2 - 2 = j by omega]
  exact tail_is (z := { z.again j with st := aft 8 11 z.st }) hb he h
end
end Go.Proofs.Ytdhhibfppcpieaa
