/-
  CwKind, Held: put together.
-/
import Derived.Test.YtoencondpbkomaaGreatQ08
import Derived.Deep.RegionHeld3
set_option linter.unusedVariables false
set_option linter.unusedSimpArgs false
/-
  The program's coder of LZMA: which packet it is.
-/
namespace Go.Proofs.YtoencondpbkomaaGreat
open Go.RowKit

section
variable {K : Koc} {w w' : World} {Ge Ge' : Option Nat} {A' : Option Addr} {c : Nat} {z : Lzs} {k : Nat} {t : Pm En}

theorem kindE_0 {s : Nat} {em : Bool} : (kindP encM t em z.st s 0).2.2 = (bitP encM t (16 * z.st + s) 0).2 := by
  unfold kindP kd1
  rfl

set_option maxRecDepth 100000 in
set_option maxHeartbeats 8000000 in
theorem ckind_0 {s : Nat} (h : Cw K w Ge A' c z (k + 5) t) (hst : z.st ≤ 11) (hp : z.pb ≤ 4) (ho : z.out.length ≤ 1000000) (hs : s = z.out.length % 2 ^ z.pb) :
    Calls Tryz.prog 64 #[.pointer (some ⟨K.g, 0, none⟩), .int .i64 0] w (CMid K w Ge (.tuple #[]) A' c z k (kindP encM t (decide (z.out.length = 0)) z.st s 0).2.2) := by
  rw [kindE_0]
  have hs15 : s ≤ 15 := by rw [hs]; exact mod_pb hp
  have KP := fun n => cplace_q h hp ho n
  rw [← hs] at KP
  have KP := Lib.hid KP
  have HAD := Lib.hid (And.intro (show K.ad (16 * z.st + s) = (K.g, 11 + z.st * 16 + s) from K.lay.low (by omega) (by omega)) (And.intro (show K.ad (240 + 16 * z.st + s) = (K.g, 203 + z.st * 16 + s) from K.lay.long (by omega) (by omega) (by omega)) (And.intro (show K.ad (192 + z.st) = (K.g, 395 + z.st) from K.lay.rep (by omega) (by omega) (by omega)) (And.intro (show K.ad (204 + z.st) = (K.g, 407 + z.st) from K.lay.rep (by omega) (by omega) (by omega)) (And.intro (show K.ad (216 + z.st) = (K.g, 419 + z.st) from K.lay.rep (by omega) (by omega) (by omega)) (show K.ad (228 + z.st) = (K.g, 431 + z.st) from K.lay.rep (by omega) (by omega) (by omega)))))))
  have HL := Lib.hid (And.intro hst hs15)
  have HZ0 := Lib.hid h
  have HN0 := Lib.hid (Nwr.refl w Ge)
  have HO0 := Lib.hid (Only.refl (K.own Ge) w)
  have i1 : (z.st : Int) < 12 := by omega
  have i0 : (0 : Int) ≤ (z.st : Int) := by omega
  have j1 : (s : Int) < 16 := by omega
  have j0 : (0 : Int) ≤ (s : Int) := by omega
  have c6 := h.f.c6
  clear h hs hp ho hs15 hst
  go_enter Tryz.func64, Tryz.ntmps64
  go_wp2_with fail
  go_region_held3 (fun _ => True) (first | trivial | assumption | go_keep) (first | (go_at_call 83; refine (KP.out _).mono ?_; rintro e w1 ⟨rfl, hq⟩; have HQ := Lib.hid hq; clear hq))
  have HZ1 := Lib.hid (HZ0.out.quiet HQ.out)
  have HN1 := HN0
  have HO1 := Lib.hid (show Only (K.own Ge) w w1 from HQ.out.mono fun _ h => h.elim)
  have c6 := HZ1.out.f.c6
  clear HQ KP HZ0 HN0 HO0
  go_wp2_with fail
  go_region
  all_goals go_wp2_with fail
  go_region
  have HZ1 : Hid (Cw K w1.drew.drew Ge A' c z (k + 5) t) := Lib.hid (HZ1.out.drewN 2)
  have HO1 : Hid (Only (K.own Ge) w w1.drew.drew) := Lib.hid (HO1.out.drewN 2)
  clear c6
  generalize w1.drew.drew = w1x at *
  have c4 := HZ1.out.f.c4
  have KC := Lib.hid (HZ1.out.bit0 (k := k + 4) (a := 16 * z.st + s) (b := K.g) (i := 11 + z.st * 16 + s) HAD.out.1 (by have := HL.out; omega))
  go_wp2_with fail
  refine KC.out.mono ?_
  rintro e w2 ⟨rfl, G2, hz2, hn2, ho2⟩
  have HZ2 := Lib.hid hz2
  have HN2 := Lib.hid (HN1.out.trans hn2 HO1.out.size)
  have HO2 := Lib.hid (cset_trans HO1.out HN1.out (ho2))
  have f4 := hz2.f.c4
  clear hz2 hn2 ho2
  clear KC c4 f4
  clear HZ1 HN1 HO1
  go_wp2_with fail
  first | go_end0 | refine bodyPost_ret (results_none rfl _ _ _) rfl ?_
  exact ⟨rfl, G2, HZ2.out.less (by omega), HN2.out, HO2.out⟩

theorem kindE_1 {s : Nat} {em : Bool} : (kindP encM t em z.st s 1).2.2 = (bitP encM (bitP encM t (16 * z.st + s) 1).2 (192 + z.st) 0).2 := by
  unfold kindP kd1 kd2
  rfl

set_option maxRecDepth 100000 in
set_option maxHeartbeats 8000000 in
theorem ckind_1 {s : Nat} (h : Cw K w Ge A' c z (k + 5) t) (hst : z.st ≤ 11) (hp : z.pb ≤ 4) (ho : z.out.length ≤ 1000000) (hs : s = z.out.length % 2 ^ z.pb) :
    Calls Tryz.prog 64 #[.pointer (some ⟨K.g, 0, none⟩), .int .i64 1] w (CMid K w Ge (.tuple #[]) A' c z k (kindP encM t (decide (z.out.length = 0)) z.st s 1).2.2) := by
  rw [kindE_1]
  have hs15 : s ≤ 15 := by rw [hs]; exact mod_pb hp
  have KP := fun n => cplace_q h hp ho n
  rw [← hs] at KP
  have KP := Lib.hid KP
  have HAD := Lib.hid (And.intro (show K.ad (16 * z.st + s) = (K.g, 11 + z.st * 16 + s) from K.lay.low (by omega) (by omega)) (And.intro (show K.ad (240 + 16 * z.st + s) = (K.g, 203 + z.st * 16 + s) from K.lay.long (by omega) (by omega) (by omega)) (And.intro (show K.ad (192 + z.st) = (K.g, 395 + z.st) from K.lay.rep (by omega) (by omega) (by omega)) (And.intro (show K.ad (204 + z.st) = (K.g, 407 + z.st) from K.lay.rep (by omega) (by omega) (by omega)) (And.intro (show K.ad (216 + z.st) = (K.g, 419 + z.st) from K.lay.rep (by omega) (by omega) (by omega)) (show K.ad (228 + z.st) = (K.g, 431 + z.st) from K.lay.rep (by omega) (by omega) (by omega)))))))
  have HL := Lib.hid (And.intro hst hs15)
  have HZ0 := Lib.hid h
  have HN0 := Lib.hid (Nwr.refl w Ge)
  have HO0 := Lib.hid (Only.refl (K.own Ge) w)
  have i1 : (z.st : Int) < 12 := by omega
  have i0 : (0 : Int) ≤ (z.st : Int) := by omega
  have j1 : (s : Int) < 16 := by omega
  have j0 : (0 : Int) ≤ (s : Int) := by omega
  have c6 := h.f.c6
  clear h hs hp ho hs15 hst
  go_enter Tryz.func64, Tryz.ntmps64
  go_wp2_with fail
  go_region_held3 (fun _ => True) (first | trivial | assumption | go_keep) (first | (go_at_call 83; refine (KP.out _).mono ?_; rintro e w1 ⟨rfl, hq⟩; have HQ := Lib.hid hq; clear hq))
  have HZ1 := Lib.hid (HZ0.out.quiet HQ.out)
  have HN1 := HN0
  have HO1 := Lib.hid (show Only (K.own Ge) w w1 from HQ.out.mono fun _ h => h.elim)
  have c6 := HZ1.out.f.c6
  clear HQ KP HZ0 HN0 HO0
  go_wp2_with fail
  go_region
  all_goals go_wp2_with fail
  go_region
  have HZ1 : Hid (Cw K w1.drew.drew Ge A' c z (k + 5) t) := Lib.hid (HZ1.out.drewN 2)
  have HO1 : Hid (Only (K.own Ge) w w1.drew.drew) := Lib.hid (HO1.out.drewN 2)
  clear c6
  generalize w1.drew.drew = w1x at *
  have c4 := HZ1.out.f.c4
  have KC := Lib.hid ((HZ1.out.ones (k := k + 4) (n := 1) (al := [16 * z.st + s]) (cs := #[.pointer (some ⟨K.g, 11 + z.st * 16 + s, none⟩)]) (T := 141) rfl (by decide) (by intro a ha; simp at ha; have := HL.out; omega) (by simp [HAD.out.1])))
  go_wp2_with fail
  refine KC.out.mono ?_
  rintro e w2 ⟨rfl, G2, hz2, hn2, ho2⟩
  have HZ2 := Lib.hid hz2
  have HN2 := Lib.hid (HN1.out.trans hn2 HO1.out.size)
  have HO2 := Lib.hid (cset_trans HO1.out HN1.out (ho2))
  have f4 := hz2.f.c4
  clear hz2 hn2 ho2
  clear KC c4 f4
  clear HZ1 HN1 HO1
  have c4 := HZ2.out.f.c4
  have KC := Lib.hid (HZ2.out.bit0 (k := k + 3) (a := 192 + z.st) (b := K.g) (i := 395 + z.st) HAD.out.2.2.1 (by have := HL.out; omega))
  go_wp2_with fail
  refine KC.out.mono ?_
  rintro e w3 ⟨rfl, G3, hz3, hn3, ho3⟩
  have HZ3 := Lib.hid hz3
  have HN3 := Lib.hid (HN2.out.trans hn3 HO2.out.size)
  have HO3 := Lib.hid (cset_trans HO2.out HN2.out (ho3))
  have f4 := hz3.f.c4
  clear hz3 hn3 ho3
  clear KC c4 f4
  clear HZ2 HN2 HO2
  go_wp2_with fail
  first | go_end0 | refine bodyPost_ret (results_none rfl _ _ _) rfl ?_
  exact ⟨rfl, G3, HZ3.out.less (by omega), HN3.out, HO3.out⟩

theorem kindE_7 {s : Nat} {em : Bool} : (kindP encM t em z.st s 7).2.2 = (bitP encM (bitP encM t (16 * z.st + s) 1).2 (192 + z.st) 0).2 := by
  unfold kindP kd1 kd2
  rfl

set_option maxRecDepth 100000 in
set_option maxHeartbeats 8000000 in
theorem ckind_7 {s : Nat} (h : Cw K w Ge A' c z (k + 5) t) (hst : z.st ≤ 11) (hp : z.pb ≤ 4) (ho : z.out.length ≤ 1000000) (hs : s = z.out.length % 2 ^ z.pb) :
    Calls Tryz.prog 64 #[.pointer (some ⟨K.g, 0, none⟩), .int .i64 7] w (CMid K w Ge (.tuple #[]) A' c z k (kindP encM t (decide (z.out.length = 0)) z.st s 7).2.2) := by
  rw [kindE_7]
  have hs15 : s ≤ 15 := by rw [hs]; exact mod_pb hp
  have KP := fun n => cplace_q h hp ho n
  rw [← hs] at KP
  have KP := Lib.hid KP
  have HAD := Lib.hid (And.intro (show K.ad (16 * z.st + s) = (K.g, 11 + z.st * 16 + s) from K.lay.low (by omega) (by omega)) (And.intro (show K.ad (240 + 16 * z.st + s) = (K.g, 203 + z.st * 16 + s) from K.lay.long (by omega) (by omega) (by omega)) (And.intro (show K.ad (192 + z.st) = (K.g, 395 + z.st) from K.lay.rep (by omega) (by omega) (by omega)) (And.intro (show K.ad (204 + z.st) = (K.g, 407 + z.st) from K.lay.rep (by omega) (by omega) (by omega)) (And.intro (show K.ad (216 + z.st) = (K.g, 419 + z.st) from K.lay.rep (by omega) (by omega) (by omega)) (show K.ad (228 + z.st) = (K.g, 431 + z.st) from K.lay.rep (by omega) (by omega) (by omega)))))))
  have HL := Lib.hid (And.intro hst hs15)
  have HZ0 := Lib.hid h
  have HN0 := Lib.hid (Nwr.refl w Ge)
  have HO0 := Lib.hid (Only.refl (K.own Ge) w)
  have i1 : (z.st : Int) < 12 := by omega
  have i0 : (0 : Int) ≤ (z.st : Int) := by omega
  have j1 : (s : Int) < 16 := by omega
  have j0 : (0 : Int) ≤ (s : Int) := by omega
  have c6 := h.f.c6
  clear h hs hp ho hs15 hst
  go_enter Tryz.func64, Tryz.ntmps64
  go_wp2_with fail
  go_region_held3 (fun _ => True) (first | trivial | assumption | go_keep) (first | (go_at_call 83; refine (KP.out _).mono ?_; rintro e w1 ⟨rfl, hq⟩; have HQ := Lib.hid hq; clear hq))
  have HZ1 := Lib.hid (HZ0.out.quiet HQ.out)
  have HN1 := HN0
  have HO1 := Lib.hid (show Only (K.own Ge) w w1 from HQ.out.mono fun _ h => h.elim)
  have c6 := HZ1.out.f.c6
  clear HQ KP HZ0 HN0 HO0
  go_wp2_with fail
  go_region
  all_goals go_wp2_with fail
  go_region
  have HZ1 : Hid (Cw K w1.drew.drew Ge A' c z (k + 5) t) := Lib.hid (HZ1.out.drewN 2)
  have HO1 : Hid (Only (K.own Ge) w w1.drew.drew) := Lib.hid (HO1.out.drewN 2)
  clear c6
  generalize w1.drew.drew = w1x at *
  have c4 := HZ1.out.f.c4
  have KC := Lib.hid ((HZ1.out.ones (k := k + 4) (n := 1) (al := [16 * z.st + s]) (cs := #[.pointer (some ⟨K.g, 11 + z.st * 16 + s, none⟩)]) (T := 141) rfl (by decide) (by intro a ha; simp at ha; have := HL.out; omega) (by simp [HAD.out.1])))
  go_wp2_with fail
  refine KC.out.mono ?_
  rintro e w2 ⟨rfl, G2, hz2, hn2, ho2⟩
  have HZ2 := Lib.hid hz2
  have HN2 := Lib.hid (HN1.out.trans hn2 HO1.out.size)
  have HO2 := Lib.hid (cset_trans HO1.out HN1.out (ho2))
  have f4 := hz2.f.c4
  clear hz2 hn2 ho2
  clear KC c4 f4
  clear HZ1 HN1 HO1
  have c4 := HZ2.out.f.c4
  have KC := Lib.hid (HZ2.out.bit0 (k := k + 3) (a := 192 + z.st) (b := K.g) (i := 395 + z.st) HAD.out.2.2.1 (by have := HL.out; omega))
  go_wp2_with fail
  refine KC.out.mono ?_
  rintro e w3 ⟨rfl, G3, hz3, hn3, ho3⟩
  have HZ3 := Lib.hid hz3
  have HN3 := Lib.hid (HN2.out.trans hn3 HO2.out.size)
  have HO3 := Lib.hid (cset_trans HO2.out HN2.out (ho3))
  have f4 := hz3.f.c4
  clear hz3 hn3 ho3
  clear KC c4 f4
  clear HZ2 HN2 HO2
  go_wp2_with fail
  first | go_end0 | refine bodyPost_ret (results_none rfl _ _ _) rfl ?_
  exact ⟨rfl, G3, HZ3.out.less (by omega), HN3.out, HO3.out⟩

theorem kindE_6 {s : Nat} {em : Bool} (hem : em = false) : (kindP encM t em z.st s 6).2.2 = (bitP encM (bitP encM (bitP encM (bitP encM t (16 * z.st + s) 1).2 (192 + z.st) 1).2 (204 + z.st) 0).2 (240 + 16 * z.st + s) 0).2 := by
  subst hem
  unfold kindP kd1 kd2 kd3 kdL
  rfl

set_option maxRecDepth 100000 in
set_option maxHeartbeats 8000000 in
theorem ckind_6 {s : Nat} (h : Cw K w Ge A' c z (k + 5) t) (hst : z.st ≤ 11) (hp : z.pb ≤ 4) (ho : z.out.length ≤ 1000000) (hem : z.out.length ≠ 0) (hs : s = z.out.length % 2 ^ z.pb) :
    Calls Tryz.prog 64 #[.pointer (some ⟨K.g, 0, none⟩), .int .i64 6] w (CMid K w Ge (.tuple #[]) A' c z k (kindP encM t (decide (z.out.length = 0)) z.st s 6).2.2) := by
  rw [kindE_6 (decide_eq_false hem)]
  have hs15 : s ≤ 15 := by rw [hs]; exact mod_pb hp
  have KP := fun n => cplace_q h hp ho n
  rw [← hs] at KP
  have KP := Lib.hid KP
  have HAD := Lib.hid (And.intro (show K.ad (16 * z.st + s) = (K.g, 11 + z.st * 16 + s) from K.lay.low (by omega) (by omega)) (And.intro (show K.ad (240 + 16 * z.st + s) = (K.g, 203 + z.st * 16 + s) from K.lay.long (by omega) (by omega) (by omega)) (And.intro (show K.ad (192 + z.st) = (K.g, 395 + z.st) from K.lay.rep (by omega) (by omega) (by omega)) (And.intro (show K.ad (204 + z.st) = (K.g, 407 + z.st) from K.lay.rep (by omega) (by omega) (by omega)) (And.intro (show K.ad (216 + z.st) = (K.g, 419 + z.st) from K.lay.rep (by omega) (by omega) (by omega)) (show K.ad (228 + z.st) = (K.g, 431 + z.st) from K.lay.rep (by omega) (by omega) (by omega)))))))
  have HL := Lib.hid (And.intro hst hs15)
  have HZ0 := Lib.hid h
  have HN0 := Lib.hid (Nwr.refl w Ge)
  have HO0 := Lib.hid (Only.refl (K.own Ge) w)
  have i1 : (z.st : Int) < 12 := by omega
  have i0 : (0 : Int) ≤ (z.st : Int) := by omega
  have j1 : (s : Int) < 16 := by omega
  have j0 : (0 : Int) ≤ (s : Int) := by omega
  have c6 := h.f.c6
  clear h hs hp ho hs15 hst hem
  go_enter Tryz.func64, Tryz.ntmps64
  go_wp2_with fail
  go_region_held3 (fun _ => True) (first | trivial | assumption | go_keep) (first | (go_at_call 83; refine (KP.out _).mono ?_; rintro e w1 ⟨rfl, hq⟩; have HQ := Lib.hid hq; clear hq))
  have HZ1 := Lib.hid (HZ0.out.quiet HQ.out)
  have HN1 := HN0
  have HO1 := Lib.hid (show Only (K.own Ge) w w1 from HQ.out.mono fun _ h => h.elim)
  have c6 := HZ1.out.f.c6
  clear HQ KP HZ0 HN0 HO0
  go_wp2_with fail
  go_region
  all_goals go_wp2_with fail
  go_region
  have HZ1 : Hid (Cw K w1.drew.drew Ge A' c z (k + 5) t) := Lib.hid (HZ1.out.drewN 2)
  have HO1 : Hid (Only (K.own Ge) w w1.drew.drew) := Lib.hid (HO1.out.drewN 2)
  clear c6
  generalize w1.drew.drew = w1x at *
  have c4 := HZ1.out.f.c4
  have KC := Lib.hid ((HZ1.out.ones (k := k + 3) (n := 2) (al := [16 * z.st + s, 192 + z.st]) (cs := #[.pointer (some ⟨K.g, 11 + z.st * 16 + s, none⟩), .pointer (some ⟨K.g, 395 + z.st, none⟩)]) (T := 141) rfl (by decide) (by intro a ha; simp at ha; have := HL.out; omega) (by simp [HAD.out.1, HAD.out.2.2.1])))
  go_wp2_with fail
  refine KC.out.mono ?_
  rintro e w2 ⟨rfl, G2, hz2, hn2, ho2⟩
  have HZ2 := Lib.hid hz2
  have HN2 := Lib.hid (HN1.out.trans hn2 HO1.out.size)
  have HO2 := Lib.hid (cset_trans HO1.out HN1.out (ho2))
  have f4 := hz2.f.c4
  clear hz2 hn2 ho2
  clear KC c4 f4
  clear HZ1 HN1 HO1
  have c4 := HZ2.out.f.c4
  have KC := Lib.hid (HZ2.out.bit0 (k := k + 2) (a := 204 + z.st) (b := K.g) (i := 407 + z.st) HAD.out.2.2.2.1 (by have := HL.out; omega))
  go_wp2_with fail
  refine KC.out.mono ?_
  rintro e w3 ⟨rfl, G3, hz3, hn3, ho3⟩
  have HZ3 := Lib.hid hz3
  have HN3 := Lib.hid (HN2.out.trans hn3 HO2.out.size)
  have HO3 := Lib.hid (cset_trans HO2.out HN2.out (ho3))
  have f4 := hz3.f.c4
  clear hz3 hn3 ho3
  clear KC c4 f4
  clear HZ2 HN2 HO2
  have c4 := HZ3.out.f.c4
  have KC := Lib.hid (HZ3.out.bit0 (k := k + 1) (a := 240 + 16 * z.st + s) (b := K.g) (i := 203 + z.st * 16 + s) HAD.out.2.1 (by have := HL.out; omega))
  go_wp2_with fail
  refine KC.out.mono ?_
  rintro e w4 ⟨rfl, G4, hz4, hn4, ho4⟩
  have HZ4 := Lib.hid hz4
  have HN4 := Lib.hid (HN3.out.trans hn4 HO3.out.size)
  have HO4 := Lib.hid (cset_trans HO3.out HN3.out (ho4))
  have f4 := hz4.f.c4
  clear hz4 hn4 ho4
  clear KC c4 f4
  clear HZ3 HN3 HO3
  go_wp2_with fail
  first | go_end0 | refine bodyPost_ret (results_none rfl _ _ _) rfl ?_
  exact ⟨rfl, G4, HZ4.out.less (by omega), HN4.out, HO4.out⟩

theorem kindE_2 {s : Nat} {em : Bool} (hem : em = false) : (kindP encM t em z.st s 2).2.2 = (bitP encM (bitP encM (bitP encM (bitP encM t (16 * z.st + s) 1).2 (192 + z.st) 1).2 (204 + z.st) 0).2 (240 + 16 * z.st + s) 1).2 := by
  subst hem
  unfold kindP kd1 kd2 kd3 kdL
  rfl

set_option maxRecDepth 100000 in
set_option maxHeartbeats 8000000 in
theorem ckind_2 {s : Nat} (h : Cw K w Ge A' c z (k + 5) t) (hst : z.st ≤ 11) (hp : z.pb ≤ 4) (ho : z.out.length ≤ 1000000) (hem : z.out.length ≠ 0) (hs : s = z.out.length % 2 ^ z.pb) :
    Calls Tryz.prog 64 #[.pointer (some ⟨K.g, 0, none⟩), .int .i64 2] w (CMid K w Ge (.tuple #[]) A' c z k (kindP encM t (decide (z.out.length = 0)) z.st s 2).2.2) := by
  rw [kindE_2 (decide_eq_false hem)]
  have hs15 : s ≤ 15 := by rw [hs]; exact mod_pb hp
  have KP := fun n => cplace_q h hp ho n
  rw [← hs] at KP
  have KP := Lib.hid KP
  have HAD := Lib.hid (And.intro (show K.ad (16 * z.st + s) = (K.g, 11 + z.st * 16 + s) from K.lay.low (by omega) (by omega)) (And.intro (show K.ad (240 + 16 * z.st + s) = (K.g, 203 + z.st * 16 + s) from K.lay.long (by omega) (by omega) (by omega)) (And.intro (show K.ad (192 + z.st) = (K.g, 395 + z.st) from K.lay.rep (by omega) (by omega) (by omega)) (And.intro (show K.ad (204 + z.st) = (K.g, 407 + z.st) from K.lay.rep (by omega) (by omega) (by omega)) (And.intro (show K.ad (216 + z.st) = (K.g, 419 + z.st) from K.lay.rep (by omega) (by omega) (by omega)) (show K.ad (228 + z.st) = (K.g, 431 + z.st) from K.lay.rep (by omega) (by omega) (by omega)))))))
  have HL := Lib.hid (And.intro hst hs15)
  have HZ0 := Lib.hid h
  have HN0 := Lib.hid (Nwr.refl w Ge)
  have HO0 := Lib.hid (Only.refl (K.own Ge) w)
  have i1 : (z.st : Int) < 12 := by omega
  have i0 : (0 : Int) ≤ (z.st : Int) := by omega
  have j1 : (s : Int) < 16 := by omega
  have j0 : (0 : Int) ≤ (s : Int) := by omega
  have c6 := h.f.c6
  clear h hs hp ho hs15 hst hem
  go_enter Tryz.func64, Tryz.ntmps64
  go_wp2_with fail
  go_region_held3 (fun _ => True) (first | trivial | assumption | go_keep) (first | (go_at_call 83; refine (KP.out _).mono ?_; rintro e w1 ⟨rfl, hq⟩; have HQ := Lib.hid hq; clear hq))
  have HZ1 := Lib.hid (HZ0.out.quiet HQ.out)
  have HN1 := HN0
  have HO1 := Lib.hid (show Only (K.own Ge) w w1 from HQ.out.mono fun _ h => h.elim)
  have c6 := HZ1.out.f.c6
  clear HQ KP HZ0 HN0 HO0
  go_wp2_with fail
  go_region
  all_goals go_wp2_with fail
  go_region
  have HZ1 : Hid (Cw K w1.drew.drew Ge A' c z (k + 5) t) := Lib.hid (HZ1.out.drewN 2)
  have HO1 : Hid (Only (K.own Ge) w w1.drew.drew) := Lib.hid (HO1.out.drewN 2)
  clear c6
  generalize w1.drew.drew = w1x at *
  have c4 := HZ1.out.f.c4
  have KC := Lib.hid ((HZ1.out.ones (k := k + 3) (n := 2) (al := [16 * z.st + s, 192 + z.st]) (cs := #[.pointer (some ⟨K.g, 11 + z.st * 16 + s, none⟩), .pointer (some ⟨K.g, 395 + z.st, none⟩)]) (T := 141) rfl (by decide) (by intro a ha; simp at ha; have := HL.out; omega) (by simp [HAD.out.1, HAD.out.2.2.1])))
  go_wp2_with fail
  refine KC.out.mono ?_
  rintro e w2 ⟨rfl, G2, hz2, hn2, ho2⟩
  have HZ2 := Lib.hid hz2
  have HN2 := Lib.hid (HN1.out.trans hn2 HO1.out.size)
  have HO2 := Lib.hid (cset_trans HO1.out HN1.out (ho2))
  have f4 := hz2.f.c4
  clear hz2 hn2 ho2
  clear KC c4 f4
  clear HZ1 HN1 HO1
  have c4 := HZ2.out.f.c4
  have KC := Lib.hid (HZ2.out.bit0 (k := k + 2) (a := 204 + z.st) (b := K.g) (i := 407 + z.st) HAD.out.2.2.2.1 (by have := HL.out; omega))
  go_wp2_with fail
  refine KC.out.mono ?_
  rintro e w3 ⟨rfl, G3, hz3, hn3, ho3⟩
  have HZ3 := Lib.hid hz3
  have HN3 := Lib.hid (HN2.out.trans hn3 HO2.out.size)
  have HO3 := Lib.hid (cset_trans HO2.out HN2.out (ho3))
  have f4 := hz3.f.c4
  clear hz3 hn3 ho3
  clear KC c4 f4
  clear HZ2 HN2 HO2
  have c4 := HZ3.out.f.c4
  have KC := Lib.hid (HZ3.out.bit1 (k := k + 1) (a := 240 + 16 * z.st + s) (b := K.g) (i := 203 + z.st * 16 + s) HAD.out.2.1 (by have := HL.out; omega))
  go_wp2_with fail
  refine KC.out.mono ?_
  rintro e w4 ⟨rfl, G4, hz4, hn4, ho4⟩
  have HZ4 := Lib.hid hz4
  have HN4 := Lib.hid (HN3.out.trans hn4 HO3.out.size)
  have HO4 := Lib.hid (cset_trans HO3.out HN3.out (ho4))
  have f4 := hz4.f.c4
  clear hz4 hn4 ho4
  clear KC c4 f4
  clear HZ3 HN3 HO3
  go_wp2_with fail
  first | go_end0 | refine bodyPost_ret (results_none rfl _ _ _) rfl ?_
  exact ⟨rfl, G4, HZ4.out.less (by omega), HN4.out, HO4.out⟩

theorem kindE_3 {s : Nat} {em : Bool} (hem : em = false) : (kindP encM t em z.st s 3).2.2 = (bitP encM (bitP encM (bitP encM (bitP encM t (16 * z.st + s) 1).2 (192 + z.st) 1).2 (204 + z.st) 1).2 (216 + z.st) 0).2 := by
  subst hem
  unfold kindP kd1 kd2 kd3 kd4
  rfl

set_option maxRecDepth 100000 in
set_option maxHeartbeats 8000000 in
theorem ckind_3 {s : Nat} (h : Cw K w Ge A' c z (k + 5) t) (hst : z.st ≤ 11) (hp : z.pb ≤ 4) (ho : z.out.length ≤ 1000000) (hem : z.out.length ≠ 0) (hs : s = z.out.length % 2 ^ z.pb) :
    Calls Tryz.prog 64 #[.pointer (some ⟨K.g, 0, none⟩), .int .i64 3] w (CMid K w Ge (.tuple #[]) A' c z k (kindP encM t (decide (z.out.length = 0)) z.st s 3).2.2) := by
  rw [kindE_3 (decide_eq_false hem)]
  have hs15 : s ≤ 15 := by rw [hs]; exact mod_pb hp
  have KP := fun n => cplace_q h hp ho n
  rw [← hs] at KP
  have KP := Lib.hid KP
  have HAD := Lib.hid (And.intro (show K.ad (16 * z.st + s) = (K.g, 11 + z.st * 16 + s) from K.lay.low (by omega) (by omega)) (And.intro (show K.ad (240 + 16 * z.st + s) = (K.g, 203 + z.st * 16 + s) from K.lay.long (by omega) (by omega) (by omega)) (And.intro (show K.ad (192 + z.st) = (K.g, 395 + z.st) from K.lay.rep (by omega) (by omega) (by omega)) (And.intro (show K.ad (204 + z.st) = (K.g, 407 + z.st) from K.lay.rep (by omega) (by omega) (by omega)) (And.intro (show K.ad (216 + z.st) = (K.g, 419 + z.st) from K.lay.rep (by omega) (by omega) (by omega)) (show K.ad (228 + z.st) = (K.g, 431 + z.st) from K.lay.rep (by omega) (by omega) (by omega)))))))
  have HL := Lib.hid (And.intro hst hs15)
  have HZ0 := Lib.hid h
  have HN0 := Lib.hid (Nwr.refl w Ge)
  have HO0 := Lib.hid (Only.refl (K.own Ge) w)
  have i1 : (z.st : Int) < 12 := by omega
  have i0 : (0 : Int) ≤ (z.st : Int) := by omega
  have j1 : (s : Int) < 16 := by omega
  have j0 : (0 : Int) ≤ (s : Int) := by omega
  have c6 := h.f.c6
  clear h hs hp ho hs15 hst hem
  go_enter Tryz.func64, Tryz.ntmps64
  go_wp2_with fail
  go_region_held3 (fun _ => True) (first | trivial | assumption | go_keep) (first | (go_at_call 83; refine (KP.out _).mono ?_; rintro e w1 ⟨rfl, hq⟩; have HQ := Lib.hid hq; clear hq))
  have HZ1 := Lib.hid (HZ0.out.quiet HQ.out)
  have HN1 := HN0
  have HO1 := Lib.hid (show Only (K.own Ge) w w1 from HQ.out.mono fun _ h => h.elim)
  have c6 := HZ1.out.f.c6
  clear HQ KP HZ0 HN0 HO0
  go_wp2_with fail
  go_region
  all_goals go_wp2_with fail
  go_region
  have HZ1 : Hid (Cw K w1.drew.drew Ge A' c z (k + 5) t) := Lib.hid (HZ1.out.drewN 2)
  have HO1 : Hid (Only (K.own Ge) w w1.drew.drew) := Lib.hid (HO1.out.drewN 2)
  clear c6
  generalize w1.drew.drew = w1x at *
  have c4 := HZ1.out.f.c4
  have KC := Lib.hid ((HZ1.out.ones (k := k + 2) (n := 3) (al := [16 * z.st + s, 192 + z.st, 204 + z.st]) (cs := #[.pointer (some ⟨K.g, 11 + z.st * 16 + s, none⟩), .pointer (some ⟨K.g, 395 + z.st, none⟩), .pointer (some ⟨K.g, 407 + z.st, none⟩)]) (T := 141) rfl (by decide) (by intro a ha; simp at ha; have := HL.out; omega) (by simp [HAD.out.1, HAD.out.2.2.1, HAD.out.2.2.2.1])))
  go_wp2_with fail
  refine KC.out.mono ?_
  rintro e w2 ⟨rfl, G2, hz2, hn2, ho2⟩
  have HZ2 := Lib.hid hz2
  have HN2 := Lib.hid (HN1.out.trans hn2 HO1.out.size)
  have HO2 := Lib.hid (cset_trans HO1.out HN1.out (ho2))
  have f4 := hz2.f.c4
  clear hz2 hn2 ho2
  clear KC c4 f4
  clear HZ1 HN1 HO1
  have c4 := HZ2.out.f.c4
  have KC := Lib.hid (HZ2.out.bit0 (k := k + 1) (a := 216 + z.st) (b := K.g) (i := 419 + z.st) HAD.out.2.2.2.2.1 (by have := HL.out; omega))
  go_wp2_with fail
  refine KC.out.mono ?_
  rintro e w3 ⟨rfl, G3, hz3, hn3, ho3⟩
  have HZ3 := Lib.hid hz3
  have HN3 := Lib.hid (HN2.out.trans hn3 HO2.out.size)
  have HO3 := Lib.hid (cset_trans HO2.out HN2.out (ho3))
  have f4 := hz3.f.c4
  clear hz3 hn3 ho3
  clear KC c4 f4
  clear HZ2 HN2 HO2
  go_wp2_with fail
  first | go_end0 | refine bodyPost_ret (results_none rfl _ _ _) rfl ?_
  exact ⟨rfl, G3, HZ3.out.less (by omega), HN3.out, HO3.out⟩

theorem kindE_4 {s : Nat} {em : Bool} (hem : em = false) : (kindP encM t em z.st s 4).2.2 = (bitP encM (bitP encM (bitP encM (bitP encM (bitP encM t (16 * z.st + s) 1).2 (192 + z.st) 1).2 (204 + z.st) 1).2 (216 + z.st) 1).2 (228 + z.st) 0).2 := by
  subst hem
  unfold kindP kd1 kd2 kd3 kd4 kd5
  rfl

set_option maxRecDepth 100000 in
set_option maxHeartbeats 8000000 in
theorem ckind_4 {s : Nat} (h : Cw K w Ge A' c z (k + 5) t) (hst : z.st ≤ 11) (hp : z.pb ≤ 4) (ho : z.out.length ≤ 1000000) (hem : z.out.length ≠ 0) (hs : s = z.out.length % 2 ^ z.pb) :
    Calls Tryz.prog 64 #[.pointer (some ⟨K.g, 0, none⟩), .int .i64 4] w (CMid K w Ge (.tuple #[]) A' c z k (kindP encM t (decide (z.out.length = 0)) z.st s 4).2.2) := by
  rw [kindE_4 (decide_eq_false hem)]
  have hs15 : s ≤ 15 := by rw [hs]; exact mod_pb hp
  have KP := fun n => cplace_q h hp ho n
  rw [← hs] at KP
  have KP := Lib.hid KP
  have HAD := Lib.hid (And.intro (show K.ad (16 * z.st + s) = (K.g, 11 + z.st * 16 + s) from K.lay.low (by omega) (by omega)) (And.intro (show K.ad (240 + 16 * z.st + s) = (K.g, 203 + z.st * 16 + s) from K.lay.long (by omega) (by omega) (by omega)) (And.intro (show K.ad (192 + z.st) = (K.g, 395 + z.st) from K.lay.rep (by omega) (by omega) (by omega)) (And.intro (show K.ad (204 + z.st) = (K.g, 407 + z.st) from K.lay.rep (by omega) (by omega) (by omega)) (And.intro (show K.ad (216 + z.st) = (K.g, 419 + z.st) from K.lay.rep (by omega) (by omega) (by omega)) (show K.ad (228 + z.st) = (K.g, 431 + z.st) from K.lay.rep (by omega) (by omega) (by omega)))))))
  have HL := Lib.hid (And.intro hst hs15)
  have HZ0 := Lib.hid h
  have HN0 := Lib.hid (Nwr.refl w Ge)
  have HO0 := Lib.hid (Only.refl (K.own Ge) w)
  have i1 : (z.st : Int) < 12 := by omega
  have i0 : (0 : Int) ≤ (z.st : Int) := by omega
  have j1 : (s : Int) < 16 := by omega
  have j0 : (0 : Int) ≤ (s : Int) := by omega
  have c6 := h.f.c6
  clear h hs hp ho hs15 hst hem
  go_enter Tryz.func64, Tryz.ntmps64
  go_wp2_with fail
  go_region_held3 (fun _ => True) (first | trivial | assumption | go_keep) (first | (go_at_call 83; refine (KP.out _).mono ?_; rintro e w1 ⟨rfl, hq⟩; have HQ := Lib.hid hq; clear hq))
  have HZ1 := Lib.hid (HZ0.out.quiet HQ.out)
  have HN1 := HN0
  have HO1 := Lib.hid (show Only (K.own Ge) w w1 from HQ.out.mono fun _ h => h.elim)
  have c6 := HZ1.out.f.c6
  clear HQ KP HZ0 HN0 HO0
  go_wp2_with fail
  go_region
  all_goals go_wp2_with fail
  go_region
  have HZ1 : Hid (Cw K w1.drew.drew Ge A' c z (k + 5) t) := Lib.hid (HZ1.out.drewN 2)
  have HO1 : Hid (Only (K.own Ge) w w1.drew.drew) := Lib.hid (HO1.out.drewN 2)
  clear c6
  generalize w1.drew.drew = w1x at *
  have c4 := HZ1.out.f.c4
  have KC := Lib.hid ((HZ1.out.ones (k := k + 1) (n := 4) (al := [16 * z.st + s, 192 + z.st, 204 + z.st, 216 + z.st]) (cs := #[.pointer (some ⟨K.g, 11 + z.st * 16 + s, none⟩), .pointer (some ⟨K.g, 395 + z.st, none⟩), .pointer (some ⟨K.g, 407 + z.st, none⟩), .pointer (some ⟨K.g, 419 + z.st, none⟩)]) (T := 141) rfl (by decide) (by intro a ha; simp at ha; have := HL.out; omega) (by simp [HAD.out.1, HAD.out.2.2.1, HAD.out.2.2.2.1, HAD.out.2.2.2.2.1])))
  go_wp2_with fail
  refine KC.out.mono ?_
  rintro e w2 ⟨rfl, G2, hz2, hn2, ho2⟩
  have HZ2 := Lib.hid hz2
  have HN2 := Lib.hid (HN1.out.trans hn2 HO1.out.size)
  have HO2 := Lib.hid (cset_trans HO1.out HN1.out (ho2))
  have f4 := hz2.f.c4
  clear hz2 hn2 ho2
  clear KC c4 f4
  clear HZ1 HN1 HO1
  have c4 := HZ2.out.f.c4
  have KC := Lib.hid (HZ2.out.bit0 (k := k + 0) (a := 228 + z.st) (b := K.g) (i := 431 + z.st) HAD.out.2.2.2.2.2 (by have := HL.out; omega))
  go_wp2_with fail
  refine KC.out.mono ?_
  rintro e w3 ⟨rfl, G3, hz3, hn3, ho3⟩
  have HZ3 := Lib.hid hz3
  have HN3 := Lib.hid (HN2.out.trans hn3 HO2.out.size)
  have HO3 := Lib.hid (cset_trans HO2.out HN2.out (ho3))
  have f4 := hz3.f.c4
  clear hz3 hn3 ho3
  clear KC c4 f4
  clear HZ2 HN2 HO2
  go_wp2_with fail
  first | go_end0 | refine bodyPost_ret (results_none rfl _ _ _) rfl ?_
  exact ⟨rfl, G3, HZ3.out.less (by omega), HN3.out, HO3.out⟩

theorem kindE_5 {s : Nat} {em : Bool} (hem : em = false) : (kindP encM t em z.st s 5).2.2 = (bitP encM (bitP encM (bitP encM (bitP encM (bitP encM t (16 * z.st + s) 1).2 (192 + z.st) 1).2 (204 + z.st) 1).2 (216 + z.st) 1).2 (228 + z.st) 1).2 := by
  subst hem
  unfold kindP kd1 kd2 kd3 kd4 kd5
  rfl

set_option maxRecDepth 100000 in
set_option maxHeartbeats 8000000 in
theorem ckind_5 {s : Nat} (h : Cw K w Ge A' c z (k + 5) t) (hst : z.st ≤ 11) (hp : z.pb ≤ 4) (ho : z.out.length ≤ 1000000) (hem : z.out.length ≠ 0) (hs : s = z.out.length % 2 ^ z.pb) :
    Calls Tryz.prog 64 #[.pointer (some ⟨K.g, 0, none⟩), .int .i64 5] w (CMid K w Ge (.tuple #[]) A' c z k (kindP encM t (decide (z.out.length = 0)) z.st s 5).2.2) := by
  rw [kindE_5 (decide_eq_false hem)]
  have hs15 : s ≤ 15 := by rw [hs]; exact mod_pb hp
  have KP := fun n => cplace_q h hp ho n
  rw [← hs] at KP
  have KP := Lib.hid KP
  have HAD := Lib.hid (And.intro (show K.ad (16 * z.st + s) = (K.g, 11 + z.st * 16 + s) from K.lay.low (by omega) (by omega)) (And.intro (show K.ad (240 + 16 * z.st + s) = (K.g, 203 + z.st * 16 + s) from K.lay.long (by omega) (by omega) (by omega)) (And.intro (show K.ad (192 + z.st) = (K.g, 395 + z.st) from K.lay.rep (by omega) (by omega) (by omega)) (And.intro (show K.ad (204 + z.st) = (K.g, 407 + z.st) from K.lay.rep (by omega) (by omega) (by omega)) (And.intro (show K.ad (216 + z.st) = (K.g, 419 + z.st) from K.lay.rep (by omega) (by omega) (by omega)) (show K.ad (228 + z.st) = (K.g, 431 + z.st) from K.lay.rep (by omega) (by omega) (by omega)))))))
  have HL := Lib.hid (And.intro hst hs15)
  have HZ0 := Lib.hid h
  have HN0 := Lib.hid (Nwr.refl w Ge)
  have HO0 := Lib.hid (Only.refl (K.own Ge) w)
  have i1 : (z.st : Int) < 12 := by omega
  have i0 : (0 : Int) ≤ (z.st : Int) := by omega
  have j1 : (s : Int) < 16 := by omega
  have j0 : (0 : Int) ≤ (s : Int) := by omega
  have c6 := h.f.c6
  clear h hs hp ho hs15 hst hem
  go_enter Tryz.func64, Tryz.ntmps64
  go_wp2_with fail
  go_region_held3 (fun _ => True) (first | trivial | assumption | go_keep) (first | (go_at_call 83; refine (KP.out _).mono ?_; rintro e w1 ⟨rfl, hq⟩; have HQ := Lib.hid hq; clear hq))
  have HZ1 := Lib.hid (HZ0.out.quiet HQ.out)
  have HN1 := HN0
  have HO1 := Lib.hid (show Only (K.own Ge) w w1 from HQ.out.mono fun _ h => h.elim)
  have c6 := HZ1.out.f.c6
  clear HQ KP HZ0 HN0 HO0
  go_wp2_with fail
  go_region
  all_goals go_wp2_with fail
  go_region
  have HZ1 : Hid (Cw K w1.drew.drew Ge A' c z (k + 5) t) := Lib.hid (HZ1.out.drewN 2)
  have HO1 : Hid (Only (K.own Ge) w w1.drew.drew) := Lib.hid (HO1.out.drewN 2)
  clear c6
  generalize w1.drew.drew = w1x at *
  have c4 := HZ1.out.f.c4
  have KC := Lib.hid ((HZ1.out.ones (k := k + 0) (n := 5) (al := [16 * z.st + s, 192 + z.st, 204 + z.st, 216 + z.st, 228 + z.st]) (cs := #[.pointer (some ⟨K.g, 11 + z.st * 16 + s, none⟩), .pointer (some ⟨K.g, 395 + z.st, none⟩), .pointer (some ⟨K.g, 407 + z.st, none⟩), .pointer (some ⟨K.g, 419 + z.st, none⟩), .pointer (some ⟨K.g, 431 + z.st, none⟩)]) (T := 141) rfl (by decide) (by intro a ha; simp at ha; have := HL.out; omega) (by simp [HAD.out.1, HAD.out.2.2.1, HAD.out.2.2.2.1, HAD.out.2.2.2.2.1, HAD.out.2.2.2.2.2])))
  go_wp2_with fail
  refine KC.out.mono ?_
  rintro e w2 ⟨rfl, G2, hz2, hn2, ho2⟩
  have HZ2 := Lib.hid hz2
  have HN2 := Lib.hid (HN1.out.trans hn2 HO1.out.size)
  have HO2 := Lib.hid (cset_trans HO1.out HN1.out (ho2))
  have f4 := hz2.f.c4
  clear hz2 hn2 ho2
  clear KC c4 f4
  clear HZ1 HN1 HO1
  go_wp2_with fail
  first | go_end0 | refine bodyPost_ret (results_none rfl _ _ _) rfl ?_
  exact ⟨rfl, G2, HZ2.out.less (by omega), HN2.out, HO2.out⟩
end
end Go.Proofs.YtoencondpbkomaaGreat

/-
  A region that draws its order, walked by hand: the condition on the world may be strengthened on the way.
-/
namespace Go.Proofs.YtoencondpbkomaaGreat

section
variable {P : Program} {ops : Array Oper} {Q : Exit → Act → World → Prop} {md : Region.Mode} {S S' : World → Prop}
/-- What holds under the stronger condition holds under the weaker one: so a cell that turns within the region is named behind its turning. -/
theorem wpAnyH_strong (hSS : ∀ w, S' w → S w) : ∀ (fuel : Nat) (listed : Array Bool) (a : Act) (w : World), wpAnyH P md ops Q S' fuel listed a w → wpAnyH P md ops Q S fuel listed a w
  | 0, _, _, _, h => h
  | fuel + 1, _, _, _, h => ⟨h.1, fun i hi => wpOp_mono (fun _ _ h' => ⟨hSS _ h'.1, wpAnyH_strong hSS fuel _ _ _ h'.2⟩) (h.2 i hi)⟩
end
end Go.Proofs.YtoencondpbkomaaGreat
