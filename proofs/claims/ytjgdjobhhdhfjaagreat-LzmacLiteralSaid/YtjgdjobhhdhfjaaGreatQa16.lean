/-
  CwLen, CwPackE, LzCoded, CwBack: put together.
-/
import Derived.Test.YtjgdjobhhdhfjaaGreatQa15
import Derived.Test.YtjgdjobhhdhfjaaGreatQa13
import Derived.Test.YtjgdjobhhdhfjaaGreatQa14
import Derived.Test.YtjgdjobhhdhfjaaGreatQa12
set_option linter.unusedVariables false
set_option linter.unusedSimpArgs false
/-
  The program's coder of LZMA: a length.
-/
namespace Go.Proofs.YtjgdjobhhdhfjaaGreat
open Go.RowKit

/-! ### what a coder tells of a length, as numbers -/
theorem enc_tell (t : Pm En) (a : Nat) (w : Int) : (bitP encM t a w).1 = w.toNat := rfl
theorem lenE0 {t : Pm En} {A s v : Nat} (h : v < 8) : (lenP encM t A s (v : Int)).2 = (treeP encM (bitP encM t A 0).2 (A + 2 + 8 * s) 3 (v : Int)).2 := by
  have e : min ((v : Int).tdiv 8) 1 = 0 := by rw [Int.tdiv_eq_ediv_of_nonneg (by omega)]; omega
  unfold lenP lenA
  rw [e, if_pos (show (bitP encM t A 0).1 = 0 from rfl)]
theorem lenE1 {t : Pm En} {A s v : Nat} (h8 : 8 ≤ v) (h : v < 16) : (lenP encM t A s (v : Int)).2 = (treeP encM (bitP encM (bitP encM t A 1).2 (A + 1) 0).2 (A + 130 + 8 * s) 3 ((v - 8 : Nat) : Int)).2 := by
  have e : min ((v : Int).tdiv 8) 1 = 1 := by rw [Int.tdiv_eq_ediv_of_nonneg (by omega)]; omega
  have e2 : min ((v : Int).tdiv 16) 1 = 0 := by rw [Int.tdiv_eq_ediv_of_nonneg (by omega)]; omega
  unfold lenP lenA
  rw [e, if_neg (show ¬ (bitP encM t A 1).1 = 0 from by rw [enc_tell]; decide), e2]
  unfold lenB
  rw [if_pos (show (bitP encM (bitP encM t A 1).2 (A + 1) 0).1 = 0 from rfl), show ((v - 8 : Nat) : Int) = (v : Int) - 8 by omega]
theorem lenE2 {t : Pm En} {A s v : Nat} (h : 16 ≤ v) : (lenP encM t A s (v : Int)).2 = (treeP encM (bitP encM (bitP encM t A 1).2 (A + 1) 1).2 (A + 258) 8 ((v - 16 : Nat) : Int)).2 := by
  have e : min ((v : Int).tdiv 8) 1 = 1 := by rw [Int.tdiv_eq_ediv_of_nonneg (by omega)]; omega
  have e2 : min ((v : Int).tdiv 16) 1 = 1 := by rw [Int.tdiv_eq_ediv_of_nonneg (by omega)]; omega
  unfold lenP lenA
  rw [e, if_neg (show ¬ (bitP encM t A 1).1 = 0 from by rw [enc_tell]; decide), e2]
  unfold lenB
  rw [if_neg (show ¬ (bitP encM (bitP encM t A 1).2 (A + 1) 1).1 = 0 from by rw [enc_tell]; decide), show ((v - 16 : Nat) : Int) = (v : Int) - 16 by omega]

section
variable {K : Koc} {w w' : World} {Ge Ge' : Option Nat} {A' : Option Addr} {c : Nat} {z : Lzs} {k : Nat} {t : Pm En}

/-- a slice of pointers to probabilities, laid anew; the bits 1 with them -/
theorem Cw.ones {n : Nat} {al : List Nat} {cs : Array Value} {T : TypeId} (h : Cw K w Ge A' c z (k + n) t) (hn : al.length = n) (hn5 : n ≤ 100) (ha : ∀ a ∈ al, a < 1847 + K.nl) (hcs : cs = (al.map fun a => Value.pointer (some ⟨(K.ad a).1, (K.ad a).2, none⟩)).toArray) :
    Calls Tryz.prog 87 #[.pointer (some ⟨K.g, 0, none⟩), .slice (some ⟨w.heap.size, 0, none⟩) n n] (w.alloc (.cells cs T)) (CMid K w Ge (.tuple #[]) A' c z k (onesP t al)) := by
  obtain ⟨o1, o2, o3, o4, o5⟩ := h.old
  have hO : Only (fun _ => False) w (w.alloc (.cells cs T)) := (Only.refl _ w).alloc _
  have hz := h.quiet hO
  have hB : Blk (w.alloc (.cells cs T)) w.heap.size T cs := Blk.fresh w _ _
  refine (cones_any (q := w.heap.size) hz hn hn5 hB.lt ?_ ha (fun j hj => ?_)).mono ?_
  · rintro (e | e | e | e)
    · omega
    · have := o4 _ e; omega
    · omega
    · omega
  · rw [hB.cell, hcs]
    simp [hj]
  · rintro e w' ⟨rfl, G', h1, h2, h3⟩
    exact ⟨rfl, G', h1, fun i hi => (h2 i hi).imp id (fun h => Nat.le_trans hO.size h), (hO.mono fun _ h => h.elim).trans h3⟩
end

section
variable {K : Koc} {w w' : World} {Ge Ge' : Option Nat} {A' : Option Addr} {c : Nat} {z : Lzs} {k : Nat} {t : Pm En}

theorem cplace_q (h : Cw K w Ge A' c z k t) (hp : z.pb ≤ 4) (ho : z.out.length ≤ 1000000) (n : Nat) :
    Calls Tryz.prog 85 #[.pointer (some ⟨K.g, 0, none⟩)] (w.drewN n) fun e w' => e = .returned (.int .i64 ((z.out.length % 2 ^ z.pb : Nat) : Int)) ∧ Only (fun _ => False) w w' := by
  refine (cplace_any (h.drewN n) hp ho).mono ?_
  rintro e w' ⟨rfl, m, rfl⟩
  exact ⟨rfl, Only.of_drewN ((Only.refl _ _).drewN m)⟩

set_option maxRecDepth 100000 in
set_option maxHeartbeats 8000000 in
/-- The coder codes a length. -/
theorem clenc_any {A o s v : Nat} (h : Cw K w Ge A' c z (k + 10) t) (hp : z.pb ≤ 4) (ho : z.out.length ≤ 1000000) (hA : 688 ≤ A) (hA2 : A + 514 ≤ 1847) (hoA : o = 11 + (A - 256)) (hs : s = z.out.length % 2 ^ z.pb) (hv : v < 272) :
    Calls Tryz.prog 94 #[.pointer (some ⟨K.g, 0, none⟩), .pointer (some ⟨K.g, o, none⟩), .int .i64 (v : Int)] w (CMid K w Ge (.tuple #[]) A' c z k (lenP encM t A s (v : Int)).2) := by
  have hs15 : s ≤ 15 := by rw [hs]; exact mod_pb hp
  have KP := cplace_q h hp ho 0
  rw [← hs] at KP
  have KP := Lib.hid KP
  have j1 : (s : Int) < 16 := by omega
  have j0 : (0 : Int) ≤ (s : Int) := by omega
  have HL := Lib.hid (And.intro hA (And.intro hA2 (And.intro hoA hs15)))
  have ad0 : K.ad A = (K.g, o) := K.lay.rest hA (by omega) (by omega)
  have ad1 : K.ad (A + 1) = (K.g, o + 1) := K.lay.rest (by omega) (by omega) (by omega)
  have HAD := Lib.hid (And.intro ad0 ad1)
  have HV := Lib.hid hv
  by_cases h8 : v < 8
  · rw [lenE0 h8]
    have g8 : (v : Int) < 8 := by omega
    have e1 : IntKind.u32.wrap (v : Int) = (v : Int) := u32_of _ (by omega) (by omega)
    clear h8
    have HZ0 := Lib.hid h
    have HN0 := Lib.hid (Nwr.refl w Ge)
    have HO0 := Lib.hid (Only.refl (K.own Ge) w)
    clear h hs hp ho hA hA2 hoA hs15 ad0 ad1 hv
    go_enter Tryz.func94, Tryz.ntmps94
    go_wp2_with fail
    refine KP.out.mono ?_
    rintro e w1 ⟨rfl, hq⟩
    have HZ1 := Lib.hid (HZ0.out.quiet hq)
    have HN1 := HN0
    have HO1 := Lib.hid (show Only (K.own Ge) w w1 from hq.mono fun _ h => h.elim)
    clear hq KP HZ0 HN0 HO0
    go_wp2_with fail
    have c4 := HZ1.out.f.c4
    have KC := Lib.hid (fun n => (HZ1.out.drewN n).bit0 (k := k + 9) (a := A) (b := K.g) (i := o) HAD.out.1 (by have := HL.out; omega))
    go_region_held3 (fun w' => w'.cell? ⟨K.g, 4, none⟩ = some (.pointer (some ⟨K.eg, 0, none⟩))) (first | assumption | go_keep | exact c4 | exact f4) (first | (go_at_call 86; refine (KC.out _).mono ?_; rintro e w2 ⟨rfl, G2, hz2, hn2, ho2⟩; have HZ2 := Lib.hid hz2; have HN2 := Lib.hid (HN1.out.trans hn2 HO1.out.size); have HO2 := Lib.hid (cset_trans HO1.out HN1.out (Only.of_drewN ho2)); have f4 := hz2.f.c4; clear hz2 hn2 ho2))
    clear KC c4 f4
    clear HZ1 HN1 HO1
    go_wp2_with fail
    have c4 := HZ2.out.f.c4
    have KC := Lib.hid (fun n => ((HZ2.out.drewN n).less (k' := k + 3) (by omega)).tree (n := 3) (a := A + 2 + 8 * s) (b := K.g) (o := o + 2 + s * 8) (len := 8) (cap := 8) (V := v) (fun m hm => (K.lay.rest (by have := HL.out; omega) (by have : m < 8 := hm; have := HL.out; omega) (by have := HL.out; omega))) (by show _ + 8 ≤ _; have := HL.out; omega) (by decide) (by decide) (by have := HV.out; omega))
    go_region_held3 (fun w' => w'.cell? ⟨K.g, 4, none⟩ = some (.pointer (some ⟨K.eg, 0, none⟩))) (first | assumption | go_keep | exact c4 | exact f4) (first | (go_at_call 92; refine (KC.out _).mono ?_; rintro e w3 ⟨rfl, G3, hz3, hn3, ho3⟩; have HZ3 := Lib.hid hz3; have HN3 := Lib.hid (HN2.out.trans hn3 HO2.out.size); have HO3 := Lib.hid (cset_trans HO2.out HN2.out (Only.of_drewN ho3)); have f4 := hz3.f.c4; clear hz3 hn3 ho3))
    clear KC c4 f4
    clear HZ2 HN2 HO2
    go_wp2_with fail
    first | go_end0 | refine bodyPost_ret (results_none rfl _ _ _) rfl ?_
    exact ⟨rfl, G3, HZ3.out, HN3.out, HO3.out⟩
  by_cases h16 : v < 16
  · rw [lenE1 (by omega) h16]
    have g8 : ¬ (v : Int) < 8 := by omega
    have g16 : (v : Int) < 16 := by omega
    obtain ⟨u, hu⟩ : ∃ u, u = v - 8 := ⟨_, rfl⟩
    rw [← hu]
    have e0 : IntKind.i64.wrap ((v : Int) - 8) = (u : Int) := by rw [show (v : Int) - 8 = (u : Int) by omega]; exact IntWalk.i64_in _ (by omega)
    have e1 : IntKind.u32.wrap (u : Int) = (u : Int) := u32_of _ (by omega) (by omega)
    have HV := Lib.hid (show u < 272 by omega)
    clear h8 h16 hu
    have HZ0 := Lib.hid h
    have HN0 := Lib.hid (Nwr.refl w Ge)
    have HO0 := Lib.hid (Only.refl (K.own Ge) w)
    clear h hs hp ho hA hA2 hoA hs15 ad0 ad1 hv
    go_enter Tryz.func94, Tryz.ntmps94
    go_wp2_with fail
    refine KP.out.mono ?_
    rintro e w1 ⟨rfl, hq⟩
    have HZ1 := Lib.hid (HZ0.out.quiet hq)
    have HN1 := HN0
    have HO1 := Lib.hid (show Only (K.own Ge) w w1 from hq.mono fun _ h => h.elim)
    clear hq KP HZ0 HN0 HO0
    go_wp2_with fail
    have c4 := HZ1.out.f.c4
    have KC := Lib.hid ((HZ1.out.ones (k := k + 9) (n := 1) (al := [A]) (cs := #[.pointer (some ⟨K.g, o, none⟩)]) (T := 146) rfl (by decide) (by intro a ha; simp at ha; have := HL.out; omega) (by simp [HAD.out.1])))
    go_wp2_with fail
    refine KC.out.mono ?_
    rintro e w2 ⟨rfl, G2, hz2, hn2, ho2⟩
    have HZ2 := Lib.hid hz2
    have HN2 := Lib.hid (HN1.out.trans hn2 HO1.out.size)
    have HO2 := Lib.hid (cset_trans HO1.out HN1.out (ho2))
    have f4 := hz2.f.c4
    clear hz2 hn2 ho2
    clear KC c4 f4
    clear HZ1 HN1 HO1
    go_wp2_with fail
    have c4 := HZ2.out.f.c4
    have KC := Lib.hid (fun n => (HZ2.out.drewN n).bit0 (k := k + 8) (a := A + 1) (b := K.g) (i := o + 1) HAD.out.2 (by have := HL.out; omega))
    go_region_held3 (fun w' => w'.cell? ⟨K.g, 4, none⟩ = some (.pointer (some ⟨K.eg, 0, none⟩))) (first | assumption | go_keep | exact c4 | exact f4) (first | (go_at_call 86; refine (KC.out _).mono ?_; rintro e w3 ⟨rfl, G3, hz3, hn3, ho3⟩; have HZ3 := Lib.hid hz3; have HN3 := Lib.hid (HN2.out.trans hn3 HO2.out.size); have HO3 := Lib.hid (cset_trans HO2.out HN2.out (Only.of_drewN ho3)); have f4 := hz3.f.c4; clear hz3 hn3 ho3))
    clear KC c4 f4
    clear HZ2 HN2 HO2
    go_wp2_with fail
    have c4 := HZ3.out.f.c4
    have KC := Lib.hid (fun n => ((HZ3.out.drewN n).less (k' := k + 3) (by omega)).tree (n := 3) (a := A + 130 + 8 * s) (b := K.g) (o := o + 130 + s * 8) (len := 8) (cap := 8) (V := u) (fun m hm => (K.lay.rest (by have := HL.out; omega) (by have : m < 8 := hm; have := HL.out; omega) (by have := HL.out; omega))) (by show _ + 8 ≤ _; have := HL.out; omega) (by decide) (by decide) (by have := HV.out; omega))
    go_region_held3 (fun w' => w'.cell? ⟨K.g, 4, none⟩ = some (.pointer (some ⟨K.eg, 0, none⟩))) (first | assumption | go_keep | exact c4 | exact f4) (first | (go_at_call 92; refine (KC.out _).mono ?_; rintro e w4 ⟨rfl, G4, hz4, hn4, ho4⟩; have HZ4 := Lib.hid hz4; have HN4 := Lib.hid (HN3.out.trans hn4 HO3.out.size); have HO4 := Lib.hid (cset_trans HO3.out HN3.out (Only.of_drewN ho4)); have f4 := hz4.f.c4; clear hz4 hn4 ho4))
    clear KC c4 f4
    clear HZ3 HN3 HO3
    go_wp2_with fail
    first | go_end0 | refine bodyPost_ret (results_none rfl _ _ _) rfl ?_
    exact ⟨rfl, G4, HZ4.out, HN4.out, HO4.out⟩
  rw [lenE2 (by omega)]
  have g8 : ¬ (v : Int) < 8 := by omega
  have g16 : ¬ (v : Int) < 16 := by omega
  obtain ⟨u, hu⟩ : ∃ u, u = v - 16 := ⟨_, rfl⟩
  rw [← hu]
  have e0 : IntKind.i64.wrap ((v : Int) - 16) = (u : Int) := by rw [show (v : Int) - 16 = (u : Int) by omega]; exact IntWalk.i64_in _ (by omega)
  have e1 : IntKind.u32.wrap (u : Int) = (u : Int) := u32_of _ (by omega) (by omega)
  have HV := Lib.hid (show u < 272 by omega)
  clear h8 h16 hu
  have HZ0 := Lib.hid h
  have HN0 := Lib.hid (Nwr.refl w Ge)
  have HO0 := Lib.hid (Only.refl (K.own Ge) w)
  clear h hs hp ho hA hA2 hoA hs15 ad0 ad1 hv
  go_enter Tryz.func94, Tryz.ntmps94
  go_wp2_with fail
  refine KP.out.mono ?_
  rintro e w1 ⟨rfl, hq⟩
  have HZ1 := Lib.hid (HZ0.out.quiet hq)
  have HN1 := HN0
  have HO1 := Lib.hid (show Only (K.own Ge) w w1 from hq.mono fun _ h => h.elim)
  clear hq KP HZ0 HN0 HO0
  go_wp2_with fail
  have KO := Lib.hid (fun n => (HZ1.out.drewN n).ones (k := k + 8) (n := 2) (al := [A, A + 1]) (cs := #[.pointer (some ⟨K.g, o, none⟩), .pointer (some ⟨K.g, o + 1, none⟩)]) (T := 146) rfl (by decide) (by intro a ha; simp at ha; have := HL.out; omega) (by simp [HAD.out.1, HAD.out.2]))
  go_region_held3 (fun _ => True) (first | trivial | assumption | go_keep) (first | (go_at_call 87; refine (KO.out _).mono ?_; rintro e w2 ⟨rfl, G2, hz2, hn2, ho2⟩; have HZ2 := Lib.hid hz2; have HN2 := Lib.hid (HN1.out.trans hn2 HO1.out.size); have HO2 := Lib.hid (cset_trans HO1.out HN1.out (Only.of_drewN ho2)); clear hz2 hn2 ho2))
  clear KO HZ1 HN1 HO1
  go_wp2_with fail
  have c4 := HZ2.out.f.c4
  have KC := Lib.hid (fun n => ((HZ2.out.drewN n).less (k' := k + 8) (by omega)).tree (n := 8) (a := A + 258) (b := K.g) (o := o + 258) (len := 256) (cap := 256) (V := u) (fun m hm => (K.lay.rest (by have := HL.out; omega) (by have : m < 256 := hm; have := HL.out; omega) (by have := HL.out; omega))) (by show _ + 256 ≤ _; have := HL.out; omega) (by decide) (by decide) (by have := HV.out; omega))
  go_region_held3 (fun w' => w'.cell? ⟨K.g, 4, none⟩ = some (.pointer (some ⟨K.eg, 0, none⟩))) (first | assumption | go_keep | exact c4 | exact f4) (first | (go_at_call 92; refine (KC.out _).mono ?_; rintro e w3 ⟨rfl, G3, hz3, hn3, ho3⟩; have HZ3 := Lib.hid hz3; have HN3 := Lib.hid (HN2.out.trans hn3 HO2.out.size); have HO3 := Lib.hid (cset_trans HO2.out HN2.out (Only.of_drewN ho3)); have f4 := hz3.f.c4; clear hz3 hn3 ho3))
  clear KC c4 f4
  clear HZ2 HN2 HO2
  go_wp2_with fail
  first | go_end0 | refine bodyPost_ret (results_none rfl _ _ _) rfl ?_
  exact ⟨rfl, G3, HZ3.out, HN3.out, HO3.out⟩
end
end Go.Proofs.YtjgdjobhhdhfjaaGreat

/-
  The packets of LZMA as a coder leaves them, kind by kind: numbers.
-/
namespace Go.Proofs.YtjgdjobhhdhfjaaGreat

theorem litG_tell {t : Pm En} {A : Nat} {o v : UInt8} {same : Bool} : ∀ j, j ≤ 8 → (litG encM t A o v same j).m = 2 ^ j + v.toNat / 2 ^ (8 - j)
  | 0, _ => by
    have := v.toNat_lt
    show 1 = 1 + v.toNat / 256
    omega
  | j + 1, hj => by
    have ih := litG_tell (t := t) (A := A) (o := o) (v := v) (same := same) j (by omega)
    have hb : (litG encM t A o v same (j + 1)).m = 2 * (litG encM t A o v same j).m + bitOf v.toNat (7 - j) := by
      show (lgStep encM A (want (o.toNat : Int) (7 - j)) (want (v.toNat : Int) (7 - j)) (litG encM t A o v same j)).m = _
      unfold lgStep
      split
      · show 2 * _ + (bitP encM _ _ (want (v.toNat : Int) (7 - j))).1 = _
        rw [want_nat]
        rfl
      · show 2 * _ + (bitP encM _ _ (want (v.toNat : Int) (7 - j))).1 = _
        rw [want_nat]
        rfl
    rw [hb, ih, Nat.pow_succ, show 8 - (j + 1) = 7 - j by omega]
    have e : v.toNat / 2 ^ (8 - j) = v.toNat / 2 ^ (7 - j) / 2 := by rw [Nat.div_div_eq_div_mul, ← Nat.pow_succ, show (7 - j).succ = 8 - j by omega]
    unfold bitOf
    rw [e]
    generalize v.toNat / 2 ^ (7 - j) = y
    generalize 2 ^ j = P
    omega
theorem litP_tell {z : Lzs} {t : Pm En} {v : UInt8} : UInt8.ofNat (litP encM z t v).1 = v := by
  have h := litG_tell (t := t) (A := litAt z) (o := z.back z.r0) (v := v) (same := decide (7 ≤ z.st)) 8 (by decide)
  have e : (litP encM z t v).1 = 256 + v.toNat := by
    show (litG encM t (litAt z) (z.back z.r0) v (decide (7 ≤ z.st)) 8).m = _
    rw [h]
    simp
  rw [e]
  apply UInt8.toNat_inj.1
  have := v.toNat_lt
  simp
theorem lenP_tell {t : Pm En} {A s v : Nat} (hv : v < 272) : (lenP encM t A s (v : Int)).1 = v := by
  by_cases h8 : v < 8
  · have e : min ((v : Int).tdiv 8) 1 = 0 := by rw [Int.tdiv_eq_ediv_of_nonneg (by omega)]; omega
    unfold lenP lenA
    rw [e, if_pos (show (bitP encM t A 0).1 = 0 from rfl)]
    exact treeP_tell encM_ok rfl h8
  · have e : min ((v : Int).tdiv 8) 1 = 1 := by rw [Int.tdiv_eq_ediv_of_nonneg (by omega)]; omega
    unfold lenP lenA
    rw [e, if_neg (show ¬ (bitP encM t A 1).1 = 0 from by rw [enc_tell]; decide)]
    unfold lenB
    by_cases h16 : v < 16
    · have e2 : min ((v : Int).tdiv 16) 1 = 0 := by rw [Int.tdiv_eq_ediv_of_nonneg (by omega)]; omega
      rw [e2, if_pos (show (bitP encM (bitP encM t A 1).2 (A + 1) 0).1 = 0 from rfl), show (v : Int) - 8 = ((v - 8 : Nat) : Int) by omega]
      show 8 + (treeP encM _ _ 3 ((v - 8 : Nat) : Int)).1 = v
      rw [treeP_tell encM_ok rfl (show v - 8 < 2 ^ 3 by show v - 8 < 8; omega)]
      omega
    · have e2 : min ((v : Int).tdiv 16) 1 = 1 := by rw [Int.tdiv_eq_ediv_of_nonneg (by omega)]; omega
      rw [e2, if_neg (show ¬ (bitP encM (bitP encM t A 1).2 (A + 1) 1).1 = 0 from by rw [enc_tell]; decide), show (v : Int) - 16 = ((v - 16 : Nat) : Int) by omega]
      show 16 + (treeP encM _ _ 8 ((v - 16 : Nat) : Int)).1 = v
      rw [treeP_tell encM_ok rfl (show v - 16 < 2 ^ 8 by show v - 16 < 256; omega)]
      omega

/-- bytes at the first distance, so many, whether they are there or not -/
def copyN : Nat → Lzs → Lzs
  | 0, z => z
  | f + 1, z => copyN f (z.push (z.back z.r0))
theorem has_pushE {z : Lzs} {b : UInt8} {d : Nat} (h : z.has d = true) : (z.push b).has d = true := by
  unfold Lzs.has at h ⊢
  obtain ⟨h1, h2⟩ := of_decide_eq_true h
  refine decide_eq_true ⟨?_, h2⟩
  show d < (z.out ++ [b]).length
  simp
  omega
theorem copyG_is : ∀ (f n : Nat) {z : Lzs}, z.has z.r0 = true → copyG f n z = (n + f, copyN f z)
  | 0, _, _, _ => rfl
  | f + 1, n, z, h => by
    rw [copyG_go h, copyG_is f (n + 1) (z := z.push (z.back z.r0)) (has_pushE h), show n + 1 + f = n + (f + 1) by omega]
    rfl
theorem copyN_keep : ∀ (f : Nat) (z : Lzs), (copyN f z).bad = z.bad ∧ (copyN f z).ended = z.ended ∧ (copyN f z).out.length = z.out.length + f ∧ (copyN f z).lc = z.lc ∧ (copyN f z).lp = z.lp ∧ (copyN f z).pb = z.pb ∧ (copyN f z).dict = z.dict
  | 0, _ => ⟨rfl, rfl, rfl, rfl, rfl, rfl, rfl⟩
  | f + 1, z => by
    obtain ⟨h1, h2, h3, h4, h5, h6, h7⟩ := copyN_keep f (z.push (z.back z.r0))
    refine ⟨h1, h2, ?_, h4, h5, h6, h7⟩
    show (copyN f (z.push (z.back z.r0))).out.length = _
    rw [h3]
    show (z.out ++ [_]).length + f = _
    simp
    omega
theorem tail_is {many : Nat} {z : Lzs} {t : Pm En} (hb : z.bad = false) (he : z.ended = false) (h : z.has z.r0 = true) : (tailP encM many z t).2 = (copyN many z, t) := by
  unfold tailP
  rw [hb, he]
  show (if (false || false || false) = true then _ else _ : Nat × Lzs × Pm En).2 = _
  rw [if_neg (by decide), copyG_is many 0 h]

section
variable {z : Lzs} {t : Pm En} {d s : Nat} {len : Int} {b : UInt8}
/-- the kind's bits -/
def kdE (z : Lzs) (t : Pm En) (kd : Int) : Pm En := (kindP encM t (decide (z.out.length = 0)) z.st (z.out.length % 2 ^ z.pb) kd).2.2
theorem pack_split (hb : z.bad = false) (kd : Int) (h0 : 0 ≤ kd) (h7 : kd ≤ 7) (hem : z.out.length = 0 → kd = 0 ∨ kd = 1 ∨ kd = 7) :
    packP encM z t ⟨kd, d, len, b⟩ = packK encM ((if kd = 7 then 1 else kd.toNat), false, kdE z t kd) z (z.out.length % 2 ^ z.pb) ⟨kd, d, len, b⟩ := by
  obtain ⟨h1, h2⟩ := kindP_tell encM_ok rfl (t := t) (s := z.out.length % 2 ^ z.pb) (st := z.st) (em := decide (z.out.length = 0)) h0 h7 (fun h => hem (of_decide_eq_true h))
  unfold packP kdE
  dsimp only
  generalize kindP encM t (decide (z.out.length = 0)) z.st (z.out.length % 2 ^ z.pb) kd = kb at *
  obtain ⟨kv, kbad, tk⟩ := kb
  dsimp only at h1 h2 ⊢
  subst h2
  have : kv = (if kd = 7 then 1 else kd.toNat) := by
    split
    · rename_i h; rw [if_pos h] at h1; omega
    · rename_i h; rw [if_neg h] at h1; omega
  rw [this]
theorem with_bad (z : Lzs) (h : z.bad = false) : { z with bad := z.bad || false } = z := by
  cases z; simp at h ⊢
theorem packE_lit (hb : z.bad = false) : (packP encM z t ⟨0, d, len, b⟩).2 = (({ z with st := litSt z.st } : Lzs).push b, (litP encM z (kdE z t 0) b).2) := by
  rw [pack_split hb 0 (by decide) (by decide) (fun _ => .inl rfl)]
  unfold packK
  dsimp only
  rw [if_pos (by decide), with_bad z hb]
  unfold packL
  rw [if_neg (show ¬ encM.bad (litP encM z (kdE z t 0) b).2.x = true by show ¬ false = true; decide), litP_tell]
theorem packE_match (hb : z.bad = false) (he : z.ended = false) {n : Nat} (hn : 2 ≤ n) (hn2 : n ≤ 273) (hd : z.has d = true) (hdi : z.dict < 4294967296) (hL : ∃ k L, 1847 ≤ L ∧ PmOk okE L (k + 12) (lenP encM (kdE z t 1) 819 (z.out.length % 2 ^ z.pb) ((n - 2 : Nat) : Int)).2) :
    (packP encM z t ⟨1, d, n, b⟩).2 = (copyN n { z with r0 := d, r1 := z.r0, r2 := z.r1, r3 := z.r2, st := aft 7 10 z.st }, (distP encM (lenP encM (kdE z t 1) 819 (z.out.length % 2 ^ z.pb) ((n - 2 : Nat) : Int)).2 (n - 2) d).2) := by
  obtain ⟨k, L, hL0, hok⟩ := hL
  rw [pack_split hb 1 (by decide) (by decide) (fun _ => .inr (.inl rfl))]
  unfold packK
  dsimp only
  rw [if_neg (by decide), if_pos (by decide), if_neg (by decide), if_neg (by decide), with_bad z hb, show (n : Int) - 2 = ((n - 2 : Nat) : Int) by omega]
  unfold packM
  rw [lenP_tell (show n - 2 < 272 by omega)]
  generalize (lenP encM (kdE z t 1) 819 (z.out.length % 2 ^ z.pb) ((n - 2 : Nat) : Int)).2 = u at *
  have hlt := (of_decide_eq_true hd).2
  have ht := distP_tell (l := n - 2) (v := d) hok hL0 (by omega)
  generalize distP encM u (n - 2) d = D at *
  obtain ⟨d', t'⟩ := D
  dsimp only at ht
  subst ht
  unfold packD
  dsimp only
  have e : (decide (d' = 4294967295) && !encM.bad t'.x) = z.ended := by rw [he, decide_eq_false (by omega)]; rfl
  rw [e, show n - 2 + 2 = n by omega]
  exact tail_is hb he hd
theorem packE_end (hb : z.bad = false) (hL : ∃ k L, 1847 ≤ L ∧ PmOk okE L (k + 12) (lenP encM (kdE z t 7) 819 (z.out.length % 2 ^ z.pb) 0).2) :
    (packP encM z t ⟨7, d, len, b⟩).2 = ({ z with r0 := 4294967295, r1 := z.r0, r2 := z.r1, r3 := z.r2, st := aft 7 10 z.st, ended := true }, (distP encM (lenP encM (kdE z t 7) 819 (z.out.length % 2 ^ z.pb) 0).2 0 4294967295).2) := by
  obtain ⟨k, L, hL0, hok⟩ := hL
  rw [pack_split hb 7 (by decide) (by decide) (fun _ => .inr (.inr rfl))]
  unfold packK
  dsimp only
  rw [if_pos rfl, if_neg (by decide), if_pos rfl, if_pos rfl, if_pos rfl, with_bad z hb]
  unfold packM
  have hl0 := lenP_tell (t := kdE z t 7) (A := 819) (s := z.out.length % 2 ^ z.pb) (v := 0) (by decide)
  rw [show ((0 : Nat) : Int) = 0 from rfl] at hl0
  rw [hl0]
  generalize (lenP encM (kdE z t 7) 819 (z.out.length % 2 ^ z.pb) 0).2 = u at *
  have ht := distP_tell (l := 0) (v := 4294967295) hok hL0 (by decide)
  generalize distP encM u 0 4294967295 = D at *
  obtain ⟨d', t'⟩ := D
  dsimp only at ht
  subst ht
  unfold packD
  dsimp only
  rw [show (decide ((4294967295 : Nat) = 4294967295) && !encM.bad t'.x) = true from rfl]
  unfold tailP
  have hc : (z.bad || encM.bad t'.x || true) = true := by simp
  dsimp only
  rw [if_pos hc]
  have : (z.bad || encM.bad t'.x) = z.bad := by rw [hb]; rfl
  rw [this]
theorem packE_single (hb : z.bad = false) (he : z.ended = false) (h : z.has z.r0 = true) : (packP encM z t ⟨6, d, len, b⟩).2 = (copyN 1 { z with st := aft 9 11 z.st }, kdE z t 6) := by
  have hne : ¬ z.out.length = 0 := by have := (of_decide_eq_true h).1; omega
  rw [pack_split hb 6 (by decide) (by decide) (fun h => absurd h hne)]
  unfold packK
  dsimp only
  rw [if_neg (show ¬ (6 : Int) = 7 by decide), if_neg (by decide), if_neg (by decide), if_pos (by decide)]
  have e : ({ z with bad := z.bad || false, st := aft 9 11 z.st } : Lzs) = { z with st := aft 9 11 z.st } := by rw [hb]; cases z; simp at hb ⊢
  rw [e]
  exact tail_is hb he h
theorem packE_again (hb : z.bad = false) (he : z.ended = false) {j n : Nat} (hj : j ≤ 3) (hn : 2 ≤ n) (hn2 : n ≤ 273) (h : z.has (z.rep j) = true) :
    (packP encM z t ⟨(j + 2 : Nat), d, n, b⟩).2 = (copyN n { z.again j with st := aft 8 11 z.st }, (lenP encM (kdE z t ((j + 2 : Nat) : Int)) 1333 (z.out.length % 2 ^ z.pb) ((n - 2 : Nat) : Int)).2) := by
  have hne : ¬ z.out.length = 0 := by have := (of_decide_eq_true h).1; omega
  rw [pack_split hb ((j + 2 : Nat) : Int) (by omega) (by omega) (fun h => absurd h hne)]
  unfold packK
  dsimp only
  rw [if_neg (show ¬ ((j + 2 : Nat) : Int) = 7 by omega), Int.toNat_natCast, if_neg (by omega), if_neg (by omega), if_neg (by omega), with_bad z hb, show (n : Int) - 2 = ((n - 2 : Nat) : Int) by omega]
  unfold packR
  rw [lenP_tell (show n - 2 < 272 by omega), show n - 2 + 2 = n by omega, show j + 2 - 2 = j by omega]
  exact tail_is (z := { z.again j with st := aft 8 11 z.st }) hb he h
end
end Go.Proofs.YtjgdjobhhdhfjaaGreat

/-
  What is coded is unpacked to what the packets tell; with a byte more, or one fewer, it is refused.
-/
namespace Go.Proofs.YtjgdjobhhdhfjaaGreat

section
variable {most : Int} {qs : Nat → Pq} {n L : Nat} {s0 : Lzs × Pm En}

theorem takes_fits {z : Lzs} {q : Pq} (h : takesP most z q = true) : fitsP z q.k q.v.toNat q.n = true := by
  unfold takesP at h
  revert h
  cases fitsP z q.k q.v.toNat q.n <;> simp

/-- a coder's run: its packets, and what is known of them -/
structure Run (most : Int) (qs : Nat → Pq) (n L : Nat) (s0 : Lzs × Pm En) : Prop where
  lit : ∀ i, i < n → PqLit (qs i)
  last : ∀ i, i + 1 < n → (qs i).k ≠ 7
  near : ∀ j, j ≤ n → ZNear (codeG most qs s0 j).1 L 900000
  pm : ∀ j, j ≤ n → PmOk okE L (27 * (n - j)) (codeG most qs s0 j).2
  bad0 : s0.1.bad = false
  ended0 : s0.1.ended = false

theorem code_skip {j : Nat} (h : ¬ takesP most (codeG most qs s0 j).1 (qs j) = true) : codeG most qs s0 (j + 1) = codeG most qs s0 j := if_neg h
theorem code_take {j : Nat} (h : takesP most (codeG most qs s0 j).1 (qs j) = true) : codeG most qs s0 (j + 1) = (packP encM (codeG most qs s0 j).1 (codeG most qs s0 j).2 (qs j).pk).2 := if_pos h

theorem Run.pm' (R : Run most qs n L s0) {j : Nat} (hj : j < n) : PmOk okE L (27 * (n - (j + 1)) + 27) (codeG most qs s0 j).2 := (R.pm j (by omega)).mono encM_ok (by omega)
theorem Run.state (R : Run most qs n L s0) : ∀ j, j ≤ n → (codeG most qs s0 j).1.bad = false ∧ ((codeG most qs s0 j).1.ended = false ∨ j = n)
  | 0, _ => ⟨R.bad0, .inl R.ended0⟩
  | j + 1, hj => by
    obtain ⟨h1, h2⟩ := R.state j (by omega)
    by_cases ht : takesP most (codeG most qs s0 j).1 (qs j) = true
    · rw [code_take ht]
      obtain ⟨p1, p2⟩ := pack_enc (R.near j (by omega)) (R.pm' (show j < n by omega)) (R.lit j (by omega)) (takes_fits ht) h1
      by_cases h7 : (qs j).k = 7
      · obtain ⟨a, _, _, _⟩ := p2 h7
        refine ⟨a, .inr ?_⟩
        rcases Nat.lt_or_ge (j + 1) n with h | h
        · exact absurd h7 (R.last j h)
        · omega
      · obtain ⟨a, b, _⟩ := p1 h7
        exact ⟨a, .inl b⟩
    · rw [code_skip ht]
      refine ⟨h1, ?_⟩
      rcases h2 with h | h
      · exact .inl h
      · omega
theorem Run.out (R : Run most qs n L s0) : ∀ m j, j + m = n → (codeG most qs s0 j).1.out.length ≤ (codeG most qs s0 n).1.out.length
  | 0, j, h => by
    obtain rfl : j = n := h
    exact Nat.le_refl _
  | m + 1, j, h => by
    refine Nat.le_trans ?_ (R.out m (j + 1) (by omega))
    by_cases ht : takesP most (codeG most qs s0 j).1 (qs j) = true
    · rw [code_take ht]
      obtain ⟨p1, p2⟩ := pack_enc (R.near j (by omega)) (R.pm' (show j < n by omega)) (R.lit j (by omega)) (takes_fits ht) (R.state j (by omega)).1
      by_cases h7 : (qs j).k = 7
      · rw [(p2 h7).2.2.1]
        exact Nat.le_refl _
      · exact Nat.le_of_lt (p1 h7).2.2
    · rw [code_skip ht]
      exact Nat.le_refl _
theorem Run.reach (R : Run most qs n L s0) {bs : List UInt8} (hf : Ends bs (codeG most qs s0 n).2.x) : ∀ m j, j + m = n → Reach (codeG most qs s0 j).2.x (codeG most qs s0 n).2.x
  | 0, j, h => by
    obtain rfl : j = n := h
    exact Reach.refl _
  | m + 1, j, h => by
    have ih := R.reach hf m (j + 1) (by omega)
    by_cases ht : takesP most (codeG most qs s0 j).1 (qs j) = true
    · rw [code_take ht] at ih
      obtain ⟨f1, f2, _⟩ := fits_pk (R.lit j (by omega)) (takes_fits ht)
      exact (packP_sim (enc_simu (more := []) hf) (u := ⟨[], none⟩) (p' := pk0) (R.near j (by omega)) (R.pm' (show j < n by omega)) f1 f2 ih).1
    · rw [code_skip ht] at ih
      exact ih

/-- a decoder that goes the same way -/
theorem run_gen (R : Run most qs n L s0) (J : Nat → Pm Dc → Prop) (res : Option (List UInt8))
    (step : ∀ j u, j < n → J j u → takesP most (codeG most qs s0 j).1 (qs j) = true → (qs j).k ≠ 7 →
      ((packP decM (codeG most qs s0 j).1 u pk0).2.1 = (codeG most qs s0 (j + 1)).1 ∧ decM.bad (packP decM (codeG most qs s0 j).1 u pk0).2.2.x = false ∧ J (j + 1) (packP decM (codeG most qs s0 j).1 u pk0).2.2) ∨
      ((packP decM (codeG most qs s0 j).1 u pk0).2.1.bad = true ∧ res = none))
    (keep : ∀ j u, j < n → J j u → codeG most qs s0 (j + 1) = codeG most qs s0 j → J (j + 1) u)
    (endN : ∀ u, J n u → (codeG most qs s0 n).1.ended = false → finD (codeG most qs s0 n).1 u = res)
    (endE : ∀ j u, j + 1 = n → J j u → takesP most (codeG most qs s0 j).1 (qs j) = true → (qs j).k = 7 → finD (codeG most qs s0 j).1 u = res) :
    ∀ m j, j + m = n → (codeG most qs s0 j).1.ended = false → ∀ u F, J j u → (codeG most qs s0 n).1.out.length ≤ (codeG most qs s0 j).1.out.length + F →
      finU (upG (((codeG most qs s0 n).1.out.length : Nat) : Int) F (codeG most qs s0 j).1 u) = res
  | 0, j, h => by
    obtain rfl : j = n := h
    intro he u F hJ hF
    rw [upG_done (by omega)]
    exact endN u hJ he
  | m + 1, j, h => by
    intro he u F hJ hF
    have hj : j < n := by omega
    by_cases ht : takesP most (codeG most qs s0 j).1 (qs j) = true
    · obtain ⟨p1, p2⟩ := pack_enc (R.near j (by omega)) (R.pm' hj) (R.lit j hj) (takes_fits ht) (R.state j (by omega)).1
      by_cases h7 : (qs j).k = 7
      · have hjn : j + 1 = n := by
          rcases Nat.lt_or_ge (j + 1) n with h | h
          · exact absurd h7 (R.last j h)
          · omega
        have ho : (codeG most qs s0 n).1.out = (codeG most qs s0 j).1.out := by
          rw [← hjn, code_take ht]
          exact (p2 h7).2.2.1
        rw [upG_done (by rw [ho]; omega)]
        exact endE j u hjn hJ ht h7
      · obtain ⟨a, b, c⟩ := p1 h7
        have hout := R.out m (j + 1) (by omega)
        rw [← code_take ht] at a b c
        obtain ⟨F', rfl⟩ : ∃ F', F = F' + 1 := ⟨F - 1, by omega⟩
        have hlt : (((codeG most qs s0 j).1.out.length : Nat) : Int) < (((codeG most qs s0 n).1.out.length : Nat) : Int) := by omega
        rcases step j u hj hJ ht h7 with ⟨e1, e2, e3⟩ | ⟨e1, e2⟩
        · have hs : ¬ stopD (((codeG most qs s0 n).1.out.length : Nat) : Int) (packP decM (codeG most qs s0 j).1 u pk0) = true := by
            unfold stopD
            rw [e1, a, b, e2, decide_eq_false (by omega)]
            simp
          rw [upG_go hlt hs, e1]
          exact run_gen R J res step keep endN endE m (j + 1) (by omega) b _ F' e3 (by omega)
        · have hs : stopD (((codeG most qs s0 n).1.out.length : Nat) : Int) (packP decM (codeG most qs s0 j).1 u pk0) = true := by
            unfold stopD
            rw [e1]
            rfl
          rw [upG_stop hlt hs, e2]
          rfl
    · have hc := code_skip ht
      have := run_gen R J res step keep endN endE m (j + 1) (by omega) (by rw [hc]; exact he) u F (keep j u hj hJ hc) (by rw [hc]; exact hF)
      rw [hc] at this
      exact this

theorem full_step (R : Run most qs n L s0) {bs more : List UInt8} (hf : Ends bs (codeG most qs s0 n).2.x) {j : Nat} {u : Pm Dc} (hj : j < n) (hs : Sm (fun e d => d = decAt bs more e) (codeG most qs s0 j).2 u) (ht : takesP most (codeG most qs s0 j).1 (qs j) = true) :
    (packP decM (codeG most qs s0 j).1 u pk0).2.1 = (codeG most qs s0 (j + 1)).1 ∧ decM.bad (packP decM (codeG most qs s0 j).1 u pk0).2.2.x = false ∧ Sm (fun e d => d = decAt bs more e) (codeG most qs s0 (j + 1)).2 (packP decM (codeG most qs s0 j).1 u pk0).2.2 := by
  obtain ⟨f1, f2, _⟩ := fits_pk (R.lit j hj) (takes_fits ht)
  have hr := R.reach hf (n - (j + 1)) (j + 1) (by omega)
  rw [code_take ht] at hr ⊢
  rcases (packP_sim (enc_simu (more := more) hf) (u := u) (p' := pk0) (R.near j (by omega)) (R.pm' hj) f1 f2 hr).2 (.inr hs) with h | ⟨_, e2, e3⟩
  · exact h.elim
  · exact ⟨e2, by rw [e3.2]; rfl, e3⟩

/-- the coder's bytes -/
theorem run_all (R : Run most qs n L s0) {bs : List UInt8} (hf : Ends bs (codeG most qs s0 n).2.x) (hd : s0.1.out = []) {u : Pm Dc} (hs : Sm (fun e d => d = decAt bs [] e) s0.2 u) :
    finU (upG (((codeG most qs s0 n).1.out.length : Nat) : Int) (codeG most qs s0 n).1.out.length s0.1 u) = some (codeG most qs s0 n).1.out := by
  have hleft : leftD (decAt bs [] (codeG most qs s0 n).2.x) = true := by rw [ends_dec hf]; rfl
  refine run_gen R (fun j u => Sm (fun e d => d = decAt bs [] e) (codeG most qs s0 j).2 u) _ ?_ ?_ ?_ ?_ n 0 (by omega) R.ended0 u _ hs (by show _ ≤ s0.1.out.length + _; omega)
  · intro j u hj hJ ht _
    exact .inl (full_step R hf hj hJ ht)
  · intro j u _ hJ hc
    rw [hc]
    exact hJ
  · intro u hJ _
    unfold finD
    rw [if_pos (by rw [hJ.2]; exact hleft)]
  · intro j u hjn hJ ht h7
    have hj : j < n := by omega
    obtain ⟨_, p2⟩ := pack_enc (R.near j (by omega)) (R.pm' hj) (R.lit j hj) (takes_fits ht) (R.state j (by omega)).1
    obtain ⟨a, b, c, _⟩ := p2 h7
    rw [← code_take ht, hjn] at a b c
    obtain ⟨e1, e2, e3⟩ := full_step R hf hj hJ ht
    rw [hjn] at e1 e3
    unfold finD
    split
    · rw [c]
    · have hen : endD (codeG most qs s0 j).1.out.length (packP decM (codeG most qs s0 j).1 u pk0) = false := by
        unfold endD
        rw [e1, a, b, c, e3.2, hleft]
        simp
      rw [if_neg (by rw [hen]; simp), e1]

/-- where the code is 0 a literal is told -/
theorem zero_lit {r N : Nat} {s : List UInt8} {z : Lzs} {u : Pm Dc} {p : Pk} (hx : u.x = some (r, 0, s)) (hr : 16777216 ≤ r) (hps : PsOk u.ps) (hl : u.ps.length = L) (hz : ZNear z L N) : (packP decM z u p).2.1.ended = z.ended := by
  have hL0 : 1847 ≤ L := by have := hz.len; omega
  have hs15 : z.out.length % 2 ^ z.pb ≤ 15 := by
    have h1 : z.out.length % 2 ^ z.pb < 2 ^ z.pb := Nat.mod_lt _ (Nat.two_pow_pos _)
    have h2 : 2 ^ z.pb ≤ 2 ^ 4 := pow_le_of hz.pb
    omega
  have hst := hz.st
  have hp := getD_ok hps (show 16 * z.st + z.out.length % 2 ^ z.pb < u.ps.length by omega)
  have hb : (bitP decM u (16 * z.st + z.out.length % 2 ^ z.pb) (min p.kind 1)).1 = 0 := by
    show (bitD u.x (u.ps.getD (16 * z.st + z.out.length % 2 ^ z.pb) 0)).1 = 0
    rw [hx]
    show (if _ then _ else _ : Nat × Nat × Dc).1 = 0
    rw [if_pos (by
      have h1 : 8192 ≤ r / 2048 := by omega
      have h2 := hp.1
      have := Nat.mul_le_mul h1 h2
      omega)]
  have hk : (kindP decM u (decide (z.out.length = 0)) z.st (z.out.length % 2 ^ z.pb) p.kind).1 = 0 := by
    unfold kindP kd1
    rw [if_pos hb]
  unfold packP packK
  rw [if_pos hk]
  unfold packL
  split
  · rfl
  · rfl

/-- another byte behind them -/
theorem run_more (R : Run most qs n L s0) {bs : List UInt8} {y : UInt8} (hf : Ends bs (codeG most qs s0 n).2.x) (hd : s0.1.out = []) {u : Pm Dc} (hs : Sm (fun e d => d = decAt bs [y] e) s0.2 u) :
    finU (upG (((codeG most qs s0 n).1.out.length : Nat) : Int) (codeG most qs s0 n).1.out.length s0.1 u) = none := by
  have hleft : ∀ e, leftD (decAt bs [y] e) = false := by
    intro e
    show (decide (_ = 0) && decide (bs.drop e.l ++ [y] = [])) = false
    rw [decide_eq_false (show ¬ bs.drop e.l ++ [y] = [] from by simp)]
    simp
  refine run_gen R (fun j u => Sm (fun e d => d = decAt bs [y] e) (codeG most qs s0 j).2 u) _ ?_ ?_ ?_ ?_ n 0 (by omega) R.ended0 u _ hs (by show _ ≤ s0.1.out.length + _; omega)
  · intro j u hj hJ ht _
    exact .inl (full_step R hf hj hJ ht)
  · intro j u _ hJ hc
    rw [hc]
    exact hJ
  · intro u hJ hen
    have hpm := R.pm n (Nat.le_refl _)
    unfold finD
    rw [if_neg (by rw [hJ.2, hleft]; simp)]
    have hx : u.x = some ((codeG most qs s0 n).2.x.r, 0, [y]) := by rw [hJ.2, ends_dec hf]
    have he := zero_lit (p := pk0) hx hpm.x.1.1 (by rw [hJ.1]; exact hpm.ps) (by rw [hJ.1]; exact hpm.len) (R.near n (Nat.le_refl _))
    rw [if_pos (by unfold endD; rw [he, hen]; rfl)]
  · intro j u hjn hJ ht h7
    have hj : j < n := by omega
    obtain ⟨e1, e2, e3⟩ := full_step R hf hj hJ ht
    unfold finD
    rw [if_neg (by rw [hJ.2, hleft]; simp), if_pos]
    unfold endD
    rw [e3.2, hleft]
    simp

theorem dead_fin {z : Lzs} {u : Pm Dc} (h : u.x = none) : finD z u = none := by
  unfold finD
  rw [if_neg (by rw [h]; intro h; cases h), if_pos]
  have hx : (packP decM z u pk0).2.2.x = none := by
    unfold packP
    exact packK_dead (short_simu 0) (kindP_dead (M2 := decM) (Dead := fun d => d = none) (short_simu 0).dbit h)
  have hb : (packP decM z u pk0).2.1.bad = true := packP_badM (by rw [hx]; rfl)
  unfold endD
  rw [hb]
  simp

/-- a byte fewer -/
theorem run_less (R : Run most qs n L s0) {bs : List UInt8} {y : UInt8} (hf : Ends bs (codeG most qs s0 n).2.x) (hd : s0.1.out = []) {v u : Pm Dc} (hs : Sm (fun e d => d = decAt bs [] e) s0.2 v) (hv : Lk (OneMore y) (fun d => d = none) v u) :
    finU (upG (((codeG most qs s0 n).1.out.length : Nat) : Int) (codeG most qs s0 n).1.out.length s0.1 u) = none := by
  have hend : ∀ (v u : Pm Dc), v.x = decAt bs [] (codeG most qs s0 n).2.x → Lk (OneMore y) (fun d => d = none) v u → u.x = none := by
    intro v u hv h
    rcases h with h | ⟨_, r, c, s, h1, h2⟩
    · exact h
    · rw [hv, ends_dec hf] at h1
      injection h1 with h1
      injection h1 with _ h1
      injection h1 with _ h1
      have := congrArg List.length h1
      simp at this
  refine run_gen R (fun j u => ∃ v, Sm (fun e d => d = decAt bs [] e) (codeG most qs s0 j).2 v ∧ Lk (OneMore y) (fun d => d = none) v u) _ ?_ ?_ ?_ ?_ n 0 (by omega) R.ended0 u _ ⟨v, hs, hv⟩ (by show _ ≤ s0.1.out.length + _; omega)
  · rintro j u hj ⟨v, hJ, hl⟩ ht _
    obtain ⟨e1, e2, e3⟩ := full_step R hf hj hJ ht
    have hpm : PmOk okD L (0 + 27) v := by
      have h := R.pm' hj
      refine ⟨by rw [hJ.1]; exact h.ps, by rw [hJ.1]; exact h.len, ?_⟩
      rw [hJ.2]
      have hb := between hf (R.reach hf (n - j) j (by omega))
      intro r c s hx
      injection hx with hx
      injection hx with h1 hx
      injection hx with h2 _
      have := h.x.1.1
      have := h.x.1.2.1
      omega
    rcases (packP_sim (short_simu y) (u := u) (p' := pk0) (k := 0) (R.near j (by omega)) hpm pk0_fine (pk0_may _) trivial).2 hl with h | ⟨_, g2, g3⟩
    · exact .inr ⟨packP_badM (by rw [h]; rfl), rfl⟩
    · left
      refine ⟨g2.trans e1, ?_, _, e3, .inr g3⟩
      obtain ⟨r, c, s, _, h2⟩ := g3.2
      rw [h2]
      rfl
  · rintro j u _ ⟨v, hJ, hl⟩ hc
    rw [hc]
    exact ⟨v, hJ, hl⟩
  · rintro u ⟨v, hJ, hl⟩ _
    exact dead_fin (hend v u hJ.2 hl)
  · rintro j u hjn ⟨v, hJ, hl⟩ ht h7
    have hj : j < n := by omega
    rcases hl with h | hl
    · exact dead_fin h
    obtain ⟨_, p2⟩ := pack_enc (R.near j (by omega)) (R.pm' hj) (R.lit j hj) (takes_fits ht) (R.state j (by omega)).1
    obtain ⟨_, _, _, hlen⟩ := p2 h7
    rw [← code_take ht, hjn] at hlen
    obtain ⟨e1, e2, e3⟩ := full_step R hf hj hJ ht
    rw [hjn] at e3
    have hleft : leftD u.x = false := by
      obtain ⟨r, c, s, h1, h2⟩ := hl.2
      rw [hJ.2] at h1
      injection h1 with h1
      injection h1 with _ h1
      injection h1 with _ h1
      have h3 := congrArg List.length h1
      simp only [List.append_nil, List.length_drop, List.length_append, List.length_singleton] at h3
      rw [hf.len] at h3
      rw [h2]
      show (decide (c = 0) && decide (s = [])) = false
      rw [decide_eq_false (show ¬ s = [] from fun h => by rw [h] at h3; simp at h3; omega)]
      simp
    have hpm : PmOk okD L (0 + 27) v := by
      have h := R.pm' hj
      refine ⟨by rw [hJ.1]; exact h.ps, by rw [hJ.1]; exact h.len, ?_⟩
      rw [hJ.2]
      have hb := between hf (R.reach hf (n - j) j (by omega))
      intro r c s hx
      injection hx with hx
      injection hx with h1 hx
      injection hx with h2 _
      have := h.x.1.1
      have := h.x.1.2.1
      omega
    have hx : (packP decM (codeG most qs s0 j).1 u pk0).2.2.x = none := by
      rcases (packP_sim (short_simu y) (u := u) (p' := pk0) (k := 0) (R.near j (by omega)) hpm pk0_fine (pk0_may _) trivial).2 (.inr hl) with h | ⟨_, _, g3⟩
      · exact h
      · exact hend _ _ e3.2 (.inr g3)
    have hb : (packP decM (codeG most qs s0 j).1 u pk0).2.1.bad = true := packP_badM (by rw [hx]; rfl)
    unfold finD
    rw [if_neg (by rw [hleft]; simp), if_pos]
    unfold endD
    rw [hb]
    simp
end

theorem started_less {bs : List UInt8} {y : UInt8} (h : started (bs ++ [y]) ≠ none) : started bs = none ∨ OneMore y (started (bs ++ [y])) (started bs) := by
  match bs, h with
  | [], _ => exact .inl rfl
  | [_], _ => exact .inl rfl
  | [_, _], _ => exact .inl rfl
  | [_, _, _], _ => exact .inl rfl
  | [_, _, _, _], _ => exact .inl rfl
  | z :: a :: b :: c :: d :: t, h =>
    by_cases hc : z.toNat = 0 ∧ ((a.toNat * 256 + b.toNat) * 256 + c.toNat) * 256 + d.toNat < 4294967295
    · have e1 : started (z :: a :: b :: c :: d :: t) = some (4294967295, ((a.toNat * 256 + b.toNat) * 256 + c.toNat) * 256 + d.toNat, t) := if_pos hc
      have e2 : started ((z :: a :: b :: c :: d :: t) ++ [y]) = some (4294967295, ((a.toNat * 256 + b.toNat) * 256 + c.toNat) * 256 + d.toNat, t ++ [y]) := if_pos hc
      rw [e1, e2]
      exact .inr ⟨_, _, _, rfl, rfl⟩
    · exact .inl (if_neg hc)

/-- What is coded is unpacked; with a byte more, or one fewer, it is refused. -/
theorem coded_ok {most : Int} {qs : Nat → Pq} {lc lp pb dict n : Nat} (h : SetOk lc lp pb dict) (hq : ∀ i, i < n → PqLit (qs i)) (hl : ∀ i, i + 1 < n → (qs i).k ≠ 7) (hn : n ≤ 3000) {s : Lzs × Pm En}
    (hs : s = codeG most qs (Lzs.start lc lp pb dict, ⟨List.replicate (probsN lc lp) 1024, En.new⟩) n) {bs : List UInt8} (hb : be bs = s.2.x.n) (hlen : bs.length = s.2.x.l) (y : UInt8) :
    unpackN bs lc lp pb dict ((s.1.out.length : Nat) : Int) = some s.1.out ∧ unpackN (bs ++ [y]) lc lp pb dict ((s.1.out.length : Nat) : Int) = none ∧ unpackN (bs.take (bs.length - 1)) lc lp pb dict ((s.1.out.length : Nat) : Int) = none ∧ 5 ≤ bs.length ∧ s.1.out.length ≤ 900000 := by
  have hnear : ZNear (Lzs.start lc lp pb dict) (probsN lc lp) 0 := start_near h
  have hpm : PmOk okE (probsN lc lp) (0 + 27 * n) (⟨List.replicate (probsN lc lp) 1024, En.new⟩ : Pm En) := start_pm ⟨enOk_new, by show 5 + 32 * (0 + 27 * n) ≤ _; omega⟩
  have hG := fun j (hj : j ≤ n) => codeG_ok (most := most) (s := (Lzs.start lc lp pb dict, ⟨List.replicate (probsN lc lp) 1024, En.new⟩)) hq hnear hpm j hj
  have R : Run most qs n (probsN lc lp) (Lzs.start lc lp pb dict, ⟨List.replicate (probsN lc lp) 1024, En.new⟩) :=
    ⟨hq, hl, fun j hj => (hG j hj).1.more (by omega), fun j hj => (hG j hj).2.mono encM_ok (by omega), rfl, rfl⟩
  subst hs
  have hf : Ends bs (codeG most qs (Lzs.start lc lp pb dict, ⟨List.replicate (probsN lc lp) 1024, En.new⟩) n).2.x := ends_of (R.pm n (Nat.le_refl _)).x.1 hb hlen
  have hreach := R.reach hf n 0 (by omega)
  have h5 : 5 ≤ bs.length := by rw [hlen]; exact enOk_len (R.pm n (Nat.le_refl _)).x.1
  have e0 : started bs = decAt bs [] En.new := by
    have := started_dec (more := []) hf hreach
    rwa [List.append_nil] at this
  have e1 : started (bs ++ [y]) = decAt bs [y] En.new := started_dec (more := [y]) hf hreach
  refine ⟨?_, ?_, ?_, h5, (R.near n (Nat.le_refl _)).out⟩
  · unfold unpackN
    rw [Int.toNat_natCast]
    exact run_all R hf rfl ⟨rfl, e0⟩
  · unfold unpackN
    rw [Int.toNat_natCast]
    exact run_more R hf rfl ⟨rfl, e1⟩
  · unfold unpackN
    rw [Int.toNat_natCast]
    obtain ⟨bs', y', rfl⟩ : ∃ bs' y', bs = bs' ++ [y'] := ⟨bs.dropLast, bs.getLast (by intro e; rw [e] at h5; simp at h5), (List.dropLast_concat_getLast _).symm⟩
    have et : (bs' ++ [y']).take ((bs' ++ [y']).length - 1) = bs' := by
      rw [List.length_append, List.length_singleton, Nat.add_sub_cancel, List.take_append_of_le_length (Nat.le_refl _), List.take_length]
    rw [et]
    refine run_less (y := y') R hf rfl (v := ⟨List.replicate (probsN lc lp) 1024, started (bs' ++ [y'])⟩) ⟨rfl, e0⟩ ?_
    rcases started_less (bs := bs') (y := y') (by rw [e0]; exact decAt_some _ _ _) with h | h
    · exact .inl h
    · exact .inr ⟨rfl, h⟩
end Go.Proofs.YtjgdjobhhdhfjaaGreat

/-
  What is packed is unpacked: numbers. A literal and a match.
-/
namespace Go.Proofs.YtjgdjobhhdhfjaaGreat
open Go.RowKit

section
variable {qs : Nat → Pq} {lc lp pb dict n : Nat}
theorem run_len (h : SetOk lc lp pb dict) (hq : ∀ i, i < n → PqLit (qs i)) (hn : n ≤ 3000) : (runG qs (freshS lc lp pb dict) n).2.x.l ≤ 3000000 := by
  obtain ⟨k, hk⟩ : ∃ k, k + 27 * n = 28124999 := ⟨28124999 - 27 * n, by omega⟩
  have hp : PmOk okE (probsN lc lp) (k + 27 * n) (freshS lc lp pb dict).2 :=
    ⟨fun p hp => by rw [List.eq_of_mem_replicate hp]; exact ⟨by decide, by decide⟩, by show (List.replicate _ _).length = _; simp, enOk_new, by show 5 + 32 * (k + 27 * n) ≤ _; omega⟩
  obtain ⟨_, b⟩ := codeG_ok (most := mostI) (s := freshS lc lp pb dict) hq (fresh_near h) hp n (Nat.le_refl _)
  have e : (runG qs (freshS lc lp pb dict) n).2.x.l + 32 * (k + 27 * (n - n)) ≤ 900000000 := b.x.2
  omega
theorem packed_back (h : SetOk lc lp pb dict) (hq : ∀ i, i < n → PqLit (qs i)) (hn : n ≤ 3000) {bs : List UInt8} (hb : be bs = (runG qs (freshS lc lp pb dict) n).2.x.n) (hl : bs.length = (runG qs (freshS lc lp pb dict) n).2.x.l) :
    lzRes bs lc lp pb dict (((runG qs (freshS lc lp pb dict) n).1.out.length : Nat) : Int) = some (runG qs (freshS lc lp pb dict) n).1.out ∧
    lzCode bs lc lp pb dict (((runG qs (freshS lc lp pb dict) n).1.out.length : Nat) : Int) = 0 ∧ bs.length ≤ 3000000 ∧ (runG qs (freshS lc lp pb dict) n).1.out.length ≤ 273 * n := by
  obtain ⟨m, hm, hc, he⟩ := run_cut h hq (by omega)
  have h1 := (coded_ok (most := mostI) (qs := qs) (n := m) h (fun i hi => hq i (by omega)) hc (by omega) (s := runG qs (freshS lc lp pb dict) n) he hb hl 0).1
  refine ⟨?_, ?_, by rw [hl]; exact run_len h hq hn, (run_ok h hq (by omega) n (Nat.le_refl _)).1.out⟩
  · unfold lzRes
    rw [if_pos (setOk_may h)]
    exact h1
  · unfold lzCode
    rw [if_pos (setOk_may h)]
    simp only [Int.toNat_natCast]
    rw [h1]
    rfl
end

/-- a literal and a match -/
def runQ (b : UInt8) (k : Nat) (i : Nat) : Pq := if i = 0 then ⟨0, (b.toNat : Int), 0, 0⟩ else ⟨1, 0, (k : Int), 0⟩
theorem runQ_lit {b : UInt8} {k : Nat} (hk : k ≤ 273) (i : Nat) : PqLit (runQ b k i) := by
  have := b.toNat_lt
  unfold runQ
  split
  · exact ⟨⟨by show -9223372036854775808 ≤ (0 : Int); omega, by show (0 : Int) ≤ _; omega⟩, ⟨by show (0 : Int) ≤ (b.toNat : Int); omega, by show (b.toNat : Int) ≤ 255; omega⟩, ⟨by show -9223372036854775808 ≤ (0 : Int); omega, by show (0 : Int) ≤ _; omega⟩, ⟨by show (0 : Int) ≤ 0; omega, by show (0 : Int) ≤ _; omega⟩⟩
  · exact ⟨⟨by show -9223372036854775808 ≤ (1 : Int); omega, by show (1 : Int) ≤ _; omega⟩, ⟨by show (0 : Int) ≤ 0; omega, by show (0 : Int) ≤ 255; omega⟩, ⟨by show -9223372036854775808 ≤ (k : Int); omega, by show (k : Int) ≤ _; omega⟩, ⟨by show (0 : Int) ≤ 0; omega, by show (0 : Int) ≤ _; omega⟩⟩
theorem copy_row {b : UInt8} : ∀ (f : Nat) (z : Lzs) (n : Nat), z.r0 = 0 → z.out = List.replicate (n + 1) b → 1 ≤ z.dict → (copyN f z).out = List.replicate (n + 1 + f) b
  | 0, z, n, _, h, _ => h
  | f + 1, z, n, h0, h, hd => by
    have hb : z.back z.r0 = b := by
      unfold Lzs.back
      have hh : z.has z.r0 = true := by unfold Lzs.has; rw [h0, h]; exact decide_eq_true ⟨by simp, by omega⟩
      rw [if_pos hh, h0, h]
      simp
    show (copyN f (z.push (z.back z.r0))).out = _
    rw [hb]
    have := copy_row f (z.push b) (n + 1) h0 (by show z.out ++ [b] = _; rw [h, ← List.replicate_succ']) hd
    rw [this]
    congr 1
    omega
theorem runs_out {lc lp pb dict k : Nat} (h : SetOk lc lp pb dict) (hk : 2 ≤ k) (hk2 : k ≤ 273) (b : UInt8) : (runG (runQ b k) (freshS lc lp pb dict) 2).1.out = List.replicate (k + 1) b := by
  have hb0 := run_bad (qs := runQ b k) (n := 2) h (fun i _ => runQ_lit hk2 i) (by decide) 1 (by decide)
  obtain ⟨z1, z2⟩ := run_ok (qs := runQ b k) (n := 2) h (fun i _ => runQ_lit hk2 i) (by decide) 1 (by decide)
  have eb : UInt8.ofNat ((b.toNat : Int)).toNat = b := by rw [Int.toNat_natCast]; exact UInt8.ofNat_toNat
  have e1 : (runG (runQ b k) (freshS lc lp pb dict) 1).1 = ({ Lzs.start lc lp pb dict with st := litSt 0 } : Lzs).push b := by
    rw [run_succ]
    have hf : fitsP (runG (runQ b k) (freshS lc lp pb dict) 0).1 (runQ b k 0).pk.kind (runQ b k 0).pk.dist (runQ b k 0).pk.len = true := rfl
    rw [if_pos hf]
    show (packP encM (freshS lc lp pb dict).1 (freshS lc lp pb dict).2 ⟨0, _, _, UInt8.ofNat ((b.toNat : Int)).toNat⟩).2.1 = _
    rw [packE_lit rfl, eb]
    rfl
  rw [show (2 : Nat) = 1 + 1 from rfl, run_succ]
  generalize hs : runG (runQ b k) (freshS lc lp pb dict) 1 = s at *
  obtain ⟨z, t⟩ := s
  dsimp only at e1 hb0 z1 z2
  have ho : z.out = [b] := by rw [e1]; rfl
  have hdi : z.dict = dict := by rw [e1]; rfl
  have hen : z.ended = false := by rw [e1]; rfl
  have hhas : z.has 0 = true := by unfold Lzs.has; rw [ho, hdi]; exact decide_eq_true ⟨by simp, by have := h.2.2.2.1; omega⟩
  have hf : fitsP z (runQ b k 1).pk.kind (runQ b k 1).pk.dist (runQ b k 1).pk.len = true := by
    show fitsP z 1 0 (k : Int) = true
    unfold fitsP lateP hasP
    rw [hen, decide_eq_false (by omega)]
    exact hhas
  rw [if_pos hf]
  show (packP encM z t ⟨1, 0, (k : Int), _⟩).2.1.out = _
  have hL0 : 1847 ≤ probsN lc lp := by unfold probsN; omega
  have hkok := (kindP_ok encM_ok (k := 22) (L := probsN lc lp) (s := z.out.length % 2 ^ z.pb) (st := z.st) (em := decide (z.out.length = 0)) (kd := 1) (t := t) z2 hL0 (mod_pb z1.pb) z1.st (fun _ => by decide)).2
  have hlk := (lenP_ok encM_ok (k := 12) (a := 819) (s := z.out.length % 2 ^ z.pb) (v := ((k - 2 : Nat) : Int)) hkok (by omega) (mod_pb z1.pb) (fun _ => by omega)).2
  rw [packE_match hb0 hen hk hk2 hhas (by rw [hdi]; exact h.2.2.2.2) ⟨0, _, hL0, hlk⟩]
  have := copy_row (b := b) k { z with r0 := 0, r1 := z.r0, r2 := z.r1, r3 := z.r2, st := aft 7 10 z.st } 0 rfl ho (by show 1 ≤ z.dict; rw [hdi]; have := h.2.2.2.1; omega)
  exact this.trans (by rw [show 0 + 1 + k = k + 1 by omega])
end Go.Proofs.YtjgdjobhhdhfjaaGreat
