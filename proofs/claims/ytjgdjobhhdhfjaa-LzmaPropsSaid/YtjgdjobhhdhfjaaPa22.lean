/-
  LwProp: put together.
-/
import Derived.Test.YtjgdjobhhdhfjaaPa17
import Derived.Test.YtjgdjobhhdhfjaaPa20
import Derived.Test.YtjgdjobhhdhfjaaPa21
import Derived.Deep.RegionHeld3
set_option linter.unusedVariables false
set_option linter.unusedSimpArgs false
/-
  The program's settings: probabilities counted, properties put and read.
-/
namespace Go.Proofs.Ytjgdjobhhdhfjaa
open Go.RowKit

section
variable {w : World} {lc lp pb dict : Nat}

set_option maxRecDepth 100000 in
set_option maxHeartbeats 2000000 in
theorem pprobs_con (a b c d : Int) (w : World) : Calls Try.prog 18 #[.agg #[.int .i64 a, .int .i64 b, .int .i64 c, .int .i64 d]] w fun x w' => x = .returned (.int .i64 (probsOf a b c d)) ∧ Below w.heap.size w w' := by
  by_cases h : maySet a b c d = true
  · obtain ⟨lc, lp, pb, dict, rfl, rfl, rfl, rfl, hs⟩ := maySet_set h
    rw [(probsN_is hs).1]
    exact pprobs_any hs w
  · have h0 : maySet a b c d = false := by simpa using h
    have hp : probsOf a b c d = 0 := if_neg h
    rw [hp]
    obtain ⟨w1, hw1⟩ : ∃ w1, w1 = w.alloc (.cells #[.int .i64 a, .int .i64 b, .int .i64 c, .int .i64 d] 24) := ⟨_, rfl⟩
    have hb1 : Below w.heap.size w w1 := by rw [hw1]; exact (Below.refl _ _).alloc (Nat.le_refl _) _
    have HBk : Blk w1 w.heap.size 24 #[.int .i64 a, .int .i64 b, .int .i64 c, .int .i64 d] := by rw [hw1]; exact Blk.fresh w _ _
    have KM := pmay_any a b c d w1
    rw [h0] at KM
    have KM := Lib.hid KM
    have c0 : w1.cell? ⟨w.heap.size, 0, none⟩ = some (.int .i64 a) := HBk.cell 0
    have c1 : w1.cell? ⟨w.heap.size, 1, none⟩ = some (.int .i64 b) := HBk.cell 1
    have c2 : w1.cell? ⟨w.heap.size, 2, none⟩ = some (.int .i64 c) := HBk.cell 2
    have c3 : w1.cell? ⟨w.heap.size, 3, none⟩ = some (.int .i64 d) := HBk.cell 3
    have HW1 := Lib.hid hw1
    have HB1 := Lib.hid hb1
    clear hw1 hb1 HBk h h0 hp
    go_enter Try.func18, Try.ntmps18
    go_upto_region 1 with fail
    rw [← HW1.out]
    clear HW1
    go_wp2_with fail
    refine KM.out.mono ?_
    rintro e w2 ⟨rfl, hb2⟩
    have HB2 := Lib.hid (HB1.out.trans ⟨hb2.os, hb2.tape, hb2.output, hb2.size, fun i hi => hb2.block i (Nat.lt_of_lt_of_le hi HB1.out.size)⟩)
    clear hb2 KM c0 c1 c2 c3 HB1
    go_wp2_with fail
    go_ret
    exact ⟨rfl, HB2.out⟩

theorem put_props {first dict : Nat} (hf : first < 256) (hd : dict < 4294967296) : [] ++ putM ((1 : Nat) : Int) first ++ putM ((4 : Nat) : Int) dict = [UInt8.ofNat first, UInt8.ofNat (dict % 256), UInt8.ofNat (dict / 256 % 256), UInt8.ofNat (dict / 65536 % 256), UInt8.ofNat (dict / 16777216)] := by
  have e1 : putM ((1 : Nat) : Int) first = leBytes 1 first := by simp [putM]
  have e4 : putM ((4 : Nat) : Int) dict = leBytes 4 dict := by simp [putM]
  rw [e1, e4]
  simp only [leBytes, List.range_succ, List.range_zero, List.nil_append, List.map_cons, List.map_nil, List.cons_append, Nat.pow_zero, Nat.div_one, Nat.reducePow]
  rw [Nat.mod_eq_of_lt hf, Nat.mod_eq_of_lt (show dict / 16777216 < 256 by omega)]

set_option maxRecDepth 100000 in
set_option maxHeartbeats 4000000 in
theorem pprops_any (h : SetOk lc lp pb dict) (w : World) : Calls Try.prog 21 #[.agg #[.int .i64 (lc : Int), .int .i64 (lp : Int), .int .i64 (pb : Int), .int .i64 (dict : Int)]] w (PropsIs w (propsOf lc lp pb dict)) := by
  obtain ⟨w1, hw1⟩ : ∃ w1, w1 = w.alloc (.cells #[.int .i64 (lc : Int), .int .i64 (lp : Int), .int .i64 (pb : Int), .int .i64 (dict : Int)] 24) := ⟨_, rfl⟩
  have hb1 : Below w.heap.size w w1 := by rw [hw1]; exact (Below.refl _ _).alloc (Nat.le_refl _) _
  have HBk : Blk w1 w.heap.size 24 #[.int .i64 (lc : Int), .int .i64 (lp : Int), .int .i64 (pb : Int), .int .i64 (dict : Int)] := by rw [hw1]; exact Blk.fresh w _ _
  have KM := pmay_any (lc : Int) (lp : Int) (pb : Int) (dict : Int) w1
  rw [setOk_may h] at KM
  have KM := Lib.hid KM
  obtain ⟨h1, h2, h3, h4, h5⟩ := h
  obtain ⟨first, hfirst⟩ : ∃ f, f = 45 * pb + 9 * lp + lc := ⟨_, rfl⟩
  have hpo : propsOf lc lp pb dict = [] ++ putM ((1 : Nat) : Int) first ++ putM ((4 : Nat) : Int) dict := by
    rw [put_props (by omega) h5, hfirst]
    rfl
  rw [hpo]
  have e1 : IntKind.i64.wrap ((pb : Int) * 5) = (pb : Int) * 5 := IntWalk.i64_in _ (by omega)
  have e2 : IntKind.i64.wrap ((pb : Int) * 5 + (lp : Int)) = (pb : Int) * 5 + (lp : Int) := IntWalk.i64_in _ (by omega)
  have e3 : IntKind.i64.wrap (((pb : Int) * 5 + (lp : Int)) * 9) = ((pb : Int) * 5 + (lp : Int)) * 9 := IntWalk.i64_in _ (by omega)
  have e4 : IntKind.i64.wrap (((pb : Int) * 5 + (lp : Int)) * 9 + (lc : Int)) = (first : Int) := by rw [show ((pb : Int) * 5 + (lp : Int)) * 9 + (lc : Int) = (first : Int) by omega]; exact IntWalk.i64_in _ (by omega)
  have e5 : IntKind.u64.wrap (first : Int) = (first : Int) := u64_in _ (by omega)
  have e6 : IntKind.u64.wrap (dict : Int) = (dict : Int) := u64_in _ (by omega)
  have hf1 : first < 18446744073709551616 := by omega
  have hd1 : dict < 18446744073709551616 := by omega
  have HNUM := Lib.hid (And.intro hf1 hd1)
  obtain ⟨y1, hy1⟩ : ∃ y, y = [] ++ putM ((1 : Nat) : Int) first := ⟨_, rfl⟩
  obtain ⟨y2, hy2⟩ : ∃ y, y = y1 ++ putM ((4 : Nat) : Int) dict := ⟨_, rfl⟩
  rw [← hy1, ← hy2]
  obtain ⟨n1, hn1⟩ : ∃ n, n = y1.length := ⟨_, rfl⟩
  obtain ⟨n2, hn2⟩ : ∃ n, n = y2.length := ⟨_, rfl⟩
  have hl1 : n1 = 1 := by rw [hn1, hy1]; simp [putM, leBytes]
  have KP : ∀ W : World, Calls Try.prog 51 #[.slice none 0 0, .int .i64 1, .int .u64 (first : Int)] W fun e w' => ∃ A' c', e = .returned (.slice A' n1 c') ∧ Sl w' A' n1 (bv y1) ∧ Below W.heap.size W w' := by
    intro W
    refine (put_any (w := W) (A := none) (n := 0) (c := 0) (v := first) (x := ((1 : Nat) : Int)) (bs := []) Sl.nil (by omega) HNUM.out.1).mono ?_
    rintro e w' ⟨A', c', rfl, ho, hb⟩
    have e1 : 0 + (putM ((1 : Nat) : Int) first).length = n1 := by rw [hn1, hy1]; simp
    rw [e1, ← hy1] at ho
    rw [e1]
    exact ⟨A', c', rfl, Sl.of_own ho, hb⟩
  have KQ : ∀ (W : World) (A : Option Addr) (c : Nat), Sl W A n1 (bv y1) → Calls Try.prog 51 #[.slice A n1 c, .int .i64 4, .int .u64 (dict : Int)] W fun e w' => ∃ A' c', e = .returned (.slice A' n2 c') ∧ Sl w' A' n2 (bv y2) ∧ Below W.heap.size W w' := by
    intro W A c hS
    refine (put_any (w := W) (A := A) (n := n1) (c := c) (v := dict) (x := ((4 : Nat) : Int)) (bs := y1) hS (by omega) HNUM.out.2).mono ?_
    rintro e w' ⟨A', c', rfl, ho, hb⟩
    have e1 : n1 + (putM ((4 : Nat) : Int) dict).length = n2 := by rw [hn2, hy2, List.length_append, hn1]
    rw [e1, ← hy2] at ho
    rw [e1]
    exact ⟨A', c', rfl, Sl.of_own ho, hb⟩
  have KP := Lib.hid KP
  have KQ := Lib.hid KQ
  have HN2 := Lib.hid hn2
  clear hy1 hy2 hn1 hn2 hl1
  have c0 : w1.cell? ⟨w.heap.size, 0, none⟩ = some (.int .i64 (lc : Int)) := HBk.cell 0
  have c1 : w1.cell? ⟨w.heap.size, 1, none⟩ = some (.int .i64 (lp : Int)) := HBk.cell 1
  have c2 : w1.cell? ⟨w.heap.size, 2, none⟩ = some (.int .i64 (pb : Int)) := HBk.cell 2
  have c3 : w1.cell? ⟨w.heap.size, 3, none⟩ = some (.int .i64 (dict : Int)) := HBk.cell 3
  have HW1 := Lib.hid hw1
  have HB1 := Lib.hid hb1
  have HBK := Lib.hid HBk
  clear hw1 hb1 HBk h1 h2 h3 h4 h5 hf1 hd1 hpo hfirst
  go_enter Try.func21, Try.ntmps21
  go_upto_region 1 with fail
  rw [← HW1.out]
  clear HW1
  generalize hB : w.heap.size = B at *
  go_wp2_with fail
  refine KM.out.mono ?_
  rintro e w2 ⟨rfl, hb2⟩
  have HB2 := Lib.hid (below_go HB1.out hb2 (Nat.le_of_eq hB.symm))
  have hk2 := HBK.out.below hb2
  have HK2 := Lib.hid hk2
  have d0 : w2.cell? ⟨B, 0, none⟩ = some (.int .i64 (lc : Int)) := hk2.cell 0
  have d1 : w2.cell? ⟨B, 1, none⟩ = some (.int .i64 (lp : Int)) := hk2.cell 1
  have d2 : w2.cell? ⟨B, 2, none⟩ = some (.int .i64 (pb : Int)) := hk2.cell 2
  have d3 : w2.cell? ⟨B, 3, none⟩ = some (.int .i64 (dict : Int)) := hk2.cell 3
  clear hb2 hk2 KM c0 c1 c2 c3 HB1 HBK
  have HS := Lib.hid (fun (W : World) (hW : Only (fun _ => False) w2 W) => (show W.cell? ⟨B, 3, none⟩ = some (.int .i64 (dict : Int)) from (HK2.out.only hW (fun h => h)).cell 3))
  go_wp2_with fail
  go_region_held3 (fun w' => w'.cell? ⟨B, 3, none⟩ = some (.int .i64 (dict : Int)))
    (first | assumption | go_keep | exact HS.out _ HO3.out | exact HS.out _ HO4.out)
    (first
      | (go_at_call 51; ((with_reducible refine (KP.out _).mono ?_); rintro e w3 ⟨A3, c3, rfl, hS3, hb3⟩; have HO3 := Lib.hid (show Only (fun _ => False) w2 w3 from ((Only.refl (fun _ => False) w2).drew).trans (Only.of_below hb3)); have HS3 := Lib.hid hS3; clear hb3 hS3))
      | (go_at_call 51; ((with_reducible refine (KQ.out _ _ _ HS3.out).mono ?_); rintro e w4 ⟨A4, c4, rfl, hS4, hb4⟩; have HO4 := Lib.hid (show Only (fun _ => False) w2 w4 from HO3.out.trans (Only.of_below hb4)); have HS4 := Lib.hid hS4; clear hb4 hS4)))
  go_wp2_with fail
  go_ret
  refine ⟨A4, c4, by rw [← HN2.out]; rfl, by rw [← HN2.out]; exact HS4.out, ?_⟩
  rw [hB]
  exact HB2.out.trans ⟨HO4.out.os, HO4.out.tape, HO4.out.output, HO4.out.size, fun i hi => HO4.out.block i (by have := HB2.out.size; omega) (fun h => h)⟩

/-- a setting is stored into the result -/
theorem store_set {B b : Nat} {w W : World} {x0 x1 x2 x3 : Value} (a0 a1 a2 a3 : Value) (h1 : Blk W b 24 #[x0, x1, x2, x3]) (h2 : Below B w W) (hb : B ≤ b) :
    Blk ((((W.setCell ⟨b, 0, none⟩ a0).setCell ⟨b, 1, none⟩ a1).setCell ⟨b, 2, none⟩ a2).setCell ⟨b, 3, none⟩ a3) b 24 #[a0, a1, a2, a3] ∧
    Below B w ((((W.setCell ⟨b, 0, none⟩ a0).setCell ⟨b, 1, none⟩ a1).setCell ⟨b, 2, none⟩ a2).setCell ⟨b, 3, none⟩ a3) :=
  ⟨(((h1.put 0 a0).put 1 a1).put 2 a2).put 3 a3, (((h2.setCell hb _).setCell hb _).setCell hb _).setCell hb _⟩

set_option maxRecDepth 100000 in
set_option maxHeartbeats 4000000 in
theorem pparse_any {w : World} {n c : Nat} {A : Option Addr} {bs : List UInt8} (hn : n = bs.length) (hS : Sl w A bs.length (bv bs)) (hl : bs.length ≤ 1000000000) :
    Calls Try.prog 15 #[.slice A n c] w (ParsePost w (parseOf bs)) := by
  obtain ⟨w1, hw1⟩ : ∃ w1, w1 = w.alloc (.cells #[.int .i64 0, .int .i64 0, .int .i64 0, .int .i64 0] 24) := ⟨_, rfl⟩
  have HBk : Blk w1 w.heap.size 24 #[.int .i64 0, .int .i64 0, .int .i64 0, .int .i64 0] := by rw [hw1]; exact Blk.fresh w _ _
  have hb : Below w.heap.size w w1 := by rw [hw1]; exact (Below.refl _ _).alloc (Nat.le_refl _) _
  have hS1 : Sl w1 A bs.length (bv bs) := by rw [hw1]; exact hS.alloc _
  have r0 : w1.cell? ⟨w.heap.size, 0, none⟩ = some (.int .i64 0) := HBk.cell 0
  have r1 : w1.cell? ⟨w.heap.size, 1, none⟩ = some (.int .i64 0) := HBk.cell 1
  have r2 : w1.cell? ⟨w.heap.size, 2, none⟩ = some (.int .i64 0) := HBk.cell 2
  have r3 : w1.cell? ⟨w.heap.size, 3, none⟩ = some (.int .i64 0) := HBk.cell 3
  have z0 := HBk.free 0
  have z1 := HBk.free 1
  have z2 := HBk.free 2
  have z3 := HBk.free 3
  have HW1 := Lib.hid hw1
  have HB := Lib.hid hb
  have HBK := Lib.hid HBk
  by_cases h5 : n = 5
  · have h5' : bs.length = 5 := by omega
    match bs, h5', hS1 with
    | [a, b, d, e, f], _, hS1 =>
      have KN := Lib.hid (new_any (c := c) hS1 (by simp))
      have ha := a.toNat_lt
      have hbb := b.toNat_lt
      have hd := d.toNat_lt
      have he := e.toNat_lt
      have hf := f.toNat_lt
      have hpar : parseOf [a, b, d, e, f] = if a.toNat < 225 then some (a.toNat % 9, a.toNat / 9 % 5, a.toNat / 45, max 4096 (b.toNat + 256 * d.toNat + 65536 * e.toNat + 16777216 * f.toNat)) else none := rfl
      have hv1 : leVal ((leftOf [a, b, d, e, f] 0 0).take 1) = a.toNat := by simp [leftOf, leVal]
      have hv4 : leVal ((leftOf [a, b, d, e, f] 1 0).take 4) = b.toNat + 256 * d.toNat + 65536 * e.toNat + 16777216 * f.toNat := by simp [leftOf, leVal]; omega
      rw [hpar]
      have KA := fun (W : World) (g : Nat) (h : Cur 138 W g (w1.heap.size ≤ ·) [a, b, d, e, f] 0 0) => num_ok (n := 1) h (by simp) (.inl rfl) (by simp [leftOf])
      have KB := fun (W : World) (g : Nat) (h : Cur 138 W g (w1.heap.size ≤ ·) [a, b, d, e, f] (0 + 1) 0) => num_ok (n := 4) h (by simp) (.inr (.inr (.inl rfl))) (by simp [leftOf])
      rw [hv1] at KA
      rw [show leVal ((leftOf [a, b, d, e, f] (0 + 1) 0).take 4) = leVal ((leftOf [a, b, d, e, f] 1 0).take 4) from rfl, hv4] at KB
      have KA := Lib.hid KA
      have KB := Lib.hid KB
      subst h5
      clear hpar hv1 hv4 hn hl hS hS1 hw1 hb HBk h5'
      obtain ⟨x, hx⟩ : ∃ x, x = a.toNat := ⟨_, rfl⟩
      obtain ⟨y, hy⟩ : ∃ y, y = b.toNat + 256 * d.toNat + 65536 * e.toNat + 16777216 * f.toNat := ⟨_, rfl⟩
      rw [← hx] at KA ha ⊢
      rw [← hy] at KB ⊢
      have hy32 : y < 4294967296 := by omega
      clear hx hy hbb hd he hf
      obtain ⟨lc, hlc⟩ : ∃ v, v = x % 9 := ⟨_, rfl⟩
      obtain ⟨q, hq⟩ : ∃ v, v = x / 9 := ⟨_, rfl⟩
      obtain ⟨lp, hlp⟩ : ∃ v, v = q % 5 := ⟨_, rfl⟩
      obtain ⟨pb, hpb⟩ : ∃ v, v = x / 45 := ⟨_, rfl⟩
      obtain ⟨dc, hdc⟩ : ∃ v, v = max 4096 y := ⟨_, rfl⟩
      rw [← hq, ← hlp, ← hlc, ← hpb, ← hdc]
      obtain ⟨res, hres⟩ : ∃ r, r = if x < 225 then some (lc, lp, pb, dc) else none := ⟨_, rfl⟩
      rw [← hres]
      have HRES := Lib.hid hres
      have e1 : (x : Int).tmod 9 = (lc : Int) := by rw [Int.tmod_eq_emod_of_nonneg (by omega)]; omega
      have e2 : (x : Int) / 9 = (q : Int) := by omega
      have e2' : (x : Int).tdiv 9 = (q : Int) := by rw [Int.tdiv_eq_ediv_of_nonneg (by omega)]; exact e2
      have e3 : (q : Int).tmod 5 = (lp : Int) := by rw [Int.tmod_eq_emod_of_nonneg (by omega)]; omega
      have e4 : (q : Int) / 5 = (pb : Int) := by omega
      have e4' : (q : Int).tdiv 5 = (pb : Int) := by rw [Int.tdiv_eq_ediv_of_nonneg (by omega)]; exact e4
      have u0 : IntKind.i64.wrap (x : Int) = (x : Int) := IntWalk.i64_in _ (by omega)
      have u1 : IntKind.i64.wrap (y : Int) = (y : Int) := IntWalk.i64_in _ (by omega)
      have v1 : IntKind.i64.wrap (lc : Int) = (lc : Int) := IntWalk.i64_in _ (by omega)
      have v2 : IntKind.i64.wrap (q : Int) = (q : Int) := IntWalk.i64_in _ (by omega)
      have v3 : IntKind.i64.wrap (lp : Int) = (lp : Int) := IntWalk.i64_in _ (by omega)
      have v4 : IntKind.i64.wrap (pb : Int) = (pb : Int) := IntWalk.i64_in _ (by omega)
      have m1 : max (y : Int) 4096 = (dc : Int) := by omega
      have KM := fun W => pmay_any (lc : Int) (lp : Int) (pb : Int) (dc : Int) W
      have hmay : maySet (lc : Int) (lp : Int) (pb : Int) (dc : Int) = decide (x < 225) := by
        unfold maySet
        rw [decide_eq_decide]
        omega
      rw [hmay] at KM
      obtain ⟨ok, hok⟩ : ∃ o, o = decide (x < 225) := ⟨_, rfl⟩
      rw [← hok] at KM
      have KM := Lib.hid KM
      have HOK := Lib.hid hok
      clear hok hres hmay hlc hq hlp hpb hdc ha hy32
      go_enter Try.func15, Try.ntmps15
      go_upto_region 1 with fail
      rw [← HW1.out]
      clear HW1
      generalize hB : w.heap.size = B at *
      go_wp2_with fail
      refine KN.out.mono ?_
      rintro e w2 ⟨g, rfl, hg, hC, hb2⟩
      have HC2 := Lib.hid (And.intro hg hC)
      have HB2 := Lib.hid (And.intro (below_go HB.out hb2 (Nat.le_of_eq hB.symm)) (HBK.out.below hb2))
      clear hg hC hb2 KN r0 r1 r2 r3 z0 z1 z2 z3
      go_wp2_with fail
      refine (KA.out _ _ HC2.out.2).mono ?_
      rintro e w3 ⟨rfl, hC3, hg3⟩
      have hBg : B ≤ g := by have h1 := HC2.out.1; have h2 := HB.out.size; omega
      have hb3 : Below B w w3 := HB2.out.1.trans (below_of_only hg3 hBg (by have h1 := HB2.out.1.size; omega))
      have hgB : B ≠ g := by have := HC2.out.1; have := HBK.out.lt; omega
      have HB3 := Lib.hid (And.intro hb3 (HB2.out.2.grown hg3 (by intro e; injection e with e; exact hgB e)))
      have HC3 := Lib.hid (And.intro (And.intro hgB hBg) hC3)
      clear hb3 hgB hBg hC3 hg3 KA
      go_wp2_with fail
      refine (KB.out _ _ HC3.out.2).mono ?_
      rintro e w4 ⟨rfl, hC4, hg4⟩
      have hb4 : Below B w w4 := HB3.out.1.trans (below_of_only hg4 HC3.out.1.2 (by have h1 := HB3.out.1.size; omega))
      have hk4 := HB3.out.2.grown hg4 (by intro e; injection e with e; exact HC3.out.1.1 e)
      have HB4 := Lib.hid (And.intro hb4 hk4)
      clear hb4 hk4 hC4 hg4 KB
      go_upto_region 6 with fail
      obtain ⟨w5, hw5⟩ : ∃ w5, w5 = w4.alloc (.cells #[.int .i64 (lc : Int), .int .i64 (lp : Int), .int .i64 (pb : Int), .int .i64 (dc : Int)] 24) := ⟨_, rfl⟩
      have hf5 : Blk w5 w4.heap.size 24 #[.int .i64 (lc : Int), .int .i64 (lp : Int), .int .i64 (pb : Int), .int .i64 (dc : Int)] := by rw [hw5]; exact Blk.fresh w4 _ _
      have hb5 : Below B w w5 := by rw [hw5]; exact HB4.out.1.alloc (by have := HB4.out.1.size; omega) _
      have hk5 : Blk w5 B 24 #[.int .i64 0, .int .i64 0, .int .i64 0, .int .i64 0] := by rw [hw5]; exact HB4.out.2.alloc _
      have hBb : B ≤ w4.heap.size := by have := HB4.out.1.size; omega
      rw [← hw5]
      generalize w4.heap.size = b4 at *
      have k0 : w5.cell? ⟨b4, 0, none⟩ = some (.int .i64 (lc : Int)) := hf5.cell 0
      have k1 : w5.cell? ⟨b4, 1, none⟩ = some (.int .i64 (lp : Int)) := hf5.cell 1
      have k2 : w5.cell? ⟨b4, 2, none⟩ = some (.int .i64 (pb : Int)) := hf5.cell 2
      have k3 : w5.cell? ⟨b4, 3, none⟩ = some (.int .i64 (dc : Int)) := hf5.cell 3
      have H5 := Lib.hid (And.intro hf5 (And.intro hb5 (And.intro hk5 hBb)))
      clear hw5 hf5 hb5 hk5 hBb HB4
      go_wp2_with fail
      refine (KM.out _).mono ?_
      rintro e w6 ⟨rfl, hb6⟩
      obtain ⟨hf5, hb5, hk5, hBb⟩ := H5.out
      have hf6 := hf5.below hb6
      have hk6 := hk5.below hb6
      have hb6' : Below B w w6 := below_go hb5 hb6 (Nat.le_of_eq hB.symm)
      have q0 : w6.cell? ⟨b4, 0, none⟩ = some (.int .i64 (lc : Int)) := hf6.cell 0
      have q1 : w6.cell? ⟨b4, 1, none⟩ = some (.int .i64 (lp : Int)) := hf6.cell 1
      have q2 : w6.cell? ⟨b4, 2, none⟩ = some (.int .i64 (pb : Int)) := hf6.cell 2
      have q3 : w6.cell? ⟨b4, 3, none⟩ = some (.int .i64 (dc : Int)) := hf6.cell 3
      have r0 : w6.cell? ⟨B, 0, none⟩ = some (.int .i64 0) := hk6.cell 0
      have r1 : w6.cell? ⟨B, 1, none⟩ = some (.int .i64 0) := hk6.cell 1
      have r2 : w6.cell? ⟨B, 2, none⟩ = some (.int .i64 0) := hk6.cell 2
      have r3 : w6.cell? ⟨B, 3, none⟩ = some (.int .i64 0) := hk6.cell 3
      have z0 := hk6.free 0
      have z1 := hk6.free 1
      have z2 := hk6.free 2
      have z3 := hk6.free 3
      have H6 := Lib.hid (And.intro hk6 hb6')
      clear hf5 hb5 hk5 hBb hf6 hk6 hb6 hb6' k0 k1 k2 k3 H5 KM
      cases ok with
      | true =>
        have hr : res = some (lc, lp, pb, dc) := by rw [HRES.out, if_pos (of_decide_eq_true HOK.out.symm)]
        have HR := Lib.hid hr
        have HE := Lib.hid (store_set (.int .i64 (lc : Int)) (.int .i64 (lp : Int)) (.int .i64 (pb : Int)) (.int .i64 (dc : Int)) H6.out.1 H6.out.2 (Nat.le_refl B))
        clear hr
        go_wp2_with fail
        obtain ⟨hk, hb⟩ := HE.out
        generalize (((w6.setCell ⟨B, 0, none⟩ (.int .i64 (lc : Int))).setCell ⟨B, 1, none⟩ (.int .i64 (lp : Int))).setCell ⟨B, 2, none⟩ (.int .i64 (pb : Int))).setCell ⟨B, 3, none⟩ (.int .i64 (dc : Int)) = w7 at *
        have k0 : w7.cell? ⟨B, 0, none⟩ = some (.int .i64 (lc : Int)) := hk.cell 0
        have k1 : w7.cell? ⟨B, 1, none⟩ = some (.int .i64 (lp : Int)) := hk.cell 1
        have k2 : w7.cell? ⟨B, 2, none⟩ = some (.int .i64 (pb : Int)) := hk.cell 2
        have k3 : w7.cell? ⟨B, 3, none⟩ = some (.int .i64 (dc : Int)) := hk.cell 3
        rw [← hB] at hb
        refine bodyPost_ret (v := .tuple #[.agg #[.int .i64 (lc : Int), .int .i64 (lp : Int), .int .i64 (pb : Int), .int .i64 (dc : Int)], .int .i64 0]) (by simp [results, Try.results15, go_sem, k0, k1, k2, k3]) rfl ⟨hb, .inr ⟨lc, lp, pb, dc, HR.out, rfl⟩⟩
      | false =>
        have hr : res = none := by rw [HRES.out, if_neg (of_decide_eq_false HOK.out.symm)]
        have HR := Lib.hid hr
        have HE := Lib.hid (store_set (.int .i64 0) (.int .i64 0) (.int .i64 0) (.int .i64 0) H6.out.1 H6.out.2 (Nat.le_refl B))
        clear hr
        go_wp2_with fail
        obtain ⟨hk, hb⟩ := HE.out
        generalize (((w6.setCell ⟨B, 0, none⟩ (.int .i64 0)).setCell ⟨B, 1, none⟩ (.int .i64 0)).setCell ⟨B, 2, none⟩ (.int .i64 0)).setCell ⟨B, 3, none⟩ (.int .i64 0) = w7 at *
        have k0 : w7.cell? ⟨B, 0, none⟩ = some (.int .i64 0) := hk.cell 0
        have k1 : w7.cell? ⟨B, 1, none⟩ = some (.int .i64 0) := hk.cell 1
        have k2 : w7.cell? ⟨B, 2, none⟩ = some (.int .i64 0) := hk.cell 2
        have k3 : w7.cell? ⟨B, 3, none⟩ = some (.int .i64 0) := hk.cell 3
        rw [← hB] at hb
        refine bodyPost_ret (v := .tuple #[.agg #[.int .i64 0, .int .i64 0, .int .i64 0, .int .i64 0], .int .i64 11]) (by simp [results, Try.results15, go_sem, k0, k1, k2, k3]) rfl ⟨hb, .inl ⟨HR.out, rfl⟩⟩
  · rw [parse_short (by omega)]
    have q5 : ¬ ((n : Int) = 5) := by omega
    have q5' : ((n : Int) != 5) = true := by simp; omega
    have HE := Lib.hid (store_set (.int .i64 0) (.int .i64 0) (.int .i64 0) (.int .i64 0) HBk hb (Nat.le_refl _))
    clear hS hS1 hn hl h5 hb HBk hw1
    go_enter Try.func15, Try.ntmps15
    go_upto_region 1 with fail
    rw [← HW1.out]
    clear HW1
    go_wp2_with fail
    obtain ⟨hk, hb⟩ := HE.out
    generalize (((w1.setCell ⟨w.heap.size, 0, none⟩ (.int .i64 0)).setCell ⟨w.heap.size, 1, none⟩ (.int .i64 0)).setCell ⟨w.heap.size, 2, none⟩ (.int .i64 0)).setCell ⟨w.heap.size, 3, none⟩ (.int .i64 0) = w7 at *
    have k0 : w7.cell? ⟨w.heap.size, 0, none⟩ = some (.int .i64 0) := hk.cell 0
    have k1 : w7.cell? ⟨w.heap.size, 1, none⟩ = some (.int .i64 0) := hk.cell 1
    have k2 : w7.cell? ⟨w.heap.size, 2, none⟩ = some (.int .i64 0) := hk.cell 2
    have k3 : w7.cell? ⟨w.heap.size, 3, none⟩ = some (.int .i64 0) := hk.cell 3
    refine bodyPost_ret (v := .tuple #[.agg #[.int .i64 0, .int .i64 0, .int .i64 0, .int .i64 0], .int .i64 11]) (by simp [results, Try.results15, go_sem, k0, k1, k2, k3]) rfl ⟨hb, .inl ⟨rfl, rfl⟩⟩

set_option maxRecDepth 100000 in
set_option maxHeartbeats 2000000 in
theorem pprops_con (a b c d : Int) (w : World) : Calls Try.prog 21 #[.agg #[.int .i64 a, .int .i64 b, .int .i64 c, .int .i64 d]] w (PropsIs w (propsB a b c d)) := by
  by_cases h : maySet a b c d = true
  · have e : propsB a b c d = propsOf a.toNat b.toNat c.toNat d.toNat := if_pos h
    rw [e]
    obtain ⟨lc, lp, pb, dict, rfl, rfl, rfl, rfl, hs⟩ := maySet_set h
    exact pprops_any hs w
  · have e : propsB a b c d = [] := if_neg h
    rw [e]
    have h0 : maySet a b c d = false := by simpa using h
    obtain ⟨w1, hw1⟩ : ∃ w1, w1 = w.alloc (.cells #[.int .i64 a, .int .i64 b, .int .i64 c, .int .i64 d] 24) := ⟨_, rfl⟩
    have hb1 : Below w.heap.size w w1 := by rw [hw1]; exact (Below.refl _ _).alloc (Nat.le_refl _) _
    have HBk : Blk w1 w.heap.size 24 #[.int .i64 a, .int .i64 b, .int .i64 c, .int .i64 d] := by rw [hw1]; exact Blk.fresh w _ _
    have KM := pmay_any a b c d w1
    rw [h0] at KM
    have KM := Lib.hid KM
    have c0 : w1.cell? ⟨w.heap.size, 0, none⟩ = some (.int .i64 a) := HBk.cell 0
    have c1 : w1.cell? ⟨w.heap.size, 1, none⟩ = some (.int .i64 b) := HBk.cell 1
    have c2 : w1.cell? ⟨w.heap.size, 2, none⟩ = some (.int .i64 c) := HBk.cell 2
    have c3 : w1.cell? ⟨w.heap.size, 3, none⟩ = some (.int .i64 d) := HBk.cell 3
    have HW1 := Lib.hid hw1
    have HB1 := Lib.hid hb1
    clear hw1 hb1 HBk h h0 e
    go_enter Try.func21, Try.ntmps21
    go_upto_region 1 with fail
    rw [← HW1.out]
    clear HW1
    go_wp2_with fail
    refine KM.out.mono ?_
    rintro e w2 ⟨rfl, hb2⟩
    have HB2 := Lib.hid (below_go HB1.out hb2 (Nat.le_refl _))
    clear hb2 KM c0 c1 c2 c3 HB1
    go_wp2_with fail
    go_ret
    exact ⟨none, 0, rfl, ⟨rfl, fun h => absurd h (Nat.not_lt_zero _)⟩, HB2.out⟩
end

theorem prop_con : PropCon where
  parse := by
    intro w A n c bs hn hS hl
    subst hn
    exact (pparse_any rfl hS (by omega)).mono fun e w' h => parse_is h
  may a b c d w := pmay_any a b c d w
  probs a b c d w := pprobs_con a b c d w
  props a b c d w := pprops_con a b c d w
end Go.Proofs.Ytjgdjobhhdhfjaa
