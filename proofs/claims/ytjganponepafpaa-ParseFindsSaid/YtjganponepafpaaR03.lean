/-
  PsLgst, PsLong2, PkReps, PsReps, PsPk: put together.
-/
import Derived.Test.YtjganponepafpaaR02
import Derived.Deep.RegionHeld3
import Derived.Test.YtjganponepafpaaR01
import Derived.Laws.IdiomCopy
set_option linter.unusedVariables false
set_option linter.unusedSimpArgs false
/-
  The program's finder: the longest copy by the lists of places.
-/
namespace Go.Proofs.Ytjganponepafpaa
open Go.RowKit

/-- the finder, its lists made or not -/
def Fd (w : World) (g : Nat) (G : Nat → Prop) (A : Option Addr) (n c dict : Nat) (b : List UInt8) (s : Ps) (cnt : Nat) : Prop :=
  (Fu w g G A n c dict b s ∧ cnt = 0) ∨ ∃ (sz ql qa ca : Nat) (cs : Array Value), Fm w g G A n c dict b s cnt sz ql qa ca cs
def FdPost (w : World) (g : Nat) (G : Nat → Prop) (A : Option Addr) (n c dict : Nat) (b : List UInt8) (s : Ps) (w' : World) : Prop :=
  ∃ (G' : Nat → Prop) (cnt : Nat), Fd w' g G' A n c dict b s cnt ∧ cnt ≤ s.i ∧ (∀ i, G' i → G i ∨ w.heap.size ≤ i) ∧ Only G w w'
def LonPost (w : World) (g : Nat) (G : Nat → Prop) (A : Option Addr) (n c dict : Nat) (b : List UInt8) (s : Ps) (r : Nat × Nat) (x : Ending) (w' : World) : Prop :=
  x = .returned (.tuple #[.int .i64 (r.1 : Int), .int .i64 (r.2 : Int)]) ∧ FdPost w g G A n c dict b s w'
section
variable {w : World} {g : Nat} {G : Nat → Prop} {A : Option Addr} {n c dict : Nat} {b : List UInt8} {s : Ps} {cnt : Nat}
theorem Fu.drewN (h : Fu w g G A n c dict b s) (k : Nat) : Fu (w.drewN k) g G A n c dict b s := ⟨h.fq.drewN k, h.gg, h.lt, h.ap⟩
theorem Fd.drewN (h : Fd w g G A n c dict b s cnt) (k : Nat) : Fd (w.drewN k) g G A n c dict b s cnt := by
  rcases h with ⟨h, hc⟩ | ⟨sz, ql, qa, ca, cs, h⟩
  · exact .inl ⟨h.drewN k, hc⟩
  · exact .inr ⟨sz, ql, qa, ca, cs, h.drewN k⟩
theorem Fd.fq (h : Fd w g G A n c dict b s cnt) : ∃ lv av, Fq w g A n c dict b s lv av := by
  rcases h with ⟨h, _⟩ | ⟨sz, ql, qa, ca, cs, h⟩
  · exact ⟨_, _, h.fq⟩
  · exact ⟨_, _, h.fq⟩
theorem Fd.lt (h : Fd w g G A n c dict b s cnt) : ∀ i, G i → i < w.heap.size := by
  rcases h with ⟨h, _⟩ | ⟨sz, ql, qa, ca, cs, h⟩
  · exact h.lt
  · exact h.lt
theorem Fd.same (h : Fd w g G A n c dict b s cnt) (hc : cnt ≤ s.i) (k : Nat) : FdPost w g G A n c dict b s (w.drewN k) :=
  ⟨G, cnt, h.drewN k, hc, fun i hi => .inl hi, (Only.refl _ w).drewN k⟩
theorem padd_any {e : Nat} (h : Fd w g G A n c dict b s cnt) (hc : cnt ≤ e) (he : e < n) :
    Calls Try.prog 33 #[.pointer (some ⟨g, 7, none⟩), .int .i64 (e : Int)] w (AddPost w g G A n c dict b s e) := by
  rcases h with ⟨h, _⟩ | ⟨sz, ql, qa, ca, cs, h⟩
  · exact padd_new h he
  · exact padd_made h hc he
end

/-! ### the loop's numbers -/
section
variable {b : List UInt8} {dict n at_ l m sz : Nat} {x : Nat × Nat}
/-- what is known when the places from m on were looked at -/
structure Lon (b : List UInt8) (dict n at_ l sz m : Nat) (x : Nat × Nat) : Prop where
  is : wor (fun d => cpN b dict n at_ d) l (at_ - m) = x
  m1 : m ≤ at_
  m2 : at_ - m ≤ dict
theorem Lon.start (b : List UInt8) (dict n at_ l sz : Nat) : Lon b dict n at_ l sz at_ (0, 0) := ⟨by rw [Nat.sub_self]; exact wor_zero _ _, Nat.le_refl _, by omega⟩
theorem Lon.or (h : Lon b dict n at_ l sz m x) : x = (0, 0) ∨ l ≤ x.2 := by rw [← h.is]; exact wor_or _ _ _
theorem Lon.ge (h : Lon b dict n at_ l sz m x) (h2 : 2 ≤ l) : 2 ≤ leastOf l x := least_ge h2 (h.or.imp (fun e => by rw [e]) id)
theorem Lon.le (h : Lon b dict n at_ l sz m x) (hl : l ≤ 1000) : leastOf l x ≤ 1000 := by
  have : x.2 ≤ 273 := by
    rw [← h.is]
    unfold wor
    split
    · by_cases h0 : 0 < (best (fun d => cpN b dict n at_ d) (at_ - m)).2
      · have := (best_is _ _ h0).2.1
        rw [← this]
        have := cpN_le b dict n at_ (best (fun d => cpN b dict n at_ d) (at_ - m)).1
        omega
      · omega
    · exact Nat.zero_le _
  unfold leastOf
  split <;> omega
/-- distances of places of another list aren't worth it -/
theorem Lon.other (h2 : 2 ≤ l) (h : Lon b dict n at_ l sz m x) {d : Nat} (hd : d < at_) (hh : hashP b sz (at_ - 1 - d) ≠ hashP b sz at_) : cpN b dict n at_ d < leastOf l x := by
  have hg := h.ge h2
  by_cases hc : 2 ≤ cpN b dict n at_ d
  · obtain ⟨_, _, e0, e1⟩ := cp_short hc
    exact absurd (hash_same e0 e1).symm hh
  · omega
theorem Lon.end_most (h : Lon b dict n at_ l sz m x) (h2 : 2 ≤ l) (hm : ¬ leastOf l x ≤ min 273 (n - at_)) : wor (fun d => cpN b dict n at_ d) l (min at_ dict) = x := by
  have := h.m1
  have := h.m2
  rw [wor_to (n := at_ - m) (by omega) (by omega) (fun d _ _ => by rw [h.is]; have := cpN_le b dict n at_ d; omega)]
  exact h.is
theorem Lon.end_none (h : Lon b dict n at_ l sz m x) (h2 : 2 ≤ l) (hp : (lastN (hashP b sz) (hashP b sz at_) m : Int) - 1 < max ((at_ : Int) - (dict : Int)) 0) : wor (fun d => cpN b dict n at_ d) l (min at_ dict) = x := by
  have h1 := h.m1
  have h3 := h.m2
  rw [wor_to (n := at_ - m) (by omega) (by omega) (fun d hd1 hd2 => by
    rw [h.is]
    refine h.other h2 (by omega) ?_
    cases hq : lastN (hashP b sz) (hashP b sz at_) m with
    | zero => exact lastN_none hq _ (by omega)
    | succ q =>
      obtain ⟨_, _, h5⟩ := lastN_some hq
      rw [hq] at hp
      exact h5 _ (by omega) (by omega))]
  exact h.is
/-- up to the place that is looked at -/
theorem Lon.upto (h : Lon b dict n at_ l sz m x) (h2 : 2 ≤ l) {q : Nat} (hq : lastN (hashP b sz) (hashP b sz at_) m = q + 1) : wor (fun d => cpN b dict n at_ d) l (at_ - 1 - q) = x := by
  have h1 := h.m1
  obtain ⟨h3, _, h5⟩ := lastN_some hq
  rw [wor_to (n := at_ - m) (by omega) (by omega) (fun d hd1 hd2 => by rw [h.is]; exact h.other h2 (by omega) (h5 _ (by omega) (by omega)))]
  exact h.is
theorem Lon.skip (h : Lon b dict n at_ l sz m x) (h2 : 2 ≤ l) {q : Nat} (hq : lastN (hashP b sz) (hashP b sz at_) m = q + 1) (ho : max ((at_ : Int) - (dict : Int)) 0 ≤ (q : Int)) (hg : cpN b dict n at_ (at_ - 1 - q) < leastOf l x) : Lon b dict n at_ l sz q x := by
  have h1 := h.m1
  obtain ⟨h3, _, _⟩ := lastN_some hq
  refine ⟨?_, by omega, by omega⟩
  have := wor_skip (g := fun d => cpN b dict n at_ d) (l0 := l) (n := at_ - 1 - q) (by omega) (by rw [h.upto h2 hq]; exact hg)
  rw [h.upto h2 hq] at this
  rwa [show at_ - 1 - q + 1 = at_ - q by omega] at this
theorem Lon.take (h : Lon b dict n at_ l sz m x) (h2 : 2 ≤ l) {q : Nat} (hq : lastN (hashP b sz) (hashP b sz at_) m = q + 1) (ho : max ((at_ : Int) - (dict : Int)) 0 ≤ (q : Int)) (hg : leastOf l x ≤ cpN b dict n at_ (at_ - 1 - q)) : Lon b dict n at_ l sz q (at_ - 1 - q, cpN b dict n at_ (at_ - 1 - q)) := by
  have h1 := h.m1
  obtain ⟨h3, _, _⟩ := lastN_some hq
  refine ⟨?_, by omega, by omega⟩
  have := wor_take (g := fun d => cpN b dict n at_ d) (l0 := l) (n := at_ - 1 - q) (by omega) (by rw [h.upto h2 hq]; exact hg)
  rwa [show at_ - 1 - q + 1 = at_ - q by omega] at this
end
end Go.Proofs.Ytjganponepafpaa

/-
  The program's finder: the longest copy by the lists of places: the walk.
-/
namespace Go.Proofs.Ytjganponepafpaa
open Go.RowKit
section
variable {w : World} {g : Nat} {G : Nat → Prop} {A : Option Addr} {n c dict : Nat} {b : List UInt8} {s : Ps} {cnt : Nat}
set_option maxRecDepth 100000 in
set_option maxHeartbeats 16000000 in
theorem plongest_any {l : Nat} (h : Fd w g G A n c dict b s cnt) (hc : cnt ≤ s.i) (h2 : 2 ≤ l) (hl : l ≤ 1000) :
    Calls Try.prog 20 #[.pointer (some ⟨g, 0, none⟩), .int .i64 (l : Int)] w (LonPost w g G A n c dict b s (worth b dict n s l)) := by
  obtain ⟨lv0, av0, hq0⟩ := h.fq
  have KM := Lib.hid (pmost_any hq0)
  have hi1 := hq0.i1
  have hn1 := hq0.n1
  have hd1 := hq0.d1
  have hd2 := hq0.d2
  obtain ⟨mo, hmo⟩ : ∃ mo, mo = min 273 (n - s.i) := ⟨_, rfl⟩
  rw [← hmo] at KM
  have HD := Lib.hid h
  have HB := Lib.hid (show n ≤ 1000000000 ∧ s.i ≤ n ∧ 1 ≤ dict ∧ dict ≤ 9223372036854775807 ∧ 2 ≤ l ∧ l ≤ 1000 ∧ cnt ≤ s.i ∧ mo = min 273 (n - s.i) from ⟨hn1, hi1, hd1, hd2, h2, hl, hc, hmo⟩)
  by_cases hlm : l ≤ mo
  · have g1 : ¬ (l : Int) > (mo : Int) := by omega
    have KA := Lib.hid (fun k => padd_any (e := s.i) (h.drewN k) hc (by omega))
    have hw : worth b dict n s l = wor (fun d => cpN b dict n s.i d) l (min s.i dict) := rfl
    rw [hw]
    have HLM := Lib.hid hlm
    have c1 := hq0.c1
    clear h hq0 hi1 hn1 hd1 hd2 hc h2 hl hmo hlm hw
    go_enter Try.func20, Try.ntmps20
    go_wp2_with fail
    refine KM.out.mono ?_
    rintro x w1 ⟨rfl, k1, rfl⟩
    have c1 : (w.drewN k1).cell? ⟨g, 1, none⟩ = some (.int .i64 (s.i : Int)) := c1
    have KA1 := Lib.hid (show Calls Try.prog 33 #[.pointer (some ⟨g, 7, none⟩), .int .i64 (s.i : Int)] (w.drewN k1).drew (AddPost (w.drewN k1).drew g G A n c dict b s s.i) from KA.out (k1 + 1))
    have HS1 := Lib.hid (show w.heap.size ≤ (w.drewN k1).heap.size from Nat.le_refl _)
    have HOA := Lib.hid ((Only.refl G w).drewN k1)
    clear KM KA
    generalize w.drewN k1 = w1 at *
    go_wp2_with fail
    go_region_held3 (fun W => W.cell? ⟨g, 1, none⟩ = some (.int .i64 (s.i : Int))) (first | assumption | exact c1) (first | (go_at_call 33; refine (KA1.out).mono ?_; rintro x w2 ⟨rfl, G2, sz, ql, qa, ca, cs, hF, hN, hO⟩; have HF := Lib.hid hF; have HN2 := Lib.hid hN; have HO2 := Lib.hid hO; have r2 := hF.fq.c1; clear hF hN hO))
    have HOW := Lib.hid (HOA.out.trans ((Only.refl G w1).drew.trans HO2.out))
    have HNW := Lib.hid (fun (i : Nat) (hi : G2 i) => show G i ∨ w.heap.size ≤ i from (HN2.out i hi).imp id (fun h => Nat.le_trans HS1.out h))
    clear KA1 HOA HN2 HO2 HS1 c1 r2
    obtain ⟨O, hO⟩ : ∃ O : Int, O = max ((s.i : Int) - (dict : Int)) 0 := ⟨_, rfl⟩
    have hm := max2_int (P := Try.prog) #[3, 3] 3 ((s.i : Int) - (dict : Int)) 0 O hO
    have e1 : IntKind.i64.wrap ((s.i : Int) - (dict : Int)) = (s.i : Int) - (dict : Int) := IntWalk.i64_in _ (by have := HB.out; omega)
    have c1 := HF.out.fq.c1
    have c2 := HF.out.fq.c2
    have HOO := Lib.hid hO
    clear hO
    go_wp2_with fail
    go_quiet (fail)
    have hf := HF.out.drewN nq
    have HOW3 := Lib.hid (HOW.out.drewN nq)
    clear HF HOW c1 c2 e1 hm
    generalize w2.drewN nq = w3 at *
    have c1 := hf.fq.c1
    have KL := Lib.hid (fun k => plast_any (p := s.i) (hf.drewN k |>.fq.f.cell 7) (hf.drewN k |>.fq.f.cell 8) (hf.drewN k).fq.sl HB.out.1 (by have := HB.out; have := HLM.out; omega) (by have := HB.out; omega) (hf.drewN k).md)
    have HF := Lib.hid hf
    obtain ⟨L0, hL0⟩ : ∃ L0, L0 = lastN (hashP b sz) (hashP b sz s.i) s.i := ⟨_, rfl⟩
    rw [← hL0] at KL
    have HL0 := Lib.hid hL0
    clear hf hL0
    go_wp2_with fail
    go_quiet ((go_at_call 34; exact quiet_drew_at (KL.out _)))
    have hf := HF.out.drewN nq
    have HOW := Lib.hid (HOW3.out.drewN nq)
    clear HF HOW3 c1 KL
    generalize w3.drewN nq = w4 at *
    have HF := Lib.hid hf
    obtain ⟨gg, hgg⟩ : ∃ gg : Nat → Nat, gg = fun d => cpN b dict n s.i d := ⟨_, rfl⟩
    clear hf
    go_wp2_with fail
    go_loopw [1, 7, 8, 10] (fun v1 v7 v8 v10 wr => ∃ (m k : Nat) (x : Nat × Nat), Lon b dict n s.i l sz m x ∧ v10 = .int .i64 ((lastN (hashP b sz) (hashP b sz s.i) m : Nat) - 1 : Int) ∧ v7 = .int .i64 (x.1 : Int) ∧ v8 = .int .i64 (x.2 : Int) ∧ v1 = .int .i64 (leastOf l x : Int) ∧ wr = w4.drewN k) (fun _ _ _ v10 _ => (intOf v10 + 1).toNat)
    case atStart => exact ⟨s.i, 0, (0, 0), Lon.start _ _ _ _ _ _, by rw [HL0.out], rfl, rfl, rfl, rfl⟩
    case round =>
      obtain ⟨m, k, x, hlon, rfl, rfl, rfl, rfl, rfl⟩ := hrel
      obtain ⟨hn, hi, hd1, hd2, h2, hl1, hcnt, hmo⟩ := HB.out
      have hle2 := hlon.ge h2
      have hle3 := hlon.le hl1
      have hml := lastN_le (hashP b sz) (hashP b sz s.i) m
      have hmm := hlon.m1
      obtain ⟨pl, hpl⟩ : ∃ pl, pl = lastN (hashP b sz) (hashP b sz s.i) m := ⟨_, rfl⟩
      obtain ⟨le, hle⟩ : ∃ le, le = leastOf l x := ⟨_, rfl⟩
      rw [← hpl, ← hle]
      rw [← hpl] at hml
      rw [← hle] at hle2 hle3
      by_cases hpo : O ≤ (pl : Int) - 1
      · have i0 : O ≤ (pl : Int) - 1 := hpo
        by_cases hlm : le ≤ mo
        · have i1 : (le : Int) ≤ (mo : Int) := by omega
          obtain ⟨q, rfl⟩ : ∃ q, pl = q + 1 := ⟨pl - 1, by have := HOO.out; omega⟩
          have eq : (((q + 1 : Nat) : Int) - 1) = (q : Int) := by omega
          rw [eq] at i0 ⊢
          have hqm : q < s.i := by omega
          obtain ⟨ba, oa, rfl, hba, hca⟩ := HF.out.fq.sl.2 (by omega)
          have hbl := HF.out.fq.len
          obtain ⟨p1, hp1⟩ : ∃ p1, p1 = q + le - 1 := ⟨_, rfl⟩
          obtain ⟨p2, hp2⟩ : ∃ p2, p2 = s.i + le - 1 := ⟨_, rfl⟩
          have k1' : w4.cell? ⟨ba, oa + p1, none⟩ = some (.int .u8 ((b.getD p1 0).toNat : Int)) := by rw [hca p1 (by omega), bv_get b _ (by omega)]
          have k2' : w4.cell? ⟨ba, oa + p2, none⟩ = some (.int .u8 ((b.getD p2 0).toNat : Int)) := by rw [hca p2 (by omega), bv_get b _ (by omega)]
          have c0 := HF.out.fq.c0
          have c1 := HF.out.fq.c1
          have e1 : IntKind.i64.wrap ((q : Int) + (le : Int)) = (q : Int) + (le : Int) := IntWalk.i64_in _ (by omega)
          have e2 : IntKind.i64.wrap ((q : Int) + (le : Int) - 1) = (p1 : Int) := by rw [IntWalk.i64_in _ (by omega)]; omega
          have e3 : IntKind.i64.wrap ((s.i : Int) + (le : Int)) = (s.i : Int) + (le : Int) := IntWalk.i64_in _ (by omega)
          have e4 : IntKind.i64.wrap ((s.i : Int) + (le : Int) - 1) = (p2 : Int) := by rw [IntWalk.i64_in _ (by omega)]; omega
          have b1 : (0 : Int) ≤ (p1 : Int) := by omega
          have b2 : (p1 : Int) < (n : Int) := by omega
          have b3 : (0 : Int) ≤ (p2 : Int) := by omega
          have b4 : (p2 : Int) < (n : Int) := by omega
          have ho : max ((s.i : Int) - (dict : Int)) 0 ≤ (q : Int) := by rw [← HOO.out]; exact i0
          have hhq := (lastN_some hpl.symm).2.1
          have KH := Lib.hid (fun kk => pahead_any (p := q) ((HF.out.drewN kk).fq.f.cell 9) hqm (by omega) (HF.out.drewN kk).md)
          rw [hhq] at KH
          have HHQ := Lib.hid hhq
          obtain ⟨d, hd⟩ : ∃ d, d = s.i - 1 - q := ⟨_, rfl⟩
          have KC := Lib.hid (fun kk => pcopied_any (d := d) (HF.out.drewN kk).fq (by omega))
          obtain ⟨cp, hcp⟩ : ∃ cp, cp = cpN b dict n s.i d := ⟨_, rfl⟩
          rw [← hcp] at KC
          have hcp2 : cp ≤ 273 := by rw [hcp]; have := cpN_le b dict n s.i d; omega
          obtain ⟨ln, hln⟩ : ∃ ln, ln = lastN (hashP b sz) (hashP b sz s.i) q := ⟨_, rfl⟩
          rw [← hln] at KH
          have hlq : ln ≤ q := by rw [hln]; exact lastN_le _ _ _
          have HNU := Lib.hid (And.intro hln hlq)
          have HSK := Lib.hid (fun (hg : cp < le) => hlon.skip h2 hpl.symm ho (by rw [← hd, ← hcp, ← hle]; exact hg))
          have HTK := Lib.hid (fun (hg : le ≤ cp) => show Lon b dict n s.i l sz q (d, cp) by
            have := hlon.take h2 hpl.symm ho (by rw [← hd, ← hcp, ← hle]; exact hg)
            rwa [← hd, ← hcp] at this)
          have HCL := Lib.hid (fun (hg : le ≤ cp) => show b.getD p2 0 = b.getD p1 0 by
            have := cp_last (b := b) (dict := dict) (e := n) (i := s.i) (d := d) (l := le) (by omega) (by rw [← hcp]; exact hg)
            rw [hp1, hp2, this]
            exact congrArg (fun z => b.getD z 0) (by omega))
          have HLE := Lib.hid hle
          by_cases hxy : b.getD p1 0 = b.getD p2 0
          · rw [← hxy] at k2'
            have d1 : IntKind.i64.wrap ((s.i : Int) - 1) = (s.i : Int) - 1 := IntWalk.i64_in _ (by omega)
            have d2 : IntKind.i64.wrap ((s.i : Int) - 1 - (q : Int)) = (d : Int) := by rw [IntWalk.i64_in _ (by omega)]; omega
            have d3 : IntKind.i64.wrap ((cp : Int) + 1) = (cp : Int) + 1 := IntWalk.i64_in _ (by omega)
            generalize b.getD p1 0 = y at *
            by_cases htk : le ≤ cp
            · have i3 : (le : Int) ≤ (cp : Int) := by omega
              have HL2 := Lib.hid (HTK.out htk)
              have hz : ¬ cp = 0 := by omega
              have HZ := Lib.hid hz
              clear hlon hpl hle hpo hlm hqm hca hbl hp1 hp2 ho hhq hd hcp hcp2 hln hlq hxy htk hz hn hi hd1 hd2 h2 hl1 hcnt hmo hle2 hle3 hml hmm HSK HTK HCL
              go_wp2_with fail
              go_quiet (fail)
              have c1' : ((w4.drewN k).drewN nq).cell? ⟨g, 1, none⟩ = some (.int .i64 (s.i : Int)) := c1
              obtain ⟨k2, hk2⟩ : ∃ k2, (w4.drewN k).drewN nq = w4.drewN k2 := ⟨k + nq, World.drewN_drewN _ _ _⟩
              rw [hk2] at c1' ⊢
              go_wp2_with fail
              refine (KC.out k2).mono ?_
              rintro z w5 ⟨rfl, k5, rfl⟩
              obtain ⟨k6, hk6⟩ : ∃ k6, (w4.drewN k2).drewN k5 = w4.drewN k6 := ⟨k2 + k5, World.drewN_drewN _ _ _⟩
              rw [hk6]
              go_wp2_with fail
              refine (KH.out k6).mono ?_
              rintro z w6 ⟨rfl, rfl⟩
              go_wp2_with fail
              go_roundw
              case rel => exact ⟨q, k6, (d, cp), HL2.out, by rw [HNU.out.1], rfl, rfl, by unfold leastOf; rw [if_neg HZ.out]; first | rfl | go_num, rfl⟩
              case measure => have := HNU.out.2; simp [intOf]; omega
            · have i3 : ¬ (le : Int) ≤ (cp : Int) := by omega
              have HL2 := Lib.hid (HSK.out (by omega))
              clear hlon hpl hle hpo hlm hqm hca hbl hp1 hp2 ho hhq hd hcp hcp2 hln hlq hxy htk hn hi hd1 hd2 h2 hl1 hcnt hmo hle2 hle3 hml hmm HSK HTK HCL d3
              go_wp2_with fail
              go_quiet (fail)
              have c1' : ((w4.drewN k).drewN nq).cell? ⟨g, 1, none⟩ = some (.int .i64 (s.i : Int)) := c1
              obtain ⟨k2, hk2⟩ : ∃ k2, (w4.drewN k).drewN nq = w4.drewN k2 := ⟨k + nq, World.drewN_drewN _ _ _⟩
              rw [hk2] at c1' ⊢
              go_wp2_with fail
              refine (KC.out k2).mono ?_
              rintro z w5 ⟨rfl, k5, rfl⟩
              obtain ⟨k6, hk6⟩ : ∃ k6, (w4.drewN k2).drewN k5 = w4.drewN k6 := ⟨k2 + k5, World.drewN_drewN _ _ _⟩
              rw [hk6]
              go_wp2_with fail
              refine (KH.out k6).mono ?_
              rintro z w6 ⟨rfl, rfl⟩
              go_wp2_with fail
              go_roundw
              case rel => exact ⟨q, k6, x, HL2.out, by rw [HNU.out.1], rfl, rfl, by rw [HLE.out], rfl⟩
              case measure => have := HNU.out.2; simp [intOf]; omega
          · have hne := u8_ne hxy
            have HL2 := Lib.hid (HSK.out (by
              by_cases hg : le ≤ cp
              · exact absurd (HCL.out hg).symm hxy
              · omega))
            generalize b.getD p1 0 = y at *
            generalize b.getD p2 0 = z at *
            have hne2 : ((y.toNat : Int) != (z.toNat : Int)) = true := by simp only [bne, hne]; rfl
            clear hlon hpl hle hpo hlm hqm hca hbl hp1 hp2 ho hhq hd hcp hcp2 hln hlq hxy hn hi hd1 hd2 h2 hl1 hcnt hmo hle2 hle3 hml hmm HSK HTK HCL KC
            go_wp2_with fail
            go_quiet (fail)
            obtain ⟨k2, hk2⟩ : ∃ k2, (w4.drewN k).drewN nq = w4.drewN k2 := ⟨k + nq, World.drewN_drewN _ _ _⟩
            rw [hk2]
            go_wp2_with fail
            refine (KH.out k2).mono ?_
            rintro z w6 ⟨rfl, rfl⟩
            go_wp2_with fail
            go_roundw
            case rel => exact ⟨q, k2, x, HL2.out, by rw [HNU.out.1], rfl, rfl, by rw [HLE.out], rfl⟩
            case measure => have := HNU.out.2; simp [intOf]; omega
        · have i1 : ¬ (le : Int) ≤ (mo : Int) := by omega
          have HR := Lib.hid (hlon.end_most h2 (by rw [← hle, ← hmo]; exact hlm))
          clear hlon hpl hle hpo hlm hn hi hd1 hd2 h2 hl1 hcnt hmo hle2 hle3 hml hmm
          go_wp2_with fail
          go_ret2
          exact ⟨by rw [HR.out]; rfl, G2, s.i, .inr ⟨sz, ql, qa, ca, cs, HF.out.drewN k⟩, Nat.le_refl _, HNW.out, HOW.out.drewN k⟩
      · have i0 : ¬ O ≤ (pl : Int) - 1 := hpo
        have HR := Lib.hid (hlon.end_none h2 (by rw [← hpl]; have := HOO.out; omega))
        clear hlon hpl hle hpo hn hi hd1 hd2 h2 hl1 hcnt hmo hle2 hle3 hml hmm
        go_wp2_with fail
        go_ret2
        exact ⟨by rw [HR.out]; rfl, G2, s.i, .inr ⟨sz, ql, qa, ca, cs, HF.out.drewN k⟩, Nat.le_refl _, HNW.out, HOW.out.drewN k⟩
  · have g1 : (l : Int) > (mo : Int) := by omega
    have hw : worth b dict n s l = (0, 0) := by
      have := lon_le (b := b) (dict := dict) (e := n) (s := s)
      unfold worth
      rw [if_neg (by omega)]
    rw [hw]
    clear h hq0 hi1 hn1 hd1 hd2 hc h2 hl hmo hlm hw
    go_enter Try.func20, Try.ntmps20
    go_wp2_with fail
    refine KM.out.mono ?_
    rintro x w1 ⟨rfl, k1, rfl⟩
    clear KM
    go_wp2_with fail
    go_ret2
    exact ⟨rfl, HD.out.same (by have := HB.out; omega) k1⟩
end
end Go.Proofs.Ytjganponepafpaa

/-
  The program's elder distances: rows of them, moved by one.
-/
namespace Go.Proofs.Ytjganponepafpaa
open Go.RowKit
theorem info_u32 : (Try.prog.info? 23).map (·.size) = some 1 := by kernel_rfl
/-- rows of the distances, which begin at the cell o, moved by one -/
theorem copy_reps {W : World} {g o n m : Nat} {k : Nat} (cs : List Value) (hk : cs.length = Nat.min m n) (hc : ∀ j v, cs[j]? = some v → W.cell? ((⟨g, o, none⟩ : Addr).add j) = some v) (hd : ∀ j, j < cs.length → (W.cell? ⟨g, o + 1 + j, none⟩).isSome = true) (hf : ∀ j, W.frozen? ⟨g, j, none⟩ = false) (h1 : ∀ v ∈ cs, v.oneCell' = true) :
    (Builtin.copy_ #[44, 44] 3 #[.slice (some ⟨g, o + 1, none⟩) n 3, .slice (some ⟨g, o, none⟩) m k]).run Try.prog W = .ok (goInt cs.length) (W.setCells g (o + 1) cs) :=
  run_copy_cells (P := Try.prog) W 44 44 3 23 g (o + 1) n 3 ⟨g, o, none⟩ m k cs Try.underlying44 info_u32 hk hc hd (fun _ _ => hf _) h1
end Go.Proofs.Ytjganponepafpaa

/-
  The program's finder: its elder distances are moved.
-/
namespace Go.Proofs.Ytjganponepafpaa
open Go.RowKit
def Ps.bring (s : Ps) : Nat → Ps
  | 0 => s
  | 1 => ⟨s.i, s.r1, s.r0, s.r2, s.r3⟩
  | 2 => ⟨s.i, s.r2, s.r0, s.r1, s.r3⟩
  | _ => ⟨s.i, s.r3, s.r0, s.r1, s.r2⟩
def Ps.come (s : Ps) (d : Nat) : Ps := ⟨s.i, d, s.r0, s.r1, s.r2⟩
def RepPost (w : World) (g : Nat) (A : Option Addr) (n c dict : Nat) (s : Ps) (lv av : Value) (x : Ending) (w' : World) : Prop :=
  x = .returned (.tuple #[]) ∧ Only (fun i => i = g) w w' ∧ Blk w' g 49 (fCells A n c dict s lv av)
section
variable {w : World} {g : Nat} {A : Option Addr} {n c dict : Nat} {s : Ps} {lv av : Value}
set_option maxRecDepth 100000 in
set_option maxHeartbeats 4000000 in
theorem praise_0 (h : Blk w g 49 (fCells A n c dict s lv av)) :
    Calls Try.prog 22 #[.pointer (some ⟨g, 3, none⟩), .int .i64 0] w (RepPost w g A n c dict (s.bring 0) lv av) := by
  have c3 : w.cell? ⟨g, 3, none⟩ = some (.int .u32 (s.r0 : Int)) := h.cell 3
  have c4 : w.cell? ⟨g, 4, none⟩ = some (.int .u32 (s.r1 : Int)) := h.cell 4
  have c5 : w.cell? ⟨g, 5, none⟩ = some (.int .u32 (s.r2 : Int)) := h.cell 5
  have c6 : w.cell? ⟨g, 6, none⟩ = some (.int .u32 (s.r3 : Int)) := h.cell 6
  have hcp : (Builtin.copy_ #[44, 44] 3 #[.slice (some ⟨g, 4, none⟩) 0 3, .slice (some ⟨g, 3, none⟩) 0 4]).run Try.prog w.drew = .ok (goInt 0) (w.drew) := by
    refine copy_reps (W := w.drew) (g := g) (o := 3) (n := 0) (m := 0) (k := 4) [] rfl (fun i v hv => ?_) (fun i hi => ?_) (fun i => h.free i) (by simp [Value.oneCell'])
    · cases hv
    · exact absurd hi (Nat.not_lt_zero i)
  have hB : Blk ((w.drew).setCell ⟨g, 3, none⟩ (.int .u32 (s.r0 : Int))) g 49 (fCells A n c dict (s.bring 0) lv av) := ((h.drewN 1).put 3 (.int .u32 (s.r0 : Int)))
  have hO : Only (fun i => i = g) w ((w.drew).setCell ⟨g, 3, none⟩ (.int .u32 (s.r0 : Int))) := ((Only.refl (fun i => i = g) w).drew).setCell (p := ⟨g, 3, none⟩) (.inl rfl) (.int .u32 (s.r0 : Int))
  have H := Lib.hid (And.intro hO hB)
  have z3 := h.free 3
  have z4 := h.free 4
  have z5 := h.free 5
  have z6 := h.free 6
  clear h hB hO
  go_enter Try.func22, Try.ntmps22
  go_wp2_with fail
  go_region
  all_goals go_wp2_with fail
  first | go_end0 | refine bodyPost_ret (results_none rfl _ _ _) rfl ?_
  exact ⟨rfl, H.out.1, H.out.2⟩
set_option maxRecDepth 100000 in
set_option maxHeartbeats 4000000 in
theorem praise_1 (h : Blk w g 49 (fCells A n c dict s lv av)) :
    Calls Try.prog 22 #[.pointer (some ⟨g, 3, none⟩), .int .i64 1] w (RepPost w g A n c dict (s.bring 1) lv av) := by
  have c3 : w.cell? ⟨g, 3, none⟩ = some (.int .u32 (s.r0 : Int)) := h.cell 3
  have c4 : w.cell? ⟨g, 4, none⟩ = some (.int .u32 (s.r1 : Int)) := h.cell 4
  have c5 : w.cell? ⟨g, 5, none⟩ = some (.int .u32 (s.r2 : Int)) := h.cell 5
  have c6 : w.cell? ⟨g, 6, none⟩ = some (.int .u32 (s.r3 : Int)) := h.cell 6
  have hcp : (Builtin.copy_ #[44, 44] 3 #[.slice (some ⟨g, 4, none⟩) 1 3, .slice (some ⟨g, 3, none⟩) 1 4]).run Try.prog w.drew = .ok (goInt 1) ((w.drew).setCell ⟨g, 4, none⟩ (.int .u32 (s.r0 : Int))) := by
    refine copy_reps (W := w.drew) (g := g) (o := 3) (n := 1) (m := 1) (k := 4) [.int .u32 (s.r0 : Int)] rfl (fun i v hv => ?_) (fun i hi => ?_) (fun i => h.free i) (by simp [Value.oneCell'])
    · match i, hv with
      | 0, hv => injection hv with hv; rw [← hv]; exact c3
    · match i, hi with
      | 0, _ => show (w.cell? ⟨g, 4, none⟩).isSome = true; rw [c4]; rfl
  have hB : Blk (((w.drew).setCell ⟨g, 4, none⟩ (.int .u32 (s.r0 : Int))).setCell ⟨g, 3, none⟩ (.int .u32 (s.r1 : Int))) g 49 (fCells A n c dict (s.bring 1) lv av) := (((h.drewN 1).put 4 (.int .u32 (s.r0 : Int))).put 3 (.int .u32 (s.r1 : Int)))
  have hO : Only (fun i => i = g) w (((w.drew).setCell ⟨g, 4, none⟩ (.int .u32 (s.r0 : Int))).setCell ⟨g, 3, none⟩ (.int .u32 (s.r1 : Int))) := (((Only.refl (fun i => i = g) w).drew).setCell (p := ⟨g, 4, none⟩) (.inl rfl) (.int .u32 (s.r0 : Int))).setCell (p := ⟨g, 3, none⟩) (.inl rfl) (.int .u32 (s.r1 : Int))
  have H := Lib.hid (And.intro hO hB)
  have z3 := h.free 3
  have z4 := h.free 4
  have z5 := h.free 5
  have z6 := h.free 6
  clear h hB hO
  go_enter Try.func22, Try.ntmps22
  go_wp2_with fail
  go_region
  all_goals go_wp2_with fail
  first | go_end0 | refine bodyPost_ret (results_none rfl _ _ _) rfl ?_
  exact ⟨rfl, H.out.1, H.out.2⟩
set_option maxRecDepth 100000 in
set_option maxHeartbeats 4000000 in
theorem praise_2 (h : Blk w g 49 (fCells A n c dict s lv av)) :
    Calls Try.prog 22 #[.pointer (some ⟨g, 3, none⟩), .int .i64 2] w (RepPost w g A n c dict (s.bring 2) lv av) := by
  have c3 : w.cell? ⟨g, 3, none⟩ = some (.int .u32 (s.r0 : Int)) := h.cell 3
  have c4 : w.cell? ⟨g, 4, none⟩ = some (.int .u32 (s.r1 : Int)) := h.cell 4
  have c5 : w.cell? ⟨g, 5, none⟩ = some (.int .u32 (s.r2 : Int)) := h.cell 5
  have c6 : w.cell? ⟨g, 6, none⟩ = some (.int .u32 (s.r3 : Int)) := h.cell 6
  have hcp : (Builtin.copy_ #[44, 44] 3 #[.slice (some ⟨g, 4, none⟩) 2 3, .slice (some ⟨g, 3, none⟩) 2 4]).run Try.prog w.drew = .ok (goInt 2) (((w.drew).setCell ⟨g, 4, none⟩ (.int .u32 (s.r0 : Int))).setCell ⟨g, 5, none⟩ (.int .u32 (s.r1 : Int))) := by
    refine copy_reps (W := w.drew) (g := g) (o := 3) (n := 2) (m := 2) (k := 4) [.int .u32 (s.r0 : Int), .int .u32 (s.r1 : Int)] rfl (fun i v hv => ?_) (fun i hi => ?_) (fun i => h.free i) (by simp [Value.oneCell'])
    · match i, hv with
      | 0, hv => injection hv with hv; rw [← hv]; exact c3
      | 1, hv => injection hv with hv; rw [← hv]; exact c4
    · match i, hi with
      | 0, _ => show (w.cell? ⟨g, 4, none⟩).isSome = true; rw [c4]; rfl
      | 1, _ => show (w.cell? ⟨g, 5, none⟩).isSome = true; rw [c5]; rfl
  have hB : Blk ((((w.drew).setCell ⟨g, 4, none⟩ (.int .u32 (s.r0 : Int))).setCell ⟨g, 5, none⟩ (.int .u32 (s.r1 : Int))).setCell ⟨g, 3, none⟩ (.int .u32 (s.r2 : Int))) g 49 (fCells A n c dict (s.bring 2) lv av) := ((((h.drewN 1).put 4 (.int .u32 (s.r0 : Int))).put 5 (.int .u32 (s.r1 : Int))).put 3 (.int .u32 (s.r2 : Int)))
  have hO : Only (fun i => i = g) w ((((w.drew).setCell ⟨g, 4, none⟩ (.int .u32 (s.r0 : Int))).setCell ⟨g, 5, none⟩ (.int .u32 (s.r1 : Int))).setCell ⟨g, 3, none⟩ (.int .u32 (s.r2 : Int))) := ((((Only.refl (fun i => i = g) w).drew).setCell (p := ⟨g, 4, none⟩) (.inl rfl) (.int .u32 (s.r0 : Int))).setCell (p := ⟨g, 5, none⟩) (.inl rfl) (.int .u32 (s.r1 : Int))).setCell (p := ⟨g, 3, none⟩) (.inl rfl) (.int .u32 (s.r2 : Int))
  have H := Lib.hid (And.intro hO hB)
  have z3 := h.free 3
  have z4 := h.free 4
  have z5 := h.free 5
  have z6 := h.free 6
  clear h hB hO
  go_enter Try.func22, Try.ntmps22
  go_wp2_with fail
  go_region
  all_goals go_wp2_with fail
  first | go_end0 | refine bodyPost_ret (results_none rfl _ _ _) rfl ?_
  exact ⟨rfl, H.out.1, H.out.2⟩
set_option maxRecDepth 100000 in
set_option maxHeartbeats 4000000 in
theorem praise_3 (h : Blk w g 49 (fCells A n c dict s lv av)) :
    Calls Try.prog 22 #[.pointer (some ⟨g, 3, none⟩), .int .i64 3] w (RepPost w g A n c dict (s.bring 3) lv av) := by
  have c3 : w.cell? ⟨g, 3, none⟩ = some (.int .u32 (s.r0 : Int)) := h.cell 3
  have c4 : w.cell? ⟨g, 4, none⟩ = some (.int .u32 (s.r1 : Int)) := h.cell 4
  have c5 : w.cell? ⟨g, 5, none⟩ = some (.int .u32 (s.r2 : Int)) := h.cell 5
  have c6 : w.cell? ⟨g, 6, none⟩ = some (.int .u32 (s.r3 : Int)) := h.cell 6
  have hcp : (Builtin.copy_ #[44, 44] 3 #[.slice (some ⟨g, 4, none⟩) 3 3, .slice (some ⟨g, 3, none⟩) 3 4]).run Try.prog w.drew = .ok (goInt 3) ((((w.drew).setCell ⟨g, 4, none⟩ (.int .u32 (s.r0 : Int))).setCell ⟨g, 5, none⟩ (.int .u32 (s.r1 : Int))).setCell ⟨g, 6, none⟩ (.int .u32 (s.r2 : Int))) := by
    refine copy_reps (W := w.drew) (g := g) (o := 3) (n := 3) (m := 3) (k := 4) [.int .u32 (s.r0 : Int), .int .u32 (s.r1 : Int), .int .u32 (s.r2 : Int)] rfl (fun i v hv => ?_) (fun i hi => ?_) (fun i => h.free i) (by simp [Value.oneCell'])
    · match i, hv with
      | 0, hv => injection hv with hv; rw [← hv]; exact c3
      | 1, hv => injection hv with hv; rw [← hv]; exact c4
      | 2, hv => injection hv with hv; rw [← hv]; exact c5
    · match i, hi with
      | 0, _ => show (w.cell? ⟨g, 4, none⟩).isSome = true; rw [c4]; rfl
      | 1, _ => show (w.cell? ⟨g, 5, none⟩).isSome = true; rw [c5]; rfl
      | 2, _ => show (w.cell? ⟨g, 6, none⟩).isSome = true; rw [c6]; rfl
  have hB : Blk (((((w.drew).setCell ⟨g, 4, none⟩ (.int .u32 (s.r0 : Int))).setCell ⟨g, 5, none⟩ (.int .u32 (s.r1 : Int))).setCell ⟨g, 6, none⟩ (.int .u32 (s.r2 : Int))).setCell ⟨g, 3, none⟩ (.int .u32 (s.r3 : Int))) g 49 (fCells A n c dict (s.bring 3) lv av) := (((((h.drewN 1).put 4 (.int .u32 (s.r0 : Int))).put 5 (.int .u32 (s.r1 : Int))).put 6 (.int .u32 (s.r2 : Int))).put 3 (.int .u32 (s.r3 : Int)))
  have hO : Only (fun i => i = g) w (((((w.drew).setCell ⟨g, 4, none⟩ (.int .u32 (s.r0 : Int))).setCell ⟨g, 5, none⟩ (.int .u32 (s.r1 : Int))).setCell ⟨g, 6, none⟩ (.int .u32 (s.r2 : Int))).setCell ⟨g, 3, none⟩ (.int .u32 (s.r3 : Int))) := (((((Only.refl (fun i => i = g) w).drew).setCell (p := ⟨g, 4, none⟩) (.inl rfl) (.int .u32 (s.r0 : Int))).setCell (p := ⟨g, 5, none⟩) (.inl rfl) (.int .u32 (s.r1 : Int))).setCell (p := ⟨g, 6, none⟩) (.inl rfl) (.int .u32 (s.r2 : Int))).setCell (p := ⟨g, 3, none⟩) (.inl rfl) (.int .u32 (s.r3 : Int))
  have H := Lib.hid (And.intro hO hB)
  have z3 := h.free 3
  have z4 := h.free 4
  have z5 := h.free 5
  have z6 := h.free 6
  clear h hB hO
  go_enter Try.func22, Try.ntmps22
  go_wp2_with fail
  go_region
  all_goals go_wp2_with fail
  first | go_end0 | refine bodyPost_ret (results_none rfl _ _ _) rfl ?_
  exact ⟨rfl, H.out.1, H.out.2⟩
set_option maxRecDepth 100000 in
set_option maxHeartbeats 4000000 in
theorem ppush_any {d : Nat} (h : Blk w g 49 (fCells A n c dict s lv av)) :
    Calls Try.prog 21 #[.pointer (some ⟨g, 3, none⟩), .int .u32 (d : Int)] w (RepPost w g A n c dict (s.come d) lv av) := by
  have c3 : w.cell? ⟨g, 3, none⟩ = some (.int .u32 (s.r0 : Int)) := h.cell 3
  have c4 : w.cell? ⟨g, 4, none⟩ = some (.int .u32 (s.r1 : Int)) := h.cell 4
  have c5 : w.cell? ⟨g, 5, none⟩ = some (.int .u32 (s.r2 : Int)) := h.cell 5
  have c6 : w.cell? ⟨g, 6, none⟩ = some (.int .u32 (s.r3 : Int)) := h.cell 6
  have hcp : (Builtin.copy_ #[44, 44] 3 #[.slice (some ⟨g, 4, none⟩) 3 3, .slice (some ⟨g, 3, none⟩) 4 4]).run Try.prog w.drew = .ok (goInt 3) ((((w.drew).setCell ⟨g, 4, none⟩ (.int .u32 (s.r0 : Int))).setCell ⟨g, 5, none⟩ (.int .u32 (s.r1 : Int))).setCell ⟨g, 6, none⟩ (.int .u32 (s.r2 : Int))) := by
    refine copy_reps (W := w.drew) (g := g) (o := 3) (n := 3) (m := 4) (k := 4) [.int .u32 (s.r0 : Int), .int .u32 (s.r1 : Int), .int .u32 (s.r2 : Int)] rfl (fun i v hv => ?_) (fun i hi => ?_) (fun i => h.free i) (by simp [Value.oneCell'])
    · match i, hv with
      | 0, hv => injection hv with hv; rw [← hv]; exact c3
      | 1, hv => injection hv with hv; rw [← hv]; exact c4
      | 2, hv => injection hv with hv; rw [← hv]; exact c5
    · match i, hi with
      | 0, _ => show (w.cell? ⟨g, 4, none⟩).isSome = true; rw [c4]; rfl
      | 1, _ => show (w.cell? ⟨g, 5, none⟩).isSome = true; rw [c5]; rfl
      | 2, _ => show (w.cell? ⟨g, 6, none⟩).isSome = true; rw [c6]; rfl
  have hB : Blk (((((w.drew).setCell ⟨g, 4, none⟩ (.int .u32 (s.r0 : Int))).setCell ⟨g, 5, none⟩ (.int .u32 (s.r1 : Int))).setCell ⟨g, 6, none⟩ (.int .u32 (s.r2 : Int))).setCell ⟨g, 3, none⟩ (.int .u32 (d : Int))) g 49 (fCells A n c dict (s.come d) lv av) := (((((h.drewN 1).put 4 (.int .u32 (s.r0 : Int))).put 5 (.int .u32 (s.r1 : Int))).put 6 (.int .u32 (s.r2 : Int))).put 3 (.int .u32 (d : Int)))
  have hO : Only (fun i => i = g) w (((((w.drew).setCell ⟨g, 4, none⟩ (.int .u32 (s.r0 : Int))).setCell ⟨g, 5, none⟩ (.int .u32 (s.r1 : Int))).setCell ⟨g, 6, none⟩ (.int .u32 (s.r2 : Int))).setCell ⟨g, 3, none⟩ (.int .u32 (d : Int))) := (((((Only.refl (fun i => i = g) w).drew).setCell (p := ⟨g, 4, none⟩) (.inl rfl) (.int .u32 (s.r0 : Int))).setCell (p := ⟨g, 5, none⟩) (.inl rfl) (.int .u32 (s.r1 : Int))).setCell (p := ⟨g, 6, none⟩) (.inl rfl) (.int .u32 (s.r2 : Int))).setCell (p := ⟨g, 3, none⟩) (.inl rfl) (.int .u32 (d : Int))
  have H := Lib.hid (And.intro hO hB)
  have z3 := h.free 3
  have z4 := h.free 4
  have z5 := h.free 5
  have z6 := h.free 6
  clear h hB hO
  go_enter Try.func21, Try.ntmps21
  go_wp2_with fail
  go_region
  all_goals go_wp2_with fail
  first | go_end0 | refine bodyPost_ret (results_none rfl _ _ _) rfl ?_
  exact ⟨rfl, H.out.1, H.out.2⟩
theorem praise_any {j : Nat} (hj : j < 4) (h : Blk w g 49 (fCells A n c dict s lv av)) :
    Calls Try.prog 22 #[.pointer (some ⟨g, 3, none⟩), .int .i64 (j : Int)] w (RepPost w g A n c dict (s.bring j) lv av) := by
  match j, hj with
  | 0, _ => exact praise_0 h
  | 1, _ => exact praise_1 h
  | 2, _ => exact praise_2 h
  | 3, _ => exact praise_3 h
end
section
variable {w w' : World} {g : Nat} {G : Nat → Prop} {A : Option Addr} {n c dict : Nat} {b : List UInt8} {s s' : Ps} {cnt : Nat}
/-- the finder whose first cells turn -/
theorem Fd.turn (h : Fd w g G A n c dict b s cnt) : ∃ lv av, Fq w g A n c dict b s lv av ∧ G g ∧ ∀ (w' : World) (s' : Ps), Only (fun i => i = g) w w' → Blk w' g 49 (fCells A n c dict s' lv av) → s'.i ≤ n → s'.Lit → Fd w' g G A n c dict b s' cnt := by
  rcases h with ⟨h, hc⟩ | ⟨sz, ql, qa, ca, cs, h⟩
  · refine ⟨_, _, h.fq, h.gg, fun w' s' hO hB hi hl => .inl ⟨⟨⟨hB, h.fq.sl.only hO (fun h0 q o e e2 => h.ap h0 q o e (by rw [e2]; exact h.gg)), h.fq.n1, hi, h.fq.d1, h.fq.d2, hl⟩, h.gg, fun i hi => Nat.lt_of_lt_of_le (h.lt i hi) hO.size, h.ap⟩, hc⟩⟩
  · refine ⟨_, _, h.fq, h.gg, fun w' s' hO hB hi hl => .inr ⟨sz, ql, qa, ca, cs, ⟨⟨hB, h.fq.sl.only hO (fun h0 q o e e2 => h.ap h0 q o e (by rw [e2]; exact h.gg)), h.fq.n1, hi, h.fq.d1, h.fq.d2, hl⟩, ⟨h.md.lb.only hO h.n1, h.md.lz, h.md.lv, own_only h.md.ar hO h.n2, h.md.s1, h.md.s2, h.md.ne⟩, h.gg, h.gl, h.ga, fun i hi => Nat.lt_of_lt_of_le (h.lt i hi) hO.size, h.ap, h.n1, h.n2⟩⟩⟩
end
end Go.Proofs.Ytjganponepafpaa

/-
  The program's finder: the packet at a place.
-/
namespace Go.Proofs.Ytjganponepafpaa
open Go.RowKit

def zeroPk : Array Value := #[.int .i64 0, .int .u8 0, .int .i64 0, .int .u32 0]
section
variable {w w' wx : World} {g q : Nat} {G : Nat → Prop} {A : Option Addr} {n c dict : Nat} {b : List UInt8} {s s' : Ps} {cnt : Nat}
theorem Fd.keep {S : Nat → Prop} (h : Fd w g G A n c dict b s cnt) (hO : Only S w w') (hS : ∀ i, G i → ¬ S i) (hA : 0 < n → ∀ p o, A = some ⟨p, o, none⟩ → ¬ S p) : Fd w' g G A n c dict b s cnt := by
  rcases h with ⟨h, hc⟩ | ⟨sz, ql, qa, ca, cs, h⟩
  · exact .inl ⟨⟨⟨h.fq.f.only hO (hS g h.gg), h.fq.sl.only hO hA, h.fq.n1, h.fq.i1, h.fq.d1, h.fq.d2, h.fq.lit⟩, h.gg, fun i hi => Nat.lt_of_lt_of_le (h.lt i hi) hO.size, h.ap⟩, hc⟩
  · exact .inr ⟨sz, ql, qa, ca, cs, ⟨⟨h.fq.f.only hO (hS g h.gg), h.fq.sl.only hO hA, h.fq.n1, h.fq.i1, h.fq.d1, h.fq.d2, h.fq.lit⟩, ⟨h.md.lb.only hO (hS ql h.gl), h.md.lz, h.md.lv, own_only h.md.ar hO (hS qa h.ga), h.md.s1, h.md.s2, h.md.ne⟩, h.gg, h.gl, h.ga, fun i hi => Nat.lt_of_lt_of_le (h.lt i hi) hO.size, h.ap, h.n1, h.n2⟩⟩
theorem Fd.alen (h : Fd w g G A n c dict b s cnt) : 0 < n → ∀ p o, A = some ⟨p, o, none⟩ → p < w.heap.size := fun h0 p o e => by
  obtain ⟨_, _, hq⟩ := h.fq
  obtain ⟨b', o', e', hlt, _⟩ := hq.sl.2 h0
  rw [e] at e'
  injection e' with e'
  injection e' with e'
  omega
/-- within the packet's call -/
def Pmid (w : World) (q g : Nat) (G : Nat → Prop) (A : Option Addr) (n c dict : Nat) (b : List UInt8) (s : Ps) (wx : World) : Prop :=
  ∃ (G' : Nat → Prop) (cnt : Nat), Fd wx g G' A n c dict b s cnt ∧ cnt ≤ s.i ∧ (∀ i, G' i → G i ∨ w.heap.size ≤ i) ∧ Only G w wx ∧ Blk wx q 42 zeroPk ∧ ¬ G' q ∧ (0 < n → ∀ p o, A = some ⟨p, o, none⟩ → p ≠ q) ∧ w.heap.size ≤ q
theorem Pmid.start (h : Fd w g G A n c dict b s cnt) (hc : cnt ≤ s.i) : Pmid w w.heap.size g G A n c dict b s (w.alloc (.cells zeroPk 42)) := by
  refine ⟨G, cnt, h.keep (S := fun _ => False) ((Only.refl _ w).alloc _) (fun _ _ h => h) (fun _ _ _ _ h => h), hc, fun i hi => .inl hi, (Only.refl _ w).alloc _, Blk.fresh w _ _, fun hq => ?_, fun h0 p o e => ?_, Nat.le_refl _⟩
  · have := h.lt _ hq
    omega
  · have := h.alen h0 p o e
    omega
theorem Pmid.drewN (h : Pmid w q g G A n c dict b s wx) (k : Nat) : Pmid w q g G A n c dict b s (wx.drewN k) := by
  obtain ⟨G', cnt, h1, h2, h3, h4, h5, h6⟩ := h
  exact ⟨G', cnt, h1.drewN k, h2, h3, h4.drewN k, h5.drewN k, h6⟩
theorem Pmid.post (h : Pmid w q g G A n c dict b s wx) : ∃ (G' : Nat → Prop) (cnt : Nat), Fd wx g G' A n c dict b s cnt ∧ cnt ≤ s.i ∧ ∀ w', FdPost wx g G' A n c dict b s w' → Pmid w q g G A n c dict b s w' := by
  obtain ⟨G', cnt, h1, h2, h3, h4, h5, h6, h7, h8⟩ := h
  refine ⟨G', cnt, h1, h2, fun w' hp => ?_⟩
  obtain ⟨G2, c2, k1, k2, k3, k4⟩ := hp
  have hs := h4.size
  have hql := h5.lt
  refine ⟨G2, c2, k1, k2, nw_trans h3 k3 hs, only_nw h4 h3 k4, h5.only k4 h6, fun hq => ?_, h7, h8⟩
  rcases k3 q hq with h' | h'
  · exact h6 h'
  · omega
theorem Pmid.turn (h : Pmid w q g G A n c dict b s wx) : ∃ lv av, Fq wx g A n c dict b s lv av ∧ ∀ (w' : World) (s' : Ps), Only (fun i => i = g) wx w' → Blk w' g 49 (fCells A n c dict s' lv av) → s'.i = s.i → s'.Lit → Pmid w q g G A n c dict b s' w' := by
  obtain ⟨G', cnt, h1, h2, h3, h4, h5, h6, h7, h8⟩ := h
  obtain ⟨lv, av, hq, hg, ht⟩ := h1.turn
  have hqg : ¬ q = g := fun e => h6 (e ▸ hg)
  refine ⟨lv, av, hq, fun w' s' hO hB hi hl => ⟨G', cnt, ht w' s' hO hB (by rw [hi]; exact hq.i1) hl, by omega, h3, h4.trans' hO (fun i e => by rw [e]; exact h3 g hg), h5.only hO hqg, h6, h7, h8⟩⟩
/-- the packet is put into its place -/
theorem Pmid.store (h : Pmid w q g G A n c dict b s wx) (v0 v1 v2 v3 : Value) :
    FdPost w g G A n c dict b s ((((wx.setCell ⟨q, 0, none⟩ v0).setCell ⟨q, 1, none⟩ v1).setCell ⟨q, 2, none⟩ v2).setCell ⟨q, 3, none⟩ v3) ∧
    Blk ((((wx.setCell ⟨q, 0, none⟩ v0).setCell ⟨q, 1, none⟩ v1).setCell ⟨q, 2, none⟩ v2).setCell ⟨q, 3, none⟩ v3) q 42 #[v0, v1, v2, v3] := by
  obtain ⟨G', cnt, h1, h2, h3, h4, h5, h6, h7, h8⟩ := h
  have hO : Only (fun i => i = q) wx ((((wx.setCell ⟨q, 0, none⟩ v0).setCell ⟨q, 1, none⟩ v1).setCell ⟨q, 2, none⟩ v2).setCell ⟨q, 3, none⟩ v3) :=
    ((((Only.refl (fun i => i = q) wx).setCell (p := ⟨q, 0, none⟩) (.inl rfl) v0).setCell (p := ⟨q, 1, none⟩) (.inl rfl) v1).setCell (p := ⟨q, 2, none⟩) (.inl rfl) v2).setCell (p := ⟨q, 3, none⟩) (.inl rfl) v3
  exact ⟨⟨G', cnt, h1.keep hO (fun i hi e => h6 (e ▸ hi)) h7, h2, h3, h4.trans' hO (fun i e => by rw [e]; exact .inr h8)⟩, (((h5.put 0 v0).put 1 v1).put 2 v2).put 3 v3⟩
theorem Pmid.blk (h : Pmid w q g G A n c dict b s wx) : Blk wx q 42 zeroPk := by
  obtain ⟨G', cnt, h1, h2, h3, h4, h5, h6, h7, h8⟩ := h
  exact h5
theorem FdPost.drewN (h : FdPost w g G A n c dict b s w') (k : Nat) : FdPost w g G A n c dict b s (w'.drewN k) := by
  obtain ⟨G', cnt, h1, h2, h3, h4⟩ := h
  exact ⟨G', cnt, h1.drewN k, h2, h3, h4.drewN k⟩
/-- what the packet's call owes -/
def PktPost (w : World) (g : Nat) (G : Nat → Prop) (A : Option Addr) (n c dict : Nat) (b : List UInt8) (s : Ps) (x : Ending) (w' : World) : Prop :=
  ∃ (p : Pq) (s' s1 : Ps) (k : Nat), stepF b dict n s = (p, s') ∧ s' = { s1 with i := s.i + k } ∧ s1.i = s.i ∧ x = .returned (.tuple #[.agg #[.int .i64 p.k, .int .u8 p.a, .int .i64 p.n, .int .u32 p.v], .int .i64 (k : Int)]) ∧ FdPost w g G A n c dict b s1 w'
theorem bring_lit (h : s.Lit) (k : Nat) : (s.bring k).Lit := by
  match k with
  | 0 => exact h
  | 1 => exact ⟨h.r1, h.r0, h.r2, h.r3⟩
  | 2 => exact ⟨h.r2, h.r0, h.r1, h.r3⟩
  | n + 3 => exact ⟨h.r3, h.r0, h.r1, h.r2⟩
theorem bring_i (s : Ps) (k : Nat) : (s.bring k).i = s.i := by
  match k with
  | 0 => rfl
  | 1 => rfl
  | 2 => rfl
  | n + 3 => rfl
theorem bring_raise (s : Ps) (m k : Nat) : s.raise m k = { s.bring k with i := s.i + m } := by
  match k with
  | 0 => rfl
  | 1 => rfl
  | 2 => rfl
  | n + 3 => rfl
end
end Go.Proofs.Ytjganponepafpaa
