/-
  CwMid, RdBegun, RdNew, PkRen, LwSet, CwReset, CwNew: put together.
-/
import Derived.Test.YtoencondpbkomaaGreatQ04
import Derived.Deep.RegionHeld3
import Derived.Test.YtoencondpbkomaaGreatQ01
import Derived.Test.YtoencondpbkomaaGreatRows
import Derived.Test.YtoencondpbkomaaGreatQ02
import Derived.Laws.MakeOwn
import Derived.Test.YtoencondpbkomaaGreatQ03
import Derived.Deep.Cut
import Derived.BigQuiet
set_option linter.unusedVariables false
set_option linter.unusedSimpArgs false
/-
  The program's coder of LZMA: its small calls: bits, the place's bits, which bytes are there.
-/
namespace Go.Proofs.YtoencondpbkomaaGreat
open Go.RowKit

section
variable {K : Koc} {w w' : World} {Ge Ge' : Option Nat} {A : Option Addr} {c : Nat} {z : Lzs} {k : Nat} {t : Pm En}

theorem Koc.lay (K : Koc) : Lay K.ad K.g 11 := fun a ha => by unfold Koc.ad; rw [if_pos ha]
theorem Koc.ad_lit {K : Koc} {a i : Nat} (h : 1847 ≤ a) (hi : i = a - 1847) : K.ad a = (K.lb, i) := by
  unfold Koc.ad
  rw [if_neg (by omega), hi]

theorem Cw.bit (h : Cw K w Ge A c z (k + 1) t) {a b i bit : Nat} (hab : K.ad a = (b, i)) (ha : a < 1847 + K.nl) (hb : bit ≤ 1) :
    Calls Tryz.prog 84 #[.pointer (some ⟨K.eg, 0, none⟩), .pointer (some ⟨b, i, none⟩), .int .i64 (bit : Int)] w (CMid K w Ge (.tuple #[]) A c z k (bitP encM t a (bit : Int)).2) :=
  (cw_bit (K.prb _ h.ap.gl) h.ap.off hab ha h.mch hb).mono fun _ _ hp => h.bits hp
theorem Cw.bit0 (h : Cw K w Ge A c z (k + 1) t) {a b i : Nat} (hab : K.ad a = (b, i)) (ha : a < 1847 + K.nl) :
    Calls Tryz.prog 84 #[.pointer (some ⟨K.eg, 0, none⟩), .pointer (some ⟨b, i, none⟩), .int .i64 0] w (CMid K w Ge (.tuple #[]) A c z k (bitP encM t a 0).2) := h.bit (bit := 0) hab ha (by decide)
theorem Cw.bit1 (h : Cw K w Ge A c z (k + 1) t) {a b i : Nat} (hab : K.ad a = (b, i)) (ha : a < 1847 + K.nl) :
    Calls Tryz.prog 84 #[.pointer (some ⟨K.eg, 0, none⟩), .pointer (some ⟨b, i, none⟩), .int .i64 1] w (CMid K w Ge (.tuple #[]) A c z k (bitP encM t a 1).2) := h.bit (bit := 1) hab ha (by decide)
theorem Cw.tree {n b o len cap V a : Nat} (h : Cw K w Ge A c z (k + n) t) (had : ∀ m, m < 2 ^ n → K.ad (a + m) = (b, o + m)) (haL : a + 2 ^ n ≤ 1847 + K.nl) (hn : 2 ^ n ≤ len) (hn8 : n ≤ 8) (hV : V < 4294967296) :
    Calls Tryz.prog 90 #[.pointer (some ⟨K.eg, 0, none⟩), .slice (some ⟨b, o, none⟩) len cap, .int .i64 (n : Int), .int .u32 (V : Int)] w (CMid K w Ge (.tuple #[]) A c z k (treeP encM t a n (V : Int)).2) :=
  (cw_tree (K.prb _ h.ap.gl) h.ap.off had haL h.mch hn hn8 hV).mono fun _ _ hp => h.bits hp
theorem Cw.rev {n b o len cap V a : Nat} (h : Cw K w Ge A c z (k + n) t) (had : ∀ m, m < 2 ^ n → K.ad (a + m) = (b, o + m)) (haL : a + 2 ^ n ≤ 1847 + K.nl) (hn : 2 ^ n ≤ len) (hn8 : n ≤ 8) (hV : V < 4294967296) :
    Calls Tryz.prog 111 #[.pointer (some ⟨K.eg, 0, none⟩), .slice (some ⟨b, o, none⟩) len cap, .int .i64 (n : Int), .int .u32 (V : Int)] w (CMid K w Ge (.tuple #[]) A c z k (revP encM t a n (V : Int)).2) :=
  (cw_rev (K.prb _ h.ap.gl) h.ap.off had haL h.mch hn hn8 hV).mono fun _ _ hp => h.bits hp
theorem Cw.straight (h : Cw K w Ge A c z (k + 1) t) {n V : Nat} (hn : n ≤ 32) (hV : V < 4294967296) (hok : okE k (strE t.x V n n)) :
    Calls Tryz.prog 112 #[.pointer (some ⟨K.eg, 0, none⟩), .int .i64 (n : Int), .int .u32 (V : Int)] w (CMid K w Ge (.tuple #[]) A c z k ⟨t.ps, strE t.x V n n⟩) :=
  (cw_straight (K.prb _ h.ap.gl) h.ap.off h.mch hn hV hok).mono fun _ _ hp => h.bits hp

/-- what its fields hold -/
structure Cf (K : Koc) (w : World) (A : Option Addr) (c : Nat) (z : Lzs) : Prop where
  c0 : w.cell? ⟨K.g, 0, none⟩ = some (.int .i64 (z.lc : Int))
  c1 : w.cell? ⟨K.g, 1, none⟩ = some (.int .i64 (z.lp : Int))
  c2 : w.cell? ⟨K.g, 2, none⟩ = some (.int .i64 (z.pb : Int))
  c3 : w.cell? ⟨K.g, 3, none⟩ = some (.int .i64 (z.dict : Int))
  c4 : w.cell? ⟨K.g, 4, none⟩ = some (.pointer (some ⟨K.eg, 0, none⟩))
  c5 : w.cell? ⟨K.g, 5, none⟩ = some (.slice A z.out.length c)
  c6 : w.cell? ⟨K.g, 6, none⟩ = some (.int .i64 (z.st : Int))
  c7 : w.cell? ⟨K.g, 7, none⟩ = some (.int .u32 (z.r0 : Int))
  c8 : w.cell? ⟨K.g, 8, none⟩ = some (.int .u32 (z.r1 : Int))
  c9 : w.cell? ⟨K.g, 9, none⟩ = some (.int .u32 (z.r2 : Int))
  c10 : w.cell? ⟨K.g, 10, none⟩ = some (.int .u32 (z.r3 : Int))
  lits : w.cell? ⟨K.g, 1858, none⟩ = some (.slice (some ⟨K.lb, 0, none⟩) K.nl K.nl)
  ended : w.cell? ⟨K.g, 1859, none⟩ = some (.bool z.ended)
  fz : ∀ i, w.frozen? ⟨K.g, i, none⟩ = false
theorem Cw.f (h : Cw K w Ge A c z k t) : Cf K w A c z :=
  ⟨h.dec.cell 0 (by decide), h.dec.cell 1 (by decide), h.dec.cell 2 (by decide), h.dec.cell 3 (by decide), h.dec.cell 4 (by decide), h.dec.cell 5 (by decide), h.dec.cell 6 (by decide), h.dec.cell 7 (by decide), h.dec.cell 8 (by decide), h.dec.cell 9 (by decide), h.dec.cell 10 (by decide),
    h.dec.cell 11 (by decide), h.dec.cell 12 (by decide), fun i => h.dec.free i⟩

set_option maxRecDepth 100000 in
set_option maxHeartbeats 1000000 in
theorem cplace_any (h : Cw K w Ge A c z k t) (hp : z.pb ≤ 4) (ho : z.out.length ≤ 1000000) :
    Calls Tryz.prog 83 #[.pointer (some ⟨K.g, 0, none⟩)] w fun e w' => e = .returned (.int .i64 ((z.out.length % 2 ^ z.pb : Nat) : Int)) ∧ ∃ n, w.drewN n = w' := by
  have c5 := h.f.c5
  have c2 := h.f.c2
  have e0 := i64_and_low z.out.length z.pb (by omega) (by omega)
  have HE0 := Lib.hid e0
  clear h e0
  generalize z.out.length = n at *
  generalize z.pb = k at *
  go_enter Tryz.func83, Tryz.ntmps83
  go_wp2_with fail
  go_quiet (fail)
  go_wp2_with fail
  go_ret
  exact ⟨congrArg (fun x => Ending.returned (.int .i64 x)) HE0.out, _, rfl⟩

set_option maxRecDepth 100000 in
set_option maxHeartbeats 1000000 in
theorem chas_any (h : Cw K w Ge A c z k t) {d : Nat} (hd : d < 4294967296) :
    Calls Tryz.prog 82 #[.pointer (some ⟨K.g, 0, none⟩), .int .u32 (d : Int)] w fun e w' => e = .returned (.bool (z.has d)) ∧ ∃ n, w.drewN n = w' := by
  have c5 := h.f.c5
  have c3 := h.f.c3
  have e0 : IntKind.i64.wrap (d : Int) = (d : Int) := IntWalk.i64_in _ (by omega)
  have hh : z.has d = decide (d < z.out.length ∧ d < z.dict) := rfl
  rw [hh]
  clear hh h
  generalize z.out.length = n at *
  generalize z.dict = m at *
  obtain ⟨v, hv⟩ : ∃ v, v = decide (d < n ∧ d < m) := ⟨_, rfl⟩
  rw [← hv]
  have HV := Lib.hid hv
  clear hv
  go_enter Tryz.func82, Tryz.ntmps82
  go_wp2_with fail
  go_quiet (fail)
  all_goals go_wp2_with fail
  all_goals go_ret
  all_goals
    refine ⟨congrArg (fun x => Ending.returned (.bool x)) ?_, _, rfl⟩
    rw [HV.out, Bool.eq_iff_iff]
    simp only [decide_eq_true_eq]
    omega

set_option maxRecDepth 100000 in
set_option maxHeartbeats 1000000 in
theorem clen_any (n : Int) (w : World) : Calls Tryz.prog 81 #[.int .i64 n] w fun e w' => e = .returned (.bool (decide (2 ≤ n ∧ n ≤ 273))) ∧ w = w' := by
  by_cases h0 : 2 ≤ n
  · have g0 : n ≥ 2 := h0
    by_cases h1 : n ≤ 273
    · have e : decide (2 ≤ n ∧ n ≤ 273) = true := decide_eq_true ⟨h0, h1⟩
      rw [e]
      clear e h0
      go_enter Tryz.func81, Tryz.ntmps81
      go_wp2_with fail
      go_ret
      exact ⟨rfl, rfl⟩
    · have e : decide (2 ≤ n ∧ n ≤ 273) = false := decide_eq_false (fun h => h1 h.2)
      rw [e]
      clear e h0
      go_enter Tryz.func81, Tryz.ntmps81
      go_wp2_with fail
      go_ret
      exact ⟨rfl, rfl⟩
  · have g0 : ¬ n ≥ 2 := h0
    have e : decide (2 ≤ n ∧ n ≤ 273) = false := decide_eq_false (fun h => h0 h.1)
    rw [e]
    clear e h0
    go_enter Tryz.func81, Tryz.ntmps81
    go_wp2_with fail
    go_ret
    exact ⟨rfl, rfl⟩
end
end Go.Proofs.YtoencondpbkomaaGreat

/-
  How a decoder of ranges begins, as numbers (cut out of RdNew).
-/
namespace Go.Proofs.YtoencondpbkomaaGreat

/-- behind the first byte and j more -/
def Begun (bs : List UInt8) (j c : Nat) : Prop := j + 1 ≤ bs.length ∧ (bs.getD 0 0).toNat = 0 ∧ c = be ((bs.drop 1).take j)

theorem info_u16 : (Tryz.prog.info? 67).map (fun i => (i.zero, i.size, i.bytes)) = some (some (.int .u16 0), 1, 2) := by kernel_rfl
end Go.Proofs.YtoencondpbkomaaGreat

/-
  Fresh probabilities.
-/
namespace Go.Proofs.YtoencondpbkomaaGreat
open Go.RowKit

theorem madeNums (n : Nat) : (madeCells #[Value.int .u16 0] n).toList = pv (List.replicate n 0) := by
  rw [toList_madeCells_one]
  simp [pv]

set_option maxRecDepth 100000 in
set_option maxHeartbeats 2000000 in
theorem fresh_any {n : Nat} (hn : n ≤ 1000000) (w : World) :
    Calls Tryz.prog 46 #[.int .i64 (n : Int)] w fun e w' =>
      e = .returned (.slice (some ⟨w.heap.size, 0, none⟩) n n) ∧ Row w' w.heap.size (List.replicate n 1024) n ∧ Below w.heap.size w w' := by
  obtain ⟨i, hi, hz0, hz1, hz2⟩ := info_parts info_u16
  have h0 : ¬ (n : Int) < 0 := by omega
  have h1 : ¬ (n : Int) > 2147483647 := by omega
  go_enter Tryz.func46, Tryz.ntmps46
  go_wp2_with (first
      | (at_make; refine wpList_make_full _ rfl _ _ 54 rfl w.heap.size 67 i _ 1 Tryz.underlying54 hi hz0 hz1 _ _ _ _ n rfl rfl rfl rfl ?b1 ?b2 (by simp) ?_))
  case b1 => omega
  case b2 => unfold maxLen; omega
  intro w2 ho hg
  rw [madeNums] at ho
  have HO := Lib.hid ho
  have HG := Lib.hid (only_none hg)
  clear ho hg
  go_wp2_with fail
  go_loopw [4, 14] (fun _ k wr => ∃ j : Nat, j ≤ n ∧ k = .int .i64 (j : Int) ∧ wr.ownsRow w.heap.size 67 1 (.slice (some ⟨w.heap.size, 0, none⟩) n n) n (pv (List.replicate j 1024 ++ List.replicate (n - j) 0)) ∧ Below w.heap.size w wr) (fun _ k _ => n - (intOf k).toNat)
  case atStart => exact ⟨0, by omega, rfl, by simpa using HO.out, HG.out⟩
  case round =>
    clear HO HG
    obtain ⟨j, hj, rfl, ho, hb⟩ := hrel
    have HO := Lib.hid ho
    have HG := Lib.hid hb
    clear ho hb
    by_cases hlt : j < n
    · have hfree := HO.out.frozenAt j
      have hl2 : (pv (List.replicate j 1024 ++ List.replicate (n - j) 0)).length = n := by rw [pv_length]; simp; omega
      obtain ⟨old, hold⟩ : ∃ u, wr.cell? ⟨w.heap.size, j, none⟩ = some u := by
        rw [HO.out.cellAt j (by omega), List.getElem?_eq_getElem (by omega)]
        exact ⟨_, rfl⟩
      have i1 : (j : Int) < (n : Int) := by omega
      have i0 : (0 : Int) ≤ (j : Int) := by omega
      have HN := Lib.hid (show (pv (List.replicate j 1024 ++ List.replicate (n - j) 0)).set j (.int .u16 1024) = pv (List.replicate (j + 1) 1024 ++ List.replicate (n - (j + 1)) 0) by
        obtain ⟨m, hm⟩ : ∃ m, n - j = m + 1 := ⟨n - j - 1, by omega⟩
        rw [show n - (j + 1) = m by omega, hm, List.replicate_succ, show (Value.int .u16 1024) = .int .u16 ((1024 : Nat) : Int) from rfl, pv_set, List.set_append_right _ _ (by simp), List.length_replicate, Nat.sub_self, List.set_cons_zero, List.replicate_succ']
        simp)
      clear hl2
      go_wp2_with fail
      go_roundw
      case rel =>
        refine ⟨j + 1, by omega, by go_num, ?_, HG.out.setCell (by simp) _⟩
        have ho := (HO.out.stored j (.int .u16 1024)).1
        rw [HN.out] at ho
        exact ho
      case measure => simp [intOf]; omega
    · obtain rfl : j = n := by omega
      go_wp2_with fail
      go_ret
      refine ⟨rfl, ?_, HG.out⟩
      have ho := HO.out
      rw [Nat.sub_self, List.replicate_zero, List.append_nil] at ho
      unfold Row
      rw [List.length_replicate]
      exact own_mono ho (Nat.zero_le _)
end Go.Proofs.YtoencondpbkomaaGreat

/-
  The program's probabilities of packets begin anew, wherever they lie.
-/
namespace Go.Proofs.YtoencondpbkomaaGreat
open Go.RowKit

/-- since the world w0 the probabilities of D have begun -/
def RnAt (R : World → List Nat → Prop) (B : Nat → Prop) (w0 : World) (D : Nat → Prop) (w : World) : Prop :=
  ∃ ps, R w ps ∧ (∀ i, D i → ps.getD i 0 = 1024) ∧ Only B w0 w

section
variable {R : World → List Nat → Prop} {B : Nat → Prop} {ad : Nat → Nat × Nat} {L a b o n cap : Nat} {w w0 : World} {D : Nat → Prop}
theorem RnAt.mono {D' : Nat → Prop} (h : RnAt R B w0 D w) (hD : ∀ i, D' i → D i) : RnAt R B w0 D' w := by
  obtain ⟨ps, h1, h2, h3⟩ := h
  exact ⟨ps, h1, fun i hi => h2 i (hD i hi), h3⟩
theorem RnAt.quiet {w' : World} (h : RnAt R B w0 D w) (Z : Prb R B ad L) (hb : Below w.heap.size w w') : RnAt R B w0 D w' := by
  obtain ⟨ps, h1, h2, h3⟩ := h
  have ho : Only (fun _ => False) w w' := Only.of_below hb
  exact ⟨ps, Z.only h1 ho (fun _ _ h => h), h2, h3.trans (ho.mono fun _ h => h.elim)⟩
theorem RnAt.put (h : RnAt R B w0 D w) (Z : Prb R B ad L) (ha : a < L) (hab : ad a = (b, o)) : RnAt R B w0 (fun i => D i ∨ i = a) (w.setCell ⟨b, o, none⟩ (.int .u16 1024)) := by
  obtain ⟨ps, h1, h2, h3⟩ := h
  have hl := Z.len h1
  have hb := Z.blk ha
  have hp := Z.put h1 ha 1024
  rw [hab] at hp hb
  refine ⟨_, hp, fun i hi => ?_, h3.setCell (p := ⟨b, o, none⟩) (.inl hb) _⟩
  simp only [List.getD]
  by_cases hia : i = a
  · subst hia
    rw [List.getElem?_set]
    simp [hl, ha]
  · rw [List.getElem?_set_ne (fun e => hia e.symm)]
    rcases hi with hi | hi
    · exact h2 i hi
    · exact absurd hi hia
theorem RnAt.cell (h : RnAt R B w0 D w) (Z : Prb R B ad L) (ha : a < L) (hab : ad a = (b, o)) : ∃ u, w.cell? ⟨b, o, none⟩ = some u ∧ w.frozen? ⟨b, o, none⟩ = false ∧ b < w.heap.size := by
  obtain ⟨ps, h1, h2, h3⟩ := h
  have c := Z.cell h1 ha
  have f := Z.free h1 ha
  have l := Z.old h1 (Z.blk ha)
  rw [hab] at c f l
  exact ⟨_, c, f, l⟩

set_option maxRecDepth 100000 in
set_option maxHeartbeats 4000000 in
theorem renew_any (Z : Prb R B ad L) (had : ∀ j, j < n → ad (a + j) = (b, o + j)) (haL : a + n ≤ L) (hn : n ≤ 1000000) (h : RnAt R B w0 D w) :
    Calls Tryz.prog 60 #[.slice (some ⟨b, o, none⟩) n cap] w fun e w' => e = .returned (.tuple #[]) ∧ RnAt R B w0 (fun i => D i ∨ (a ≤ i ∧ i < a + n)) w' := by
  have KF := Lib.hid (fresh_any (n := 1) (by decide) w)
  have HR := Lib.hid h
  have HZ := Lib.hid Z
  have HAD := Lib.hid had
  clear h Z had
  go_enter Tryz.func60, Tryz.ntmps60
  go_wp2_with fail
  refine KF.out.mono ?_
  rintro e w1 ⟨rfl, hrow, hb⟩
  have x0 : w1.cell? ⟨w.heap.size, 0, none⟩ = some (.int .u16 1024) := hrow.cell (i := 0) (by decide)
  have HR1 := Lib.hid (HR.out.quiet HZ.out hb)
  clear hrow hb KF HR
  generalize w.heap.size = q at *
  go_wp2_with fail
  go_loopw [3, 9] (fun _ i wr => ∃ j : Nat, j ≤ n ∧ i = .int .i64 (j : Int) ∧ RnAt R B w0 (fun i => D i ∨ (a ≤ i ∧ i < a + j)) wr) (fun _ i _ => n - (intOf i).toNat)
  case atStart => exact ⟨0, by omega, rfl, HR1.out.mono (fun i hi => by rcases hi with h | h; exact h; omega)⟩
  case round =>
    clear HR1 x0
    obtain ⟨j, hj, rfl, hr⟩ := hrel
    by_cases hlt : j < n
    · obtain ⟨u, c0, f0, _⟩ := hr.cell HZ.out (by omega) (HAD.out j hlt)
      have i1 : (j : Int) < (n : Int) := by omega
      have i0 : (0 : Int) ≤ (j : Int) := by omega
      have HN := Lib.hid ((hr.put HZ.out (by omega) (HAD.out j hlt)).mono (D' := fun i => D i ∨ (a ≤ i ∧ i < a + (j + 1))) (fun i hi => by
        rcases hi with h | h
        · exact .inl (.inl h)
        · by_cases hi : i = a + j
          · exact .inr hi
          · exact .inl (.inr (by omega))))
      clear hr
      go_wp2_with fail
      go_roundw
      case rel => exact ⟨j + 1, by omega, by go_num, HN.out⟩
      case measure => simp [intOf]; omega
    · obtain rfl : j = n := by omega
      have HN := Lib.hid hr
      clear hr
      go_wp2_with fail
      first | go_end0 | refine bodyPost_ret (results_none rfl _ _ _) rfl ?_
      exact ⟨rfl, HN.out⟩
end

section
variable {R : World → List Nat → Prop} {B : Nat → Prop} {ad : Nat → Nat × Nat} {L g o0 : Nat} {w w0 : World} {D : Nat → Prop}

set_option maxRecDepth 100000 in
set_option maxHeartbeats 8000000 in
theorem lens_renew {A o : Nat} (Z : Prb R B ad L) (hy : Lay ad g o0) (hL : 1847 ≤ L) (hA : 688 ≤ A) (hA2 : A + 514 ≤ 1847) (hoA : o = o0 + (A - 256)) (h : RnAt R B w0 D w) :
    Calls Tryz.prog 61 #[.pointer (some ⟨g, o, none⟩)] w fun e w' => e = .returned (.tuple #[]) ∧ RnAt R B w0 (fun i => D i ∨ (A ≤ i ∧ i < A + 514)) w' := by
  have KF := Lib.hid (fresh_any (n := 2) (by decide) w)
  have HR := Lib.hid h
  have HZ := Lib.hid Z
  have HA := Lib.hid (And.intro hA (And.intro hA2 (And.intro hoA hL)))
  have HY := Lib.hid hy
  clear h Z hA hA2 hoA hL hy
  go_enter Tryz.func61, Tryz.ntmps61
  go_wp2_with fail
  refine KF.out.mono ?_
  rintro e w1 ⟨rfl, hrow, hb⟩
  obtain ⟨u0, d0, f0, l0⟩ := HR.out.cell (a := A) (b := g) (o := o) HZ.out (by have := HA.out; omega) (HY.out.rest HA.out.1 (by have := HA.out; omega) HA.out.2.2.1)
  have x0 : w1.cell? ⟨w.heap.size, 0, none⟩ = some (.int .u16 1024) := hrow.cell (i := 0) (by decide)
  have x1 : w1.cell? ⟨w.heap.size, 1, none⟩ = some (.int .u16 1024) := hrow.cell (i := 1) (by decide)
  have hr1 := HR.out.quiet HZ.out hb
  obtain ⟨u1, d1, f1, _⟩ := hr1.cell (a := A) (b := g) (o := o) HZ.out (by have := HA.out; omega) (HY.out.rest HA.out.1 (by have := HA.out; omega) HA.out.2.2.1)
  obtain ⟨u2, d2, f2, _⟩ := hr1.cell (a := A + 1) (b := g) (o := o + 1) HZ.out (by have := HA.out; omega) (HY.out.rest (by have := HA.out; omega) (by have := HA.out; omega) (by have := HA.out; omega))
  have HR2 := Lib.hid (((hr1.quiet HZ.out ((Below.refl w1.heap.size w1).drew)).put (a := A) (b := g) (o := o) HZ.out (by have := HA.out; omega) (HY.out.rest HA.out.1 (by have := HA.out; omega) HA.out.2.2.1)).put (a := A + 1) (b := g) (o := o + 1) HZ.out (by have := HA.out; omega) (HY.out.rest (by have := HA.out; omega) (by have := HA.out; omega) (by have := HA.out; omega)))
  clear hr1 hrow hb KF HR d0 f0
  have hne : w.heap.size ≠ g := by omega
  generalize w.heap.size = q at *
  go_wp2_with fail
  go_region
  all_goals go_wp2_with fail
  go_loopw [3, 17] (fun _ i wr => ∃ j : Nat, j ≤ 16 ∧ i = .int .i64 (j : Int) ∧ RnAt R B w0 (fun i => D i ∨ (A ≤ i ∧ i < A + 2 + 8 * j) ∨ (A + 130 ≤ i ∧ i < A + 130 + 8 * j)) wr) (fun _ i _ => 16 - (intOf i).toNat)
  case atStart => exact ⟨0, by omega, rfl, HR2.out.mono (fun i hi => by rcases hi with h | h | h; exact .inl (.inl h); by_cases e : i = A; exact .inl (.inr e); exact .inr (by omega); omega)⟩
  case round =>
    clear HR2 x0 x1 d1 d2 f1 f2
    obtain ⟨j, hj, rfl, hr⟩ := hrel
    by_cases hlt : j < 16
    · have KN := Lib.hid (renew_any (a := A + 2 + 8 * j) (b := g) (o := o + 2 + j * 8) (n := 8) (cap := 8) HZ.out (fun m hm => HY.out.rest (by have := HA.out; omega) (by have := HA.out; omega) (by have := HA.out; omega)) (by have := HA.out; omega) (by decide) hr)
      have KN2 := Lib.hid (fun (w2 : World) (D2 : Nat → Prop) (h2 : RnAt R B w0 D2 w2) => renew_any (a := A + 130 + 8 * j) (b := g) (o := o + 130 + j * 8) (n := 8) (cap := 8) HZ.out (fun m hm => HY.out.rest (by have := HA.out; omega) (by have := HA.out; omega) (by have := HA.out; omega)) (by have := HA.out; omega) (by decide) h2)
      have i1 : (j : Int) < 16 := by omega
      have i0 : (0 : Int) ≤ (j : Int) := by omega
      clear hr
      go_wp2_with fail
      refine KN.out.mono ?_
      rintro e w3 ⟨rfl, hr3⟩
      have KN3 := Lib.hid (KN2.out _ _ hr3)
      clear hr3 KN KN2
      go_wp2_with fail
      refine KN3.out.mono ?_
      rintro e w4 ⟨rfl, hr4⟩
      have HR4 := Lib.hid (hr4.mono (D' := fun i => D i ∨ (A ≤ i ∧ i < A + 2 + 8 * (j + 1)) ∨ (A + 130 ≤ i ∧ i < A + 130 + 8 * (j + 1))) (fun i hi => by
        rcases hi with h | h | h
        · exact .inl (.inl (.inl h))
        · by_cases h2 : i < A + 2 + 8 * j
          · exact .inl (.inl (.inr (.inl (by omega))))
          · exact .inl (.inr (by omega))
        · by_cases h2 : i < A + 130 + 8 * j
          · exact .inl (.inl (.inr (.inr (by omega))))
          · exact .inr (by omega)))
      clear hr4 KN3
      go_wp2_with fail
      go_roundw
      case rel => exact ⟨j + 1, by omega, by go_num, HR4.out⟩
      case measure => simp [intOf]; omega
    · obtain rfl : j = 16 := by omega
      have KN := Lib.hid (renew_any (a := A + 258) (b := g) (o := o + 258) (n := 256) (cap := 256) HZ.out (fun m hm => HY.out.rest (by have := HA.out; omega) (by have := HA.out; omega) (by have := HA.out; omega)) (by have := HA.out; omega) (by decide) hr)
      have i1 : ¬ ((16 : Nat) : Int) < 16 := by omega
      clear hr
      go_wp2_with fail
      refine KN.out.mono ?_
      rintro e w3 ⟨rfl, hr3⟩
      have HR3 := Lib.hid (hr3.mono (D' := fun i => D i ∨ (A ≤ i ∧ i < A + 514)) (fun i hi => by
        rcases hi with h | h
        · exact .inl (.inl h)
        · by_cases h2 : i < A + 130
          · exact .inl (.inr (.inl (by omega)))
          · by_cases h3 : i < A + 258
            · exact .inl (.inr (.inr (by omega)))
            · exact .inr (by omega)))
      clear hr3 KN
      go_wp2_with fail
      first | go_end0 | refine bodyPost_ret (results_none rfl _ _ _) rfl ?_
      exact ⟨rfl, HR3.out⟩

set_option maxRecDepth 100000 in
set_option maxHeartbeats 16000000 in
theorem chances_renew (Z : Prb R B ad L) (hy : Lay ad g o0) (hL : 1847 ≤ L) (h : RnAt R B w0 D w) :
    Calls Tryz.prog 45 #[.pointer (some ⟨g, o0, none⟩)] w fun e w' => e = .returned (.tuple #[]) ∧ RnAt R B w0 (fun i => D i ∨ i < 1847) w' := by
  have HR := Lib.hid h
  have HZ := Lib.hid Z
  have KR := Lib.hid (fun (a o n cap : Nat) (w2 : World) (D2 : Nat → Prop) (had : ∀ j, j < n → ad (a + j) = (g, o + j)) (haL : a + n ≤ 1847) (h2 : RnAt R B w0 D2 w2) => renew_any (a := a) (b := g) (o := o) (n := n) (cap := cap) Z had (by omega) (by omega) h2)
  have KL := Lib.hid (fun (A o : Nat) (w2 : World) (D2 : Nat → Prop) (h1 : 688 ≤ A) (h2 : A + 514 ≤ 1847) (h3 : o = o0 + (A - 256)) (h4 : RnAt R B w0 D2 w2) => lens_renew Z hy hL h1 h2 h3 h4)
  have HY := Lib.hid hy
  clear h Z hy hL
  go_enter Tryz.func45, Tryz.ntmps45
  go_wp2_with fail
  go_loopw [2, 4] (fun _ i wr => ∃ j : Nat, j ≤ 12 ∧ i = .int .i64 (j : Int) ∧ RnAt R B w0 (fun i => D i ∨ (i < 16 * j) ∨ (240 ≤ i ∧ i < 240 + 16 * j)) wr) (fun _ i _ => 12 - (intOf i).toNat)
  case atStart => exact ⟨0, by omega, rfl, HR.out.mono (fun i hi => by rcases hi with h | h | h; exact h; omega; omega)⟩
  case round =>
    clear HR
    obtain ⟨j, hj, rfl, hr⟩ := hrel
    by_cases hlt : j < 12
    · have KN := Lib.hid (KR.out (16 * j) (o0 + j * 16) 16 16 _ _ (fun m hm => HY.out.low (by omega) (by omega)) (by omega) hr)
      have KN2 := Lib.hid (fun (w2 : World) (D2 : Nat → Prop) (h2 : RnAt R B w0 D2 w2) => KR.out (240 + 16 * j) (o0 + 192 + j * 16) 16 16 _ _ (fun m hm => HY.out.long (by omega) (by omega) (by omega)) (by omega) h2)
      have i1 : (j : Int) < 12 := by omega
      have i0 : (0 : Int) ≤ (j : Int) := by omega
      clear hr
      go_wp2_with fail
      refine KN.out.mono ?_
      rintro e w3 ⟨rfl, hr3⟩
      have KN3 := Lib.hid (KN2.out _ _ hr3)
      clear hr3 KN KN2
      go_wp2_with fail
      refine KN3.out.mono ?_
      rintro e w4 ⟨rfl, hr4⟩
      have HR4 := Lib.hid (hr4.mono (D' := fun i => D i ∨ (i < 16 * (j + 1)) ∨ (240 ≤ i ∧ i < 240 + 16 * (j + 1))) (fun i hi => by
        rcases hi with h | h | h
        · exact .inl (.inl (.inl h))
        · by_cases h2 : i < 16 * j
          · exact .inl (.inl (.inr (.inl h2)))
          · exact .inl (.inr (by omega))
        · by_cases h2 : i < 240 + 16 * j
          · exact .inl (.inl (.inr (.inr (by omega))))
          · exact .inr (by omega)))
      clear hr4 KN3
      go_wp2_with fail
      go_roundw
      case rel => exact ⟨j + 1, by omega, by go_num, HR4.out⟩
      case measure => simp [intOf]; omega
    · obtain rfl : j = 12 := by omega
      have i1 : ¬ ((12 : Nat) : Int) < 12 := by omega
      have hq : RnAt R B w0 (fun i => D i ∨ i < 192 ∨ (240 ≤ i ∧ i < 432)) wr := hr.mono (fun i hi => by rcases hi with h | h | h; exact .inl h; exact .inr (.inl (by omega)); exact .inr (.inr (by omega)))
      have KN := Lib.hid (KR.out 192 (o0 + 384) 12 12 _ _ (fun m hm => HY.out.rep (by omega) (by omega) (by omega)) (by omega) hq)
      clear hr hq
      go_wp2_with fail
      refine KN.out.mono ?_
      rintro e w3 ⟨rfl, hr3⟩
      have KN := Lib.hid (KR.out 204 (o0 + 396) 12 12 _ _ (fun m hm => HY.out.rep (by omega) (by omega) (by omega)) (by omega) hr3)
      clear hr3
      go_wp2_with fail
      refine KN.out.mono ?_
      rintro e w4 ⟨rfl, hr3⟩
      have KN := Lib.hid (KR.out 216 (o0 + 408) 12 12 _ _ (fun m hm => HY.out.rep (by omega) (by omega) (by omega)) (by omega) hr3)
      clear hr3
      go_wp2_with fail
      refine KN.out.mono ?_
      rintro e w5 ⟨rfl, hr3⟩
      have KN := Lib.hid (KR.out 228 (o0 + 420) 12 12 _ _ (fun m hm => HY.out.rep (by omega) (by omega) (by omega)) (by omega) hr3)
      clear hr3
      go_wp2_with fail
      refine KN.out.mono ?_
      rintro e w6 ⟨rfl, hr3⟩
      have HR6 := Lib.hid (hr3.mono (D' := fun i => D i ∨ i < 432) (fun i hi => by
        rcases hi with h | h
        · exact .inl (.inl (.inl (.inl (.inl h))))
        · by_cases h1 : i < 192
          · exact .inl (.inl (.inl (.inl (.inr (.inl h1)))))
          · by_cases h2 : i < 204
            · exact .inl (.inl (.inl (.inr (by omega))))
            · by_cases h3 : i < 216
              · exact .inl (.inl (.inr (by omega)))
              · by_cases h4 : i < 228
                · exact .inl (.inr (by omega))
                · by_cases h5 : i < 240
                  · exact .inr (by omega)
                  · exact .inl (.inl (.inl (.inl (.inr (.inr (by omega))))))))
      clear hr3 KN
      go_wp2_with fail
      go_loopw [3, 42] (fun _ i wr => ∃ j : Nat, j ≤ 4 ∧ i = .int .i64 (j : Int) ∧ RnAt R B w0 (fun i => D i ∨ (i < 432 + 64 * j)) wr) (fun _ i _ => 4 - (intOf i).toNat)
      case atStart => exact ⟨0, by omega, rfl, HR6.out.mono (fun i hi => by rcases hi with h | h; exact .inl h; exact .inr (by omega))⟩
      case round =>
        clear HR6
        obtain ⟨j, hj, rfl, hr⟩ := hrel
        by_cases hlt2 : j < 4
        · have KN := Lib.hid (KR.out (432 + 64 * j) (o0 + 1591 + j * 64) 64 64 _ _ (fun m hm => HY.out.slot (by omega) (by omega) (by omega)) (by omega) hr)
          have i1 : (j : Int) < 4 := by omega
          have i0 : (0 : Int) ≤ (j : Int) := by omega
          clear hr
          go_wp2_with fail
          refine KN.out.mono ?_
          rintro e w7 ⟨rfl, hr4⟩
          have HR7 := Lib.hid (hr4.mono (D' := fun i => D i ∨ (i < 432 + 64 * (j + 1))) (fun i hi => by
            rcases hi with h | h
            · exact .inl (.inl h)
            · by_cases h2 : i < 432 + 64 * j
              · exact .inl (.inr h2)
              · exact .inr (by omega)))
          clear hr4 KN
          go_wp2_with fail
          go_roundw
          case rel => exact ⟨j + 1, by omega, by go_num, HR7.out⟩
          case measure => simp [intOf]; omega
        · obtain rfl : j = 4 := by omega
          have i2 : ¬ ((4 : Nat) : Int) < 4 := by omega
          have KN := Lib.hid (KR.out 688 (o0 + 432) 115 115 _ _ (fun m hm => HY.out.rest (by omega) (by omega) (by omega)) (by omega) hr)
          clear hr
          go_wp2_with fail
          refine KN.out.mono ?_
          rintro e w7 ⟨rfl, hr3⟩
          have KN := Lib.hid (KR.out 803 (o0 + 547) 16 16 _ _ (fun m hm => HY.out.rest (by omega) (by omega) (by omega)) (by omega) hr3)
          clear hr3
          go_wp2_with fail
          refine KN.out.mono ?_
          rintro e w8 ⟨rfl, hr3⟩
          have KN := Lib.hid (KL.out 819 (o0 + 563) _ _ (by omega) (by omega) (by omega) hr3)
          clear hr3
          go_wp2_with fail
          refine KN.out.mono ?_
          rintro e w9 ⟨rfl, hr3⟩
          have KN := Lib.hid (KL.out 1333 (o0 + 1077) _ _ (by omega) (by omega) (by omega) hr3)
          clear hr3
          go_wp2_with fail
          refine KN.out.mono ?_
          rintro e w10 ⟨rfl, hr3⟩
          have HR10 := Lib.hid (hr3.mono (D' := fun i => D i ∨ i < 1847) (fun i hi => by
            rcases hi with h | h
            · exact .inl (.inl (.inl (.inl (.inl h))))
            · by_cases h1 : i < 688
              · exact .inl (.inl (.inl (.inl (.inr (by omega)))))
              · by_cases h2 : i < 803
                · exact .inl (.inl (.inl (.inr (by omega))))
                · by_cases h3 : i < 819
                  · exact .inl (.inl (.inr (by omega)))
                  · by_cases h4 : i < 1333
                    · exact .inl (.inr (by omega))
                    · exact .inr (by omega)))
          clear hr3 KN
          go_wp2_with fail
          first | go_end0 | refine bodyPost_ret (results_none rfl _ _ _) rfl ?_
          exact ⟨rfl, HR10.out⟩
end
end Go.Proofs.YtoencondpbkomaaGreat

/-
  The program's settings of LZMA: whether one may be; how many probabilities there are.
-/
namespace Go.Proofs.YtoencondpbkomaaGreat
open Go.RowKit

def inB (n most : Int) : Bool := decide (0 ≤ n ∧ n ≤ most)
set_option maxRecDepth 100000 in
set_option maxHeartbeats 1000000 in
theorem pwithin_any (n most : Int) (w : World) : Calls Tryz.prog 44 #[.int .i64 n, .int .i64 most] w fun e w' => e = .returned (.bool (inB n most)) ∧ w = w' := by
  obtain ⟨v, hv⟩ : ∃ v, v = inB n most := ⟨_, rfl⟩
  rw [← hv]
  unfold inB at hv
  by_cases h0 : 0 ≤ n
  · have g0 : n ≥ 0 := h0
    by_cases h1 : n ≤ most
    · obtain rfl : v = true := by rw [hv]; exact decide_eq_true ⟨h0, h1⟩
      clear hv
      go_enter Tryz.func44, Tryz.ntmps44
      go_wp2_with fail
      go_ret
      exact ⟨rfl, rfl⟩
    · obtain rfl : v = false := by rw [hv]; exact decide_eq_false (fun h => h1 h.2)
      clear hv
      go_enter Tryz.func44, Tryz.ntmps44
      go_wp2_with fail
      go_ret
      exact ⟨rfl, rfl⟩
  · have g0 : ¬ n ≥ 0 := h0
    obtain rfl : v = false := by rw [hv]; exact decide_eq_false (fun h => h0 h.1)
    clear hv
    go_enter Tryz.func44, Tryz.ntmps44
    go_wp2_with fail
    go_ret
    exact ⟨rfl, rfl⟩

def mayB (a b c : Int) : Bool := inB a 8 && (inB b 4 && inB c 4)
set_option maxRecDepth 100000 in
set_option maxHeartbeats 4000000 in
theorem pbits_any (a b c d : Int) (w : World) : Calls Tryz.prog 23 #[.agg #[.int .i64 a, .int .i64 b, .int .i64 c, .int .i64 d]] w fun e w' => e = .returned (.bool (mayB a b c)) ∧ Below w.heap.size w w' := by
  have HB := Lib.hid ((Below.refl w.heap.size w).alloc (Nat.le_refl _) (.cells #[.int .i64 a, .int .i64 b, .int .i64 c, .int .i64 d] 24))
  have K1 := Lib.hid (fun w => pwithin_any a 8 w)
  have K2 := Lib.hid (fun w => pwithin_any b 4 w)
  have K3 := Lib.hid (fun w => pwithin_any c 4 w)
  obtain ⟨v, hv⟩ : ∃ v, v = mayB a b c := ⟨_, rfl⟩
  rw [← hv]
  unfold mayB at hv
  obtain ⟨x, hx⟩ : ∃ x, x = inB a 8 := ⟨_, rfl⟩
  obtain ⟨y, hy⟩ : ∃ x, x = inB b 4 := ⟨_, rfl⟩
  obtain ⟨z, hz⟩ : ∃ x, x = inB c 4 := ⟨_, rfl⟩
  rw [← hx] at K1 hv
  rw [← hy] at K2 hv
  rw [← hz] at K3 hv
  clear hx hy hz
  cases x with
  | false =>
    obtain rfl : v = false := hv
    go_enter Tryz.func23, Tryz.ntmps23
    go_wp2_with fail
    refine (K1.out _).mono ?_
    rintro e w1 ⟨rfl, rfl⟩
    go_wp2_with fail
    go_ret
    exact ⟨rfl, HB.out⟩
  | true =>
    cases y with
    | false =>
      obtain rfl : v = false := hv
      go_enter Tryz.func23, Tryz.ntmps23
      go_wp2_with fail
      refine (K1.out _).mono ?_
      rintro e w1 ⟨rfl, rfl⟩
      go_wp2_with fail
      refine (K2.out _).mono ?_
      rintro e w1 ⟨rfl, rfl⟩
      go_wp2_with fail
      go_ret
      exact ⟨rfl, HB.out⟩
    | true =>
      obtain rfl : v = z := by rw [hv]; cases z <;> rfl
      clear hv
      cases v
      all_goals
        go_enter Tryz.func23, Tryz.ntmps23
        go_wp2_with fail
        refine (K1.out _).mono ?_
        rintro e w1 ⟨rfl, rfl⟩
        go_wp2_with fail
        refine (K2.out _).mono ?_
        rintro e w1 ⟨rfl, rfl⟩
        go_wp2_with fail
        refine (K3.out _).mono ?_
        rintro e w1 ⟨rfl, rfl⟩
        go_wp2_with fail
        go_ret
        exact ⟨rfl, HB.out⟩

theorem may_split (a b c d : Int) : maySet a b c d = (mayB a b c && (decide (4096 ≤ d) && decide (d ≤ 4294967295))) := by
  unfold maySet mayB inB
  rw [Bool.eq_iff_iff]
  simp
  constructor
  · rintro ⟨h1, h2, h3, h4, h5, h6, h7, h8⟩; exact ⟨⟨⟨h1, h2⟩, ⟨h3, h4⟩, h5, h6⟩, h7, h8⟩
  · rintro ⟨⟨⟨h1, h2⟩, ⟨h3, h4⟩, h5, h6⟩, h7, h8⟩; exact ⟨h1, h2, h3, h4, h5, h6, h7, h8⟩

set_option maxRecDepth 100000 in
set_option maxHeartbeats 4000000 in
theorem pmay_any (a b c d : Int) (w : World) : Calls Tryz.prog 10 #[.agg #[.int .i64 a, .int .i64 b, .int .i64 c, .int .i64 d]] w fun e w' => e = .returned (.bool (maySet a b c d)) ∧ Below w.heap.size w w' := by
  obtain ⟨w1, hw1⟩ : ∃ w1, w1 = w.alloc (.cells #[.int .i64 a, .int .i64 b, .int .i64 c, .int .i64 d] 24) := ⟨_, rfl⟩
  have hb1 : Below w.heap.size w w1 := by rw [hw1]; exact (Below.refl _ _).alloc (Nat.le_refl _) _
  have HBk : Blk w1 w.heap.size 24 #[.int .i64 a, .int .i64 b, .int .i64 c, .int .i64 d] := by rw [hw1]; exact Blk.fresh w _ _
  have K := Lib.hid (pbits_any a b c d w1)
  have c0 : w1.cell? ⟨w.heap.size, 0, none⟩ = some (.int .i64 a) := HBk.cell 0
  have c1 : w1.cell? ⟨w.heap.size, 1, none⟩ = some (.int .i64 b) := HBk.cell 1
  have c2 : w1.cell? ⟨w.heap.size, 2, none⟩ = some (.int .i64 c) := HBk.cell 2
  have c3 : w1.cell? ⟨w.heap.size, 3, none⟩ = some (.int .i64 d) := HBk.cell 3
  have HW1 := Lib.hid hw1
  have HB1 := Lib.hid hb1
  have HBK := Lib.hid HBk
  have hs := may_split a b c d
  obtain ⟨v, hv⟩ : ∃ v, v = maySet a b c d := ⟨_, rfl⟩
  rw [← hv] at hs ⊢
  obtain ⟨x, hx⟩ : ∃ x, x = mayB a b c := ⟨_, rfl⟩
  rw [← hx] at hs K
  clear hw1 hb1 HBk hv hx
  cases x with
  | false =>
    obtain rfl : v = false := hs
    go_enter Tryz.func10, Tryz.ntmps10
    go_upto_region 1 with fail
    rw [← HW1.out]
    clear HW1
    go_wp2_with fail
    refine K.out.mono ?_
    rintro e w2 ⟨rfl, hb2⟩
    have HB2 := Lib.hid (HB1.out.trans ⟨hb2.os, hb2.tape, hb2.output, hb2.size, fun i hi => hb2.block i (Nat.lt_of_lt_of_le hi HB1.out.size)⟩)
    clear hb2 K c0 c1 c2 c3 HB1
    go_wp2_with fail
    go_ret
    exact ⟨rfl, HB2.out⟩
  | true =>
    rw [Bool.true_and] at hs
    by_cases h6 : 4096 ≤ d
    · have g6 : d ≥ 4096 := h6
      by_cases h7 : d ≤ 4294967295
      · obtain rfl : v = true := by rw [hs, decide_eq_true h6, decide_eq_true h7]; rfl
        clear hs h6
        go_enter Tryz.func10, Tryz.ntmps10
        go_upto_region 1 with fail
        rw [← HW1.out]
        clear HW1
        go_wp2_with fail
        refine K.out.mono ?_
        rintro e w2 ⟨rfl, hb2⟩
        have hk2 : Blk w2 w.heap.size 24 #[.int .i64 a, .int .i64 b, .int .i64 c, .int .i64 d] := HBK.out.below hb2
        have d3 : w2.cell? ⟨w.heap.size, 3, none⟩ = some (.int .i64 d) := hk2.cell 3
        have HB2 := Lib.hid (HB1.out.trans ⟨hb2.os, hb2.tape, hb2.output, hb2.size, fun i hi => hb2.block i (Nat.lt_of_lt_of_le hi HB1.out.size)⟩)
        clear hb2 hk2 K c0 c1 c2 c3 HB1
        go_wp2_with fail
        go_ret
        exact ⟨rfl, HB2.out⟩
      · obtain rfl : v = false := by rw [hs, decide_eq_false h7, Bool.and_false]
        have H7 := Lib.hid h7
        clear hs h6 h7
        go_enter Tryz.func10, Tryz.ntmps10
        go_upto_region 1 with fail
        rw [← HW1.out]
        clear HW1
        go_wp2_with fail
        refine K.out.mono ?_
        rintro e w2 ⟨rfl, hb2⟩
        have hk2 : Blk w2 w.heap.size 24 #[.int .i64 a, .int .i64 b, .int .i64 c, .int .i64 d] := HBK.out.below hb2
        have d3 : w2.cell? ⟨w.heap.size, 3, none⟩ = some (.int .i64 d) := hk2.cell 3
        have HB2 := Lib.hid (HB1.out.trans ⟨hb2.os, hb2.tape, hb2.output, hb2.size, fun i hi => hb2.block i (Nat.lt_of_lt_of_le hi HB1.out.size)⟩)
        clear hb2 hk2 K c0 c1 c2 c3 HB1
        go_wp2_with fail
        go_ret
        exact ⟨congrArg (fun b => Ending.returned (.bool b)) (decide_eq_false (by have := H7.out; omega)), HB2.out⟩
    · obtain rfl : v = false := by rw [hs, decide_eq_false h6]; rfl
      have g6 : ¬ d ≥ 4096 := h6
      clear hs h6
      go_enter Tryz.func10, Tryz.ntmps10
      go_upto_region 1 with fail
      rw [← HW1.out]
      clear HW1
      go_wp2_with fail
      refine K.out.mono ?_
      rintro e w2 ⟨rfl, hb2⟩
      have hk2 : Blk w2 w.heap.size 24 #[.int .i64 a, .int .i64 b, .int .i64 c, .int .i64 d] := HBK.out.below hb2
      have d3 : w2.cell? ⟨w.heap.size, 3, none⟩ = some (.int .i64 d) := hk2.cell 3
      have HB2 := Lib.hid (HB1.out.trans ⟨hb2.os, hb2.tape, hb2.output, hb2.size, fun i hi => hb2.block i (Nat.lt_of_lt_of_le hi HB1.out.size)⟩)
      clear hb2 hk2 K c0 c1 c2 c3 HB1
      go_wp2_with fail
      go_ret
      exact ⟨rfl, HB2.out⟩

theorem lits_small {k : Nat} (h : k ≤ 12) : 768 * 2 ^ k ≤ 3145728 := Nat.mul_le_mul_left 768 (Nat.le_trans (Nat.pow_le_pow_right (by decide) h) (show 2 ^ 12 ≤ 4096 by decide))
set_option maxRecDepth 100000 in
set_option maxHeartbeats 2000000 in
theorem plits_any {lc lp : Nat} (c d : Int) (h : lc + lp ≤ 12) (w : World) : Calls Tryz.prog 47 #[.agg #[.int .i64 (lc : Int), .int .i64 (lp : Int), .int .i64 c, .int .i64 d]] w fun e w' => e = .returned (.int .i64 ((768 * 2 ^ (lc + lp) : Nat) : Int)) ∧ Below w.heap.size w w' := by
  have HB := Lib.hid ((Below.refl w.heap.size w).alloc (Nat.le_refl _) (.cells #[.int .i64 (lc : Int), .int .i64 (lp : Int), .int .i64 c, .int .i64 d] 24))
  obtain ⟨k, hk⟩ : ∃ k, k = lc + lp := ⟨_, rfl⟩
  have hs := lits_small h
  rw [← hk] at hs ⊢
  have e1 : IntKind.i64.wrap ((lc : Int) + (lp : Int)) = (k : Int) := by rw [hk, ← Int.natCast_add]; exact IntWalk.i64_in _ (by omega)
  obtain ⟨y, hy⟩ : ∃ y, y = 768 * 2 ^ k := ⟨_, rfl⟩
  rw [← hy] at hs ⊢
  have e2 : IntKind.i64.wrap (768 * 2 ^ k) = (y : Int) := by
    rw [cast_pow2, show (768 : Int) * ((2 ^ k : Nat) : Int) = (y : Int) by rw [hy, Int.natCast_mul]; rfl]
    exact IntWalk.i64_in _ (by omega)
  have e3 : min k 64 = k := by omega
  have e4 : (0 : Int) ≤ (k : Int) := by omega
  have HE := Lib.hid (And.intro h hk)
  have HY := Lib.hid (And.intro hy hs)
  clear h hk hy hs
  go_enter Tryz.func47, Tryz.ntmps47
  go_wp2_with fail
  go_ret
  exact ⟨rfl, HB.out⟩
end Go.Proofs.YtoencondpbkomaaGreat

/-
  The program's coder of LZMA: state, distances and probabilities begin anew.
-/
namespace Go.Proofs.YtoencondpbkomaaGreat
open Go.RowKit

/-- the coder's block alone -/
def Lr (g : Nat) (fs : List Value) (w : World) (ps : List Nat) : Prop := LcAt w g fs ps ∧ ps.length = 1847
theorem lr_prb (g : Nat) (fs : List Value) : Prb (Lr g fs) (fun i => i = g) (fun a => (g, 11 + sg a)) 1847 where
  blk _ := rfl
  cell h ha := h.1.chance ha
  free h ha := h.1.free _
  put {w ps a} h ha q := ⟨h.1.prob ha (by rw [h.2]; exact Nat.le_refl _) q, by rw [List.length_set]; exact h.2⟩
  only h hO hS := ⟨h.1.only hO (hS _ rfl), h.2⟩
  len h := h.2
  old {w ps i} h hi := by subst hi; exact h.1.lt
theorem lr_lay (g : Nat) : Lay (fun a => (g, 11 + sg a)) g 11 := fun a ha => rfl
theorem all_fresh' {ps : List Nat} {L : Nat} (hl : ps.length = L) (h : ∀ i, i < L → ps.getD i 0 = 1024) : ps = List.replicate L 1024 := by
  refine List.ext_getElem (by simp [hl]) (fun i h1 h2 => ?_)
  have := h i (by omega)
  simp only [List.getD, List.getElem?_eq_getElem h1, Option.getD_some] at this
  rw [this, List.getElem_replicate]
theorem Lr.put {g : Nat} {fs : List Value} {w : World} {ps : List Nat} (h : Lr g fs w ps) (k : Nat) (hk : k < 13) (v : Value) : Lr g (fs.set k v) (w.setCell ⟨g, cfat k, none⟩ v) ps := ⟨h.1.put k hk v, h.2⟩

section
variable {w w' : World} {g eg : Nat}

set_option maxRecDepth 100000 in
set_option maxHeartbeats 8000000 in
/-- Reset of a coder that was just built. -/
theorem creset_any {lc lp pb dict : Nat} {a b c : Int} {ps : List Nat} (hset : SetOk lc lp pb dict) (h6 : lc + lp ≤ 6) (h : Lr g (coFs a b c (dict : Int) eg (.slice none 0 0)) w ps) :
    Calls Tryz.prog 26 #[.pointer (some ⟨g, 0, none⟩), .agg #[.int .i64 (lc : Int), .int .i64 (lp : Int), .int .i64 (pb : Int), .int .i64 (dict : Int)]] w fun e w' =>
      e = .returned (.tuple #[]) ∧ ∃ lb, Lr g (coFs (lc : Int) (lp : Int) (pb : Int) (dict : Int) eg (.slice (some ⟨lb, 0, none⟩) (768 * 2 ^ (lc + lp)) (768 * 2 ^ (lc + lp)))) w' (List.replicate 1847 1024) ∧ Row w' lb (List.replicate (768 * 2 ^ (lc + lp)) 1024) (768 * 2 ^ (lc + lp)) ∧ w.heap.size ≤ lb ∧ Only (fun i => i = g) w w' := by
  obtain ⟨w1, hw1⟩ : ∃ w1, w1 = w.alloc (.cells #[.int .i64 (lc : Int), .int .i64 (lp : Int), .int .i64 (pb : Int), .int .i64 (dict : Int)] 24) := ⟨_, rfl⟩
  have hO1 : Only (fun _ => False) w w1 := by rw [hw1]; exact (Only.refl _ w).alloc _
  have HBk : Blk w1 w.heap.size 24 #[.int .i64 (lc : Int), .int .i64 (lp : Int), .int .i64 (pb : Int), .int .i64 (dict : Int)] := by rw [hw1]; exact Blk.fresh w _ _
  have hgs : g < w.heap.size := h.1.lt
  have KM := pmay_any (lc : Int) (lp : Int) (pb : Int) (dict : Int) w1
  rw [setOk_may hset] at KM
  have KM := Lib.hid KM
  have KL := fun w => plits_any (lc := lc) (lp := lp) (pb : Int) (dict : Int) (by omega) w
  obtain ⟨nl, hnl⟩ : ∃ nl, nl = 768 * 2 ^ (lc + lp) := ⟨_, rfl⟩
  have hnl6 : nl ≤ 1000000 := by rw [hnl]; exact Nat.le_trans (Nat.mul_le_mul_left 768 (Nat.pow_le_pow_right (by decide) h6)) (by decide)
  rw [← hnl] at KL ⊢
  have KL := Lib.hid KL
  have KF := Lib.hid (fun w => fresh_any (n := nl) hnl6 w)
  have HR1 := Lib.hid ((lr_prb g _).only h hO1 (fun _ _ h => h))
  have HW1 := Lib.hid hw1
  have HO1 := Lib.hid hO1
  have HBK := Lib.hid HBk
  have HG := Lib.hid hgs
  have o0 : w1.cell? ⟨w.heap.size, 0, none⟩ = some (.int .i64 (lc : Int)) := HBk.cell 0
  have o1 : w1.cell? ⟨w.heap.size, 1, none⟩ = some (.int .i64 (lp : Int)) := HBk.cell 1
  have o2 : w1.cell? ⟨w.heap.size, 2, none⟩ = some (.int .i64 (pb : Int)) := HBk.cell 2
  have o3 : w1.cell? ⟨w.heap.size, 3, none⟩ = some (.int .i64 (dict : Int)) := HBk.cell 3
  clear hw1 hO1 HBk h hset h6 hnl hnl6
  go_enter Tryz.func26, Tryz.ntmps26
  go_upto_region 1 with fail
  rw [← HW1.out]
  clear HW1
  go_wp2_with fail
  refine KM.out.mono ?_
  rintro e w2 ⟨rfl, hb2⟩
  have ho2 : Only (fun _ => False) w1 w2 := Only.of_below hb2
  have HO2 := Lib.hid (HO1.out.trans ho2)
  have HBK2 := Lib.hid (HBK.out.only ho2 (fun h => h))
  have hr2 := (lr_prb g _).only HR1.out ho2 (fun _ _ h => h)
  have o0 : w2.cell? ⟨w.heap.size, 0, none⟩ = some (.int .i64 (lc : Int)) := HBK2.out.cell 0
  have o1 : w2.cell? ⟨w.heap.size, 1, none⟩ = some (.int .i64 (lp : Int)) := HBK2.out.cell 1
  have o2 : w2.cell? ⟨w.heap.size, 2, none⟩ = some (.int .i64 (pb : Int)) := HBK2.out.cell 2
  have a0 : w2.cell? ⟨g, 0, none⟩ = some (.int .i64 a) := hr2.1.cell 0 (by decide)
  have a1 : w2.cell? ⟨g, 1, none⟩ = some (.int .i64 b) := hr2.1.cell 1 (by decide)
  have a2 : w2.cell? ⟨g, 2, none⟩ = some (.int .i64 c) := hr2.1.cell 2 (by decide)
  have b0 := hr2.1.free 0
  have b1 := hr2.1.free 1
  have b2 := hr2.1.free 2
  have hne : w.heap.size ≠ g := by have := HG.out; omega
  have HR2 := Lib.hid hr2
  have p1 := ((hr2.put 0 (by decide) (.int .i64 (lc : Int))).put 1 (by decide) (.int .i64 (lp : Int))).put 2 (by decide) (.int .i64 (pb : Int))
  have HZ3 : Hid (Lr g (coFs (lc : Int) (lp : Int) (pb : Int) (dict : Int) eg (.slice none 0 0)) (((w2.setCell ⟨g, 0, none⟩ (.int .i64 (lc : Int))).setCell ⟨g, 1, none⟩ (.int .i64 (lp : Int))).setCell ⟨g, 2, none⟩ (.int .i64 (pb : Int))) ps) := Lib.hid p1
  have hq3 : Only (fun i => i = g) w2 (((w2.setCell ⟨g, 0, none⟩ (.int .i64 (lc : Int))).setCell ⟨g, 1, none⟩ (.int .i64 (lp : Int))).setCell ⟨g, 2, none⟩ (.int .i64 (pb : Int))) :=
    (((Only.refl (fun i => i = g) w2).setCell (p := ⟨g, 0, none⟩) (.inl rfl) _).setCell (p := ⟨g, 1, none⟩) (.inl rfl) _).setCell (p := ⟨g, 2, none⟩) (.inl rfl) _
  have HO3 := Lib.hid (show Only (fun i => i = g) w _ from (HO2.out.mono fun _ h => h.elim).trans hq3)
  have HBK3 := Lib.hid (HBK2.out.only hq3 hne)
  clear hb2 ho2 hr2 p1 hq3 KM HBK HBK2 HR1 HO1 HO2
  go_wp2_with fail
  go_region
  have HZ3 := Lib.hid ((lr_prb g _).only HZ3.out ((Only.refl (fun _ => False) _).drewN 1) (fun _ _ h => h))
  have HO3 := Lib.hid (HO3.out.drewN 1)
  have HBK3 := Lib.hid (HBK3.out.drewN 1)
  change Exit.then _ _ _ _ ((((w2.setCell ⟨g, 0, none⟩ (.int .i64 (lc : Int))).setCell ⟨g, 1, none⟩ (.int .i64 (lp : Int))).setCell ⟨g, 2, none⟩ (.int .i64 (pb : Int))).drewN 1)
  generalize ((((w2.setCell ⟨g, 0, none⟩ (.int .i64 (lc : Int))).setCell ⟨g, 1, none⟩ (.int .i64 (lp : Int))).setCell ⟨g, 2, none⟩ (.int .i64 (pb : Int))).drewN 1) = w3 at *
  clear o0 o1 o2 a0 a1 a2 b0 b1 b2 HR2
  have a6 := HZ3.out.1.cell 6 (by decide)
  have a7 := HZ3.out.1.cell 7 (by decide)
  have a8 := HZ3.out.1.cell 8 (by decide)
  have a9 := HZ3.out.1.cell 9 (by decide)
  have a10 := HZ3.out.1.cell 10 (by decide)
  change w3.cell? ⟨g, 6, none⟩ = some (.int .i64 0) at a6
  change w3.cell? ⟨g, 7, none⟩ = some (.int .u32 0) at a7
  change w3.cell? ⟨g, 8, none⟩ = some (.int .u32 0) at a8
  change w3.cell? ⟨g, 9, none⟩ = some (.int .u32 0) at a9
  change w3.cell? ⟨g, 10, none⟩ = some (.int .u32 0) at a10
  have b6 := HZ3.out.1.free 6
  have b7 := HZ3.out.1.free 7
  have b8 := HZ3.out.1.free 8
  have b9 := HZ3.out.1.free 9
  have b10 := HZ3.out.1.free 10
  have p4 := ((((HZ3.out.put 6 (by decide) (.int .i64 0)).put 7 (by decide) (.int .u32 0)).put 8 (by decide) (.int .u32 0)).put 9 (by decide) (.int .u32 0)).put 10 (by decide) (.int .u32 0)
  have HZ4 : Hid (Lr g (coFs (lc : Int) (lp : Int) (pb : Int) (dict : Int) eg (.slice none 0 0)) (((((w3.setCell ⟨g, 6, none⟩ (.int .i64 0)).setCell ⟨g, 7, none⟩ (.int .u32 0)).setCell ⟨g, 8, none⟩ (.int .u32 0)).setCell ⟨g, 9, none⟩ (.int .u32 0)).setCell ⟨g, 10, none⟩ (.int .u32 0)) ps) := Lib.hid p4
  have hq4 : Only (fun i => i = g) w3 (((((w3.setCell ⟨g, 6, none⟩ (.int .i64 0)).setCell ⟨g, 7, none⟩ (.int .u32 0)).setCell ⟨g, 8, none⟩ (.int .u32 0)).setCell ⟨g, 9, none⟩ (.int .u32 0)).setCell ⟨g, 10, none⟩ (.int .u32 0)) :=
    (((((Only.refl (fun i => i = g) w3).setCell (p := ⟨g, 6, none⟩) (.inl rfl) _).setCell (p := ⟨g, 7, none⟩) (.inl rfl) _).setCell (p := ⟨g, 8, none⟩) (.inl rfl) _).setCell (p := ⟨g, 9, none⟩) (.inl rfl) _).setCell (p := ⟨g, 10, none⟩) (.inl rfl) _
  have HO4 := Lib.hid (HO3.out.trans hq4)
  have HBK4 := Lib.hid (HBK3.out.only hq4 hne)
  clear p4 hq4 HZ3 HO3 HBK3
  go_upto_region 4 with fail
  generalize (((((w3.setCell ⟨g, 6, none⟩ (.int .i64 0)).setCell ⟨g, 7, none⟩ (.int .u32 0)).setCell ⟨g, 8, none⟩ (.int .u32 0)).setCell ⟨g, 9, none⟩ (.int .u32 0)).setCell ⟨g, 10, none⟩ (.int .u32 0)) = w4 at *
  clear a6 a7 a8 a9 a10 b6 b7 b8 b9 b10
  have KC := Lib.hid (chances_renew (D := fun _ => False) (lr_prb g _) (lr_lay g) (Nat.le_refl _) ⟨ps, HZ4.out, fun _ h => h.elim, Only.refl _ w4⟩)
  go_wp2_with fail
  refine KC.out.mono ?_
  rintro e w5 ⟨rfl, ps5, hr5, hf5, ho5⟩
  have he := all_fresh' hr5.2 (fun i hi => hf5 i (.inr hi))
  subst he
  have HBK5 := Lib.hid (HBK4.out.only ho5 hne)
  have HZ5 := Lib.hid hr5
  have HO5 := Lib.hid (HO4.out.trans ho5)
  have o0 : w5.cell? ⟨w.heap.size, 0, none⟩ = some (.int .i64 (lc : Int)) := HBK5.out.cell 0
  have o1 : w5.cell? ⟨w.heap.size, 1, none⟩ = some (.int .i64 (lp : Int)) := HBK5.out.cell 1
  have o2 : w5.cell? ⟨w.heap.size, 2, none⟩ = some (.int .i64 (pb : Int)) := HBK5.out.cell 2
  have o3 : w5.cell? ⟨w.heap.size, 3, none⟩ = some (.int .i64 (dict : Int)) := HBK5.out.cell 3
  clear hr5 hf5 ho5 KC HBK4 HZ4 HO4
  go_wp2_with fail
  refine (KL.out _).mono ?_
  rintro e w6 ⟨rfl, hb6⟩
  have ho6 : Only (fun _ => False) w5 w6 := Only.of_below hb6
  have HZ6 := Lib.hid ((lr_prb g _).only HZ5.out ho6 (fun _ _ h => h))
  have HO6 := Lib.hid (HO5.out.trans (ho6.mono fun _ h => h.elim))
  clear hb6 ho6 o0 o1 o2 o3 HBK5 HZ5 HO5 KL
  go_wp2_with fail
  refine (KF.out _).mono ?_
  rintro e w7 ⟨rfl, hrow, hb7⟩
  have ho7 : Only (fun _ => False) w6 w7 := Only.of_below hb7
  have hz7 := (lr_prb g _).only HZ6.out ho7 (fun _ _ h => h)
  have HO7 := Lib.hid ((HO6.out.trans (ho7.mono fun _ h => h.elim)).setCell (p := ⟨g, 1858, none⟩) (.inl rfl) (.slice (some ⟨w6.heap.size, 0, none⟩) nl nl))
  have HLB := Lib.hid (show w.heap.size ≤ w6.heap.size from HO6.out.size)
  have hgl := HZ6.out.1.lt
  have HROW : Hid (Row (w7.setCell ⟨g, 1858, none⟩ (.slice (some ⟨w6.heap.size, 0, none⟩) nl nl)) w6.heap.size (List.replicate nl 1024) nl) := Lib.hid (hrow.only ((Only.refl (fun j => j = g) w7).setCell (p := ⟨g, 1858, none⟩) (.inl rfl) _) (by omega))
  have HZ8 : Hid (Lr g (coFs (lc : Int) (lp : Int) (pb : Int) (dict : Int) eg (.slice (some ⟨w6.heap.size, 0, none⟩) nl nl)) (w7.setCell ⟨g, 1858, none⟩ (.slice (some ⟨w6.heap.size, 0, none⟩) nl nl)) (List.replicate 1847 1024)) := Lib.hid (hz7.put 11 (by decide) (.slice (some ⟨w6.heap.size, 0, none⟩) nl nl))
  have aL : w7.cell? ⟨g, 1858, none⟩ = some (.slice none 0 0) := hz7.1.cell 11 (by decide)
  have bL := hz7.1.free 1858
  clear hrow hb7 ho7 hz7 KF HZ6 HO6 hgl
  generalize w6.heap.size = lb at *
  go_wp2_with fail
  first | go_end0 | refine bodyPost_ret (results_none rfl _ _ _) rfl ?_
  exact ⟨rfl, lb, HZ8.out, HROW.out, HLB.out, HO7.out⟩
end
end Go.Proofs.YtoencondpbkomaaGreat

/-
  The program's coder of LZMA: a new one.
-/
namespace Go.Proofs.YtoencondpbkomaaGreat
open Go.RowKit

/-- A coder that begins. -/
def CNewPost (w : World) (lc lp pb dict k : Nat) (e : Ending) (w' : World) : Prop :=
  ∃ K : Koc, e = .returned (.tuple #[.pointer (some ⟨K.g, 0, none⟩), .int .i64 0]) ∧ K.nl = 768 * 2 ^ (lc + lp) ∧
    Cw K w' none none 0 (Lzs.start lc lp pb dict) k ⟨List.replicate (1847 + K.nl) 1024, En.new⟩ ∧ (w.heap.size ≤ K.g ∧ w.heap.size ≤ K.lb ∧ w.heap.size ≤ K.eg) ∧ Only (fun _ => False) w w'

theorem enNew_ok (k : Nat) (hk : k ≤ 1000000) : okE k En.new := ⟨enOk_new, by show 5 + 32 * k ≤ _; omega⟩
theorem new_pm {L k : Nat} (hk : k ≤ 1000000) : PmOk okE L k (⟨List.replicate L 1024, En.new⟩ : Pm En) :=
  ⟨fun p hp => by rw [List.eq_of_mem_replicate hp]; exact ⟨by decide, by decide⟩, by simp, enNew_ok k hk⟩

set_option maxRecDepth 100000 in
set_option maxHeartbeats 16000000 in
theorem cnew7_any {lc lp pb dict k : Nat} (h : SetOk lc lp pb dict) (h6 : lc + lp ≤ 6) (hk : k ≤ 1000000) (w : World) :
    Calls Tryz.prog 13 #[.agg #[.int .i64 (lc : Int), .int .i64 (lp : Int), .int .i64 (pb : Int), .int .i64 (dict : Int)]] w (CNewPost w lc lp pb dict k) := by
  obtain ⟨w1, hw1⟩ : ∃ w1, w1 = w.alloc (.cells #[.int .i64 (lc : Int), .int .i64 (lp : Int), .int .i64 (pb : Int), .int .i64 (dict : Int)] 24) := ⟨_, rfl⟩
  have HBk : Blk w1 w.heap.size 24 #[.int .i64 (lc : Int), .int .i64 (lp : Int), .int .i64 (pb : Int), .int .i64 (dict : Int)] := by rw [hw1]; exact Blk.fresh w _ _
  have HO1 := Lib.hid (show Only (fun _ => False) w w1 by rw [hw1]; exact (Only.refl _ w).alloc _)
  have KM := pmay_any (lc : Int) (lp : Int) (pb : Int) (dict : Int) w1
  rw [setOk_may h] at KM
  have KM := Lib.hid KM
  have HH := Lib.hid (And.intro h (And.intro h6 hk))
  have HW1 := Lib.hid hw1
  have HBK := Lib.hid HBk
  have KE := Lib.hid (fun w => cnew_any w)
  have o0 : w1.cell? ⟨w.heap.size, 0, none⟩ = some (.int .i64 (lc : Int)) := HBk.cell 0
  have o1 : w1.cell? ⟨w.heap.size, 1, none⟩ = some (.int .i64 (lp : Int)) := HBk.cell 1
  have o2 : w1.cell? ⟨w.heap.size, 2, none⟩ = some (.int .i64 (pb : Int)) := HBk.cell 2
  have o3 : w1.cell? ⟨w.heap.size, 3, none⟩ = some (.int .i64 (dict : Int)) := HBk.cell 3
  clear hw1 HBk h h6 hk
  go_enter Tryz.func13, Tryz.ntmps13
  go_upto_region 1 with fail
  rw [← HW1.out]
  clear HW1
  go_wp2_with fail
  refine KM.out.mono ?_
  rintro e w2 ⟨rfl, hb2⟩
  have ho2 : Only (fun _ => False) w1 w2 := Only.of_below hb2
  have HO2 := Lib.hid (HO1.out.trans ho2)
  have HBK2 := Lib.hid (HBK.out.only ho2 (fun h => h))
  clear hb2 ho2 KM o0 o1 o2 o3 HBK HO1
  have HS := Lib.hid (fun (W : World) (hW : Only (fun _ => False) w2 W) => (show W.cell? ⟨w.heap.size, 0, none⟩ = some (.int .i64 (lc : Int)) ∧ W.cell? ⟨w.heap.size, 1, none⟩ = some (.int .i64 (lp : Int)) ∧ W.cell? ⟨w.heap.size, 2, none⟩ = some (.int .i64 (pb : Int)) ∧ W.cell? ⟨w.heap.size, 3, none⟩ = some (.int .i64 (dict : Int)) from
    have hk := HBK2.out.only hW (fun h => h)
    ⟨hk.cell 0, hk.cell 1, hk.cell 2, hk.cell 3⟩))
  obtain ⟨o0, o1, o2, o3⟩ := HS.out w2 (Only.refl _ _)
  go_wp2_with fail
  go_region_held3 (fun W => W.cell? ⟨w.heap.size, 0, none⟩ = some (.int .i64 (lc : Int)) ∧ W.cell? ⟨w.heap.size, 1, none⟩ = some (.int .i64 (lp : Int)) ∧ W.cell? ⟨w.heap.size, 2, none⟩ = some (.int .i64 (pb : Int)) ∧ W.cell? ⟨w.heap.size, 3, none⟩ = some (.int .i64 (dict : Int)))
    (first | assumption | go_keep | exact ⟨o0, o1, o2, o3⟩ | exact HS.out _ HQ3.out)
    (first | (go_at_call 25; refine (KE.out _).mono ?_; rintro e w3 ⟨rfl, hw3⟩; have HW3 := Lib.hid hw3; have HQ3 := Lib.hid (show Only (fun _ => False) w2 w3 from by rw [hw3]; exact ((Only.refl _ w2).drew).alloc _); clear hw3))
  obtain ⟨cs, hcs⟩ : ∃ cs, cs = (((((Tryz.zeroCells82.setIfInBounds 0 (.int .i64 (lc : Int))).setIfInBounds 1 (.int .i64 (lp : Int))).setIfInBounds 2 (.int .i64 (pb : Int))).setIfInBounds 3 (.int .i64 (dict : Int))).setIfInBounds 4 (.pointer (some ⟨w2.heap.size, 0, none⟩))) := ⟨_, rfl⟩
  rw [← hcs]
  have hblk : Blk (w3.alloc (.cells cs 82)) w3.heap.size 82 cs := Blk.fresh w3 _ _
  rw [hcs, czero_link] at hblk
  rw [← czero_link] at hblk
  have hblk2 := hblk
  rw [czero_link] at hblk2
  have hat : LcAt (w3.alloc (.cells cs 82)) w3.heap.size (coFs (lc : Int) (lp : Int) (pb : Int) (dict : Int) w2.heap.size (.slice none 0 0)) (List.replicate 1847 0) := by
    have := made_co hblk2
    rw [← czero_link, ← hcs] at this
    exact this
  have ho4 : Only (fun _ => False) w3 (w3.alloc (.cells cs 82)) := (Only.refl _ w3).alloc _
  have hpn : Pn w3 w2.heap.size none En.new := by rw [HW3.out]; exact pn_fresh w2.drew
  have HPN := Lib.hid (hpn.only ho4 (fun h => h) (fun _ _ h => h))
  have HS4 := Lib.hid (HS.out _ (HQ3.out.trans ho4))
  have HO4 := Lib.hid ((HO2.out.trans HQ3.out).trans ho4)
  have hs23 : w2.heap.size < w3.heap.size := by rw [HW3.out]; simp
  have HSZ := Lib.hid (And.intro HO2.out.size (And.intro hs23 (show w3.heap.size < (w3.alloc (.cells cs 82)).heap.size from hat.lt)))
  have KR := Lib.hid (creset_any HH.out.1 HH.out.2.1 (⟨hat, by simp⟩ : Lr w3.heap.size _ _ (List.replicate 1847 0)))
  clear hblk hblk2 hat ho4 hpn hs23 hcs HQ3 HO2 HW3 HS HBK2
  generalize w3.alloc (.cells cs 82) = w4 at *
  obtain ⟨o0, o1, o2, o3⟩ := HS4.out
  go_wp2_with fail
  refine KR.out.mono ?_
  rintro e w5 ⟨rfl, lb, hr5, hrow5, hlb, ho5⟩
  obtain ⟨z1, z2, z3⟩ := HSZ.out
  have hst := HH.out.1
  obtain ⟨nl, hnl⟩ : ∃ nl, nl = 768 * 2 ^ (lc + lp) := ⟨_, rfl⟩
  rw [← hnl] at hr5 hrow5
  have hpn5 := HPN.out.only ho5 (fun e => by omega) (fun _ h => by cases h)
  have hrep : ∀ a, a < 1847 → (List.replicate (1847 + nl) 1024).getD a 0 = (List.replicate 1847 1024).getD a 0 := fun a ha => by
    unfold List.getD
    rw [List.getElem?_replicate, List.getElem?_replicate, if_pos ha, if_pos (by omega)]
  have hcw : Cw ⟨w3.heap.size, lb, nl, w2.heap.size⟩ w5 none none 0 (Lzs.start lc lp pb dict) k ⟨List.replicate (1847 + nl) 1024, En.new⟩ := by
    refine ⟨⟨hpn5, ⟨hr5.1.same hrep, ?_, by simp⟩, new_pm HH.out.2.2⟩, ⟨rfl, .inl ⟨rfl, rfl⟩⟩, ⟨?_, ?_, ?_, fun _ h => (by cases h), fun _ h => (by cases h)⟩⟩
    · show Row w5 lb ((List.replicate (1847 + nl) 1024).drop 1847) nl
      rw [List.drop_replicate, Nat.add_sub_cancel_left]
      exact hrow5
    · show w3.heap.size ≠ lb
      omega
    · show w3.heap.size ≠ w2.heap.size
      omega
    · show lb ≠ w2.heap.size
      omega
  have HCW := Lib.hid hcw
  have HNL := Lib.hid hnl
  have HLE := Lib.hid (show w.heap.size ≤ w3.heap.size ∧ w.heap.size ≤ lb ∧ w.heap.size ≤ w2.heap.size by omega)
  have HON := Lib.hid (show Only (fun _ => False) w w5 from HO4.out.trans' ho5 (fun i hi => .inr (by subst hi; omega)))
  clear hr5 hrow5 hlb ho5 z1 z2 z3 hst hpn5 hrep hcw hnl KR o0 o1 o2 o3 HS4 HPN HO4 HSZ
  go_wp2_with fail
  go_ret2
  exact ⟨⟨w3.heap.size, lb, nl, w2.heap.size⟩, rfl, HNL.out, HCW.out, HLE.out, HON.out⟩
end Go.Proofs.YtoencondpbkomaaGreat
