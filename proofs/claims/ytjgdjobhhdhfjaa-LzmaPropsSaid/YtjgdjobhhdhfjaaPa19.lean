/-
  LzProp, Held: put together.
-/
import Derived.Test.YtjgdjobhhdhfjaaPa17
import Derived.Test.YtjgdjobhhdhfjaaPa18
import Derived.StillTailTactics
import Derived.Deep.RegionHeld3
set_option linter.unusedVariables false
set_option linter.unusedSimpArgs false
/-
  The reference of LZMA: properties.
-/
namespace Go.Proofs.Ytjgdjobhhdhfjaa
open Go.RowKit

/-- a setting's properties -/
def propsOf (lc lp pb dict : Nat) : List UInt8 := [UInt8.ofNat (45 * pb + 9 * lp + lc), UInt8.ofNat (dict % 256), UInt8.ofNat (dict / 256 % 256), UInt8.ofNat (dict / 65536 % 256), UInt8.ofNat (dict / 16777216)]
/-- what five bytes say -/
def parseOf (bs : List UInt8) : Option (Nat × Nat × Nat × Nat) :=
  match bs with
  | [a, b, c, d, e] => if a.toNat < 225 then some (a.toNat % 9, a.toNat / 9 % 5, a.toNat / 45, max 4096 (b.toNat + 256 * c.toNat + 65536 * d.toNat + 16777216 * e.toNat)) else none
  | _ => none

/-- what parsing answers: the setting, the code -/
def ParsePost (w : World) (o : Option (Nat × Nat × Nat × Nat)) (x : Ending) (w' : World) : Prop :=
  Below w.heap.size w w' ∧ ((o = none ∧ x = .returned (.tuple #[.agg #[.int .i64 0, .int .i64 0, .int .i64 0, .int .i64 0], .int .i64 11])) ∨
    ∃ lc lp pb dict : Nat, o = some (lc, lp, pb, dict) ∧ x = .returned (.tuple #[.agg #[.int .i64 (lc : Int), .int .i64 (lp : Int), .int .i64 (pb : Int), .int .i64 (dict : Int)], .int .i64 0]))

theorem parse_short {bs : List UInt8} (h : bs.length ≠ 5) : parseOf bs = none := by
  unfold parseOf
  split
  · exact absurd rfl h
  · rfl

set_option maxRecDepth 100000 in
set_option maxHeartbeats 4000000 in
theorem zparse_any {w : World} {n c : Nat} {A : Option Addr} {bs : List UInt8} (hn : n = bs.length) (hS : Sl w A bs.length (bv bs)) (hl : bs.length ≤ 1000000000) :
    Calls Try.prog 16 #[.slice A n c] w (ParsePost w (parseOf bs)) := by
  have hb : Below w.heap.size w (w.alloc (.cells #[.int .i64 0, .int .i64 0, .int .i64 0, .int .i64 0] 24)) := (Below.refl _ _).alloc (Nat.le_refl _) _
  by_cases h5 : n = 5
  · have h5' : bs.length = 5 := by omega
    match bs, h5', hS with
    | [a, b, d, e, f], _, hS =>
      obtain ⟨q, o, rfl, hq, hc⟩ := hS.2 (show 0 < 5 by decide)
      have hS1 := hS.alloc (.cells #[.int .i64 0, .int .i64 0, .int .i64 0, .int .i64 0] 24)
      obtain ⟨q', o', e', hq', hc1⟩ := hS1.2 (show 0 < 5 by decide)
      injection e' with e'
      injection e' with e1 e2
      subst e1 e2
      have i0 : (w.alloc (.cells #[.int .i64 0, .int .i64 0, .int .i64 0, .int .i64 0] 24)).cell? ⟨q, o + 0, none⟩ = some (.int .u8 (a.toNat : Int)) := hc1 0 (show 0 < 5 by decide)
      have i1 : (w.alloc (.cells #[.int .i64 0, .int .i64 0, .int .i64 0, .int .i64 0] 24)).cell? ⟨q, o + 1, none⟩ = some (.int .u8 (b.toNat : Int)) := hc1 1 (show 1 < 5 by decide)
      have i2 : (w.alloc (.cells #[.int .i64 0, .int .i64 0, .int .i64 0, .int .i64 0] 24)).cell? ⟨q, o + 2, none⟩ = some (.int .u8 (d.toNat : Int)) := hc1 2 (show 2 < 5 by decide)
      have i3 : (w.alloc (.cells #[.int .i64 0, .int .i64 0, .int .i64 0, .int .i64 0] 24)).cell? ⟨q, o + 3, none⟩ = some (.int .u8 (e.toNat : Int)) := hc1 3 (show 3 < 5 by decide)
      have i4 : (w.alloc (.cells #[.int .i64 0, .int .i64 0, .int .i64 0, .int .i64 0] 24)).cell? ⟨q, o + 4, none⟩ = some (.int .u8 (f.toNat : Int)) := hc1 4 (show 4 < 5 by decide)
      have hS2 := hS1.alloc (.cells #[.int .i64 0, .int .i64 0, .int .i64 0, .int .i64 0] 24)
      obtain ⟨q'', o'', e'', hq'', hc2⟩ := hS2.2 (show 0 < 5 by decide)
      injection e'' with e''
      injection e'' with e1 e2
      subst e1 e2
      have j0 : ((w.alloc (.cells #[.int .i64 0, .int .i64 0, .int .i64 0, .int .i64 0] 24)).alloc (.cells #[.int .i64 0, .int .i64 0, .int .i64 0, .int .i64 0] 24)).cell? ⟨q, o + 0, none⟩ = some (.int .u8 (a.toNat : Int)) := hc2 0 (show 0 < 5 by decide)
      have j1 : ((w.alloc (.cells #[.int .i64 0, .int .i64 0, .int .i64 0, .int .i64 0] 24)).alloc (.cells #[.int .i64 0, .int .i64 0, .int .i64 0, .int .i64 0] 24)).cell? ⟨q, o + 1, none⟩ = some (.int .u8 (b.toNat : Int)) := hc2 1 (show 1 < 5 by decide)
      have j2 : ((w.alloc (.cells #[.int .i64 0, .int .i64 0, .int .i64 0, .int .i64 0] 24)).alloc (.cells #[.int .i64 0, .int .i64 0, .int .i64 0, .int .i64 0] 24)).cell? ⟨q, o + 2, none⟩ = some (.int .u8 (d.toNat : Int)) := hc2 2 (show 2 < 5 by decide)
      have j3 : ((w.alloc (.cells #[.int .i64 0, .int .i64 0, .int .i64 0, .int .i64 0] 24)).alloc (.cells #[.int .i64 0, .int .i64 0, .int .i64 0, .int .i64 0] 24)).cell? ⟨q, o + 3, none⟩ = some (.int .u8 (e.toNat : Int)) := hc2 3 (show 3 < 5 by decide)
      have j4 : ((w.alloc (.cells #[.int .i64 0, .int .i64 0, .int .i64 0, .int .i64 0] 24)).alloc (.cells #[.int .i64 0, .int .i64 0, .int .i64 0, .int .i64 0] 24)).cell? ⟨q, o + 4, none⟩ = some (.int .u8 (f.toNat : Int)) := hc2 4 (show 4 < 5 by decide)
      rw [Nat.add_zero] at i0 j0
      have ha := a.toNat_lt
      have hbb := b.toNat_lt
      have hd := d.toNat_lt
      have he := e.toNat_lt
      have hf := f.toNat_lt
      have hpar : parseOf [a, b, d, e, f] = if a.toNat < 225 then some (a.toNat % 9, a.toNat / 9 % 5, a.toNat / 45, max 4096 (b.toNat + 256 * d.toNat + 65536 * e.toNat + 16777216 * f.toNat)) else none := rfl
      rw [hpar]
      subst h5
      generalize a.toNat = a at *
      generalize b.toNat = b at *
      generalize d.toNat = d at *
      generalize e.toNat = e at *
      generalize f.toNat = f at *
      obtain ⟨w1, hw1⟩ : ∃ w1, w1 = w.alloc (.cells #[.int .i64 0, .int .i64 0, .int .i64 0, .int .i64 0] 24) := ⟨_, rfl⟩
      have HBk : Blk w1 w.heap.size 24 #[.int .i64 0, .int .i64 0, .int .i64 0, .int .i64 0] := by rw [hw1]; exact Blk.fresh w _ _
      rw [← hw1] at i0 i1 i2 i3 i4 j0 j1 j2 j3 j4 hb
      have HW1 := Lib.hid hw1
      have HB := Lib.hid hb
      have HBK := Lib.hid HBk
      have r0 : w1.cell? ⟨w.heap.size, 0, none⟩ = some (.int .i64 0) := HBk.cell 0
      have r1 : w1.cell? ⟨w.heap.size, 1, none⟩ = some (.int .i64 0) := HBk.cell 1
      have r2 : w1.cell? ⟨w.heap.size, 2, none⟩ = some (.int .i64 0) := HBk.cell 2
      have r3 : w1.cell? ⟨w.heap.size, 3, none⟩ = some (.int .i64 0) := HBk.cell 3
      have z0 := HBk.free 0
      have z1 := HBk.free 1
      have z2 := HBk.free 2
      have z3 := HBk.free 3
      clear hw1 hb HBk hc hc1 hc2 hq hq' hq'' hS hS1 hS2 hpar hn hl h5'
      by_cases h225 : a < 225
      · rw [if_pos h225]
        have g : ¬ (a : Int) ≥ 225 := by omega
        obtain ⟨lc, hlc⟩ : ∃ x, x = a % 9 := ⟨_, rfl⟩
        obtain ⟨qa, hqa⟩ : ∃ x, x = a / 9 := ⟨_, rfl⟩
        obtain ⟨lp, hlp⟩ : ∃ x, x = qa % 5 := ⟨_, rfl⟩
        obtain ⟨pb, hpb⟩ : ∃ x, x = a / 45 := ⟨_, rfl⟩
        obtain ⟨dc, hdc⟩ : ∃ x, x = b + 256 * d + 65536 * e + 16777216 * f := ⟨_, rfl⟩
        rw [← hqa, ← hlc, ← hlp, ← hpb, ← hdc]
        have e1 : (a : Int).tmod 9 = (lc : Int) := by rw [Int.tmod_eq_emod_of_nonneg (by omega)]; omega
        have e2 : (a : Int) / 9 = (qa : Int) := by omega
        have e2' : (a : Int).tdiv 9 = (qa : Int) := by rw [Int.tdiv_eq_ediv_of_nonneg (by omega)]; exact e2
        have e3 : (qa : Int).tmod 5 = (lp : Int) := by rw [Int.tmod_eq_emod_of_nonneg (by omega)]; omega
        have e4 : (a : Int) / 45 = (pb : Int) := by omega
        have e4' : (a : Int).tdiv 45 = (pb : Int) := by rw [Int.tdiv_eq_ediv_of_nonneg (by omega)]; exact e4
        have u0 : IntKind.i64.wrap (a : Int) = (a : Int) := IntWalk.i64_in _ (by omega)
        have u1 : IntKind.i64.wrap (b : Int) = (b : Int) := IntWalk.i64_in _ (by omega)
        have u2 : IntKind.i64.wrap (d : Int) = (d : Int) := IntWalk.i64_in _ (by omega)
        have u3 : IntKind.i64.wrap (e : Int) = (e : Int) := IntWalk.i64_in _ (by omega)
        have u4 : IntKind.i64.wrap (f : Int) = (f : Int) := IntWalk.i64_in _ (by omega)
        have v1 : IntKind.i64.wrap (lc : Int) = (lc : Int) := IntWalk.i64_in _ (by omega)
        have v2 : IntKind.i64.wrap (qa : Int) = (qa : Int) := IntWalk.i64_in _ (by omega)
        have v3 : IntKind.i64.wrap (lp : Int) = (lp : Int) := IntWalk.i64_in _ (by omega)
        have v4 : IntKind.i64.wrap (pb : Int) = (pb : Int) := IntWalk.i64_in _ (by omega)
        have m2 : IntKind.i64.wrap (256 * (d : Int)) = 256 * (d : Int) := IntWalk.i64_in _ (by omega)
        have m3 : IntKind.i64.wrap (65536 * (e : Int)) = 65536 * (e : Int) := IntWalk.i64_in _ (by omega)
        have m4 : IntKind.i64.wrap (16777216 * (f : Int)) = 16777216 * (f : Int) := IntWalk.i64_in _ (by omega)
        have s2 : IntKind.i64.wrap ((b : Int) + 256 * (d : Int)) = (b : Int) + 256 * (d : Int) := IntWalk.i64_in _ (by omega)
        have s3 : IntKind.i64.wrap ((b : Int) + 256 * (d : Int) + 65536 * (e : Int)) = (b : Int) + 256 * (d : Int) + 65536 * (e : Int) := IntWalk.i64_in _ (by omega)
        have s4 : IntKind.i64.wrap ((b : Int) + 256 * (d : Int) + 65536 * (e : Int) + 16777216 * (f : Int)) = (dc : Int) := by rw [show (b : Int) + 256 * (d : Int) + 65536 * (e : Int) + 16777216 * (f : Int) = (dc : Int) by omega]; exact IntWalk.i64_in _ (by omega)
        clear h225 ha hbb hd he hf hlc hqa hlp hpb hdc
        go_enter Try.func16, Try.ntmps16
        go_upto_region 1 with fail
        rw [← HW1.out]
        clear HW1
        go_wp2_with fail
        go_region_held3 (fun w' => w'.cell? ⟨q, o, none⟩ = some (.int .u8 (a : Int)) ∧ w'.cell? ⟨q, o + 1, none⟩ = some (.int .u8 (b : Int)) ∧ w'.cell? ⟨q, o + 2, none⟩ = some (.int .u8 (d : Int)) ∧ w'.cell? ⟨q, o + 3, none⟩ = some (.int .u8 (e : Int)) ∧ w'.cell? ⟨q, o + 4, none⟩ = some (.int .u8 (f : Int)))
          (first | exact ⟨i0, i1, i2, i3, i4⟩ | exact ⟨j0, j1, j2, j3, j4⟩ | go_keep)
          (fail)
        have hk1 : Blk ((w1.alloc (.cells #[.int .i64 (lc : Int), .int .i64 (lp : Int), .int .i64 (pb : Int), .int .i64 (dc : Int)] 24)).drew) w1.heap.size 24 #[.int .i64 (lc : Int), .int .i64 (lp : Int), .int .i64 (pb : Int), .int .i64 (dc : Int)] := Blk.fresh w1 _ _
        have hk0 : Blk ((w1.alloc (.cells #[.int .i64 (lc : Int), .int .i64 (lp : Int), .int .i64 (pb : Int), .int .i64 (dc : Int)] 24)).drew) w.heap.size 24 #[.int .i64 0, .int .i64 0, .int .i64 0, .int .i64 0] := HBK.out.alloc _
        have hb2 : Below w.heap.size w ((w1.alloc (.cells #[.int .i64 (lc : Int), .int .i64 (lp : Int), .int .i64 (pb : Int), .int .i64 (dc : Int)] 24)).drew) := below_drewN (HB.out.alloc HB.out.size _) 1
        have hne : w.heap.size ≠ w1.heap.size := by have := HBK.out.lt; omega
        clear r0 r1 r2 r3 z0 z1 z2 z3 i0 i1 i2 i3 i4 j0 j1 j2 j3 j4 e1 e2 e2' e3 e4 e4' u0 u1 u2 u3 u4 v1 v2 v3 v4 m2 m3 m4 s2 s3 s4
        generalize (w1.alloc (.cells #[.int .i64 (lc : Int), .int .i64 (lp : Int), .int .i64 (pb : Int), .int .i64 (dc : Int)] 24)).drew = w2 at *
        have hw1s := HB.out.size
        generalize w1.heap.size = b1 at *
        have k0 : w2.cell? ⟨b1, 0, none⟩ = some (.int .i64 (lc : Int)) := hk1.cell 0
        have k1 : w2.cell? ⟨b1, 1, none⟩ = some (.int .i64 (lp : Int)) := hk1.cell 1
        have k2 : w2.cell? ⟨b1, 2, none⟩ = some (.int .i64 (pb : Int)) := hk1.cell 2
        have k3 : w2.cell? ⟨b1, 3, none⟩ = some (.int .i64 (dc : Int)) := hk1.cell 3
        have y3 := hk1.free 3
        have r0 : w2.cell? ⟨w.heap.size, 0, none⟩ = some (.int .i64 0) := hk0.cell 0
        have r1 : w2.cell? ⟨w.heap.size, 1, none⟩ = some (.int .i64 0) := hk0.cell 1
        have r2 : w2.cell? ⟨w.heap.size, 2, none⟩ = some (.int .i64 0) := hk0.cell 2
        have r3 : w2.cell? ⟨w.heap.size, 3, none⟩ = some (.int .i64 0) := hk0.cell 3
        have z0 := hk0.free 0
        have z1 := hk0.free 1
        have z2 := hk0.free 2
        have z3 := hk0.free 3
        have hend : ∀ (W : World) (v : Int), Blk W w.heap.size 24 #[.int .i64 0, .int .i64 0, .int .i64 0, .int .i64 0] → Below w.heap.size w W →
            Blk ((((W.setCell ⟨w.heap.size, 0, none⟩ (.int .i64 (lc : Int))).setCell ⟨w.heap.size, 1, none⟩ (.int .i64 (lp : Int))).setCell ⟨w.heap.size, 2, none⟩ (.int .i64 (pb : Int))).setCell ⟨w.heap.size, 3, none⟩ (.int .i64 v)) w.heap.size 24 #[.int .i64 (lc : Int), .int .i64 (lp : Int), .int .i64 (pb : Int), .int .i64 v] ∧
            Below w.heap.size w ((((W.setCell ⟨w.heap.size, 0, none⟩ (.int .i64 (lc : Int))).setCell ⟨w.heap.size, 1, none⟩ (.int .i64 (lp : Int))).setCell ⟨w.heap.size, 2, none⟩ (.int .i64 (pb : Int))).setCell ⟨w.heap.size, 3, none⟩ (.int .i64 v)) := by
          intro W v h1 h2
          exact ⟨(((h1.put 0 (.int .i64 (lc : Int))).put 1 (.int .i64 (lp : Int))).put 2 (.int .i64 (pb : Int))).put 3 (.int .i64 v), (((h2.setCell (Nat.le_refl _) _).setCell (Nat.le_refl _) _).setCell (Nat.le_refl _) _).setCell (Nat.le_refl _) _⟩
        by_cases h4 : dc < 4096
        · have g4 : (dc : Int) < 4096 := by omega
          have HE := Lib.hid (hend (w2.setCell ⟨b1, 3, none⟩ (.int .i64 4096)) 4096 (hk0.far hne _) (hb2.setCell hw1s _))
          have hm : max 4096 dc = 4096 := by omega
          have HM := Lib.hid hm
          clear hend hk1 hk0 hb2 h4 hm HB HBK hw1s
          go_wp2_with fail
          obtain ⟨hk, hb⟩ := HE.out
          generalize ((((w2.setCell ⟨b1, 3, none⟩ (.int .i64 4096)).setCell ⟨w.heap.size, 0, none⟩ (.int .i64 (lc : Int))).setCell ⟨w.heap.size, 1, none⟩ (.int .i64 (lp : Int))).setCell ⟨w.heap.size, 2, none⟩ (.int .i64 (pb : Int))).setCell ⟨w.heap.size, 3, none⟩ (.int .i64 4096) = w5 at *
          have k0 : w5.cell? ⟨w.heap.size, 0, none⟩ = some (.int .i64 (lc : Int)) := hk.cell 0
          have k1 : w5.cell? ⟨w.heap.size, 1, none⟩ = some (.int .i64 (lp : Int)) := hk.cell 1
          have k2 : w5.cell? ⟨w.heap.size, 2, none⟩ = some (.int .i64 (pb : Int)) := hk.cell 2
          have k3 : w5.cell? ⟨w.heap.size, 3, none⟩ = some (.int .i64 4096) := hk.cell 3
          refine bodyPost_ret (v := .tuple #[.agg #[.int .i64 (lc : Int), .int .i64 (lp : Int), .int .i64 (pb : Int), .int .i64 4096], .int .i64 0]) (by simp [results, Try.results16, go_sem, k0, k1, k2, k3]) rfl ⟨hb, .inr ⟨lc, lp, pb, 4096, by rw [HM.out], rfl⟩⟩
        · have g4 : ¬ (dc : Int) < 4096 := by omega
          have HE := Lib.hid (hend w2 (dc : Int) hk0 hb2)
          have hm : max 4096 dc = dc := by omega
          have HM := Lib.hid hm
          clear hend hk1 hk0 hb2 h4 hm HB HBK hw1s
          go_wp2_with fail
          obtain ⟨hk, hb⟩ := HE.out
          generalize (((w2.setCell ⟨w.heap.size, 0, none⟩ (.int .i64 (lc : Int))).setCell ⟨w.heap.size, 1, none⟩ (.int .i64 (lp : Int))).setCell ⟨w.heap.size, 2, none⟩ (.int .i64 (pb : Int))).setCell ⟨w.heap.size, 3, none⟩ (.int .i64 (dc : Int)) = w5 at *
          have k0 : w5.cell? ⟨w.heap.size, 0, none⟩ = some (.int .i64 (lc : Int)) := hk.cell 0
          have k1 : w5.cell? ⟨w.heap.size, 1, none⟩ = some (.int .i64 (lp : Int)) := hk.cell 1
          have k2 : w5.cell? ⟨w.heap.size, 2, none⟩ = some (.int .i64 (pb : Int)) := hk.cell 2
          have k3 : w5.cell? ⟨w.heap.size, 3, none⟩ = some (.int .i64 (dc : Int)) := hk.cell 3
          refine bodyPost_ret (v := .tuple #[.agg #[.int .i64 (lc : Int), .int .i64 (lp : Int), .int .i64 (pb : Int), .int .i64 (dc : Int)], .int .i64 0]) (by simp [results, Try.results16, go_sem, k0, k1, k2, k3]) rfl ⟨hb, .inr ⟨lc, lp, pb, dc, by rw [HM.out], rfl⟩⟩
      · rw [if_neg h225]
        have g : (a : Int) ≥ 225 := by omega
        clear h225 ha hbb hd he hf
        go_enter Try.func16, Try.ntmps16
        go_upto_region 1 with fail
        rw [← HW1.out]
        clear HW1
        go_wp2_with fail
        have hk2 := (((HBK.out.put 0 (.int .i64 0)).put 1 (.int .i64 0)).put 2 (.int .i64 0)).put 3 (.int .i64 0)
        have hb2 : Below w.heap.size w ((((w1.setCell ⟨w.heap.size, 0, none⟩ (.int .i64 0)).setCell ⟨w.heap.size, 1, none⟩ (.int .i64 0)).setCell ⟨w.heap.size, 2, none⟩ (.int .i64 0)).setCell ⟨w.heap.size, 3, none⟩ (.int .i64 0)) :=
          (((HB.out.setCell (Nat.le_refl _) _).setCell (Nat.le_refl _) _).setCell (Nat.le_refl _) _).setCell (Nat.le_refl _) _
        clear r0 r1 r2 r3 z0 z1 z2 z3 i0 i1 i2 i3 i4 j0 j1 j2 j3 j4
        generalize (((w1.setCell ⟨w.heap.size, 0, none⟩ (.int .i64 0)).setCell ⟨w.heap.size, 1, none⟩ (.int .i64 0)).setCell ⟨w.heap.size, 2, none⟩ (.int .i64 0)).setCell ⟨w.heap.size, 3, none⟩ (.int .i64 0) = w2 at *
        have k0 : w2.cell? ⟨w.heap.size, 0, none⟩ = some (.int .i64 0) := hk2.cell 0
        have k1 : w2.cell? ⟨w.heap.size, 1, none⟩ = some (.int .i64 0) := hk2.cell 1
        have k2 : w2.cell? ⟨w.heap.size, 2, none⟩ = some (.int .i64 0) := hk2.cell 2
        have k3 : w2.cell? ⟨w.heap.size, 3, none⟩ = some (.int .i64 0) := hk2.cell 3
        refine bodyPost_ret (v := .tuple #[.agg #[.int .i64 0, .int .i64 0, .int .i64 0, .int .i64 0], .int .i64 11]) (by simp [results, Try.results16, go_sem, k0, k1, k2, k3]) rfl ⟨hb2, .inl ⟨rfl, rfl⟩⟩
  · rw [parse_short (by omega)]
    have HB := Lib.hid hb
    have g : ((n : Int) != 5) = true := by simp; omega
    clear hb hn hS hl h5
    have hk2 : Blk (w.alloc (.cells #[.int .i64 0, .int .i64 0, .int .i64 0, .int .i64 0] 24)) w.heap.size 24 #[.int .i64 0, .int .i64 0, .int .i64 0, .int .i64 0] := Blk.fresh w _ _
    have HK := Lib.hid hk2
    clear hk2
    go_enter Try.func16, Try.ntmps16
    go_wp2_with fail
    have hk2 := HK.out
    have hb2 := HB.out
    clear HK HB
    generalize w.alloc (.cells #[.int .i64 0, .int .i64 0, .int .i64 0, .int .i64 0] 24) = w2 at *
    have k0 : w2.cell? ⟨w.heap.size, 0, none⟩ = some (.int .i64 0) := hk2.cell 0
    have k1 : w2.cell? ⟨w.heap.size, 1, none⟩ = some (.int .i64 0) := hk2.cell 1
    have k2 : w2.cell? ⟨w.heap.size, 2, none⟩ = some (.int .i64 0) := hk2.cell 2
    have k3 : w2.cell? ⟨w.heap.size, 3, none⟩ = some (.int .i64 0) := hk2.cell 3
    refine bodyPost_ret (v := .tuple #[.agg #[.int .i64 0, .int .i64 0, .int .i64 0, .int .i64 0], .int .i64 11]) (by simp [results, Try.results16, go_sem, k0, k1, k2, k3]) rfl ⟨hb2, .inl ⟨rfl, rfl⟩⟩

set_option maxRecDepth 100000 in
set_option maxHeartbeats 4000000 in
theorem zprops_any {lc lp pb dict : Nat} (h : SetOk lc lp pb dict) (w : World) :
    Calls Try.prog 22 #[.agg #[.int .i64 (lc : Int), .int .i64 (lp : Int), .int .i64 (pb : Int), .int .i64 (dict : Int)]] w fun x w' =>
      ∃ A c, x = .returned (.slice A 5 c) ∧ Sl w' A 5 (bv (propsOf lc lp pb dict)) ∧ Below w.heap.size w w' := by
  have hm := setOk_may h
  obtain ⟨h1, h2, h3, h4, h5⟩ := h
  obtain ⟨w1, hw1⟩ : ∃ w1, w1 = w.alloc (.cells #[.int .i64 (lc : Int), .int .i64 (lp : Int), .int .i64 (pb : Int), .int .i64 (dict : Int)] 24) := ⟨_, rfl⟩
  have hb1 : Below w.heap.size w w1 := by rw [hw1]; exact (Below.refl _ _).alloc (Nat.le_refl _) _
  have HBk : Blk w1 w.heap.size 24 #[.int .i64 (lc : Int), .int .i64 (lp : Int), .int .i64 (pb : Int), .int .i64 (dict : Int)] := by rw [hw1]; exact Blk.fresh w _ _
  have K := Lib.hid (may_any lc lp pb dict w1)
  rw [hm] at K
  have d0 : w1.cell? ⟨w.heap.size, 0, none⟩ = some (.int .i64 (lc : Int)) := HBk.cell 0
  have d1 : w1.cell? ⟨w.heap.size, 1, none⟩ = some (.int .i64 (lp : Int)) := HBk.cell 1
  have d2 : w1.cell? ⟨w.heap.size, 2, none⟩ = some (.int .i64 (pb : Int)) := HBk.cell 2
  have d3 : w1.cell? ⟨w.heap.size, 3, none⟩ = some (.int .i64 (dict : Int)) := HBk.cell 3
  obtain ⟨x0, hx0⟩ : ∃ x, x = 45 * pb + 9 * lp + lc := ⟨_, rfl⟩
  obtain ⟨x1, hx1⟩ : ∃ x, x = dict % 256 := ⟨_, rfl⟩
  obtain ⟨q2, hq2⟩ : ∃ x, x = dict / 256 := ⟨_, rfl⟩
  obtain ⟨x2, hx2⟩ : ∃ x, x = q2 % 256 := ⟨_, rfl⟩
  obtain ⟨q3, hq3⟩ : ∃ x, x = dict / 65536 := ⟨_, rfl⟩
  obtain ⟨x3, hx3⟩ : ∃ x, x = q3 % 256 := ⟨_, rfl⟩
  obtain ⟨x4, hx4⟩ : ∃ x, x = dict / 16777216 := ⟨_, rfl⟩
  have hpo : bv (propsOf lc lp pb dict) = [.int .u8 (x0 : Int), .int .u8 (x1 : Int), .int .u8 (x2 : Int), .int .u8 (x3 : Int), .int .u8 (x4 : Int)] := by
    have hs : ∀ x : Nat, x < 256 → (UInt8.ofNat x).toNat = x := fun x hx => by simp; omega
    unfold propsOf bv
    rw [← hq2, ← hq3, ← hx0, ← hx1, ← hx2, ← hx3, ← hx4]
    simp only [List.map_cons, List.map_nil]
    rw [hs x0 (by omega), hs x1 (by omega), hs x2 (by omega), hs x3 (by omega), hs x4 (by omega)]
  rw [hpo]
  have u1 : IntKind.i64.wrap (45 * (pb : Int)) = 45 * (pb : Int) := IntWalk.i64_in _ (by omega)
  have u2 : IntKind.i64.wrap (9 * (lp : Int)) = 9 * (lp : Int) := IntWalk.i64_in _ (by omega)
  have u3 : IntKind.i64.wrap (45 * (pb : Int) + 9 * (lp : Int)) = 45 * (pb : Int) + 9 * (lp : Int) := IntWalk.i64_in _ (by omega)
  have u4 : IntKind.i64.wrap (45 * (pb : Int) + 9 * (lp : Int) + (lc : Int)) = (x0 : Int) := by rw [show 45 * (pb : Int) + 9 * (lp : Int) + (lc : Int) = (x0 : Int) by omega]; exact IntWalk.i64_in _ (by omega)
  have v0 : IntKind.u8.wrap (x0 : Int) = (x0 : Int) := by simp [IntKind.wrap, IntKind.bits, IntKind.signed]; omega
  have v1 : IntKind.u8.wrap (x1 : Int) = (x1 : Int) := by simp [IntKind.wrap, IntKind.bits, IntKind.signed]; omega
  have v2 : IntKind.u8.wrap (x2 : Int) = (x2 : Int) := by simp [IntKind.wrap, IntKind.bits, IntKind.signed]; omega
  have v3 : IntKind.u8.wrap (x3 : Int) = (x3 : Int) := by simp [IntKind.wrap, IntKind.bits, IntKind.signed]; omega
  have v4 : IntKind.u8.wrap (x4 : Int) = (x4 : Int) := by simp [IntKind.wrap, IntKind.bits, IntKind.signed]; omega
  have t1 : (dict : Int).tmod 256 = (x1 : Int) := by rw [Int.tmod_eq_emod_of_nonneg (by omega)]; omega
  have t2 : (dict : Int) / 256 = (q2 : Int) := by omega
  have t2' : (dict : Int).tdiv 256 = (q2 : Int) := by rw [Int.tdiv_eq_ediv_of_nonneg (by omega)]; exact t2
  have t3 : (dict : Int) / 65536 = (q3 : Int) := by omega
  have t3' : (dict : Int).tdiv 65536 = (q3 : Int) := by rw [Int.tdiv_eq_ediv_of_nonneg (by omega)]; exact t3
  have t4 : (dict : Int) / 16777216 = (x4 : Int) := by omega
  have t4' : (dict : Int).tdiv 16777216 = (x4 : Int) := by rw [Int.tdiv_eq_ediv_of_nonneg (by omega)]; exact t4
  have t5 : (q2 : Int).tmod 256 = (x2 : Int) := by rw [Int.tmod_eq_emod_of_nonneg (by omega)]; omega
  have t6 : (q3 : Int).tmod 256 = (x3 : Int) := by rw [Int.tmod_eq_emod_of_nonneg (by omega)]; omega
  have y1 : IntKind.i64.wrap (x1 : Int) = (x1 : Int) := IntWalk.i64_in _ (by omega)
  have y2 : IntKind.i64.wrap (q2 : Int) = (q2 : Int) := IntWalk.i64_in _ (by omega)
  have y3 : IntKind.i64.wrap (q3 : Int) = (q3 : Int) := IntWalk.i64_in _ (by omega)
  have y4 : IntKind.i64.wrap (x4 : Int) = (x4 : Int) := IntWalk.i64_in _ (by omega)
  have y5 : IntKind.i64.wrap (x2 : Int) = (x2 : Int) := IntWalk.i64_in _ (by omega)
  have y6 : IntKind.i64.wrap (x3 : Int) = (x3 : Int) := IntWalk.i64_in _ (by omega)
  have HW1 := Lib.hid hw1
  have HB1 := Lib.hid hb1
  have HBK := Lib.hid HBk
  clear hw1 hb1 HBk hm h1 h2 h3 h4 h5 hx0 hx1 hq2 hx2 hq3 hx3 hx4 hpo
  go_enter Try.func22, Try.ntmps22
  go_upto_region 1 with fail
  rw [← HW1.out]
  clear HW1
  go_wp2_with fail
  refine K.out.mono ?_
  rintro e w2 ⟨rfl, hb2⟩
  have HB2 := Lib.hid (HB1.out.trans ⟨hb2.os, hb2.tape, hb2.output, hb2.size, fun i hi => hb2.block i (Nat.lt_of_lt_of_le hi HB1.out.size)⟩)
  have hk2 : Blk w2 w.heap.size 24 #[.int .i64 (lc : Int), .int .i64 (lp : Int), .int .i64 (pb : Int), .int .i64 (dict : Int)] := HBK.out.below hb2
  have o0 : w2.cell? ⟨w.heap.size, 0, none⟩ = some (.int .i64 (lc : Int)) := hk2.cell 0
  have o1 : w2.cell? ⟨w.heap.size, 1, none⟩ = some (.int .i64 (lp : Int)) := hk2.cell 1
  have o2 : w2.cell? ⟨w.heap.size, 2, none⟩ = some (.int .i64 (pb : Int)) := hk2.cell 2
  have o3 : w2.cell? ⟨w.heap.size, 3, none⟩ = some (.int .i64 (dict : Int)) := hk2.cell 3
  clear hb2 hk2 K d0 d1 d2 d3 HB1 HBK
  go_wp2_with fail
  go_ret
  exact ⟨_, _, rfl, sl_lit w2 _ _ (by simp), HB2.out.alloc HB2.out.size _⟩
end Go.Proofs.Ytjgdjobhhdhfjaa

/-
  A region that draws its order, walked by hand: the condition on the world may be strengthened on the way.
-/
namespace Go.Proofs.Ytjgdjobhhdhfjaa

section
variable {P : Program} {ops : Array Oper} {Q : Exit → Act → World → Prop} {md : Region.Mode} {S S' : World → Prop}
/-- What holds under the stronger condition holds under the weaker one: so a cell that turns within the region is named behind its turning. -/
theorem wpAnyH_strong (hSS : ∀ w, S' w → S w) : ∀ (fuel : Nat) (listed : Array Bool) (a : Act) (w : World), wpAnyH P md ops Q S' fuel listed a w → wpAnyH P md ops Q S fuel listed a w
  | 0, _, _, _, h => h
  | fuel + 1, _, _, _, h => ⟨h.1, fun i hi => wpOp_mono (fun _ _ h' => ⟨hSS _ h'.1, wpAnyH_strong hSS fuel _ _ _ h'.2⟩) (h.2 i hi)⟩
end
end Go.Proofs.Ytjgdjobhhdhfjaa
