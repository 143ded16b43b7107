/-
  CwCode, CwZero, CwReset, CwNew: put together.
-/
import Derived.Test.YtjgdjobhhdhfjaaGreatQa17
import Derived.Test.YtjgdjobhhdhfjaaGreatQa18
import Derived.Test.YtjgdjobhhdhfjaaGreatQa19
import Derived.Test.YtjgdjobhhdhfjaaGreatQa15
import Derived.Test.YtjgdjobhhdhfjaaGreatQa07
import Derived.Test.YtjgdjobhhdhfjaaGreatQa02
import Derived.BigQuiet
import Derived.Laws.MakeOwn
set_option linter.unusedVariables false
set_option linter.unusedSimpArgs false
/-
  The program's coder of LZMA: a packet is coded, if it fits.
-/
namespace Go.Proofs.YtjgdjobhhdhfjaaGreat
open Go.RowKit

/-- a packet, coded if it fits -/
def stepP (s : Lzs × Pm En) (p : Pk) : Lzs × Pm En := if fitsP s.1 p.kind p.dist p.len = true then (packP encM s.1 s.2 p).2 else s

section
variable {K : Koc} {w w' : World} {Ge Ge' : Option Nat} {A' : Option Addr} {c : Nat} {z : Lzs} {k : Nat} {t : Pm En}
/-- an object apart from the coder -/
def Box (K : Koc) (w : World) (G : Option Nat) (B : Nat) (cs : Array Value) : Prop := Blk w B 41 cs ∧ ¬ K.own G B
theorem Box.step {w1 : World} {G G1 : Option Nat} {B : Nat} {cs : Array Value} (h : Box K w G B cs) (hn : Nwr w G G1) (ho : Only (K.own G) w w1) : Box K w1 G1 B cs := by
  refine ⟨h.1.only ho h.2, ?_⟩
  have hlt := h.1.lt
  rintro (e | e | e | e)
  · exact h.2 (.inl e)
  · rcases hn B e with e2 | e2
    · exact h.2 (.inr (.inl e2))
    · omega
  · exact h.2 (.inr (.inr (.inl e)))
  · exact h.2 (.inr (.inr (.inr e)))
theorem Box.field {G : Option Nat} {B : Nat} {cs : Array Value} (h : Box K w G B cs) (i : Nat) (v : Value) : Box K (w.setCell ⟨K.g, i, none⟩ v) G B cs :=
  ⟨h.1.only ((Only.refl (fun j => j = K.g) w).setCell (p := ⟨K.g, i, none⟩) (.inl rfl) v) (fun e => h.2 (.inr (.inr (.inl e)))), h.2⟩
/-- a call that tells bytes, behind calls that told none -/
theorem CPut.behind {w1 : World} {G1 : Option Nat} {v : Value} {z2 : Lzs} {k2 : Nat} {t2 : Pm En} {e : Ending} {Gt : Option Nat} (hn : Nwr w Ge G1) (ho : Only (K.own Ge) w w1) (hp : CPut K w1 G1 Gt v z2 k2 t2 e w') : CPut K w Ge Gt v z2 k2 t2 e w' := by
  obtain ⟨rfl, G2, A2, c2, hz, hn2, hnt2, ho2⟩ := hp
  refine ⟨rfl, G2, A2, c2, hz, hn.trans hn2 ho.size, fun i hi => (hnt2 i hi).imp id (fun h => Nat.le_trans ho.size h), (ho.mono fun i hi => .inl hi).trans' ho2 fun i hi => ?_⟩
  rcases hi with (hi | hi | hi) | hi
  · exact .inl (.inl (.inl hi))
  · rcases hn i hi with e | e
    · exact .inl (.inl (.inr (.inl e)))
    · exact .inr e
  · exact .inl (.inl (.inr (.inr hi)))
  · exact .inl (.inr hi)

set_option maxRecDepth 100000 in
set_option maxHeartbeats 16000000 in
/-- A packet is coded, if it fits; whether it does. -/
theorem ccode_any {d N : Nat} {kd len : Int} {b : UInt8} (h : Cw K w Ge A' c z (k + 27) t) (hz : ZNear z (1847 + K.nl) N) (hN : N ≤ 899000) (hbad : z.bad = false) (hd : d < 4294967296) :
    Calls Tryz.prog 22 #[.pointer (some ⟨K.g, 0, none⟩), .agg #[.int .i64 kd, .int .u8 (b.toNat : Int), .int .i64 len, .int .u32 (d : Int)]] w (CPut K w Ge (tb A' z.out.length c) (.bool (fitsP z kd d len)) (stepP (z, t) ⟨kd, d, len, b⟩).1 k (stepP (z, t) ⟨kd, d, len, b⟩).2) := by
  obtain ⟨w1, hw1⟩ : ∃ w1, w1 = w.alloc (.cells #[.int .i64 kd, .int .u8 (b.toNat : Int), .int .i64 len, .int .u32 (d : Int)] 41) := ⟨_, rfl⟩
  have hO1 : Only (fun _ => False) w w1 := by rw [hw1]; exact (Only.refl _ _).alloc _
  have HBk : Blk w1 w.heap.size 41 #[.int .i64 kd, .int .u8 (b.toNat : Int), .int .i64 len, .int .u32 (d : Int)] := by rw [hw1]; exact Blk.fresh w _ _
  obtain ⟨old1, old2, old3, old4, old5⟩ := h.old
  have hbox : ¬ K.own Ge w.heap.size := by
    rintro (e | e | e | e)
    · omega
    · have := old4 _ e; omega
    · omega
    · omega
  have h1 := h.quiet hO1
  have KF := Lib.hid (cfits_any (d := d) (kd := kd) (len := len) (by_ := b) h1 hd ⟨hz.r0, hz.r1, hz.r2, hz.r3⟩)
  have o0 : w1.cell? ⟨w.heap.size, 0, none⟩ = some (.int .i64 kd) := HBk.cell 0
  have o1 : w1.cell? ⟨w.heap.size, 1, none⟩ = some (.int .u8 (b.toNat : Int)) := HBk.cell 1
  have o2 : w1.cell? ⟨w.heap.size, 2, none⟩ = some (.int .i64 len) := HBk.cell 2
  have o3 : w1.cell? ⟨w.heap.size, 3, none⟩ = some (.int .u32 (d : Int)) := HBk.cell 3
  have HW1 := Lib.hid hw1
  have HO1 := Lib.hid hO1
  have HZ1 := Lib.hid h1
  have HBX1 := Lib.hid (show Box K w1 Ge w.heap.size #[.int .i64 kd, .int .u8 (b.toNat : Int), .int .i64 len, .int .u32 (d : Int)] from ⟨HBk, hbox⟩)
  have hout : z.out.length ≤ 899000 := Nat.le_trans hz.out hN
  have HN := Lib.hid (And.intro hz (And.intro hN (And.intro hbad (And.intro hd hout))))
  unfold stepP
  dsimp only
  cases hf : fitsP z kd d len with
  | false =>
    rw [if_neg (by decide)]
    rw [hf] at KF
    have HZ0 := Lib.hid h
    clear hw1 hO1 HBk old1 old2 old3 old4 old5 hbox h1 h hz hN hbad hd hf hout HZ1 HBX1
    go_enter Tryz.func22, Tryz.ntmps22
    go_upto_region 1 with fail
    rw [← HW1.out]
    clear HW1
    go_wp2_with fail
    refine KF.out.mono ?_
    rintro e w2 ⟨rfl, hq⟩
    have HQ := Lib.hid (HO1.out.trans hq)
    clear hq KF
    go_wp2_with fail
    go_ret
    exact ⟨rfl, Ge, A', c, (HZ0.out.quiet HQ.out).less (by omega), Nwr.refl _ _, Nwr.refl _ _, HQ.out.mono fun _ h => h.elim⟩
  | true =>
    rw [if_pos rfl]
    rw [hf] at KF
    obtain ⟨p1, p2, p3, p4, p5, p6, p7, p8, p9, p10, p11⟩ := fits_may hf
    have hkok := (kindP_ok encM_ok (k := k + 22) (L := 1847 + K.nl) (s := z.out.length % 2 ^ z.pb) (st := z.st) (em := decide (z.out.length = 0)) (kd := kd) (t := t) h.mch.ok (by omega) (mod_pb hz.pb) hz.st (fun _ => p2)).2
    have hlen := hz.len
    clear hw1 hO1 HBk old1 old2 old3 old4 old5 hbox h1 h hf
    have hk : kd = 0 ∨ kd = 1 ∨ kd = 2 ∨ kd = 3 ∨ kd = 4 ∨ kd = 5 ∨ kd = 6 ∨ kd = 7 := by omega
    rcases hk with rfl | rfl | rfl | rfl | rfl | rfl | rfl | rfl
    · have KK := Lib.hid (fun (w2 : World) (h2 : Cw K w2 Ge A' c z (k + 27) t) => ckind_0 (k := k + 22) h2 HN.out.1.st HN.out.1.pb (by have := HN.out.2.2.2.2; omega) rfl)
      rw [packE_lit hbad]
      clear hz hN hbad hd hout hkok hlen p1 p2 p3 p4 p5 p6 p7 p8 p9 p10 p11
      go_enter Tryz.func22, Tryz.ntmps22
      go_upto_region 1 with fail
      rw [← HW1.out]
      clear HW1
      go_wp2_with fail
      refine KF.out.mono ?_
      rintro e w2 ⟨rfl, hq⟩
      have HO2 := Lib.hid (show Only (K.own Ge) w w2 from (HO1.out.trans hq).mono fun _ h => h.elim)
      have HBX2 := Lib.hid (HBX1.out.step (Nwr.refl _ _) (hq.mono fun _ h => h.elim))
      have KK := Lib.hid (KK.out w2 (HZ1.out.quiet hq))
      clear hq KF o0 o1 o2 o3 HBX1 HZ1 HO1
      have o0 : w2.cell? ⟨w.heap.size, 0, none⟩ = some (.int .i64 0) := HBX2.out.1.cell 0
      go_wp2_with fail
      refine KK.out.mono ?_
      rintro e w3 ⟨rfl, G3, hz3, hn3, ho3⟩
      have HZ3 := Lib.hid hz3
      have HN3 := Lib.hid (show Nwr w Ge G3 from fun i hi => (hn3 i hi).imp id (fun h => Nat.le_trans HO2.out.size h))
      have HO3 := Lib.hid (HO2.out.trans ho3)
      have HBX3 := Lib.hid (HBX2.out.step hn3 ho3)
      clear hz3 hn3 ho3 KK HBX2 HO2 o0
      have o0 : w3.cell? ⟨w.heap.size, 0, none⟩ = some (.int .i64 0) := HBX3.out.1.cell 0
      have o1 : w3.cell? ⟨w.heap.size, 1, none⟩ = some (.int .u8 (b.toNat : Int)) := HBX3.out.1.cell 1
      have o2 : w3.cell? ⟨w.heap.size, 2, none⟩ = some (.int .i64 len) := HBX3.out.1.cell 2
      have o3 : w3.cell? ⟨w.heap.size, 3, none⟩ = some (.int .u32 (d : Int)) := HBX3.out.1.cell 3
      have KT := Lib.hid (clit_any (k := k + 14) (b := b) (HZ3.out.less (by omega)) HN.out.1 (by have := HN.out.2.1; omega))
      go_wp2_with fail
      refine KT.out.mono ?_
      intro e w5 hp
      obtain ⟨rfl, G5, A5, c5, hz5, hn5, ht5, ho5⟩ := CPut.behind HN3.out HO3.out hp
      have HZ5 := Lib.hid hz5
      have HN5 := Lib.hid hn5
      have HT5 := Lib.hid ht5
      have HO5 := Lib.hid ho5
      clear hp hz5 hn5 ht5 ho5 KT
      go_wp2_with fail
      go_ret
      exact ⟨rfl, G5, A5, c5, HZ5.out.less (by omega), HN5.out, HT5.out, HO5.out⟩
    · have KK := Lib.hid (fun (w2 : World) (h2 : Cw K w2 Ge A' c z (k + 27) t) => ckind_1 (k := k + 22) h2 HN.out.1.st HN.out.1.pb (by have := HN.out.2.2.2.2; omega) rfl)
      obtain ⟨n, rfl⟩ : ∃ n : Nat, len = n := ⟨len.toNat, by have := (p5 ⟨by decide, by decide⟩).1; omega⟩
      have hn2 : 2 ≤ n ∧ n ≤ 273 := by have := p5 ⟨by decide, by decide⟩; omega
      have hlk := (lenP_ok encM_ok (k := k + 12) (a := 819) (s := z.out.length % 2 ^ z.pb) (v := ((n - 2 : Nat) : Int)) hkok (by omega) (mod_pb hz.pb) (fun _ => by omega)).2
      rw [packE_match hbad p1 hn2.1 hn2.2 (p6 rfl) hz.dict ⟨k, _, by omega, hlk⟩]
      have HN2 := Lib.hid hn2
      clear hn2 hlk
      clear hz hN hbad hd hout hkok hlen p1 p2 p3 p4 p5 p6 p7 p8 p9 p10 p11
      go_enter Tryz.func22, Tryz.ntmps22
      go_upto_region 1 with fail
      rw [← HW1.out]
      clear HW1
      go_wp2_with fail
      refine KF.out.mono ?_
      rintro e w2 ⟨rfl, hq⟩
      have HO2 := Lib.hid (show Only (K.own Ge) w w2 from (HO1.out.trans hq).mono fun _ h => h.elim)
      have HBX2 := Lib.hid (HBX1.out.step (Nwr.refl _ _) (hq.mono fun _ h => h.elim))
      have KK := Lib.hid (KK.out w2 (HZ1.out.quiet hq))
      clear hq KF o0 o1 o2 o3 HBX1 HZ1 HO1
      have o0 : w2.cell? ⟨w.heap.size, 0, none⟩ = some (.int .i64 1) := HBX2.out.1.cell 0
      go_wp2_with fail
      refine KK.out.mono ?_
      rintro e w3 ⟨rfl, G3, hz3, hn3, ho3⟩
      have HZ3 := Lib.hid hz3
      have HN3 := Lib.hid (show Nwr w Ge G3 from fun i hi => (hn3 i hi).imp id (fun h => Nat.le_trans HO2.out.size h))
      have HO3 := Lib.hid (HO2.out.trans ho3)
      have HBX3 := Lib.hid (HBX2.out.step hn3 ho3)
      clear hz3 hn3 ho3 KK HBX2 HO2 o0
      have o0 : w3.cell? ⟨w.heap.size, 0, none⟩ = some (.int .i64 1) := HBX3.out.1.cell 0
      have o1 : w3.cell? ⟨w.heap.size, 1, none⟩ = some (.int .u8 (b.toNat : Int)) := HBX3.out.1.cell 1
      have o2 : w3.cell? ⟨w.heap.size, 2, none⟩ = some (.int .i64 (n : Int)) := HBX3.out.1.cell 2
      have o3 : w3.cell? ⟨w.heap.size, 3, none⟩ = some (.int .u32 (d : Int)) := HBX3.out.1.cell 3
      have KM := Lib.hid (cmatch_any (k := k) (n := n) (d := d) HZ3.out HN.out.1.pb (by have := HN.out.2.2.2.2; omega) rfl HN2.out.1 HN2.out.2 HN.out.2.2.2.1)
      go_wp2_with fail
      refine KM.out.mono ?_
      rintro e w4 ⟨rfl, G4, hz4, hn4, ho4⟩
      have HZ4 := Lib.hid hz4
      have HN4 := Lib.hid (HN3.out.trans hn4 HO3.out.size)
      have HO4 := Lib.hid (cset_trans HO3.out HN3.out ho4)
      have HBX4 := Lib.hid (HBX3.out.step hn4 ho4)
      clear hz4 hn4 ho4 KM HBX3 HZ3 HN3 HO3 o0 o1 o2 o3
      have o2 : w4.cell? ⟨w.heap.size, 2, none⟩ = some (.int .i64 (n : Int)) := HBX4.out.1.cell 2
      have KT := Lib.hid (ccopies_any (n := n) HZ4.out (by have := HN2.out; omega) (by have := HN.out.2.2.2.2; show z.out.length ≤ _; omega) HN.out.2.2.2.1)
      go_wp2_with fail
      refine KT.out.mono ?_
      intro e w5 hp
      obtain ⟨rfl, G5, A5, c5, hz5, hn5, ht5, ho5⟩ := CPut.behind HN4.out HO4.out hp
      have HZ5 := Lib.hid hz5
      have HN5 := Lib.hid hn5
      have HT5 := Lib.hid ht5
      have HO5 := Lib.hid ho5
      clear hp hz5 hn5 ht5 ho5 KT
      go_wp2_with fail
      go_ret
      exact ⟨rfl, G5, A5, c5, HZ5.out.less (by omega), HN5.out, HT5.out, HO5.out⟩
    · have hne : z.out.length ≠ 0 := by have := (of_decide_eq_true (p7 rfl)).1; omega
      obtain ⟨n, rfl⟩ : ∃ n : Nat, len = n := ⟨len.toNat, by have := (p5 ⟨by decide, by decide⟩).1; omega⟩
      have hn2 : 2 ≤ n ∧ n ≤ 273 := by have := p5 ⟨by decide, by decide⟩; omega
      have hpk : (packP encM z t ⟨2, d, n, b⟩).2 = (copyN n { z.again 0 with st := aft 8 11 z.st }, (lenP encM (kdE z t 2) 1333 (z.out.length % 2 ^ z.pb) ((n - 2 : Nat) : Int)).2) := packE_again (j := 0) hbad p1 (by decide) hn2.1 hn2.2 (p7 rfl)
      rw [hpk]
      have KK := Lib.hid (fun (w2 : World) (h2 : Cw K w2 Ge A' c z (k + 27) t) => ckind_2 (k := k + 22) h2 HN.out.1.st HN.out.1.pb (by have := HN.out.2.2.2.2; omega) hne rfl)
      have HN2 := Lib.hid hn2
      clear hn2 hpk hne
      clear hz hN hbad hd hout hkok hlen p1 p2 p3 p4 p5 p6 p7 p8 p9 p10 p11
      go_enter Tryz.func22, Tryz.ntmps22
      go_upto_region 1 with fail
      rw [← HW1.out]
      clear HW1
      go_wp2_with fail
      refine KF.out.mono ?_
      rintro e w2 ⟨rfl, hq⟩
      have HO2 := Lib.hid (show Only (K.own Ge) w w2 from (HO1.out.trans hq).mono fun _ h => h.elim)
      have HBX2 := Lib.hid (HBX1.out.step (Nwr.refl _ _) (hq.mono fun _ h => h.elim))
      have KK := Lib.hid (KK.out w2 (HZ1.out.quiet hq))
      clear hq KF o0 o1 o2 o3 HBX1 HZ1 HO1
      have o0 : w2.cell? ⟨w.heap.size, 0, none⟩ = some (.int .i64 2) := HBX2.out.1.cell 0
      go_wp2_with fail
      refine KK.out.mono ?_
      rintro e w3 ⟨rfl, G3, hz3, hn3, ho3⟩
      have HZ3 := Lib.hid hz3
      have HN3 := Lib.hid (show Nwr w Ge G3 from fun i hi => (hn3 i hi).imp id (fun h => Nat.le_trans HO2.out.size h))
      have HO3 := Lib.hid (HO2.out.trans ho3)
      have HBX3 := Lib.hid (HBX2.out.step hn3 ho3)
      clear hz3 hn3 ho3 KK HBX2 HO2 o0
      have o0 : w3.cell? ⟨w.heap.size, 0, none⟩ = some (.int .i64 2) := HBX3.out.1.cell 0
      have o1 : w3.cell? ⟨w.heap.size, 1, none⟩ = some (.int .u8 (b.toNat : Int)) := HBX3.out.1.cell 1
      have o2 : w3.cell? ⟨w.heap.size, 2, none⟩ = some (.int .i64 (n : Int)) := HBX3.out.1.cell 2
      have o3 : w3.cell? ⟨w.heap.size, 3, none⟩ = some (.int .u32 (d : Int)) := HBX3.out.1.cell 3
      have KM := Lib.hid (show Calls Tryz.prog 50 #[.pointer (some ⟨K.g, 0, none⟩), .int .i64 0, .int .i64 (n : Int)] w3 (CMid K w3 G3 (.tuple #[]) A' c { z.again 0 with st := aft 8 11 z.st } (k + 12) (lenP encM (kdE z t 2) 1333 (z.out.length % 2 ^ z.pb) ((n - 2 : Nat) : Int)).2) from cagain_any (k := k + 12) (n := n) (j := 0) HZ3.out HN.out.1.pb (by have := HN.out.2.2.2.2; omega) rfl HN2.out.1 HN2.out.2 (by decide))
      go_wp2_with fail
      refine KM.out.mono ?_
      rintro e w4 ⟨rfl, G4, hz4, hn4, ho4⟩
      have HZ4 := Lib.hid hz4
      have HN4 := Lib.hid (HN3.out.trans hn4 HO3.out.size)
      have HO4 := Lib.hid (cset_trans HO3.out HN3.out ho4)
      have HBX4 := Lib.hid (HBX3.out.step hn4 ho4)
      clear hz4 hn4 ho4 KM HBX3 HZ3 HN3 HO3 o0 o1 o2 o3
      have o2 : w4.cell? ⟨w.heap.size, 2, none⟩ = some (.int .i64 (n : Int)) := HBX4.out.1.cell 2
      have KT := Lib.hid (ccopies_any (n := n) HZ4.out (by have := HN2.out; omega) (by have := HN.out.2.2.2.2; show z.out.length ≤ _; omega) HN.out.1.r0)
      go_wp2_with fail
      refine KT.out.mono ?_
      intro e w5 hp
      obtain ⟨rfl, G5, A5, c5, hz5, hn5, ht5, ho5⟩ := CPut.behind HN4.out HO4.out hp
      have HZ5 := Lib.hid hz5
      have HN5 := Lib.hid hn5
      have HT5 := Lib.hid ht5
      have HO5 := Lib.hid ho5
      clear hp hz5 hn5 ht5 ho5 KT
      go_wp2_with fail
      go_ret
      exact ⟨rfl, G5, A5, c5, HZ5.out.less (by omega), HN5.out, HT5.out, HO5.out⟩
    · have hne : z.out.length ≠ 0 := by have := (of_decide_eq_true (p8 rfl)).1; omega
      obtain ⟨n, rfl⟩ : ∃ n : Nat, len = n := ⟨len.toNat, by have := (p5 ⟨by decide, by decide⟩).1; omega⟩
      have hn2 : 2 ≤ n ∧ n ≤ 273 := by have := p5 ⟨by decide, by decide⟩; omega
      have hpk : (packP encM z t ⟨3, d, n, b⟩).2 = (copyN n { z.again 1 with st := aft 8 11 z.st }, (lenP encM (kdE z t 3) 1333 (z.out.length % 2 ^ z.pb) ((n - 2 : Nat) : Int)).2) := packE_again (j := 1) hbad p1 (by decide) hn2.1 hn2.2 (p8 rfl)
      rw [hpk]
      have KK := Lib.hid (fun (w2 : World) (h2 : Cw K w2 Ge A' c z (k + 27) t) => ckind_3 (k := k + 22) h2 HN.out.1.st HN.out.1.pb (by have := HN.out.2.2.2.2; omega) hne rfl)
      have HN2 := Lib.hid hn2
      clear hn2 hpk hne
      clear hz hN hbad hd hout hkok hlen p1 p2 p3 p4 p5 p6 p7 p8 p9 p10 p11
      go_enter Tryz.func22, Tryz.ntmps22
      go_upto_region 1 with fail
      rw [← HW1.out]
      clear HW1
      go_wp2_with fail
      refine KF.out.mono ?_
      rintro e w2 ⟨rfl, hq⟩
      have HO2 := Lib.hid (show Only (K.own Ge) w w2 from (HO1.out.trans hq).mono fun _ h => h.elim)
      have HBX2 := Lib.hid (HBX1.out.step (Nwr.refl _ _) (hq.mono fun _ h => h.elim))
      have KK := Lib.hid (KK.out w2 (HZ1.out.quiet hq))
      clear hq KF o0 o1 o2 o3 HBX1 HZ1 HO1
      have o0 : w2.cell? ⟨w.heap.size, 0, none⟩ = some (.int .i64 3) := HBX2.out.1.cell 0
      go_wp2_with fail
      refine KK.out.mono ?_
      rintro e w3 ⟨rfl, G3, hz3, hn3, ho3⟩
      have HZ3 := Lib.hid hz3
      have HN3 := Lib.hid (show Nwr w Ge G3 from fun i hi => (hn3 i hi).imp id (fun h => Nat.le_trans HO2.out.size h))
      have HO3 := Lib.hid (HO2.out.trans ho3)
      have HBX3 := Lib.hid (HBX2.out.step hn3 ho3)
      clear hz3 hn3 ho3 KK HBX2 HO2 o0
      have o0 : w3.cell? ⟨w.heap.size, 0, none⟩ = some (.int .i64 3) := HBX3.out.1.cell 0
      have o1 : w3.cell? ⟨w.heap.size, 1, none⟩ = some (.int .u8 (b.toNat : Int)) := HBX3.out.1.cell 1
      have o2 : w3.cell? ⟨w.heap.size, 2, none⟩ = some (.int .i64 (n : Int)) := HBX3.out.1.cell 2
      have o3 : w3.cell? ⟨w.heap.size, 3, none⟩ = some (.int .u32 (d : Int)) := HBX3.out.1.cell 3
      have KM := Lib.hid (show Calls Tryz.prog 50 #[.pointer (some ⟨K.g, 0, none⟩), .int .i64 1, .int .i64 (n : Int)] w3 (CMid K w3 G3 (.tuple #[]) A' c { z.again 1 with st := aft 8 11 z.st } (k + 12) (lenP encM (kdE z t 3) 1333 (z.out.length % 2 ^ z.pb) ((n - 2 : Nat) : Int)).2) from cagain_any (k := k + 12) (n := n) (j := 1) HZ3.out HN.out.1.pb (by have := HN.out.2.2.2.2; omega) rfl HN2.out.1 HN2.out.2 (by decide))
      go_wp2_with fail
      refine KM.out.mono ?_
      rintro e w4 ⟨rfl, G4, hz4, hn4, ho4⟩
      have HZ4 := Lib.hid hz4
      have HN4 := Lib.hid (HN3.out.trans hn4 HO3.out.size)
      have HO4 := Lib.hid (cset_trans HO3.out HN3.out ho4)
      have HBX4 := Lib.hid (HBX3.out.step hn4 ho4)
      clear hz4 hn4 ho4 KM HBX3 HZ3 HN3 HO3 o0 o1 o2 o3
      have o2 : w4.cell? ⟨w.heap.size, 2, none⟩ = some (.int .i64 (n : Int)) := HBX4.out.1.cell 2
      have KT := Lib.hid (ccopies_any (n := n) HZ4.out (by have := HN2.out; omega) (by have := HN.out.2.2.2.2; show z.out.length ≤ _; omega) HN.out.1.r1)
      go_wp2_with fail
      refine KT.out.mono ?_
      intro e w5 hp
      obtain ⟨rfl, G5, A5, c5, hz5, hn5, ht5, ho5⟩ := CPut.behind HN4.out HO4.out hp
      have HZ5 := Lib.hid hz5
      have HN5 := Lib.hid hn5
      have HT5 := Lib.hid ht5
      have HO5 := Lib.hid ho5
      clear hp hz5 hn5 ht5 ho5 KT
      go_wp2_with fail
      go_ret
      exact ⟨rfl, G5, A5, c5, HZ5.out.less (by omega), HN5.out, HT5.out, HO5.out⟩
    · have hne : z.out.length ≠ 0 := by have := (of_decide_eq_true (p9 rfl)).1; omega
      obtain ⟨n, rfl⟩ : ∃ n : Nat, len = n := ⟨len.toNat, by have := (p5 ⟨by decide, by decide⟩).1; omega⟩
      have hn2 : 2 ≤ n ∧ n ≤ 273 := by have := p5 ⟨by decide, by decide⟩; omega
      have hpk : (packP encM z t ⟨4, d, n, b⟩).2 = (copyN n { z.again 2 with st := aft 8 11 z.st }, (lenP encM (kdE z t 4) 1333 (z.out.length % 2 ^ z.pb) ((n - 2 : Nat) : Int)).2) := packE_again (j := 2) hbad p1 (by decide) hn2.1 hn2.2 (p9 rfl)
      rw [hpk]
      have KK := Lib.hid (fun (w2 : World) (h2 : Cw K w2 Ge A' c z (k + 27) t) => ckind_4 (k := k + 22) h2 HN.out.1.st HN.out.1.pb (by have := HN.out.2.2.2.2; omega) hne rfl)
      have HN2 := Lib.hid hn2
      clear hn2 hpk hne
      clear hz hN hbad hd hout hkok hlen p1 p2 p3 p4 p5 p6 p7 p8 p9 p10 p11
      go_enter Tryz.func22, Tryz.ntmps22
      go_upto_region 1 with fail
      rw [← HW1.out]
      clear HW1
      go_wp2_with fail
      refine KF.out.mono ?_
      rintro e w2 ⟨rfl, hq⟩
      have HO2 := Lib.hid (show Only (K.own Ge) w w2 from (HO1.out.trans hq).mono fun _ h => h.elim)
      have HBX2 := Lib.hid (HBX1.out.step (Nwr.refl _ _) (hq.mono fun _ h => h.elim))
      have KK := Lib.hid (KK.out w2 (HZ1.out.quiet hq))
      clear hq KF o0 o1 o2 o3 HBX1 HZ1 HO1
      have o0 : w2.cell? ⟨w.heap.size, 0, none⟩ = some (.int .i64 4) := HBX2.out.1.cell 0
      go_wp2_with fail
      refine KK.out.mono ?_
      rintro e w3 ⟨rfl, G3, hz3, hn3, ho3⟩
      have HZ3 := Lib.hid hz3
      have HN3 := Lib.hid (show Nwr w Ge G3 from fun i hi => (hn3 i hi).imp id (fun h => Nat.le_trans HO2.out.size h))
      have HO3 := Lib.hid (HO2.out.trans ho3)
      have HBX3 := Lib.hid (HBX2.out.step hn3 ho3)
      clear hz3 hn3 ho3 KK HBX2 HO2 o0
      have o0 : w3.cell? ⟨w.heap.size, 0, none⟩ = some (.int .i64 4) := HBX3.out.1.cell 0
      have o1 : w3.cell? ⟨w.heap.size, 1, none⟩ = some (.int .u8 (b.toNat : Int)) := HBX3.out.1.cell 1
      have o2 : w3.cell? ⟨w.heap.size, 2, none⟩ = some (.int .i64 (n : Int)) := HBX3.out.1.cell 2
      have o3 : w3.cell? ⟨w.heap.size, 3, none⟩ = some (.int .u32 (d : Int)) := HBX3.out.1.cell 3
      have KM := Lib.hid (show Calls Tryz.prog 50 #[.pointer (some ⟨K.g, 0, none⟩), .int .i64 2, .int .i64 (n : Int)] w3 (CMid K w3 G3 (.tuple #[]) A' c { z.again 2 with st := aft 8 11 z.st } (k + 12) (lenP encM (kdE z t 4) 1333 (z.out.length % 2 ^ z.pb) ((n - 2 : Nat) : Int)).2) from cagain_any (k := k + 12) (n := n) (j := 2) HZ3.out HN.out.1.pb (by have := HN.out.2.2.2.2; omega) rfl HN2.out.1 HN2.out.2 (by decide))
      go_wp2_with fail
      refine KM.out.mono ?_
      rintro e w4 ⟨rfl, G4, hz4, hn4, ho4⟩
      have HZ4 := Lib.hid hz4
      have HN4 := Lib.hid (HN3.out.trans hn4 HO3.out.size)
      have HO4 := Lib.hid (cset_trans HO3.out HN3.out ho4)
      have HBX4 := Lib.hid (HBX3.out.step hn4 ho4)
      clear hz4 hn4 ho4 KM HBX3 HZ3 HN3 HO3 o0 o1 o2 o3
      have o2 : w4.cell? ⟨w.heap.size, 2, none⟩ = some (.int .i64 (n : Int)) := HBX4.out.1.cell 2
      have KT := Lib.hid (ccopies_any (n := n) HZ4.out (by have := HN2.out; omega) (by have := HN.out.2.2.2.2; show z.out.length ≤ _; omega) HN.out.1.r2)
      go_wp2_with fail
      refine KT.out.mono ?_
      intro e w5 hp
      obtain ⟨rfl, G5, A5, c5, hz5, hn5, ht5, ho5⟩ := CPut.behind HN4.out HO4.out hp
      have HZ5 := Lib.hid hz5
      have HN5 := Lib.hid hn5
      have HT5 := Lib.hid ht5
      have HO5 := Lib.hid ho5
      clear hp hz5 hn5 ht5 ho5 KT
      go_wp2_with fail
      go_ret
      exact ⟨rfl, G5, A5, c5, HZ5.out.less (by omega), HN5.out, HT5.out, HO5.out⟩
    · have hne : z.out.length ≠ 0 := by have := (of_decide_eq_true (p10 rfl)).1; omega
      obtain ⟨n, rfl⟩ : ∃ n : Nat, len = n := ⟨len.toNat, by have := (p5 ⟨by decide, by decide⟩).1; omega⟩
      have hn2 : 2 ≤ n ∧ n ≤ 273 := by have := p5 ⟨by decide, by decide⟩; omega
      have hpk : (packP encM z t ⟨5, d, n, b⟩).2 = (copyN n { z.again 3 with st := aft 8 11 z.st }, (lenP encM (kdE z t 5) 1333 (z.out.length % 2 ^ z.pb) ((n - 2 : Nat) : Int)).2) := packE_again (j := 3) hbad p1 (by decide) hn2.1 hn2.2 (p10 rfl)
      rw [hpk]
      have KK := Lib.hid (fun (w2 : World) (h2 : Cw K w2 Ge A' c z (k + 27) t) => ckind_5 (k := k + 22) h2 HN.out.1.st HN.out.1.pb (by have := HN.out.2.2.2.2; omega) hne rfl)
      have HN2 := Lib.hid hn2
      clear hn2 hpk hne
      clear hz hN hbad hd hout hkok hlen p1 p2 p3 p4 p5 p6 p7 p8 p9 p10 p11
      go_enter Tryz.func22, Tryz.ntmps22
      go_upto_region 1 with fail
      rw [← HW1.out]
      clear HW1
      go_wp2_with fail
      refine KF.out.mono ?_
      rintro e w2 ⟨rfl, hq⟩
      have HO2 := Lib.hid (show Only (K.own Ge) w w2 from (HO1.out.trans hq).mono fun _ h => h.elim)
      have HBX2 := Lib.hid (HBX1.out.step (Nwr.refl _ _) (hq.mono fun _ h => h.elim))
      have KK := Lib.hid (KK.out w2 (HZ1.out.quiet hq))
      clear hq KF o0 o1 o2 o3 HBX1 HZ1 HO1
      have o0 : w2.cell? ⟨w.heap.size, 0, none⟩ = some (.int .i64 5) := HBX2.out.1.cell 0
      go_wp2_with fail
      refine KK.out.mono ?_
      rintro e w3 ⟨rfl, G3, hz3, hn3, ho3⟩
      have HZ3 := Lib.hid hz3
      have HN3 := Lib.hid (show Nwr w Ge G3 from fun i hi => (hn3 i hi).imp id (fun h => Nat.le_trans HO2.out.size h))
      have HO3 := Lib.hid (HO2.out.trans ho3)
      have HBX3 := Lib.hid (HBX2.out.step hn3 ho3)
      clear hz3 hn3 ho3 KK HBX2 HO2 o0
      have o0 : w3.cell? ⟨w.heap.size, 0, none⟩ = some (.int .i64 5) := HBX3.out.1.cell 0
      have o1 : w3.cell? ⟨w.heap.size, 1, none⟩ = some (.int .u8 (b.toNat : Int)) := HBX3.out.1.cell 1
      have o2 : w3.cell? ⟨w.heap.size, 2, none⟩ = some (.int .i64 (n : Int)) := HBX3.out.1.cell 2
      have o3 : w3.cell? ⟨w.heap.size, 3, none⟩ = some (.int .u32 (d : Int)) := HBX3.out.1.cell 3
      have KM := Lib.hid (show Calls Tryz.prog 50 #[.pointer (some ⟨K.g, 0, none⟩), .int .i64 3, .int .i64 (n : Int)] w3 (CMid K w3 G3 (.tuple #[]) A' c { z.again 3 with st := aft 8 11 z.st } (k + 12) (lenP encM (kdE z t 5) 1333 (z.out.length % 2 ^ z.pb) ((n - 2 : Nat) : Int)).2) from cagain_any (k := k + 12) (n := n) (j := 3) HZ3.out HN.out.1.pb (by have := HN.out.2.2.2.2; omega) rfl HN2.out.1 HN2.out.2 (by decide))
      go_wp2_with fail
      refine KM.out.mono ?_
      rintro e w4 ⟨rfl, G4, hz4, hn4, ho4⟩
      have HZ4 := Lib.hid hz4
      have HN4 := Lib.hid (HN3.out.trans hn4 HO3.out.size)
      have HO4 := Lib.hid (cset_trans HO3.out HN3.out ho4)
      have HBX4 := Lib.hid (HBX3.out.step hn4 ho4)
      clear hz4 hn4 ho4 KM HBX3 HZ3 HN3 HO3 o0 o1 o2 o3
      have o2 : w4.cell? ⟨w.heap.size, 2, none⟩ = some (.int .i64 (n : Int)) := HBX4.out.1.cell 2
      have KT := Lib.hid (ccopies_any (n := n) HZ4.out (by have := HN2.out; omega) (by have := HN.out.2.2.2.2; show z.out.length ≤ _; omega) HN.out.1.r3)
      go_wp2_with fail
      refine KT.out.mono ?_
      intro e w5 hp
      obtain ⟨rfl, G5, A5, c5, hz5, hn5, ht5, ho5⟩ := CPut.behind HN4.out HO4.out hp
      have HZ5 := Lib.hid hz5
      have HN5 := Lib.hid hn5
      have HT5 := Lib.hid ht5
      have HO5 := Lib.hid ho5
      clear hp hz5 hn5 ht5 ho5 KT
      go_wp2_with fail
      go_ret
      exact ⟨rfl, G5, A5, c5, HZ5.out.less (by omega), HN5.out, HT5.out, HO5.out⟩
    · have hne : z.out.length ≠ 0 := by have := (of_decide_eq_true (p11 rfl)).1; omega
      rw [packE_single hbad p1 (p11 rfl)]
      have KK := Lib.hid (fun (w2 : World) (h2 : Cw K w2 Ge A' c z (k + 27) t) => ckind_6 (k := k + 22) h2 HN.out.1.st HN.out.1.pb (by have := HN.out.2.2.2.2; omega) hne rfl)
      clear hne
      clear hz hN hbad hd hout hkok hlen p1 p2 p3 p4 p5 p6 p7 p8 p9 p10 p11
      go_enter Tryz.func22, Tryz.ntmps22
      go_upto_region 1 with fail
      rw [← HW1.out]
      clear HW1
      go_wp2_with fail
      refine KF.out.mono ?_
      rintro e w2 ⟨rfl, hq⟩
      have HO2 := Lib.hid (show Only (K.own Ge) w w2 from (HO1.out.trans hq).mono fun _ h => h.elim)
      have HBX2 := Lib.hid (HBX1.out.step (Nwr.refl _ _) (hq.mono fun _ h => h.elim))
      have KK := Lib.hid (KK.out w2 (HZ1.out.quiet hq))
      clear hq KF o0 o1 o2 o3 HBX1 HZ1 HO1
      have o0 : w2.cell? ⟨w.heap.size, 0, none⟩ = some (.int .i64 6) := HBX2.out.1.cell 0
      go_wp2_with fail
      refine KK.out.mono ?_
      rintro e w3 ⟨rfl, G3, hz3, hn3, ho3⟩
      have HZ3 := Lib.hid hz3
      have HN3 := Lib.hid (show Nwr w Ge G3 from fun i hi => (hn3 i hi).imp id (fun h => Nat.le_trans HO2.out.size h))
      have HO3 := Lib.hid (HO2.out.trans ho3)
      have HBX3 := Lib.hid (HBX2.out.step hn3 ho3)
      clear hz3 hn3 ho3 KK HBX2 HO2 o0
      have o0 : w3.cell? ⟨w.heap.size, 0, none⟩ = some (.int .i64 6) := HBX3.out.1.cell 0
      have c6 := HZ3.out.f.c6
      have f6 := HZ3.out.f.fz 6
      have KS := Lib.hid (psing_any z.st w3)
      have HZ4 : Hid (Cw K (w3.setCell ⟨K.g, 6, none⟩ (.int .i64 ((aft 9 11 z.st : Nat) : Int))) G3 A' c { z with st := aft 9 11 z.st } (k + 22) (kdE z t 6)) := Lib.hid (HZ3.out.put 6 (by decide) (.int .i64 ((aft 9 11 z.st : Nat) : Int)) (z' := { z with st := aft 9 11 z.st }) rfl rfl)
      have HN4 := HN3
      have HO4 : Hid (Only (K.own Ge) w (w3.setCell ⟨K.g, 6, none⟩ (.int .i64 ((aft 9 11 z.st : Nat) : Int)))) := Lib.hid (HO3.out.cwn_put 6 _)
      clear HZ3 HN3 HO3 HBX3
      go_wp2_with fail
      refine KS.out.mono ?_
      rintro e w4' ⟨rfl, rfl⟩
      clear KS o0
      go_upto_region 17 with fail
      generalize w3.setCell ⟨K.g, 6, none⟩ (.int .i64 ((aft 9 11 z.st : Nat) : Int)) = w4 at *
      clear c6 f6
      have KT := Lib.hid (show Calls Tryz.prog 48 #[.pointer (some ⟨K.g, 0, none⟩), .int .i64 1] w4 (CPut K w4 G3 (tb A' z.out.length c) (.tuple #[]) (copyN 1 { z with st := aft 9 11 z.st }) (k + 22) (kdE z t 6)) from ccopies_any (n := 1) HZ4.out (by decide) (by have := HN.out.2.2.2.2; show z.out.length ≤ _; omega) HN.out.1.r0)
      go_wp2_with fail
      refine KT.out.mono ?_
      intro e w5 hp
      obtain ⟨rfl, G5, A5, c5, hz5, hn5, ht5, ho5⟩ := CPut.behind HN4.out HO4.out hp
      have HZ5 := Lib.hid hz5
      have HN5 := Lib.hid hn5
      have HT5 := Lib.hid ht5
      have HO5 := Lib.hid ho5
      clear hp hz5 hn5 ht5 ho5 KT
      go_wp2_with fail
      go_ret
      exact ⟨rfl, G5, A5, c5, HZ5.out.less (by omega), HN5.out, HT5.out, HO5.out⟩
    · have KK := Lib.hid (fun (w2 : World) (h2 : Cw K w2 Ge A' c z (k + 27) t) => ckind_7 (k := k + 22) h2 HN.out.1.st HN.out.1.pb (by have := HN.out.2.2.2.2; omega) rfl)
      have hlk := (lenP_ok encM_ok (k := k + 12) (a := 819) (s := z.out.length % 2 ^ z.pb) (v := 0) hkok (by omega) (mod_pb hz.pb) (fun _ => by decide)).2
      rw [packE_end hbad ⟨k, _, by omega, hlk⟩]
      clear hlk
      clear hz hN hbad hd hout hkok hlen p1 p2 p3 p4 p5 p6 p7 p8 p9 p10 p11
      go_enter Tryz.func22, Tryz.ntmps22
      go_upto_region 1 with fail
      rw [← HW1.out]
      clear HW1
      go_wp2_with fail
      refine KF.out.mono ?_
      rintro e w2 ⟨rfl, hq⟩
      have HO2 := Lib.hid (show Only (K.own Ge) w w2 from (HO1.out.trans hq).mono fun _ h => h.elim)
      have HBX2 := Lib.hid (HBX1.out.step (Nwr.refl _ _) (hq.mono fun _ h => h.elim))
      have KK := Lib.hid (KK.out w2 (HZ1.out.quiet hq))
      clear hq KF o0 o1 o2 o3 HBX1 HZ1 HO1
      have o0 : w2.cell? ⟨w.heap.size, 0, none⟩ = some (.int .i64 7) := HBX2.out.1.cell 0
      go_wp2_with fail
      refine KK.out.mono ?_
      rintro e w3 ⟨rfl, G3, hz3, hn3, ho3⟩
      have HZ3 := Lib.hid hz3
      have HN3 := Lib.hid (show Nwr w Ge G3 from fun i hi => (hn3 i hi).imp id (fun h => Nat.le_trans HO2.out.size h))
      have HO3 := Lib.hid (HO2.out.trans ho3)
      have HBX3 := Lib.hid (HBX2.out.step hn3 ho3)
      clear hz3 hn3 ho3 KK HBX2 HO2 o0
      have o0 : w3.cell? ⟨w.heap.size, 0, none⟩ = some (.int .i64 7) := HBX3.out.1.cell 0
      have KM := Lib.hid (show Calls Tryz.prog 47 #[.pointer (some ⟨K.g, 0, none⟩), .int .i64 2, .int .u32 4294967295] w3 (CMid K w3 G3 (.tuple #[]) A' c { z with r0 := 4294967295, r1 := z.r0, r2 := z.r1, r3 := z.r2, st := aft 7 10 z.st } k (distP encM (lenP encM (kdE z t 7) 819 (z.out.length % 2 ^ z.pb) 0).2 0 4294967295).2) from cmatch_any (k := k) (n := 2) (d := 4294967295) HZ3.out HN.out.1.pb (by have := HN.out.2.2.2.2; omega) rfl (by decide) (by decide) (by decide))
      go_wp2_with fail
      refine KM.out.mono ?_
      rintro e w4 ⟨rfl, G4, hz4, hn4, ho4⟩
      have HN4 := Lib.hid (HN3.out.trans hn4 HO3.out.size)
      have HO4 : Hid (Only (K.own Ge) w (w4.setCell ⟨K.g, 1859, none⟩ (.bool true))) := Lib.hid ((cset_trans HO3.out HN3.out ho4).cwn_put 12 (.bool true))
      have HZ4 : Hid (Cw K (w4.setCell ⟨K.g, 1859, none⟩ (.bool true)) G4 A' c { z with r0 := 4294967295, r1 := z.r0, r2 := z.r1, r3 := z.r2, st := aft 7 10 z.st, ended := true } k _) := Lib.hid (hz4.put 12 (by decide) (.bool true) (z' := { z with r0 := 4294967295, r1 := z.r0, r2 := z.r1, r3 := z.r2, st := aft 7 10 z.st, ended := true }) rfl rfl)
      have cE := hz4.f.ended
      have fE := hz4.f.fz 1859
      clear hz4 hn4 ho4 KM HBX3 HZ3 HN3 HO3 o0
      go_wp2_with fail
      go_ret
      exact ⟨rfl, G4, A', c, HZ4.out, HN4.out, Nwr.refl _ _, HO4.out.mono fun i hi => .inl hi⟩
end
end Go.Proofs.YtjgdjobhhdhfjaaGreat

/-
  The program's coder of LZMA, as it is built.
-/
namespace Go.Proofs.YtjgdjobhhdhfjaaGreat
open Go.RowKit

def czk (i : Nat) : Nat := if i < 4 then 1 else if i = 4 then 4 else if i = 5 then 5 else if i = 6 then 1 else if i < 11 then 2 else if i < 1858 then 0 else if i = 1858 then 5 else 6
def cchk : Nat → List Value → Bool
  | i, [] => i == 1860
  | i, v :: l => isz (czk i) v && cchk (i + 1) l
theorem cchk_sound : ∀ (l : List Value) (i : Nat), cchk i l = true → i + l.length = 1860 ∧ ∀ j, j < l.length → l[j]? = some (vk (czk (i + j)))
  | [], i, h => ⟨by have := eq_of_beq h; simpa using this, fun j hj => by simp at hj⟩
  | v :: l, i, h => by
    unfold cchk at h
    obtain ⟨h1, h2⟩ := Bool.and_eq_true_iff.1 h
    obtain ⟨g1, g2⟩ := cchk_sound l (i + 1) h2
    refine ⟨by simp only [List.length_cons]; omega, fun j hj => ?_⟩
    cases j with
    | zero => simp [isz_sound _ _ h1]
    | succ j =>
      simp only [List.length_cons] at hj
      rw [List.getElem?_cons_succ, g2 j (by omega)]
      congr 3
      omega
set_option maxRecDepth 1000000 in
theorem czero_chk : cchk 0 (zOf Tryz.prog 107).toList = true := by kernel_rfl
def madeCo (Z : Array Value) (a b c d : Int) (x : Option Addr) : Array Value :=
  ((((Z.setIfInBounds 0 (.int .i64 a)).setIfInBounds 1 (.int .i64 b)).setIfInBounds 2 (.int .i64 c)).setIfInBounds 3 (.int .i64 d)).setIfInBounds 4 (.pointer x)
theorem czero_size : (zOf Tryz.prog 107).size = 1860 := by
  have := (cchk_sound _ _ czero_chk).1
  rw [Array.length_toList] at this
  omega
theorem czero_get (i : Nat) (h : i < 1860) : (zOf Tryz.prog 107)[i]? = some (vk (czk i)) := by
  have := (cchk_sound _ _ czero_chk).2 i (by rw [Array.length_toList, czero_size]; exact h)
  rw [Nat.zero_add, Array.getElem?_toList] at this
  exact this
theorem czero_low (a : Nat) (h : a < 1847) : (zOf Tryz.prog 107)[11 + a]? = some (.int .u16 0) := by
  rw [czero_get _ (by omega)]
  unfold czk
  rw [if_neg (by omega), if_neg (by omega), if_neg (by omega), if_neg (by omega), if_neg (by omega), if_pos (by omega)]
  rfl
def coPlaces : List (Nat × Nat) := [(0, 4), (4, 1), (5, 1), (6, 1), (7, 4), (11, 1847), (1858, 1), (1859, 1)]
/-- the fields of a coder that was built, and not begun -/
def coFs (a b c d : Int) (eg : Nat) (v : Value) : List Value :=
  [.int .i64 a, .int .i64 b, .int .i64 c, .int .i64 d, .pointer (some ⟨eg, 0, none⟩), .slice none 0 0, .int .i64 0, .int .u32 0, .int .u32 0, .int .u32 0, .int .u32 0, v, .bool false]
theorem made_co {g eg : Nat} {a b c d : Int} {w : World} (hB : Blk w g 107 (madeCo (zOf Tryz.prog 107) a b c d (some ⟨eg, 0, none⟩))) : LcAt w g (coFs a b c d eg (.slice none 0 0)) (List.replicate 1847 0) := by
  have hs := czero_size
  refine ⟨_, hB, by unfold madeCo; simp [hs], rfl, fun k hk => ?_, fun a ha => ?_⟩
  · unfold madeCo
    match k, hk with
    | 0, _ => exact (by rw [show cfat 0 = 0 from rfl]; simp [hs]; rfl)
    | 1, _ => exact (by rw [show cfat 1 = 1 from rfl]; simp [hs]; rfl)
    | 2, _ => exact (by rw [show cfat 2 = 2 from rfl]; simp [hs]; rfl)
    | 3, _ => exact (by rw [show cfat 3 = 3 from rfl]; simp [hs]; rfl)
    | 4, _ => exact (by rw [show cfat 4 = 4 from rfl]; simp [hs]; rfl)
    | 5, _ => exact (by rw [show cfat 5 = 5 from rfl]; simp [czero_get 5 (by decide)]; rfl)
    | 6, _ => exact (by rw [show cfat 6 = 6 from rfl]; simp [czero_get 6 (by decide)]; rfl)
    | 7, _ => exact (by rw [show cfat 7 = 7 from rfl]; simp [czero_get 7 (by decide)]; rfl)
    | 8, _ => exact (by rw [show cfat 8 = 8 from rfl]; simp [czero_get 8 (by decide)]; rfl)
    | 9, _ => exact (by rw [show cfat 9 = 9 from rfl]; simp [czero_get 9 (by decide)]; rfl)
    | 10, _ => exact (by rw [show cfat 10 = 10 from rfl]; simp [czero_get 10 (by decide)]; rfl)
    | 11, _ => exact (by rw [show cfat 11 = 1858 from rfl]; simp [czero_get 1858 (by decide)]; rfl)
    | 12, _ => exact (by rw [show cfat 12 = 1859 from rfl]; simp [czero_get 1859 (by decide)]; rfl)
    | k + 13, hk => omega
  · have := sg_lt ha
    unfold madeCo
    rw [Array.getElem?_setIfInBounds_ne (by omega), Array.getElem?_setIfInBounds_ne (by omega), Array.getElem?_setIfInBounds_ne (by omega), Array.getElem?_setIfInBounds_ne (by omega), Array.getElem?_setIfInBounds_ne (by omega), czero_low _ this]
    have e : (List.replicate 1847 (0 : Nat)).getD a 0 = 0 := by
      unfold List.getD
      rw [List.getElem?_replicate, if_pos ha]
      rfl
    rw [e]
    rfl

set_option maxRecDepth 1000000 in
theorem czeroCells_chk : cchk 0 Tryz.zeroCells107.toList = true := by kernel_rfl
theorem czero_link : Tryz.zeroCells107 = zOf Tryz.prog 107 := by
  have hs : Tryz.zeroCells107.size = 1860 := by
    have := (cchk_sound _ _ czeroCells_chk).1
    rw [Array.length_toList] at this
    omega
  have hg : ∀ i, i < 1860 → Tryz.zeroCells107[i]? = some (vk (czk i)) := by
    intro i h
    have := (cchk_sound _ _ czeroCells_chk).2 i (by rw [Array.length_toList, hs]; exact h)
    rw [Nat.zero_add, Array.getElem?_toList] at this
    exact this
  apply Array.ext_getElem?
  intro i
  by_cases h : i < 1860
  · rw [hg i h, czero_get i h]
  · rw [Array.getElem?_eq_none (by omega), Array.getElem?_eq_none (by rw [czero_size]; omega)]
end Go.Proofs.YtjgdjobhhdhfjaaGreat

/-
  The program's coder of LZMA: state, distances and probabilities begin anew.
-/
namespace Go.Proofs.YtjgdjobhhdhfjaaGreat
open Go.RowKit

/-- the coder's block alone -/
def Lr (g : Nat) (fs : List Value) (w : World) (ps : List Nat) : Prop := LcAt w g fs ps ∧ ps.length = 1847
theorem lr_prb (g : Nat) (fs : List Value) : Prb (Lr g fs) (fun i => i = g) (fun a => (g, 11 + sg a)) 1847 where
  blk _ := rfl
  cell h ha := h.1.chance ha
  free h ha := h.1.free _
  put {w ps a} h ha q := ⟨h.1.prob ha (by rw [h.2]; exact Nat.le_refl _) q, by rw [List.length_set]; exact h.2⟩
  only h hO hS := ⟨h.1.only hO (hS _ rfl), h.2⟩
  len h := h.2
  old {w ps i} h hi := by subst hi; exact h.1.lt
theorem lr_lay (g : Nat) : Lay (fun a => (g, 11 + sg a)) g 11 := fun a ha => rfl
theorem all_fresh' {ps : List Nat} {L : Nat} (hl : ps.length = L) (h : ∀ i, i < L → ps.getD i 0 = 1024) : ps = List.replicate L 1024 := by
  refine List.ext_getElem (by simp [hl]) (fun i h1 h2 => ?_)
  have := h i (by omega)
  simp only [List.getD, List.getElem?_eq_getElem h1, Option.getD_some] at this
  rw [this, List.getElem_replicate]
theorem Lr.put {g : Nat} {fs : List Value} {w : World} {ps : List Nat} (h : Lr g fs w ps) (k : Nat) (hk : k < 13) (v : Value) : Lr g (fs.set k v) (w.setCell ⟨g, cfat k, none⟩ v) ps := ⟨h.1.put k hk v, h.2⟩

section
variable {w w' : World} {g eg : Nat}

set_option maxRecDepth 100000 in
set_option maxHeartbeats 8000000 in
/-- Reset of a coder that was just built. -/
theorem creset_any {lc lp pb dict : Nat} {a b c : Int} {ps : List Nat} (hset : SetOk lc lp pb dict) (h6 : lc + lp ≤ 6) (h : Lr g (coFs a b c (dict : Int) eg (.slice none 0 0)) w ps) :
    Calls Tryz.prog 43 #[.pointer (some ⟨g, 0, none⟩), .agg #[.int .i64 (lc : Int), .int .i64 (lp : Int), .int .i64 (pb : Int), .int .i64 (dict : Int)]] w fun e w' =>
      e = .returned (.tuple #[]) ∧ ∃ lb, Lr g (coFs (lc : Int) (lp : Int) (pb : Int) (dict : Int) eg (.slice (some ⟨lb, 0, none⟩) (768 * 2 ^ (lc + lp)) (768 * 2 ^ (lc + lp)))) w' (List.replicate 1847 1024) ∧ Row w' lb (List.replicate (768 * 2 ^ (lc + lp)) 1024) (768 * 2 ^ (lc + lp)) ∧ w.heap.size ≤ lb ∧ Only (fun i => i = g) w w' := by
  obtain ⟨w1, hw1⟩ : ∃ w1, w1 = w.alloc (.cells #[.int .i64 (lc : Int), .int .i64 (lp : Int), .int .i64 (pb : Int), .int .i64 (dict : Int)] 24) := ⟨_, rfl⟩
  have hO1 : Only (fun _ => False) w w1 := by rw [hw1]; exact (Only.refl _ w).alloc _
  have HBk : Blk w1 w.heap.size 24 #[.int .i64 (lc : Int), .int .i64 (lp : Int), .int .i64 (pb : Int), .int .i64 (dict : Int)] := by rw [hw1]; exact Blk.fresh w _ _
  have hgs : g < w.heap.size := h.1.lt
  have KM := pmay_any (lc : Int) (lp : Int) (pb : Int) (dict : Int) w1
  rw [setOk_may hset] at KM
  have KM := Lib.hid KM
  have KL := fun w => plits_any (lc := lc) (lp := lp) (pb : Int) (dict : Int) (by omega) w
  obtain ⟨nl, hnl⟩ : ∃ nl, nl = 768 * 2 ^ (lc + lp) := ⟨_, rfl⟩
  have hnl6 : nl ≤ 1000000 := by rw [hnl]; exact Nat.le_trans (Nat.mul_le_mul_left 768 (Nat.pow_le_pow_right (by decide) h6)) (by decide)
  rw [← hnl] at KL ⊢
  have KL := Lib.hid KL
  have KF := Lib.hid (fun w => fresh_any (n := nl) hnl6 w)
  have HR1 := Lib.hid ((lr_prb g _).only h hO1 (fun _ _ h => h))
  have HW1 := Lib.hid hw1
  have HO1 := Lib.hid hO1
  have HBK := Lib.hid HBk
  have HG := Lib.hid hgs
  have o0 : w1.cell? ⟨w.heap.size, 0, none⟩ = some (.int .i64 (lc : Int)) := HBk.cell 0
  have o1 : w1.cell? ⟨w.heap.size, 1, none⟩ = some (.int .i64 (lp : Int)) := HBk.cell 1
  have o2 : w1.cell? ⟨w.heap.size, 2, none⟩ = some (.int .i64 (pb : Int)) := HBk.cell 2
  have o3 : w1.cell? ⟨w.heap.size, 3, none⟩ = some (.int .i64 (dict : Int)) := HBk.cell 3
  clear hw1 hO1 HBk h hset h6 hnl hnl6
  go_enter Tryz.func43, Tryz.ntmps43
  go_upto_region 1 with fail
  rw [← HW1.out]
  clear HW1
  go_wp2_with fail
  refine KM.out.mono ?_
  rintro e w2 ⟨rfl, hb2⟩
  have ho2 : Only (fun _ => False) w1 w2 := Only.of_below hb2
  have HO2 := Lib.hid (HO1.out.trans ho2)
  have HBK2 := Lib.hid (HBK.out.only ho2 (fun h => h))
  have hr2 := (lr_prb g _).only HR1.out ho2 (fun _ _ h => h)
  have o0 : w2.cell? ⟨w.heap.size, 0, none⟩ = some (.int .i64 (lc : Int)) := HBK2.out.cell 0
  have o1 : w2.cell? ⟨w.heap.size, 1, none⟩ = some (.int .i64 (lp : Int)) := HBK2.out.cell 1
  have o2 : w2.cell? ⟨w.heap.size, 2, none⟩ = some (.int .i64 (pb : Int)) := HBK2.out.cell 2
  have a0 : w2.cell? ⟨g, 0, none⟩ = some (.int .i64 a) := hr2.1.cell 0 (by decide)
  have a1 : w2.cell? ⟨g, 1, none⟩ = some (.int .i64 b) := hr2.1.cell 1 (by decide)
  have a2 : w2.cell? ⟨g, 2, none⟩ = some (.int .i64 c) := hr2.1.cell 2 (by decide)
  have b0 := hr2.1.free 0
  have b1 := hr2.1.free 1
  have b2 := hr2.1.free 2
  have hne : w.heap.size ≠ g := by have := HG.out; omega
  have HR2 := Lib.hid hr2
  have p1 := ((hr2.put 0 (by decide) (.int .i64 (lc : Int))).put 1 (by decide) (.int .i64 (lp : Int))).put 2 (by decide) (.int .i64 (pb : Int))
  have HZ3 : Hid (Lr g (coFs (lc : Int) (lp : Int) (pb : Int) (dict : Int) eg (.slice none 0 0)) (((w2.setCell ⟨g, 0, none⟩ (.int .i64 (lc : Int))).setCell ⟨g, 1, none⟩ (.int .i64 (lp : Int))).setCell ⟨g, 2, none⟩ (.int .i64 (pb : Int))) ps) := Lib.hid p1
  have hq3 : Only (fun i => i = g) w2 (((w2.setCell ⟨g, 0, none⟩ (.int .i64 (lc : Int))).setCell ⟨g, 1, none⟩ (.int .i64 (lp : Int))).setCell ⟨g, 2, none⟩ (.int .i64 (pb : Int))) :=
    (((Only.refl (fun i => i = g) w2).setCell (p := ⟨g, 0, none⟩) (.inl rfl) _).setCell (p := ⟨g, 1, none⟩) (.inl rfl) _).setCell (p := ⟨g, 2, none⟩) (.inl rfl) _
  have HO3 := Lib.hid (show Only (fun i => i = g) w _ from (HO2.out.mono fun _ h => h.elim).trans hq3)
  have HBK3 := Lib.hid (HBK2.out.only hq3 hne)
  clear hb2 ho2 hr2 p1 hq3 KM HBK HBK2 HR1 HO1 HO2
  go_wp2_with fail
  go_region
  have HZ3 := Lib.hid ((lr_prb g _).only HZ3.out ((Only.refl (fun _ => False) _).drewN 1) (fun _ _ h => h))
  have HO3 := Lib.hid (HO3.out.drewN 1)
  have HBK3 := Lib.hid (HBK3.out.drewN 1)
  change Exit.then _ _ _ _ ((((w2.setCell ⟨g, 0, none⟩ (.int .i64 (lc : Int))).setCell ⟨g, 1, none⟩ (.int .i64 (lp : Int))).setCell ⟨g, 2, none⟩ (.int .i64 (pb : Int))).drewN 1)
  generalize ((((w2.setCell ⟨g, 0, none⟩ (.int .i64 (lc : Int))).setCell ⟨g, 1, none⟩ (.int .i64 (lp : Int))).setCell ⟨g, 2, none⟩ (.int .i64 (pb : Int))).drewN 1) = w3 at *
  clear o0 o1 o2 a0 a1 a2 b0 b1 b2 HR2
  have a6 := HZ3.out.1.cell 6 (by decide)
  have a7 := HZ3.out.1.cell 7 (by decide)
  have a8 := HZ3.out.1.cell 8 (by decide)
  have a9 := HZ3.out.1.cell 9 (by decide)
  have a10 := HZ3.out.1.cell 10 (by decide)
  change w3.cell? ⟨g, 6, none⟩ = some (.int .i64 0) at a6
  change w3.cell? ⟨g, 7, none⟩ = some (.int .u32 0) at a7
  change w3.cell? ⟨g, 8, none⟩ = some (.int .u32 0) at a8
  change w3.cell? ⟨g, 9, none⟩ = some (.int .u32 0) at a9
  change w3.cell? ⟨g, 10, none⟩ = some (.int .u32 0) at a10
  have b6 := HZ3.out.1.free 6
  have b7 := HZ3.out.1.free 7
  have b8 := HZ3.out.1.free 8
  have b9 := HZ3.out.1.free 9
  have b10 := HZ3.out.1.free 10
  have p4 := ((((HZ3.out.put 6 (by decide) (.int .i64 0)).put 7 (by decide) (.int .u32 0)).put 8 (by decide) (.int .u32 0)).put 9 (by decide) (.int .u32 0)).put 10 (by decide) (.int .u32 0)
  have HZ4 : Hid (Lr g (coFs (lc : Int) (lp : Int) (pb : Int) (dict : Int) eg (.slice none 0 0)) (((((w3.setCell ⟨g, 6, none⟩ (.int .i64 0)).setCell ⟨g, 7, none⟩ (.int .u32 0)).setCell ⟨g, 8, none⟩ (.int .u32 0)).setCell ⟨g, 9, none⟩ (.int .u32 0)).setCell ⟨g, 10, none⟩ (.int .u32 0)) ps) := Lib.hid p4
  have hq4 : Only (fun i => i = g) w3 (((((w3.setCell ⟨g, 6, none⟩ (.int .i64 0)).setCell ⟨g, 7, none⟩ (.int .u32 0)).setCell ⟨g, 8, none⟩ (.int .u32 0)).setCell ⟨g, 9, none⟩ (.int .u32 0)).setCell ⟨g, 10, none⟩ (.int .u32 0)) :=
    (((((Only.refl (fun i => i = g) w3).setCell (p := ⟨g, 6, none⟩) (.inl rfl) _).setCell (p := ⟨g, 7, none⟩) (.inl rfl) _).setCell (p := ⟨g, 8, none⟩) (.inl rfl) _).setCell (p := ⟨g, 9, none⟩) (.inl rfl) _).setCell (p := ⟨g, 10, none⟩) (.inl rfl) _
  have HO4 := Lib.hid (HO3.out.trans hq4)
  have HBK4 := Lib.hid (HBK3.out.only hq4 hne)
  clear p4 hq4 HZ3 HO3 HBK3
  go_upto_region 4 with fail
  generalize (((((w3.setCell ⟨g, 6, none⟩ (.int .i64 0)).setCell ⟨g, 7, none⟩ (.int .u32 0)).setCell ⟨g, 8, none⟩ (.int .u32 0)).setCell ⟨g, 9, none⟩ (.int .u32 0)).setCell ⟨g, 10, none⟩ (.int .u32 0)) = w4 at *
  clear a6 a7 a8 a9 a10 b6 b7 b8 b9 b10
  have KC := Lib.hid (chances_renew (D := fun _ => False) (lr_prb g _) (lr_lay g) (Nat.le_refl _) ⟨ps, HZ4.out, fun _ h => h.elim, Only.refl _ w4⟩)
  go_wp2_with fail
  refine KC.out.mono ?_
  rintro e w5 ⟨rfl, ps5, hr5, hf5, ho5⟩
  have he := all_fresh' hr5.2 (fun i hi => hf5 i (.inr hi))
  subst he
  have HBK5 := Lib.hid (HBK4.out.only ho5 hne)
  have HZ5 := Lib.hid hr5
  have HO5 := Lib.hid (HO4.out.trans ho5)
  have o0 : w5.cell? ⟨w.heap.size, 0, none⟩ = some (.int .i64 (lc : Int)) := HBK5.out.cell 0
  have o1 : w5.cell? ⟨w.heap.size, 1, none⟩ = some (.int .i64 (lp : Int)) := HBK5.out.cell 1
  have o2 : w5.cell? ⟨w.heap.size, 2, none⟩ = some (.int .i64 (pb : Int)) := HBK5.out.cell 2
  have o3 : w5.cell? ⟨w.heap.size, 3, none⟩ = some (.int .i64 (dict : Int)) := HBK5.out.cell 3
  clear hr5 hf5 ho5 KC HBK4 HZ4 HO4
  go_wp2_with fail
  refine (KL.out _).mono ?_
  rintro e w6 ⟨rfl, hb6⟩
  have ho6 : Only (fun _ => False) w5 w6 := Only.of_below hb6
  have HZ6 := Lib.hid ((lr_prb g _).only HZ5.out ho6 (fun _ _ h => h))
  have HO6 := Lib.hid (HO5.out.trans (ho6.mono fun _ h => h.elim))
  clear hb6 ho6 o0 o1 o2 o3 HBK5 HZ5 HO5 KL
  go_wp2_with fail
  refine (KF.out _).mono ?_
  rintro e w7 ⟨rfl, hrow, hb7⟩
  have ho7 : Only (fun _ => False) w6 w7 := Only.of_below hb7
  have hz7 := (lr_prb g _).only HZ6.out ho7 (fun _ _ h => h)
  have HO7 := Lib.hid ((HO6.out.trans (ho7.mono fun _ h => h.elim)).setCell (p := ⟨g, 1858, none⟩) (.inl rfl) (.slice (some ⟨w6.heap.size, 0, none⟩) nl nl))
  have HLB := Lib.hid (show w.heap.size ≤ w6.heap.size from HO6.out.size)
  have hgl := HZ6.out.1.lt
  have HROW : Hid (Row (w7.setCell ⟨g, 1858, none⟩ (.slice (some ⟨w6.heap.size, 0, none⟩) nl nl)) w6.heap.size (List.replicate nl 1024) nl) := Lib.hid (hrow.only ((Only.refl (fun j => j = g) w7).setCell (p := ⟨g, 1858, none⟩) (.inl rfl) _) (by omega))
  have HZ8 : Hid (Lr g (coFs (lc : Int) (lp : Int) (pb : Int) (dict : Int) eg (.slice (some ⟨w6.heap.size, 0, none⟩) nl nl)) (w7.setCell ⟨g, 1858, none⟩ (.slice (some ⟨w6.heap.size, 0, none⟩) nl nl)) (List.replicate 1847 1024)) := Lib.hid (hz7.put 11 (by decide) (.slice (some ⟨w6.heap.size, 0, none⟩) nl nl))
  have aL : w7.cell? ⟨g, 1858, none⟩ = some (.slice none 0 0) := hz7.1.cell 11 (by decide)
  have bL := hz7.1.free 1858
  clear hrow hb7 ho7 hz7 KF HZ6 HO6 hgl
  generalize w6.heap.size = lb at *
  go_wp2_with fail
  first | go_end0 | refine bodyPost_ret (results_none rfl _ _ _) rfl ?_
  exact ⟨rfl, lb, HZ8.out, HROW.out, HLB.out, HO7.out⟩
end
end Go.Proofs.YtjgdjobhhdhfjaaGreat

/-
  The program's coder of LZMA: a new one.
-/
namespace Go.Proofs.YtjgdjobhhdhfjaaGreat
open Go.RowKit

/-- A coder that begins. -/
def CNewPost (w : World) (lc lp pb dict k : Nat) (e : Ending) (w' : World) : Prop :=
  ∃ K : Koc, e = .returned (.tuple #[.pointer (some ⟨K.g, 0, none⟩), .int .i64 0]) ∧ K.nl = 768 * 2 ^ (lc + lp) ∧
    Cw K w' none none 0 (Lzs.start lc lp pb dict) k ⟨List.replicate (1847 + K.nl) 1024, En.new⟩ ∧ (w.heap.size ≤ K.g ∧ w.heap.size ≤ K.lb ∧ w.heap.size ≤ K.eg) ∧ Only (fun _ => False) w w'

theorem enNew_ok (k : Nat) (hk : k ≤ 1000000) : okE k En.new := ⟨enOk_new, by show 5 + 32 * k ≤ _; omega⟩
theorem new_pm {L k : Nat} (hk : k ≤ 1000000) : PmOk okE L k (⟨List.replicate L 1024, En.new⟩ : Pm En) :=
  ⟨fun p hp => by rw [List.eq_of_mem_replicate hp]; exact ⟨by decide, by decide⟩, by simp, enNew_ok k hk⟩

set_option maxRecDepth 100000 in
set_option maxHeartbeats 8000000 in
theorem cnewb_any {a b c d : Int} (h : maySet a b c d = false) (w : World) :
    Calls Tryz.prog 21 #[.agg #[.int .i64 a, .int .i64 b, .int .i64 c, .int .i64 d]] w fun e w' => e = .returned (.tuple #[.pointer none, .int .i64 11]) ∧ Only (fun _ => False) w w' := by
  obtain ⟨w1, hw1⟩ : ∃ w1, w1 = w.alloc (.cells #[.int .i64 a, .int .i64 b, .int .i64 c, .int .i64 d] 24) := ⟨_, rfl⟩
  have HBk : Blk w1 w.heap.size 24 #[.int .i64 a, .int .i64 b, .int .i64 c, .int .i64 d] := by rw [hw1]; exact Blk.fresh w _ _
  have HO1 := Lib.hid (show Only (fun _ => False) w w1 by rw [hw1]; exact (Only.refl _ w).alloc _)
  have KM := pmay_any a b c d w1
  rw [h] at KM
  have KM := Lib.hid KM
  have HW1 := Lib.hid hw1
  have o0 : w1.cell? ⟨w.heap.size, 0, none⟩ = some (.int .i64 a) := HBk.cell 0
  have o1 : w1.cell? ⟨w.heap.size, 1, none⟩ = some (.int .i64 b) := HBk.cell 1
  have o2 : w1.cell? ⟨w.heap.size, 2, none⟩ = some (.int .i64 c) := HBk.cell 2
  have o3 : w1.cell? ⟨w.heap.size, 3, none⟩ = some (.int .i64 d) := HBk.cell 3
  clear hw1 HBk h
  go_enter Tryz.func21, Tryz.ntmps21
  go_upto_region 1 with fail
  rw [← HW1.out]
  clear HW1
  go_wp2_with fail
  refine KM.out.mono ?_
  rintro e w2 ⟨rfl, hb2⟩
  have HO2 := Lib.hid (HO1.out.trans (Only.of_below hb2))
  clear hb2 KM o0 o1 o2 o3
  go_wp2_with fail
  go_ret2
  exact ⟨rfl, HO2.out⟩

set_option maxRecDepth 100000 in
set_option maxHeartbeats 16000000 in
theorem cnew7_any {lc lp pb dict k : Nat} (h : SetOk lc lp pb dict) (h6 : lc + lp ≤ 6) (hk : k ≤ 1000000) (w : World) :
    Calls Tryz.prog 21 #[.agg #[.int .i64 (lc : Int), .int .i64 (lp : Int), .int .i64 (pb : Int), .int .i64 (dict : Int)]] w (CNewPost w lc lp pb dict k) := by
  obtain ⟨w1, hw1⟩ : ∃ w1, w1 = w.alloc (.cells #[.int .i64 (lc : Int), .int .i64 (lp : Int), .int .i64 (pb : Int), .int .i64 (dict : Int)] 24) := ⟨_, rfl⟩
  have HBk : Blk w1 w.heap.size 24 #[.int .i64 (lc : Int), .int .i64 (lp : Int), .int .i64 (pb : Int), .int .i64 (dict : Int)] := by rw [hw1]; exact Blk.fresh w _ _
  have HO1 := Lib.hid (show Only (fun _ => False) w w1 by rw [hw1]; exact (Only.refl _ w).alloc _)
  have KM := pmay_any (lc : Int) (lp : Int) (pb : Int) (dict : Int) w1
  rw [setOk_may h] at KM
  have KM := Lib.hid KM
  have HH := Lib.hid (And.intro h (And.intro h6 hk))
  have HW1 := Lib.hid hw1
  have HBK := Lib.hid HBk
  have KE := Lib.hid (fun w => cnew_any w)
  have o0 : w1.cell? ⟨w.heap.size, 0, none⟩ = some (.int .i64 (lc : Int)) := HBk.cell 0
  have o1 : w1.cell? ⟨w.heap.size, 1, none⟩ = some (.int .i64 (lp : Int)) := HBk.cell 1
  have o2 : w1.cell? ⟨w.heap.size, 2, none⟩ = some (.int .i64 (pb : Int)) := HBk.cell 2
  have o3 : w1.cell? ⟨w.heap.size, 3, none⟩ = some (.int .i64 (dict : Int)) := HBk.cell 3
  clear hw1 HBk h h6 hk
  go_enter Tryz.func21, Tryz.ntmps21
  go_upto_region 1 with fail
  rw [← HW1.out]
  clear HW1
  go_wp2_with fail
  refine KM.out.mono ?_
  rintro e w2 ⟨rfl, hb2⟩
  have ho2 : Only (fun _ => False) w1 w2 := Only.of_below hb2
  have HO2 := Lib.hid (HO1.out.trans ho2)
  have HBK2 := Lib.hid (HBK.out.only ho2 (fun h => h))
  clear hb2 ho2 KM o0 o1 o2 o3 HBK HO1
  have HS := Lib.hid (fun (W : World) (hW : Only (fun _ => False) w2 W) => (show W.cell? ⟨w.heap.size, 0, none⟩ = some (.int .i64 (lc : Int)) ∧ W.cell? ⟨w.heap.size, 1, none⟩ = some (.int .i64 (lp : Int)) ∧ W.cell? ⟨w.heap.size, 2, none⟩ = some (.int .i64 (pb : Int)) ∧ W.cell? ⟨w.heap.size, 3, none⟩ = some (.int .i64 (dict : Int)) from
    have hk := HBK2.out.only hW (fun h => h)
    ⟨hk.cell 0, hk.cell 1, hk.cell 2, hk.cell 3⟩))
  obtain ⟨o0, o1, o2, o3⟩ := HS.out w2 (Only.refl _ _)
  go_wp2_with fail
  go_region_held3 (fun W => W.cell? ⟨w.heap.size, 0, none⟩ = some (.int .i64 (lc : Int)) ∧ W.cell? ⟨w.heap.size, 1, none⟩ = some (.int .i64 (lp : Int)) ∧ W.cell? ⟨w.heap.size, 2, none⟩ = some (.int .i64 (pb : Int)) ∧ W.cell? ⟨w.heap.size, 3, none⟩ = some (.int .i64 (dict : Int)))
    (first | assumption | go_keep | exact ⟨o0, o1, o2, o3⟩ | exact HS.out _ HQ3.out)
    (first | (go_at_call 42; refine (KE.out _).mono ?_; rintro e w3 ⟨rfl, hw3⟩; have HW3 := Lib.hid hw3; have HQ3 := Lib.hid (show Only (fun _ => False) w2 w3 from by rw [hw3]; exact ((Only.refl _ w2).drew).alloc _); clear hw3))
  obtain ⟨cs, hcs⟩ : ∃ cs, cs = (((((Tryz.zeroCells107.setIfInBounds 0 (.int .i64 (lc : Int))).setIfInBounds 1 (.int .i64 (lp : Int))).setIfInBounds 2 (.int .i64 (pb : Int))).setIfInBounds 3 (.int .i64 (dict : Int))).setIfInBounds 4 (.pointer (some ⟨w2.heap.size, 0, none⟩))) := ⟨_, rfl⟩
  rw [← hcs]
  have hblk : Blk (w3.alloc (.cells cs 107)) w3.heap.size 107 cs := Blk.fresh w3 _ _
  rw [hcs, czero_link] at hblk
  rw [← czero_link] at hblk
  have hblk2 := hblk
  rw [czero_link] at hblk2
  have hat : LcAt (w3.alloc (.cells cs 107)) w3.heap.size (coFs (lc : Int) (lp : Int) (pb : Int) (dict : Int) w2.heap.size (.slice none 0 0)) (List.replicate 1847 0) := by
    have := made_co hblk2
    rw [← czero_link, ← hcs] at this
    exact this
  have ho4 : Only (fun _ => False) w3 (w3.alloc (.cells cs 107)) := (Only.refl _ w3).alloc _
  have hpn : Pn w3 w2.heap.size none En.new := by rw [HW3.out]; exact pn_fresh w2.drew
  have HPN := Lib.hid (hpn.only ho4 (fun h => h) (fun _ _ h => h))
  have HS4 := Lib.hid (HS.out _ (HQ3.out.trans ho4))
  have HO4 := Lib.hid ((HO2.out.trans HQ3.out).trans ho4)
  have hs23 : w2.heap.size < w3.heap.size := by rw [HW3.out]; simp
  have HSZ := Lib.hid (And.intro HO2.out.size (And.intro hs23 (show w3.heap.size < (w3.alloc (.cells cs 107)).heap.size from hat.lt)))
  have KR := Lib.hid (creset_any HH.out.1 HH.out.2.1 (⟨hat, by simp⟩ : Lr w3.heap.size _ _ (List.replicate 1847 0)))
  clear hblk hblk2 hat ho4 hpn hs23 hcs HQ3 HO2 HW3 HS HBK2
  generalize w3.alloc (.cells cs 107) = w4 at *
  obtain ⟨o0, o1, o2, o3⟩ := HS4.out
  go_wp2_with fail
  refine KR.out.mono ?_
  rintro e w5 ⟨rfl, lb, hr5, hrow5, hlb, ho5⟩
  obtain ⟨z1, z2, z3⟩ := HSZ.out
  have hst := HH.out.1
  obtain ⟨nl, hnl⟩ : ∃ nl, nl = 768 * 2 ^ (lc + lp) := ⟨_, rfl⟩
  rw [← hnl] at hr5 hrow5
  have hpn5 := HPN.out.only ho5 (fun e => by omega) (fun _ h => by cases h)
  have hrep : ∀ a, a < 1847 → (List.replicate (1847 + nl) 1024).getD a 0 = (List.replicate 1847 1024).getD a 0 := fun a ha => by
    unfold List.getD
    rw [List.getElem?_replicate, List.getElem?_replicate, if_pos ha, if_pos (by omega)]
  have hcw : Cw ⟨w3.heap.size, lb, nl, w2.heap.size⟩ w5 none none 0 (Lzs.start lc lp pb dict) k ⟨List.replicate (1847 + nl) 1024, En.new⟩ := by
    refine ⟨⟨hpn5, ⟨hr5.1.same hrep, ?_, by simp⟩, new_pm HH.out.2.2⟩, ⟨rfl, .inl ⟨rfl, rfl⟩⟩, ⟨?_, ?_, ?_, fun _ h => (by cases h), fun _ h => (by cases h)⟩⟩
    · show Row w5 lb ((List.replicate (1847 + nl) 1024).drop 1847) nl
      rw [List.drop_replicate, Nat.add_sub_cancel_left]
      exact hrow5
    · show w3.heap.size ≠ lb
      omega
    · show w3.heap.size ≠ w2.heap.size
      omega
    · show lb ≠ w2.heap.size
      omega
  have HCW := Lib.hid hcw
  have HNL := Lib.hid hnl
  have HLE := Lib.hid (show w.heap.size ≤ w3.heap.size ∧ w.heap.size ≤ lb ∧ w.heap.size ≤ w2.heap.size by omega)
  have HON := Lib.hid (show Only (fun _ => False) w w5 from HO4.out.trans' ho5 (fun i hi => .inr (by subst hi; omega)))
  clear hr5 hrow5 hlb ho5 z1 z2 z3 hst hpn5 hrep hcw hnl KR o0 o1 o2 o3 HS4 HPN HO4 HSZ
  go_wp2_with fail
  go_ret2
  exact ⟨⟨w3.heap.size, lb, nl, w2.heap.size⟩, rfl, HNL.out, HCW.out, HLE.out, HON.out⟩
end Go.Proofs.YtjgdjobhhdhfjaaGreat
