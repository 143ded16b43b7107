/-
  CwCode, CwLitN, PtNum, PtYng, PtRun: put together.
-/
import Derived.Test.YtoencondpbkomaaGreatQ08
import Derived.Test.YtoencondpbkomaaGreatQ09
import Derived.Test.YtoencondpbkomaaGreatQ10
import Derived.Test.YtoencondpbkomaaGreatQ11
import Derived.Test.YtoencondpbkomaaGreatQ07
import Derived.Test.YtoencondpbkomaaGreatQ06
set_option linter.unusedVariables false
set_option linter.unusedSimpArgs false
/-
  The program's coder of LZMA: a packet is coded, if it fits.
-/
namespace Go.Proofs.YtoencondpbkomaaGreat
open Go.RowKit

/-- a packet, coded if it fits -/
def stepP (s : Lzs × Pm En) (p : Pk) : Lzs × Pm En := if fitsP s.1 p.kind p.dist p.len = true then (packP encM s.1 s.2 p).2 else s

section
variable {K : Koc} {w w' : World} {Ge Ge' : Option Nat} {A' : Option Addr} {c : Nat} {z : Lzs} {k : Nat} {t : Pm En}
/-- an object apart from the coder -/
def Box (K : Koc) (w : World) (G : Option Nat) (B : Nat) (cs : Array Value) : Prop := Blk w B 59 cs ∧ ¬ K.own G B
theorem Box.step {w1 : World} {G G1 : Option Nat} {B : Nat} {cs : Array Value} (h : Box K w G B cs) (hn : Nwr w G G1) (ho : Only (K.own G) w w1) : Box K w1 G1 B cs := by
  refine ⟨h.1.only ho h.2, ?_⟩
  have hlt := h.1.lt
  rintro (e | e | e | e)
  · exact h.2 (.inl e)
  · rcases hn B e with e2 | e2
    · exact h.2 (.inr (.inl e2))
    · omega
  · exact h.2 (.inr (.inr (.inl e)))
  · exact h.2 (.inr (.inr (.inr e)))
/-- a call that tells bytes, behind calls that told none -/
theorem CPut.behind {w1 : World} {G1 : Option Nat} {v : Value} {z2 : Lzs} {k2 : Nat} {t2 : Pm En} {e : Ending} {Gt : Option Nat} (hn : Nwr w Ge G1) (ho : Only (K.own Ge) w w1) (hp : CPut K w1 G1 Gt v z2 k2 t2 e w') : CPut K w Ge Gt v z2 k2 t2 e w' := by
  obtain ⟨rfl, G2, A2, c2, hz, hn2, hnt2, ho2⟩ := hp
  refine ⟨rfl, G2, A2, c2, hz, hn.trans hn2 ho.size, fun i hi => (hnt2 i hi).imp id (fun h => Nat.le_trans ho.size h), (ho.mono fun i hi => .inl hi).trans' ho2 fun i hi => ?_⟩
  rcases hi with (hi | hi | hi) | hi
  · exact .inl (.inl (.inl hi))
  · rcases hn i hi with e | e
    · exact .inl (.inl (.inr (.inl e)))
    · exact .inr e
  · exact .inl (.inl (.inr (.inr hi)))
  · exact .inl (.inr hi)

set_option maxRecDepth 100000 in
set_option maxHeartbeats 16000000 in
/-- A packet is coded, if it fits; whether it does. -/
theorem ccode_any {d N : Nat} {kd len : Int} {b : UInt8} (h : Cw K w Ge A' c z (k + 27) t) (hz : ZNear z (1847 + K.nl) N) (hN : N ≤ 899000) (hbad : z.bad = false) (hd : d < 4294967296) :
    Calls Tryz.prog 50 #[.pointer (some ⟨K.g, 0, none⟩), .agg #[.int .i64 kd, .int .u8 (b.toNat : Int), .int .i64 len, .int .u32 (d : Int)]] w (CPut K w Ge (tb A' z.out.length c) (.bool (fitsP z kd d len)) (stepP (z, t) ⟨kd, d, len, b⟩).1 k (stepP (z, t) ⟨kd, d, len, b⟩).2) := by
  obtain ⟨w1, hw1⟩ : ∃ w1, w1 = w.alloc (.cells #[.int .i64 kd, .int .u8 (b.toNat : Int), .int .i64 len, .int .u32 (d : Int)] 59) := ⟨_, rfl⟩
  have hO1 : Only (fun _ => False) w w1 := by rw [hw1]; exact (Only.refl _ _).alloc _
  have HBk : Blk w1 w.heap.size 59 #[.int .i64 kd, .int .u8 (b.toNat : Int), .int .i64 len, .int .u32 (d : Int)] := by rw [hw1]; exact Blk.fresh w _ _
  obtain ⟨old1, old2, old3, old4, old5⟩ := h.old
  have hbox : ¬ K.own Ge w.heap.size := by
    rintro (e | e | e | e)
    · omega
    · have := old4 _ e; omega
    · omega
    · omega
  have h1 := h.quiet hO1
  have KF := Lib.hid (cfits_any (d := d) (kd := kd) (len := len) (by_ := b) h1 hd ⟨hz.r0, hz.r1, hz.r2, hz.r3⟩)
  have o0 : w1.cell? ⟨w.heap.size, 0, none⟩ = some (.int .i64 kd) := HBk.cell 0
  have o1 : w1.cell? ⟨w.heap.size, 1, none⟩ = some (.int .u8 (b.toNat : Int)) := HBk.cell 1
  have o2 : w1.cell? ⟨w.heap.size, 2, none⟩ = some (.int .i64 len) := HBk.cell 2
  have o3 : w1.cell? ⟨w.heap.size, 3, none⟩ = some (.int .u32 (d : Int)) := HBk.cell 3
  have HW1 := Lib.hid hw1
  have HO1 := Lib.hid hO1
  have HZ1 := Lib.hid h1
  have HBX1 := Lib.hid (show Box K w1 Ge w.heap.size #[.int .i64 kd, .int .u8 (b.toNat : Int), .int .i64 len, .int .u32 (d : Int)] from ⟨HBk, hbox⟩)
  have hout : z.out.length ≤ 899000 := Nat.le_trans hz.out hN
  have HN := Lib.hid (And.intro hz (And.intro hN (And.intro hbad (And.intro hd hout))))
  unfold stepP
  dsimp only
  cases hf : fitsP z kd d len with
  | false =>
    rw [if_neg (by decide)]
    rw [hf] at KF
    have HZ0 := Lib.hid h
    clear hw1 hO1 HBk old1 old2 old3 old4 old5 hbox h1 h hz hN hbad hd hf hout HZ1 HBX1
    go_enter Tryz.func50, Tryz.ntmps50
    go_upto_region 1 with fail
    rw [← HW1.out]
    clear HW1
    go_wp2_with fail
    refine KF.out.mono ?_
    rintro e w2 ⟨rfl, hq⟩
    have HQ := Lib.hid (HO1.out.trans hq)
    clear hq KF
    go_wp2_with fail
    go_ret
    exact ⟨rfl, Ge, A', c, (HZ0.out.quiet HQ.out).less (by omega), Nwr.refl _ _, Nwr.refl _ _, HQ.out.mono fun _ h => h.elim⟩
  | true =>
    rw [if_pos rfl]
    rw [hf] at KF
    obtain ⟨p1, p2, p3, p4, p5, p6, p7, p8, p9, p10, p11⟩ := fits_may hf
    have hkok := (kindP_ok encM_ok (k := k + 22) (L := 1847 + K.nl) (s := z.out.length % 2 ^ z.pb) (st := z.st) (em := decide (z.out.length = 0)) (kd := kd) (t := t) h.mch.ok (by omega) (mod_pb hz.pb) hz.st (fun _ => p2)).2
    have hlen := hz.len
    clear hw1 hO1 HBk old1 old2 old3 old4 old5 hbox h1 h hf
    have hk : kd = 0 ∨ kd = 1 ∨ kd = 2 ∨ kd = 3 ∨ kd = 4 ∨ kd = 5 ∨ kd = 6 ∨ kd = 7 := by omega
    rcases hk with rfl | rfl | rfl | rfl | rfl | rfl | rfl | rfl
    · have KK := Lib.hid (fun (w2 : World) (h2 : Cw K w2 Ge A' c z (k + 27) t) => ckind_0 (k := k + 22) h2 HN.out.1.st HN.out.1.pb (by have := HN.out.2.2.2.2; omega) rfl)
      rw [packE_lit hbad]
      clear hz hN hbad hd hout hkok hlen p1 p2 p3 p4 p5 p6 p7 p8 p9 p10 p11
      go_enter Tryz.func50, Tryz.ntmps50
      go_upto_region 1 with fail
      rw [← HW1.out]
      clear HW1
      go_wp2_with fail
      refine KF.out.mono ?_
      rintro e w2 ⟨rfl, hq⟩
      have HO2 := Lib.hid (show Only (K.own Ge) w w2 from (HO1.out.trans hq).mono fun _ h => h.elim)
      have HBX2 := Lib.hid (HBX1.out.step (Nwr.refl _ _) (hq.mono fun _ h => h.elim))
      have KK := Lib.hid (KK.out w2 (HZ1.out.quiet hq))
      clear hq KF o0 o1 o2 o3 HBX1 HZ1 HO1
      have o0 : w2.cell? ⟨w.heap.size, 0, none⟩ = some (.int .i64 0) := HBX2.out.1.cell 0
      go_wp2_with fail
      refine KK.out.mono ?_
      rintro e w3 ⟨rfl, G3, hz3, hn3, ho3⟩
      have HZ3 := Lib.hid hz3
      have HN3 := Lib.hid (show Nwr w Ge G3 from fun i hi => (hn3 i hi).imp id (fun h => Nat.le_trans HO2.out.size h))
      have HO3 := Lib.hid (HO2.out.trans ho3)
      have HBX3 := Lib.hid (HBX2.out.step hn3 ho3)
      clear hz3 hn3 ho3 KK HBX2 HO2 o0
      have o0 : w3.cell? ⟨w.heap.size, 0, none⟩ = some (.int .i64 0) := HBX3.out.1.cell 0
      have o1 : w3.cell? ⟨w.heap.size, 1, none⟩ = some (.int .u8 (b.toNat : Int)) := HBX3.out.1.cell 1
      have o2 : w3.cell? ⟨w.heap.size, 2, none⟩ = some (.int .i64 len) := HBX3.out.1.cell 2
      have o3 : w3.cell? ⟨w.heap.size, 3, none⟩ = some (.int .u32 (d : Int)) := HBX3.out.1.cell 3
      have KT := Lib.hid (clit_any (k := k + 14) (b := b) (HZ3.out.less (by omega)) HN.out.1 (by have := HN.out.2.1; omega))
      go_wp2_with fail
      refine KT.out.mono ?_
      intro e w5 hp
      obtain ⟨rfl, G5, A5, c5, hz5, hn5, ht5, ho5⟩ := CPut.behind HN3.out HO3.out hp
      have HZ5 := Lib.hid hz5
      have HN5 := Lib.hid hn5
      have HT5 := Lib.hid ht5
      have HO5 := Lib.hid ho5
      clear hp hz5 hn5 ht5 ho5 KT
      go_wp2_with fail
      go_ret
      exact ⟨rfl, G5, A5, c5, HZ5.out.less (by omega), HN5.out, HT5.out, HO5.out⟩
    · have KK := Lib.hid (fun (w2 : World) (h2 : Cw K w2 Ge A' c z (k + 27) t) => ckind_1 (k := k + 22) h2 HN.out.1.st HN.out.1.pb (by have := HN.out.2.2.2.2; omega) rfl)
      obtain ⟨n, rfl⟩ : ∃ n : Nat, len = n := ⟨len.toNat, by have := (p5 ⟨by decide, by decide⟩).1; omega⟩
      have hn2 : 2 ≤ n ∧ n ≤ 273 := by have := p5 ⟨by decide, by decide⟩; omega
      have hlk := (lenP_ok encM_ok (k := k + 12) (a := 819) (s := z.out.length % 2 ^ z.pb) (v := ((n - 2 : Nat) : Int)) hkok (by omega) (mod_pb hz.pb) (fun _ => by omega)).2
      rw [packE_match hbad p1 hn2.1 hn2.2 (p6 rfl) hz.dict ⟨k, _, by omega, hlk⟩]
      have HN2 := Lib.hid hn2
      clear hn2 hlk
      clear hz hN hbad hd hout hkok hlen p1 p2 p3 p4 p5 p6 p7 p8 p9 p10 p11
      go_enter Tryz.func50, Tryz.ntmps50
      go_upto_region 1 with fail
      rw [← HW1.out]
      clear HW1
      go_wp2_with fail
      refine KF.out.mono ?_
      rintro e w2 ⟨rfl, hq⟩
      have HO2 := Lib.hid (show Only (K.own Ge) w w2 from (HO1.out.trans hq).mono fun _ h => h.elim)
      have HBX2 := Lib.hid (HBX1.out.step (Nwr.refl _ _) (hq.mono fun _ h => h.elim))
      have KK := Lib.hid (KK.out w2 (HZ1.out.quiet hq))
      clear hq KF o0 o1 o2 o3 HBX1 HZ1 HO1
      have o0 : w2.cell? ⟨w.heap.size, 0, none⟩ = some (.int .i64 1) := HBX2.out.1.cell 0
      go_wp2_with fail
      refine KK.out.mono ?_
      rintro e w3 ⟨rfl, G3, hz3, hn3, ho3⟩
      have HZ3 := Lib.hid hz3
      have HN3 := Lib.hid (show Nwr w Ge G3 from fun i hi => (hn3 i hi).imp id (fun h => Nat.le_trans HO2.out.size h))
      have HO3 := Lib.hid (HO2.out.trans ho3)
      have HBX3 := Lib.hid (HBX2.out.step hn3 ho3)
      clear hz3 hn3 ho3 KK HBX2 HO2 o0
      have o0 : w3.cell? ⟨w.heap.size, 0, none⟩ = some (.int .i64 1) := HBX3.out.1.cell 0
      have o1 : w3.cell? ⟨w.heap.size, 1, none⟩ = some (.int .u8 (b.toNat : Int)) := HBX3.out.1.cell 1
      have o2 : w3.cell? ⟨w.heap.size, 2, none⟩ = some (.int .i64 (n : Int)) := HBX3.out.1.cell 2
      have o3 : w3.cell? ⟨w.heap.size, 3, none⟩ = some (.int .u32 (d : Int)) := HBX3.out.1.cell 3
      have KM := Lib.hid (cmatch_any (k := k) (n := n) (d := d) HZ3.out HN.out.1.pb (by have := HN.out.2.2.2.2; omega) rfl HN2.out.1 HN2.out.2 HN.out.2.2.2.1)
      go_wp2_with fail
      refine KM.out.mono ?_
      rintro e w4 ⟨rfl, G4, hz4, hn4, ho4⟩
      have HZ4 := Lib.hid hz4
      have HN4 := Lib.hid (HN3.out.trans hn4 HO3.out.size)
      have HO4 := Lib.hid (cset_trans HO3.out HN3.out ho4)
      have HBX4 := Lib.hid (HBX3.out.step hn4 ho4)
      clear hz4 hn4 ho4 KM HBX3 HZ3 HN3 HO3 o0 o1 o2 o3
      have o2 : w4.cell? ⟨w.heap.size, 2, none⟩ = some (.int .i64 (n : Int)) := HBX4.out.1.cell 2
      have KT := Lib.hid (ccopies_any (n := n) HZ4.out (by have := HN2.out; omega) (by have := HN.out.2.2.2.2; show z.out.length ≤ _; omega) HN.out.2.2.2.1)
      go_wp2_with fail
      refine KT.out.mono ?_
      intro e w5 hp
      obtain ⟨rfl, G5, A5, c5, hz5, hn5, ht5, ho5⟩ := CPut.behind HN4.out HO4.out hp
      have HZ5 := Lib.hid hz5
      have HN5 := Lib.hid hn5
      have HT5 := Lib.hid ht5
      have HO5 := Lib.hid ho5
      clear hp hz5 hn5 ht5 ho5 KT
      go_wp2_with fail
      go_ret
      exact ⟨rfl, G5, A5, c5, HZ5.out.less (by omega), HN5.out, HT5.out, HO5.out⟩
    · have hne : z.out.length ≠ 0 := by have := (of_decide_eq_true (p7 rfl)).1; omega
      obtain ⟨n, rfl⟩ : ∃ n : Nat, len = n := ⟨len.toNat, by have := (p5 ⟨by decide, by decide⟩).1; omega⟩
      have hn2 : 2 ≤ n ∧ n ≤ 273 := by have := p5 ⟨by decide, by decide⟩; omega
      have hpk : (packP encM z t ⟨2, d, n, b⟩).2 = (copyN n { z.again 0 with st := aft 8 11 z.st }, (lenP encM (kdE z t 2) 1333 (z.out.length % 2 ^ z.pb) ((n - 2 : Nat) : Int)).2) := packE_again (j := 0) hbad p1 (by decide) hn2.1 hn2.2 (p7 rfl)
      rw [hpk]
      have KK := Lib.hid (fun (w2 : World) (h2 : Cw K w2 Ge A' c z (k + 27) t) => ckind_2 (k := k + 22) h2 HN.out.1.st HN.out.1.pb (by have := HN.out.2.2.2.2; omega) hne rfl)
      have HN2 := Lib.hid hn2
      clear hn2 hpk hne
      clear hz hN hbad hd hout hkok hlen p1 p2 p3 p4 p5 p6 p7 p8 p9 p10 p11
      go_enter Tryz.func50, Tryz.ntmps50
      go_upto_region 1 with fail
      rw [← HW1.out]
      clear HW1
      go_wp2_with fail
      refine KF.out.mono ?_
      rintro e w2 ⟨rfl, hq⟩
      have HO2 := Lib.hid (show Only (K.own Ge) w w2 from (HO1.out.trans hq).mono fun _ h => h.elim)
      have HBX2 := Lib.hid (HBX1.out.step (Nwr.refl _ _) (hq.mono fun _ h => h.elim))
      have KK := Lib.hid (KK.out w2 (HZ1.out.quiet hq))
      clear hq KF o0 o1 o2 o3 HBX1 HZ1 HO1
      have o0 : w2.cell? ⟨w.heap.size, 0, none⟩ = some (.int .i64 2) := HBX2.out.1.cell 0
      go_wp2_with fail
      refine KK.out.mono ?_
      rintro e w3 ⟨rfl, G3, hz3, hn3, ho3⟩
      have HZ3 := Lib.hid hz3
      have HN3 := Lib.hid (show Nwr w Ge G3 from fun i hi => (hn3 i hi).imp id (fun h => Nat.le_trans HO2.out.size h))
      have HO3 := Lib.hid (HO2.out.trans ho3)
      have HBX3 := Lib.hid (HBX2.out.step hn3 ho3)
      clear hz3 hn3 ho3 KK HBX2 HO2 o0
      have o0 : w3.cell? ⟨w.heap.size, 0, none⟩ = some (.int .i64 2) := HBX3.out.1.cell 0
      have o1 : w3.cell? ⟨w.heap.size, 1, none⟩ = some (.int .u8 (b.toNat : Int)) := HBX3.out.1.cell 1
      have o2 : w3.cell? ⟨w.heap.size, 2, none⟩ = some (.int .i64 (n : Int)) := HBX3.out.1.cell 2
      have o3 : w3.cell? ⟨w.heap.size, 3, none⟩ = some (.int .u32 (d : Int)) := HBX3.out.1.cell 3
      have KM := Lib.hid (show Calls Tryz.prog 69 #[.pointer (some ⟨K.g, 0, none⟩), .int .i64 0, .int .i64 (n : Int)] w3 (CMid K w3 G3 (.tuple #[]) A' c { z.again 0 with st := aft 8 11 z.st } (k + 12) (lenP encM (kdE z t 2) 1333 (z.out.length % 2 ^ z.pb) ((n - 2 : Nat) : Int)).2) from cagain_any (k := k + 12) (n := n) (j := 0) HZ3.out HN.out.1.pb (by have := HN.out.2.2.2.2; omega) rfl HN2.out.1 HN2.out.2 (by decide))
      go_wp2_with fail
      refine KM.out.mono ?_
      rintro e w4 ⟨rfl, G4, hz4, hn4, ho4⟩
      have HZ4 := Lib.hid hz4
      have HN4 := Lib.hid (HN3.out.trans hn4 HO3.out.size)
      have HO4 := Lib.hid (cset_trans HO3.out HN3.out ho4)
      have HBX4 := Lib.hid (HBX3.out.step hn4 ho4)
      clear hz4 hn4 ho4 KM HBX3 HZ3 HN3 HO3 o0 o1 o2 o3
      have o2 : w4.cell? ⟨w.heap.size, 2, none⟩ = some (.int .i64 (n : Int)) := HBX4.out.1.cell 2
      have KT := Lib.hid (ccopies_any (n := n) HZ4.out (by have := HN2.out; omega) (by have := HN.out.2.2.2.2; show z.out.length ≤ _; omega) HN.out.1.r0)
      go_wp2_with fail
      refine KT.out.mono ?_
      intro e w5 hp
      obtain ⟨rfl, G5, A5, c5, hz5, hn5, ht5, ho5⟩ := CPut.behind HN4.out HO4.out hp
      have HZ5 := Lib.hid hz5
      have HN5 := Lib.hid hn5
      have HT5 := Lib.hid ht5
      have HO5 := Lib.hid ho5
      clear hp hz5 hn5 ht5 ho5 KT
      go_wp2_with fail
      go_ret
      exact ⟨rfl, G5, A5, c5, HZ5.out.less (by omega), HN5.out, HT5.out, HO5.out⟩
    · have hne : z.out.length ≠ 0 := by have := (of_decide_eq_true (p8 rfl)).1; omega
      obtain ⟨n, rfl⟩ : ∃ n : Nat, len = n := ⟨len.toNat, by have := (p5 ⟨by decide, by decide⟩).1; omega⟩
      have hn2 : 2 ≤ n ∧ n ≤ 273 := by have := p5 ⟨by decide, by decide⟩; omega
      have hpk : (packP encM z t ⟨3, d, n, b⟩).2 = (copyN n { z.again 1 with st := aft 8 11 z.st }, (lenP encM (kdE z t 3) 1333 (z.out.length % 2 ^ z.pb) ((n - 2 : Nat) : Int)).2) := packE_again (j := 1) hbad p1 (by decide) hn2.1 hn2.2 (p8 rfl)
      rw [hpk]
      have KK := Lib.hid (fun (w2 : World) (h2 : Cw K w2 Ge A' c z (k + 27) t) => ckind_3 (k := k + 22) h2 HN.out.1.st HN.out.1.pb (by have := HN.out.2.2.2.2; omega) hne rfl)
      have HN2 := Lib.hid hn2
      clear hn2 hpk hne
      clear hz hN hbad hd hout hkok hlen p1 p2 p3 p4 p5 p6 p7 p8 p9 p10 p11
      go_enter Tryz.func50, Tryz.ntmps50
      go_upto_region 1 with fail
      rw [← HW1.out]
      clear HW1
      go_wp2_with fail
      refine KF.out.mono ?_
      rintro e w2 ⟨rfl, hq⟩
      have HO2 := Lib.hid (show Only (K.own Ge) w w2 from (HO1.out.trans hq).mono fun _ h => h.elim)
      have HBX2 := Lib.hid (HBX1.out.step (Nwr.refl _ _) (hq.mono fun _ h => h.elim))
      have KK := Lib.hid (KK.out w2 (HZ1.out.quiet hq))
      clear hq KF o0 o1 o2 o3 HBX1 HZ1 HO1
      have o0 : w2.cell? ⟨w.heap.size, 0, none⟩ = some (.int .i64 3) := HBX2.out.1.cell 0
      go_wp2_with fail
      refine KK.out.mono ?_
      rintro e w3 ⟨rfl, G3, hz3, hn3, ho3⟩
      have HZ3 := Lib.hid hz3
      have HN3 := Lib.hid (show Nwr w Ge G3 from fun i hi => (hn3 i hi).imp id (fun h => Nat.le_trans HO2.out.size h))
      have HO3 := Lib.hid (HO2.out.trans ho3)
      have HBX3 := Lib.hid (HBX2.out.step hn3 ho3)
      clear hz3 hn3 ho3 KK HBX2 HO2 o0
      have o0 : w3.cell? ⟨w.heap.size, 0, none⟩ = some (.int .i64 3) := HBX3.out.1.cell 0
      have o1 : w3.cell? ⟨w.heap.size, 1, none⟩ = some (.int .u8 (b.toNat : Int)) := HBX3.out.1.cell 1
      have o2 : w3.cell? ⟨w.heap.size, 2, none⟩ = some (.int .i64 (n : Int)) := HBX3.out.1.cell 2
      have o3 : w3.cell? ⟨w.heap.size, 3, none⟩ = some (.int .u32 (d : Int)) := HBX3.out.1.cell 3
      have KM := Lib.hid (show Calls Tryz.prog 69 #[.pointer (some ⟨K.g, 0, none⟩), .int .i64 1, .int .i64 (n : Int)] w3 (CMid K w3 G3 (.tuple #[]) A' c { z.again 1 with st := aft 8 11 z.st } (k + 12) (lenP encM (kdE z t 3) 1333 (z.out.length % 2 ^ z.pb) ((n - 2 : Nat) : Int)).2) from cagain_any (k := k + 12) (n := n) (j := 1) HZ3.out HN.out.1.pb (by have := HN.out.2.2.2.2; omega) rfl HN2.out.1 HN2.out.2 (by decide))
      go_wp2_with fail
      refine KM.out.mono ?_
      rintro e w4 ⟨rfl, G4, hz4, hn4, ho4⟩
      have HZ4 := Lib.hid hz4
      have HN4 := Lib.hid (HN3.out.trans hn4 HO3.out.size)
      have HO4 := Lib.hid (cset_trans HO3.out HN3.out ho4)
      have HBX4 := Lib.hid (HBX3.out.step hn4 ho4)
      clear hz4 hn4 ho4 KM HBX3 HZ3 HN3 HO3 o0 o1 o2 o3
      have o2 : w4.cell? ⟨w.heap.size, 2, none⟩ = some (.int .i64 (n : Int)) := HBX4.out.1.cell 2
      have KT := Lib.hid (ccopies_any (n := n) HZ4.out (by have := HN2.out; omega) (by have := HN.out.2.2.2.2; show z.out.length ≤ _; omega) HN.out.1.r1)
      go_wp2_with fail
      refine KT.out.mono ?_
      intro e w5 hp
      obtain ⟨rfl, G5, A5, c5, hz5, hn5, ht5, ho5⟩ := CPut.behind HN4.out HO4.out hp
      have HZ5 := Lib.hid hz5
      have HN5 := Lib.hid hn5
      have HT5 := Lib.hid ht5
      have HO5 := Lib.hid ho5
      clear hp hz5 hn5 ht5 ho5 KT
      go_wp2_with fail
      go_ret
      exact ⟨rfl, G5, A5, c5, HZ5.out.less (by omega), HN5.out, HT5.out, HO5.out⟩
    · have hne : z.out.length ≠ 0 := by have := (of_decide_eq_true (p9 rfl)).1; omega
      obtain ⟨n, rfl⟩ : ∃ n : Nat, len = n := ⟨len.toNat, by have := (p5 ⟨by decide, by decide⟩).1; omega⟩
      have hn2 : 2 ≤ n ∧ n ≤ 273 := by have := p5 ⟨by decide, by decide⟩; omega
      have hpk : (packP encM z t ⟨4, d, n, b⟩).2 = (copyN n { z.again 2 with st := aft 8 11 z.st }, (lenP encM (kdE z t 4) 1333 (z.out.length % 2 ^ z.pb) ((n - 2 : Nat) : Int)).2) := packE_again (j := 2) hbad p1 (by decide) hn2.1 hn2.2 (p9 rfl)
      rw [hpk]
      have KK := Lib.hid (fun (w2 : World) (h2 : Cw K w2 Ge A' c z (k + 27) t) => ckind_4 (k := k + 22) h2 HN.out.1.st HN.out.1.pb (by have := HN.out.2.2.2.2; omega) hne rfl)
      have HN2 := Lib.hid hn2
      clear hn2 hpk hne
      clear hz hN hbad hd hout hkok hlen p1 p2 p3 p4 p5 p6 p7 p8 p9 p10 p11
      go_enter Tryz.func50, Tryz.ntmps50
      go_upto_region 1 with fail
      rw [← HW1.out]
      clear HW1
      go_wp2_with fail
      refine KF.out.mono ?_
      rintro e w2 ⟨rfl, hq⟩
      have HO2 := Lib.hid (show Only (K.own Ge) w w2 from (HO1.out.trans hq).mono fun _ h => h.elim)
      have HBX2 := Lib.hid (HBX1.out.step (Nwr.refl _ _) (hq.mono fun _ h => h.elim))
      have KK := Lib.hid (KK.out w2 (HZ1.out.quiet hq))
      clear hq KF o0 o1 o2 o3 HBX1 HZ1 HO1
      have o0 : w2.cell? ⟨w.heap.size, 0, none⟩ = some (.int .i64 4) := HBX2.out.1.cell 0
      go_wp2_with fail
      refine KK.out.mono ?_
      rintro e w3 ⟨rfl, G3, hz3, hn3, ho3⟩
      have HZ3 := Lib.hid hz3
      have HN3 := Lib.hid (show Nwr w Ge G3 from fun i hi => (hn3 i hi).imp id (fun h => Nat.le_trans HO2.out.size h))
      have HO3 := Lib.hid (HO2.out.trans ho3)
      have HBX3 := Lib.hid (HBX2.out.step hn3 ho3)
      clear hz3 hn3 ho3 KK HBX2 HO2 o0
      have o0 : w3.cell? ⟨w.heap.size, 0, none⟩ = some (.int .i64 4) := HBX3.out.1.cell 0
      have o1 : w3.cell? ⟨w.heap.size, 1, none⟩ = some (.int .u8 (b.toNat : Int)) := HBX3.out.1.cell 1
      have o2 : w3.cell? ⟨w.heap.size, 2, none⟩ = some (.int .i64 (n : Int)) := HBX3.out.1.cell 2
      have o3 : w3.cell? ⟨w.heap.size, 3, none⟩ = some (.int .u32 (d : Int)) := HBX3.out.1.cell 3
      have KM := Lib.hid (show Calls Tryz.prog 69 #[.pointer (some ⟨K.g, 0, none⟩), .int .i64 2, .int .i64 (n : Int)] w3 (CMid K w3 G3 (.tuple #[]) A' c { z.again 2 with st := aft 8 11 z.st } (k + 12) (lenP encM (kdE z t 4) 1333 (z.out.length % 2 ^ z.pb) ((n - 2 : Nat) : Int)).2) from cagain_any (k := k + 12) (n := n) (j := 2) HZ3.out HN.out.1.pb (by have := HN.out.2.2.2.2; omega) rfl HN2.out.1 HN2.out.2 (by decide))
      go_wp2_with fail
      refine KM.out.mono ?_
      rintro e w4 ⟨rfl, G4, hz4, hn4, ho4⟩
      have HZ4 := Lib.hid hz4
      have HN4 := Lib.hid (HN3.out.trans hn4 HO3.out.size)
      have HO4 := Lib.hid (cset_trans HO3.out HN3.out ho4)
      have HBX4 := Lib.hid (HBX3.out.step hn4 ho4)
      clear hz4 hn4 ho4 KM HBX3 HZ3 HN3 HO3 o0 o1 o2 o3
      have o2 : w4.cell? ⟨w.heap.size, 2, none⟩ = some (.int .i64 (n : Int)) := HBX4.out.1.cell 2
      have KT := Lib.hid (ccopies_any (n := n) HZ4.out (by have := HN2.out; omega) (by have := HN.out.2.2.2.2; show z.out.length ≤ _; omega) HN.out.1.r2)
      go_wp2_with fail
      refine KT.out.mono ?_
      intro e w5 hp
      obtain ⟨rfl, G5, A5, c5, hz5, hn5, ht5, ho5⟩ := CPut.behind HN4.out HO4.out hp
      have HZ5 := Lib.hid hz5
      have HN5 := Lib.hid hn5
      have HT5 := Lib.hid ht5
      have HO5 := Lib.hid ho5
      clear hp hz5 hn5 ht5 ho5 KT
      go_wp2_with fail
      go_ret
      exact ⟨rfl, G5, A5, c5, HZ5.out.less (by omega), HN5.out, HT5.out, HO5.out⟩
    · have hne : z.out.length ≠ 0 := by have := (of_decide_eq_true (p10 rfl)).1; omega
      obtain ⟨n, rfl⟩ : ∃ n : Nat, len = n := ⟨len.toNat, by have := (p5 ⟨by decide, by decide⟩).1; omega⟩
      have hn2 : 2 ≤ n ∧ n ≤ 273 := by have := p5 ⟨by decide, by decide⟩; omega
      have hpk : (packP encM z t ⟨5, d, n, b⟩).2 = (copyN n { z.again 3 with st := aft 8 11 z.st }, (lenP encM (kdE z t 5) 1333 (z.out.length % 2 ^ z.pb) ((n - 2 : Nat) : Int)).2) := packE_again (j := 3) hbad p1 (by decide) hn2.1 hn2.2 (p10 rfl)
      rw [hpk]
      have KK := Lib.hid (fun (w2 : World) (h2 : Cw K w2 Ge A' c z (k + 27) t) => ckind_5 (k := k + 22) h2 HN.out.1.st HN.out.1.pb (by have := HN.out.2.2.2.2; omega) hne rfl)
      have HN2 := Lib.hid hn2
      clear hn2 hpk hne
      clear hz hN hbad hd hout hkok hlen p1 p2 p3 p4 p5 p6 p7 p8 p9 p10 p11
      go_enter Tryz.func50, Tryz.ntmps50
      go_upto_region 1 with fail
      rw [← HW1.out]
      clear HW1
      go_wp2_with fail
      refine KF.out.mono ?_
      rintro e w2 ⟨rfl, hq⟩
      have HO2 := Lib.hid (show Only (K.own Ge) w w2 from (HO1.out.trans hq).mono fun _ h => h.elim)
      have HBX2 := Lib.hid (HBX1.out.step (Nwr.refl _ _) (hq.mono fun _ h => h.elim))
      have KK := Lib.hid (KK.out w2 (HZ1.out.quiet hq))
      clear hq KF o0 o1 o2 o3 HBX1 HZ1 HO1
      have o0 : w2.cell? ⟨w.heap.size, 0, none⟩ = some (.int .i64 5) := HBX2.out.1.cell 0
      go_wp2_with fail
      refine KK.out.mono ?_
      rintro e w3 ⟨rfl, G3, hz3, hn3, ho3⟩
      have HZ3 := Lib.hid hz3
      have HN3 := Lib.hid (show Nwr w Ge G3 from fun i hi => (hn3 i hi).imp id (fun h => Nat.le_trans HO2.out.size h))
      have HO3 := Lib.hid (HO2.out.trans ho3)
      have HBX3 := Lib.hid (HBX2.out.step hn3 ho3)
      clear hz3 hn3 ho3 KK HBX2 HO2 o0
      have o0 : w3.cell? ⟨w.heap.size, 0, none⟩ = some (.int .i64 5) := HBX3.out.1.cell 0
      have o1 : w3.cell? ⟨w.heap.size, 1, none⟩ = some (.int .u8 (b.toNat : Int)) := HBX3.out.1.cell 1
      have o2 : w3.cell? ⟨w.heap.size, 2, none⟩ = some (.int .i64 (n : Int)) := HBX3.out.1.cell 2
      have o3 : w3.cell? ⟨w.heap.size, 3, none⟩ = some (.int .u32 (d : Int)) := HBX3.out.1.cell 3
      have KM := Lib.hid (show Calls Tryz.prog 69 #[.pointer (some ⟨K.g, 0, none⟩), .int .i64 3, .int .i64 (n : Int)] w3 (CMid K w3 G3 (.tuple #[]) A' c { z.again 3 with st := aft 8 11 z.st } (k + 12) (lenP encM (kdE z t 5) 1333 (z.out.length % 2 ^ z.pb) ((n - 2 : Nat) : Int)).2) from cagain_any (k := k + 12) (n := n) (j := 3) HZ3.out HN.out.1.pb (by have := HN.out.2.2.2.2; omega) rfl HN2.out.1 HN2.out.2 (by decide))
      go_wp2_with fail
      refine KM.out.mono ?_
      rintro e w4 ⟨rfl, G4, hz4, hn4, ho4⟩
      have HZ4 := Lib.hid hz4
      have HN4 := Lib.hid (HN3.out.trans hn4 HO3.out.size)
      have HO4 := Lib.hid (cset_trans HO3.out HN3.out ho4)
      have HBX4 := Lib.hid (HBX3.out.step hn4 ho4)
      clear hz4 hn4 ho4 KM HBX3 HZ3 HN3 HO3 o0 o1 o2 o3
      have o2 : w4.cell? ⟨w.heap.size, 2, none⟩ = some (.int .i64 (n : Int)) := HBX4.out.1.cell 2
      have KT := Lib.hid (ccopies_any (n := n) HZ4.out (by have := HN2.out; omega) (by have := HN.out.2.2.2.2; show z.out.length ≤ _; omega) HN.out.1.r3)
      go_wp2_with fail
      refine KT.out.mono ?_
      intro e w5 hp
      obtain ⟨rfl, G5, A5, c5, hz5, hn5, ht5, ho5⟩ := CPut.behind HN4.out HO4.out hp
      have HZ5 := Lib.hid hz5
      have HN5 := Lib.hid hn5
      have HT5 := Lib.hid ht5
      have HO5 := Lib.hid ho5
      clear hp hz5 hn5 ht5 ho5 KT
      go_wp2_with fail
      go_ret
      exact ⟨rfl, G5, A5, c5, HZ5.out.less (by omega), HN5.out, HT5.out, HO5.out⟩
    · have hne : z.out.length ≠ 0 := by have := (of_decide_eq_true (p11 rfl)).1; omega
      rw [packE_single hbad p1 (p11 rfl)]
      have KK := Lib.hid (fun (w2 : World) (h2 : Cw K w2 Ge A' c z (k + 27) t) => ckind_6 (k := k + 22) h2 HN.out.1.st HN.out.1.pb (by have := HN.out.2.2.2.2; omega) hne rfl)
      clear hne
      clear hz hN hbad hd hout hkok hlen p1 p2 p3 p4 p5 p6 p7 p8 p9 p10 p11
      go_enter Tryz.func50, Tryz.ntmps50
      go_upto_region 1 with fail
      rw [← HW1.out]
      clear HW1
      go_wp2_with fail
      refine KF.out.mono ?_
      rintro e w2 ⟨rfl, hq⟩
      have HO2 := Lib.hid (show Only (K.own Ge) w w2 from (HO1.out.trans hq).mono fun _ h => h.elim)
      have HBX2 := Lib.hid (HBX1.out.step (Nwr.refl _ _) (hq.mono fun _ h => h.elim))
      have KK := Lib.hid (KK.out w2 (HZ1.out.quiet hq))
      clear hq KF o0 o1 o2 o3 HBX1 HZ1 HO1
      have o0 : w2.cell? ⟨w.heap.size, 0, none⟩ = some (.int .i64 6) := HBX2.out.1.cell 0
      go_wp2_with fail
      refine KK.out.mono ?_
      rintro e w3 ⟨rfl, G3, hz3, hn3, ho3⟩
      have HZ3 := Lib.hid hz3
      have HN3 := Lib.hid (show Nwr w Ge G3 from fun i hi => (hn3 i hi).imp id (fun h => Nat.le_trans HO2.out.size h))
      have HO3 := Lib.hid (HO2.out.trans ho3)
      have HBX3 := Lib.hid (HBX2.out.step hn3 ho3)
      clear hz3 hn3 ho3 KK HBX2 HO2 o0
      have o0 : w3.cell? ⟨w.heap.size, 0, none⟩ = some (.int .i64 6) := HBX3.out.1.cell 0
      have c6 := HZ3.out.f.c6
      have f6 := HZ3.out.f.fz 6
      have KS := Lib.hid (psing_any z.st w3)
      have HZ4 : Hid (Cw K (w3.setCell ⟨K.g, 6, none⟩ (.int .i64 ((aft 9 11 z.st : Nat) : Int))) G3 A' c { z with st := aft 9 11 z.st } (k + 22) (kdE z t 6)) := Lib.hid (HZ3.out.put 6 (by decide) (.int .i64 ((aft 9 11 z.st : Nat) : Int)) (z' := { z with st := aft 9 11 z.st }) rfl rfl)
      have HN4 := HN3
      have HO4 : Hid (Only (K.own Ge) w (w3.setCell ⟨K.g, 6, none⟩ (.int .i64 ((aft 9 11 z.st : Nat) : Int)))) := Lib.hid (HO3.out.cwn_put 6 _)
      clear HZ3 HN3 HO3 HBX3
      go_wp2_with fail
      refine KS.out.mono ?_
      rintro e w4' ⟨rfl, rfl⟩
      clear KS o0
      go_upto_region 17 with fail
      generalize w3.setCell ⟨K.g, 6, none⟩ (.int .i64 ((aft 9 11 z.st : Nat) : Int)) = w4 at *
      clear c6 f6
      have KT := Lib.hid (show Calls Tryz.prog 67 #[.pointer (some ⟨K.g, 0, none⟩), .int .i64 1] w4 (CPut K w4 G3 (tb A' z.out.length c) (.tuple #[]) (copyN 1 { z with st := aft 9 11 z.st }) (k + 22) (kdE z t 6)) from ccopies_any (n := 1) HZ4.out (by decide) (by have := HN.out.2.2.2.2; show z.out.length ≤ _; omega) HN.out.1.r0)
      go_wp2_with fail
      refine KT.out.mono ?_
      intro e w5 hp
      obtain ⟨rfl, G5, A5, c5, hz5, hn5, ht5, ho5⟩ := CPut.behind HN4.out HO4.out hp
      have HZ5 := Lib.hid hz5
      have HN5 := Lib.hid hn5
      have HT5 := Lib.hid ht5
      have HO5 := Lib.hid ho5
      clear hp hz5 hn5 ht5 ho5 KT
      go_wp2_with fail
      go_ret
      exact ⟨rfl, G5, A5, c5, HZ5.out.less (by omega), HN5.out, HT5.out, HO5.out⟩
    · have KK := Lib.hid (fun (w2 : World) (h2 : Cw K w2 Ge A' c z (k + 27) t) => ckind_7 (k := k + 22) h2 HN.out.1.st HN.out.1.pb (by have := HN.out.2.2.2.2; omega) rfl)
      have hlk := (lenP_ok encM_ok (k := k + 12) (a := 819) (s := z.out.length % 2 ^ z.pb) (v := 0) hkok (by omega) (mod_pb hz.pb) (fun _ => by decide)).2
      rw [packE_end hbad ⟨k, _, by omega, hlk⟩]
      clear hlk
      clear hz hN hbad hd hout hkok hlen p1 p2 p3 p4 p5 p6 p7 p8 p9 p10 p11
      go_enter Tryz.func50, Tryz.ntmps50
      go_upto_region 1 with fail
      rw [← HW1.out]
      clear HW1
      go_wp2_with fail
      refine KF.out.mono ?_
      rintro e w2 ⟨rfl, hq⟩
      have HO2 := Lib.hid (show Only (K.own Ge) w w2 from (HO1.out.trans hq).mono fun _ h => h.elim)
      have HBX2 := Lib.hid (HBX1.out.step (Nwr.refl _ _) (hq.mono fun _ h => h.elim))
      have KK := Lib.hid (KK.out w2 (HZ1.out.quiet hq))
      clear hq KF o0 o1 o2 o3 HBX1 HZ1 HO1
      have o0 : w2.cell? ⟨w.heap.size, 0, none⟩ = some (.int .i64 7) := HBX2.out.1.cell 0
      go_wp2_with fail
      refine KK.out.mono ?_
      rintro e w3 ⟨rfl, G3, hz3, hn3, ho3⟩
      have HZ3 := Lib.hid hz3
      have HN3 := Lib.hid (show Nwr w Ge G3 from fun i hi => (hn3 i hi).imp id (fun h => Nat.le_trans HO2.out.size h))
      have HO3 := Lib.hid (HO2.out.trans ho3)
      have HBX3 := Lib.hid (HBX2.out.step hn3 ho3)
      clear hz3 hn3 ho3 KK HBX2 HO2 o0
      have o0 : w3.cell? ⟨w.heap.size, 0, none⟩ = some (.int .i64 7) := HBX3.out.1.cell 0
      have KM := Lib.hid (show Calls Tryz.prog 66 #[.pointer (some ⟨K.g, 0, none⟩), .int .i64 2, .int .u32 4294967295] w3 (CMid K w3 G3 (.tuple #[]) A' c { z with r0 := 4294967295, r1 := z.r0, r2 := z.r1, r3 := z.r2, st := aft 7 10 z.st } k (distP encM (lenP encM (kdE z t 7) 819 (z.out.length % 2 ^ z.pb) 0).2 0 4294967295).2) from cmatch_any (k := k) (n := 2) (d := 4294967295) HZ3.out HN.out.1.pb (by have := HN.out.2.2.2.2; omega) rfl (by decide) (by decide) (by decide))
      go_wp2_with fail
      refine KM.out.mono ?_
      rintro e w4 ⟨rfl, G4, hz4, hn4, ho4⟩
      have HN4 := Lib.hid (HN3.out.trans hn4 HO3.out.size)
      have HO4 : Hid (Only (K.own Ge) w (w4.setCell ⟨K.g, 1859, none⟩ (.bool true))) := Lib.hid ((cset_trans HO3.out HN3.out ho4).cwn_put 12 (.bool true))
      have HZ4 : Hid (Cw K (w4.setCell ⟨K.g, 1859, none⟩ (.bool true)) G4 A' c { z with r0 := 4294967295, r1 := z.r0, r2 := z.r1, r3 := z.r2, st := aft 7 10 z.st, ended := true } k _) := Lib.hid (hz4.put 12 (by decide) (.bool true) (z' := { z with r0 := 4294967295, r1 := z.r0, r2 := z.r1, r3 := z.r2, st := aft 7 10 z.st, ended := true }) rfl rfl)
      have cE := hz4.f.ended
      have fE := hz4.f.fz 1859
      clear hz4 hn4 ho4 KM HBX3 HZ3 HN3 HO3 o0
      go_wp2_with fail
      go_ret
      exact ⟨rfl, G4, A', c, HZ4.out, HN4.out, Nwr.refl _ _, HO4.out.mono fun i hi => .inl hi⟩
end
end Go.Proofs.YtoencondpbkomaaGreat

/-
  Bytes, each a literal: numbers.
-/
namespace Go.Proofs.YtoencondpbkomaaGreat
open Go.RowKit

def litQ (bs : List UInt8) (i : Nat) : Pq := ⟨0, ((bs.getD i 0).toNat : Int), 0, 0⟩
theorem litQ_lit (bs : List UInt8) (i : Nat) : PqLit (litQ bs i) := by
  have := (bs.getD i 0).toNat_lt
  unfold litQ
  exact ⟨⟨by show -9223372036854775808 ≤ (0 : Int); omega, by show (0 : Int) ≤ _; omega⟩, ⟨by show (0 : Int) ≤ ((bs.getD i 0).toNat : Int); omega, by show ((bs.getD i 0).toNat : Int) ≤ 255; omega⟩, ⟨by show -9223372036854775808 ≤ (0 : Int); omega, by show (0 : Int) ≤ _; omega⟩, ⟨by show (0 : Int) ≤ 0; omega, by show (0 : Int) ≤ _; omega⟩⟩
theorem lit_fits {z : Lzs} (h : z.ended = false) : fitsP z 0 0 0 = true := by
  unfold fitsP lateP hasP
  rw [h]
  rfl
theorem lit_succ (bs : List UInt8) (s : Lzs × Pm En) (j : Nat) (he : (runG (litQ bs) s j).1.ended = false) :
    runG (litQ bs) s (j + 1) = stepP (runG (litQ bs) s j) ⟨0, 0, 0, bs.getD j 0⟩ := by
  rw [run_succ]
  have eb : (litQ bs j).pk = ⟨0, 0, 0, bs.getD j 0⟩ := by
    show (⟨0, 0, 0, UInt8.ofNat (((bs.getD j 0).toNat : Int)).toNat⟩ : Pk) = _
    rw [Int.toNat_natCast, UInt8.ofNat_toNat]
  rw [eb]
  rfl
theorem lit_run {bs : List UInt8} {lc lp pb dict : Nat} (h : SetOk lc lp pb dict) (hn : bs.length ≤ 3000) : ∀ j, j ≤ bs.length → (runG (litQ bs) (freshS lc lp pb dict) j).1.out = bs.take j ∧ (runG (litQ bs) (freshS lc lp pb dict) j).1.ended = false
  | 0, _ => ⟨rfl, rfl⟩
  | j + 1, hj => by
    obtain ⟨h1, h2⟩ := lit_run h hn j (by omega)
    have hb := run_bad (qs := litQ bs) (n := bs.length) h (fun i _ => litQ_lit bs i) hn j (by omega)
    rw [lit_succ bs _ j h2]
    generalize runG (litQ bs) (freshS lc lp pb dict) j = s at *
    obtain ⟨z, t⟩ := s
    dsimp only at h1 h2 hb
    unfold stepP
    dsimp only
    rw [if_pos (lit_fits h2), packE_lit hb]
    refine ⟨?_, h2⟩
    show z.out ++ [bs.getD j 0] = _
    rw [h1, List.take_add_one]
    congr 1
    rw [List.getElem?_eq_getElem (by omega), List.getD_eq_getElem?_getD, List.getElem?_eq_getElem (by omega)]
    rfl

end Go.Proofs.YtoencondpbkomaaGreat

/-
  What the packets tell that are found: just the bytes.
-/
namespace Go.Proofs.YtoencondpbkomaaGreat
open Go.RowKit

/-- where the finder stands, and what was told -/
structure Par (b : List UInt8) (dict : Nat) (s : Ps) (z : Lzs) : Prop where
  out : z.out = b.take s.i
  le : s.i ≤ b.length
  r0 : z.r0 = s.r0
  r1 : z.r1 = s.r1
  r2 : z.r2 = s.r2
  r3 : z.r3 = s.r3
  bad : z.bad = false
  ended : z.ended = false
  dict : z.dict = dict

theorem take_push {b : List UInt8} {i : Nat} (h : i < b.length) : b.take i ++ [b.getD i 0] = b.take (i + 1) := by
  rw [List.take_add_one, List.getElem?_eq_getElem h, List.getD_eq_getElem?_getD, List.getElem?_eq_getElem h]
  rfl
theorem copyN_par {b : List UInt8} : ∀ (n i : Nat) (z : Lzs), z.out = b.take i → i + n ≤ b.length → z.r0 < i → z.r0 < z.dict → (∀ j, j < n → b.getD (i + j) 0 = b.getD (i + j - (z.r0 + 1)) 0) →
    (copyN n z).out = b.take (i + n) ∧ (copyN n z).r0 = z.r0 ∧ (copyN n z).r1 = z.r1 ∧ (copyN n z).r2 = z.r2 ∧ (copyN n z).r3 = z.r3
  | 0, i, z, h1, _, _, _, _ => ⟨h1, rfl, rfl, rfl, rfl⟩
  | n + 1, i, z, h1, h2, h3, h4, h5 => by
    have hlen : z.out.length = i := by rw [h1, List.length_take]; omega
    have hhas : z.has z.r0 = true := decide_eq_true ⟨by rw [hlen]; exact h3, h4⟩
    have hb : z.back z.r0 = b.getD i 0 := by
      unfold Lzs.back
      rw [if_pos hhas, hlen, h1]
      have h0 := h5 0 (by omega)
      rw [Nat.add_zero] at h0
      rw [h0, List.getD_eq_getElem?_getD, List.getD_eq_getElem?_getD, List.getElem?_take_of_lt (by omega), show i - 1 - z.r0 = i - (z.r0 + 1) by omega]
    have ho : (z.push (z.back z.r0)).out = b.take (i + 1) := by
      show z.out ++ [_] = _
      rw [hb, h1]
      exact take_push (by omega)
    obtain ⟨a1, a2, a3, a4, a5⟩ := copyN_par n (i + 1) (z.push (z.back z.r0)) ho (by omega) (by show z.r0 < i + 1; omega) h4 (fun j hj => by
      have := h5 (j + 1) (by omega)
      rw [show i + (j + 1) = i + 1 + j by omega] at this
      exact this)
    rw [show i + 1 + n = i + (n + 1) by omega] at a1
    exact ⟨a1, a2, a3, a4, a5⟩
/-- a copy's bytes -/
theorem cp_same {b : List UInt8} {dict e i d n : Nat} (h : cpN b dict e i d = n) (hn : 0 < n) : d < i ∧ d < dict ∧ n ≤ 273 ∧ i + n ≤ e ∧ ∀ j, j < n → b.getD (i + j) 0 = b.getD (i + j - (d + 1)) 0 := by
  have hle := cpN_le b dict e i d
  unfold cpN at h hle
  split at h
  · rename_i hc
    rw [if_pos hc] at hle
    refine ⟨hc.1, hc.2, by omega, by omega, fun j hj => eqN_same b (d + 1) _ i j (by rw [h]; exact hj)⟩
  · omega
theorem rep_is {b : List UInt8} {dict : Nat} {s : Ps} {z : Lzs} (h : Par b dict s z) {k : Nat} (hk : k < 4) : z.rep k = s.rep k := by
  match k, hk with
  | 0, _ => exact h.r0
  | 1, _ => exact h.r1
  | 2, _ => exact h.r2
  | 3, _ => exact h.r3

section
variable {b : List UInt8} {dict e L N k : Nat} {s : Ps} {z : Lzs} {t : Pm En}
theorem Par.len (h : Par b dict s z) : z.out.length = s.i := by
  rw [h.out, List.length_take]
  have := h.le
  omega
theorem has_is (h : Par b dict s z) {d : Nat} (h1 : d < s.i) (h2 : d < dict) : z.has d = true := decide_eq_true ⟨by rw [h.len]; exact h1, by rw [h.dict]; exact h2⟩

theorem par_step (h : Par b dict s z) (hi : s.i < e) (he : e ≤ b.length) (hz : ZNear z L N) (ht : PmOk okE L (k + 27) t) :
    PqLit (stepF b dict e s).1 ∧ fitsP z (stepF b dict e s).1.k (stepF b dict e s).1.v.toNat (stepF b dict e s).1.n = true ∧ Par b dict (stepF b dict e s).2 (packP encM z t (stepF b dict e s).1.pk).2.1 := by
  have hdd : dict < 4294967296 := by rw [← h.dict]; exact hz.dict
  have hend := h.ended
  unfold stepF stepG
  split
  · rename_i hr
    have hlt := eld_lt (b := b) (dict := dict) (e := e) (s := s)
    have hbest : cpN b dict e s.i (s.rep (eldP b dict e s).1) = (eldP b dict e s).2 := (best_is _ _ (show 0 < (eldP b dict e s).2 by have := hr.1; omega)).2.1
    generalize eldP b dict e s = r at *
    obtain ⟨j, n⟩ := r
    dsimp only at *
    obtain ⟨c1, c2, c3, c4, c5⟩ := cp_same hbest (by omega)
    have hrep := rep_is h hlt
    have hhas : z.has (z.rep j) = true := by rw [hrep]; exact has_is h c1 c2
    have hj4 : j = 0 ∨ j = 1 ∨ j = 2 ∨ j = 3 := by omega
    have hfit : fitsP z (2 + (j : Int)) ((0 : Int)).toNat (n : Int) = true := by
      unfold fitsP lateP hasP
      rw [hend, decide_eq_false (by omega)]
      rcases hj4 with rfl | rfl | rfl | rfl
      · exact hhas
      · exact hhas
      · exact hhas
      · exact hhas
    refine ⟨⟨⟨by show _ ≤ 2 + (j : Int); omega, by show 2 + (j : Int) ≤ _; omega⟩, ⟨by show (0 : Int) ≤ 0; omega, by show (0 : Int) ≤ 255; omega⟩, ⟨by show _ ≤ (n : Int); omega, by show (n : Int) ≤ _; omega⟩, ⟨by show (0 : Int) ≤ 0; omega, by show (0 : Int) ≤ _; omega⟩⟩, hfit, ?_⟩
    have hpk : (packP encM z t (⟨2 + (j : Int), 0, (n : Int), 0⟩ : Pq).pk).2.1 = copyN n { z.again j with st := aft 8 11 z.st } := by
      have := packE_again (t := t) (d := 0) (b := 0) h.bad hend (j := j) (n := n) (by omega) hr.1 c3 hhas
      rw [show ((j + 2 : Nat) : Int) = 2 + (j : Int) by omega] at this
      exact congrArg Prod.fst this
    rw [hpk]
    have ho : ({ z.again j with st := aft 8 11 z.st } : Lzs).out = b.take s.i := h.out
    have hr0 : ({ z.again j with st := aft 8 11 z.st } : Lzs).r0 = s.rep j := hrep
    obtain ⟨a1, a2, a3, a4, a5⟩ := copyN_par n s.i ({ z.again j with st := aft 8 11 z.st } : Lzs) ho (by omega) (by rw [hr0]; exact c1) (by rw [hr0]; show _ < z.dict; rw [h.dict]; exact c2) (by rw [hr0]; exact c5)
    obtain ⟨b1, b2, _, _, _, _, b7⟩ := copyN_keep n ({ z.again j with st := aft 8 11 z.st } : Lzs)
    have hi' := Ps.raise_i s n j
    refine ⟨by rw [hi']; exact a1, by rw [hi']; omega, ?_, ?_, ?_, ?_, b1.trans h.bad, b2.trans hend, b7.trans h.dict⟩
    · rw [a2, hr0]
      rcases hj4 with rfl | rfl | rfl | rfl <;> rfl
    · rw [a3]
      rcases hj4 with rfl | rfl | rfl | rfl
      · exact h.r1
      · exact h.r0
      · exact h.r0
      · exact h.r0
    · rw [a4]
      rcases hj4 with rfl | rfl | rfl | rfl
      · exact h.r2
      · exact h.r2
      · exact h.r1
      · exact h.r1
    · rw [a5]
      rcases hj4 with rfl | rfl | rfl | rfl
      · exact h.r3
      · exact h.r3
      · exact h.r3
      · exact h.r2
  · split
    · rename_i hm
      have hp : 0 < lonM b dict e s := by rcases hm with hm | hm <;> omega
      obtain ⟨m2, m3⟩ := lonM_pos hp
      have hl0 : 0 < (lonP b dict e s).2 := by omega
      have hbest : cpN b dict e s.i (lonP b dict e s).1 = (lonP b dict e s).2 := (best_is _ _ hl0).2.1
      rw [m3]
      rw [m3] at m2
      generalize lonP b dict e s = r at *
      obtain ⟨d, n⟩ := r
      dsimp only at *
      obtain ⟨c1, c2, c3, c4, c5⟩ := cp_same hbest hl0
      have hhas : z.has d = true := has_is h c1 c2
      have hfit : fitsP z 1 ((d : Int)).toNat (n : Int) = true := by
        rw [Int.toNat_natCast]
        unfold fitsP lateP hasP
        rw [hend, decide_eq_false (by omega)]
        exact hhas
      refine ⟨⟨⟨by show _ ≤ (1 : Int); omega, by show (1 : Int) ≤ _; omega⟩, ⟨by show (0 : Int) ≤ 0; omega, by show (0 : Int) ≤ 255; omega⟩, ⟨by show _ ≤ (n : Int); omega, by show (n : Int) ≤ _; omega⟩, ⟨by show (0 : Int) ≤ (d : Int); omega, by show (d : Int) ≤ _; omega⟩⟩, hfit, ?_⟩
      have hL0 : 1847 ≤ L := by have := hz.len; omega
      have hs15 : z.out.length % 2 ^ z.pb ≤ 15 := by
        have h1 : z.out.length % 2 ^ z.pb < 2 ^ z.pb := Nat.mod_lt _ (Nat.two_pow_pos _)
        have h2 : 2 ^ z.pb ≤ 2 ^ 4 := pow_le_of hz.pb
        omega
      have hkok := (kindP_ok encM_ok (k := k + 22) (em := decide (z.out.length = 0)) (kd := 1) (t := t) ht hL0 hs15 hz.st (fun _ => by decide)).2
      have hlk := (lenP_ok encM_ok (k := k + 12) (a := 819) (s := z.out.length % 2 ^ z.pb) (v := ((n - 2 : Nat) : Int)) hkok (by omega) (mod_pb hz.pb) (fun _ => by omega)).2
      have hpk : (packP encM z t (⟨1, 0, (n : Int), (d : Int)⟩ : Pq).pk).2.1 = copyN n { z with r0 := d, r1 := z.r0, r2 := z.r1, r3 := z.r2, st := aft 7 10 z.st } :=
        congrArg Prod.fst (packE_match (t := t) (b := 0) h.bad hend m2 c3 hhas hz.dict ⟨k, _, hL0, hlk⟩)
      rw [hpk]
      obtain ⟨a1, a2, a3, a4, a5⟩ := copyN_par n s.i ({ z with r0 := d, r1 := z.r0, r2 := z.r1, r3 := z.r2, st := aft 7 10 z.st } : Lzs) h.out (by omega) c1 (by show _ < z.dict; rw [h.dict]; exact c2) c5
      obtain ⟨b1, b2, _, _, _, _, b7⟩ := copyN_keep n ({ z with r0 := d, r1 := z.r0, r2 := z.r1, r3 := z.r2, st := aft 7 10 z.st } : Lzs)
      exact ⟨a1, by show s.i + n ≤ _; omega, a2, a3.trans h.r0, a4.trans h.r1, a5.trans h.r2, b1.trans h.bad, b2.trans hend, b7.trans h.dict⟩
    · split
      · rename_i hc
        obtain ⟨c1, c2, c3, c4, c5⟩ := cp_same (n := cpN b dict e s.i s.r0) rfl hc
        have hhas : z.has z.r0 = true := by rw [h.r0]; exact has_is h c1 c2
        have hfit : fitsP z 6 ((0 : Int)).toNat 0 = true := by
          unfold fitsP lateP hasP
          rw [hend, decide_eq_false (by omega)]
          exact hhas
        refine ⟨⟨⟨by show _ ≤ (6 : Int); omega, by show (6 : Int) ≤ _; omega⟩, ⟨by show (0 : Int) ≤ 0; omega, by show (0 : Int) ≤ 255; omega⟩, ⟨by show _ ≤ (0 : Int); omega, by show (0 : Int) ≤ _; omega⟩, ⟨by show (0 : Int) ≤ 0; omega, by show (0 : Int) ≤ _; omega⟩⟩, hfit, ?_⟩
        have hpk : (packP encM z t (⟨6, 0, 0, 0⟩ : Pq).pk).2.1 = copyN 1 { z with st := aft 9 11 z.st } := congrArg Prod.fst (packE_single (t := t) (d := 0) (len := 0) (b := 0) h.bad hend hhas)
        rw [hpk]
        obtain ⟨a1, a2, a3, a4, a5⟩ := copyN_par 1 s.i ({ z with st := aft 9 11 z.st } : Lzs) h.out (by omega) (by show z.r0 < _; rw [h.r0]; exact c1) (by show z.r0 < z.dict; rw [h.r0, h.dict]; exact c2) (fun j hj => by show _ = b.getD (s.i + j - (z.r0 + 1)) 0; rw [h.r0]; exact c5 j (by omega))
        obtain ⟨b1, b2, _, _, _, _, b7⟩ := copyN_keep 1 ({ z with st := aft 9 11 z.st } : Lzs)
        exact ⟨a1, by show s.i + 1 ≤ _; omega, a2.trans h.r0, a3.trans h.r1, a4.trans h.r2, a5.trans h.r3, b1.trans h.bad, b2.trans hend, b7.trans h.dict⟩
      · have hb8 := (b.getD s.i 0).toNat_lt
        have hfit : fitsP z 0 ((0 : Int)).toNat 0 = true := lit_fits hend
        refine ⟨⟨⟨by show _ ≤ (0 : Int); omega, by show (0 : Int) ≤ _; omega⟩, ⟨by show (0 : Int) ≤ ((b.getD s.i 0).toNat : Int); omega, by show ((b.getD s.i 0).toNat : Int) ≤ 255; omega⟩, ⟨by show _ ≤ (0 : Int); omega, by show (0 : Int) ≤ _; omega⟩, ⟨by show (0 : Int) ≤ 0; omega, by show (0 : Int) ≤ _; omega⟩⟩, hfit, ?_⟩
        have hpk : (packP encM z t (⟨0, ((b.getD s.i 0).toNat : Int), 0, 0⟩ : Pq).pk).2.1 = ({ z with st := litSt z.st } : Lzs).push (b.getD s.i 0) := by
          have eb : (⟨0, ((b.getD s.i 0).toNat : Int), 0, 0⟩ : Pq).pk = ⟨0, 0, 0, b.getD s.i 0⟩ := by
            show (⟨0, 0, 0, UInt8.ofNat (((b.getD s.i 0).toNat : Int)).toNat⟩ : Pk) = _
            rw [Int.toNat_natCast, UInt8.ofNat_toNat]
          rw [eb]
          exact congrArg Prod.fst (packE_lit (t := t) (d := 0) (len := 0) h.bad)
        rw [hpk]
        refine ⟨?_, by show s.i + 1 ≤ _; omega, h.r0, h.r1, h.r2, h.r3, h.bad, hend, h.dict⟩
        show z.out ++ [_] = b.take (s.i + 1)
        rw [h.out]
        exact take_push (by omega)
end
end Go.Proofs.YtoencondpbkomaaGreat

/-
  The coder's blocks, all above a bound; its distances.
-/
namespace Go.Proofs.YtoencondpbkomaaGreat
open Go.RowKit

/-- all blocks are B or above -/
structure Young (B : Nat) (K : Koc) (Ge Gt : Option Nat) : Prop where
  g : B ≤ K.g
  l : B ≤ K.lb
  e : B ≤ K.eg
  ge : ∀ i, Ge = some i → B ≤ i
  gt : ∀ i, Gt = some i → B ≤ i
theorem Young.all {B : Nat} {K : Koc} {Ge Gt : Option Nat} (h : Young B K Ge Gt) {i : Nat} (hi : K.all Ge Gt i) : B ≤ i := by
  rcases hi with (e | e | e | e) | e
  · exact e ▸ h.e
  · exact h.ge i e
  · exact e ▸ h.g
  · exact e ▸ h.l
  · exact h.gt i e
theorem Young.step {B : Nat} {K : Koc} {w : World} {Ge Ge' Gt Gt' : Option Nat} (h : Young B K Ge Gt) (h1 : Nwr w Ge Ge') (h2 : Nwr w Gt Gt') (hB : B ≤ w.heap.size) : Young B K Ge' Gt' :=
  ⟨h.g, h.l, h.e, fun i hi => by rcases h1 i hi with e | e; exact h.ge i e; omega, fun i hi => by rcases h2 i hi with e | e; exact h.gt i e; omega⟩

def Lzs.puts (z : Lzs) (xs : List UInt8) : Lzs := { z with out := z.out ++ xs }
section
variable {K : Koc} {w w' : World} {Ge : Option Nat} {A : Option Addr} {c : Nat} {z : Lzs} {k : Nat} {t : Pm En}
set_option maxRecDepth 100000 in
set_option maxHeartbeats 2000000 in
/-- the elder distances -/
theorem creps_any (h : Cw K w Ge A c z k t) :
    Calls Tryz.prog 49 #[.pointer (some ⟨K.g, 0, none⟩)] w fun e w' => e = .returned (.agg #[.int .u32 (z.r0 : Int), .int .u32 (z.r1 : Int), .int .u32 (z.r2 : Int), .int .u32 (z.r3 : Int)]) ∧ Only (fun _ => False) w w' := by
  have hq := h.quiet ((Only.refl (fun _ => False) w).alloc (.cells #[.int .u32 0, .int .u32 0, .int .u32 0, .int .u32 0] 49))
  have c7 := hq.f.c7
  have c8 := hq.f.c8
  have c9 := hq.f.c9
  have c10 := hq.f.c10
  have hB := Blk.fresh w 49 #[.int .u32 (z.r0 : Int), .int .u32 (z.r1 : Int), .int .u32 (z.r2 : Int), .int .u32 (z.r3 : Int)]
  have k0 := hB.cell 0
  have k1 := hB.cell 1
  have k2 := hB.cell 2
  have k3 := hB.cell 3
  have HK := Lib.hid (And.intro k0 (And.intro k1 (And.intro k2 k3)))
  clear h hq hB k0 k1 k2 k3
  go_enter Tryz.func49, Tryz.ntmps49
  go_wp2_with fail
  obtain ⟨k0, k1, k2, k3⟩ := HK.out
  refine bodyPost_ret (v := .agg #[.int .u32 (z.r0 : Int), .int .u32 (z.r1 : Int), .int .u32 (z.r2 : Int), .int .u32 (z.r3 : Int)]) (by simp [results, Tryz.results49, go_sem, k0, k1, k2, k3]) rfl ⟨rfl, (Only.refl _ w).alloc _⟩

end
end Go.Proofs.YtoencondpbkomaaGreat

/-
  The coder goes through the packets that were found.
-/
namespace Go.Proofs.YtoencondpbkomaaGreat
open Go.RowKit

section
variable {b : List UInt8} {dict e : Nat} {s : Ps}
theorem go_len_is : ∀ n, (goF b dict e s n).2.i < e → (goF b dict e s n).1.length = n
  | 0, _ => rfl
  | n + 1, h => by
    by_cases hl : (goF b dict e s n).2.i < e
    · rw [go_succ hl, List.length_append, go_len_is n hl]
      rfl
    · rw [go_same hl] at h
      exact absurd h hl
theorem go_get : ∀ n h, h < (goF b dict e s n).1.length → (goF b dict e s h).2.i < e ∧ (goF b dict e s n).1[h]? = some (stepF b dict e (goF b dict e s h).2).1 ∧ goF b dict e s (h + 1) = ((goF b dict e s h).1 ++ [(stepF b dict e (goF b dict e s h).2).1], (stepF b dict e (goF b dict e s h).2).2)
  | 0, h, hh => absurd hh (Nat.not_lt_zero h)
  | n + 1, h, hh => by
    by_cases hl : (goF b dict e s n).2.i < e
    · have hlen := go_len_is n hl
      rw [go_succ hl] at hh ⊢
      rw [List.length_append, hlen] at hh
      have hh : h < n + 1 := hh
      by_cases he : h = n
      · subst he
        refine ⟨hl, ?_, go_succ hl⟩
        show ((goF b dict e s h).1 ++ [_])[h]? = _
        rw [List.getElem?_append_right (by omega), hlen, Nat.sub_self]
        rfl
      · obtain ⟨a1, a2, a3⟩ := go_get n h (by omega)
        refine ⟨a1, ?_, a3⟩
        show ((goF b dict e s n).1 ++ [_])[h]? = _
        rw [List.getElem?_append_left (by omega)]
        exact a2
    · rw [go_same hl] at hh ⊢
      exact go_get n h hh
theorem go_full (n : Nat) : goF b dict e s (goF b dict e s n).1.length = goF b dict e s n := by
  induction n with
  | zero => rfl
  | succ n ih =>
    by_cases hl : (goF b dict e s n).2.i < e
    · rw [go_succ hl, List.length_append, go_len_is n hl]
      exact go_succ hl
    · rw [go_same hl]
      exact ih
end

/-- the coder behind so many packets -/
def runT (q : Nat → Pq) (st : Lzs × Pm En) : Nat → Lzs × Pm En
  | 0 => st
  | h + 1 => stepP (runT q st h) (q h).pk
/-- what holds behind each -/
structure Tol (b : List UInt8) (dict L k : Nat) (s : Ps) (st : Lzs × Pm En) : Prop where
  par : Par b dict s st.1
  near : ZNear st.1 L b.length
  ok : PmOk okE L k st.2
theorem near_out {z : Lzs} {L N M : Nat} (h : ZNear z L N) (hM : z.out.length ≤ M) : ZNear z L M := ⟨h.lc, h.lp, h.pb, h.dict, hM, h.st, h.r0, h.r1, h.r2, h.r3, h.len⟩
theorem tol_step {b : List UInt8} {dict e L k : Nat} {s : Ps} {st : Lzs × Pm En} (h : Tol b dict L (k + 27) s st) (hi : s.i < e) (he : e ≤ b.length) :
    PqLit (stepF b dict e s).1 ∧ fitsP st.1 (stepF b dict e s).1.k (stepF b dict e s).1.v.toNat (stepF b dict e s).1.n = true ∧ Tol b dict L k (stepF b dict e s).2 (stepP st (stepF b dict e s).1.pk) := by
  obtain ⟨p1, p2, p3⟩ := par_step h.par hi he h.near h.ok
  obtain ⟨f1, f2, f3⟩ := fits_pk p1 p2
  obtain ⟨n1, n2, _⟩ := packP_near encM_ok (k := k) h.near h.ok f1 f2
  have hst : stepP st (stepF b dict e s).1.pk = (packP encM st.1 st.2 (stepF b dict e s).1.pk).2 := if_pos p2
  rw [hst]
  exact ⟨p1, p2, p3, near_out n1 (by rw [p3.len]; exact p3.le), n2⟩
theorem tol_run {b : List UInt8} {dict e L m k : Nat} {s : Ps} {st : Lzs × Pm En} {q : Nat → Pq} (h0 : Tol b dict L (k + 27 * m) s st) (he : e ≤ b.length) (n : Nat) (hm : (goF b dict e s n).1.length = m) (hq : ∀ h, h < m → q h = (stepF b dict e (goF b dict e s h).2).1) :
    ∀ h, h ≤ m → Tol b dict L (k + 27 * (m - h)) (goF b dict e s h).2 (runT q st h)
  | 0, _ => h0
  | h + 1, hh => by
    have ih := tol_run h0 he n hm hq h (by omega)
    obtain ⟨g1, _, g3⟩ := go_get (b := b) (dict := dict) (e := e) (s := s) n h (by rw [hm]; omega)
    rw [show k + 27 * (m - h) = (k + 27 * (m - (h + 1))) + 27 by omega] at ih
    obtain ⟨_, _, t3⟩ := tol_step ih g1 he
    rw [g3]
    show Tol _ _ _ _ _ (stepP (runT q st h) (q h).pk)
    rw [hq h (by omega)]
    exact t3
end Go.Proofs.YtoencondpbkomaaGreat
