/-
  CwCode, CwLitN: put together.
-/
import Derived.Test.YtjganponepafpaaQ10
import Derived.Test.YtjganponepafpaaQ12
import Derived.Test.YtjganponepafpaaQ13
import Derived.Test.YtjganponepafpaaQ14
import Derived.Test.YtjganponepafpaaQ06
set_option linter.unusedVariables false
set_option linter.unusedSimpArgs false
/-
  The program's coder of LZMA: a packet is coded, if it fits.
-/
namespace Go.Proofs.Ytjganponepafpaa
open Go.RowKit

/-- a packet, coded if it fits -/
def stepP (s : Lzs × Pm En) (p : Pk) : Lzs × Pm En := if fitsP s.1 p.kind p.dist p.len = true then (packP encM s.1 s.2 p).2 else s

section
variable {K : Koc} {w w' : World} {Ge Ge' : Option Nat} {A' : Option Addr} {c : Nat} {z : Lzs} {k : Nat} {t : Pm En}
/-- an object apart from the coder -/
def Box (K : Koc) (w : World) (G : Option Nat) (B : Nat) (cs : Array Value) : Prop := Blk w B 42 cs ∧ ¬ K.own G B
theorem Box.step {w1 : World} {G G1 : Option Nat} {B : Nat} {cs : Array Value} (h : Box K w G B cs) (hn : Nwr w G G1) (ho : Only (K.own G) w w1) : Box K w1 G1 B cs := by
  refine ⟨h.1.only ho h.2, ?_⟩
  have hlt := h.1.lt
  rintro (e | e | e | e)
  · exact h.2 (.inl e)
  · rcases hn B e with e2 | e2
    · exact h.2 (.inr (.inl e2))
    · omega
  · exact h.2 (.inr (.inr (.inl e)))
  · exact h.2 (.inr (.inr (.inr e)))
/-- a call that tells bytes, behind calls that told none -/
theorem CPut.behind {w1 : World} {G1 : Option Nat} {v : Value} {z2 : Lzs} {k2 : Nat} {t2 : Pm En} {e : Ending} {Gt : Option Nat} (hn : Nwr w Ge G1) (ho : Only (K.own Ge) w w1) (hp : CPut K w1 G1 Gt v z2 k2 t2 e w') : CPut K w Ge Gt v z2 k2 t2 e w' := by
  obtain ⟨rfl, G2, A2, c2, hz, hn2, hnt2, ho2⟩ := hp
  refine ⟨rfl, G2, A2, c2, hz, hn.trans hn2 ho.size, fun i hi => (hnt2 i hi).imp id (fun h => Nat.le_trans ho.size h), (ho.mono fun i hi => .inl hi).trans' ho2 fun i hi => ?_⟩
  rcases hi with (hi | hi | hi) | hi
  · exact .inl (.inl (.inl hi))
  · rcases hn i hi with e | e
    · exact .inl (.inl (.inr (.inl e)))
    · exact .inr e
  · exact .inl (.inl (.inr (.inr hi)))
  · exact .inl (.inr hi)

set_option maxRecDepth 100000 in
set_option maxHeartbeats 16000000 in
/-- A packet is coded, if it fits; whether it does. -/
theorem ccode_any {d N : Nat} {kd len : Int} {b : UInt8} (h : Cw K w Ge A' c z (k + 27) t) (hz : ZNear z (1847 + K.nl) N) (hN : N ≤ 899000) (hbad : z.bad = false) (hd : d < 4294967296) :
    Calls Try.prog 41 #[.pointer (some ⟨K.g, 0, none⟩), .agg #[.int .i64 kd, .int .u8 (b.toNat : Int), .int .i64 len, .int .u32 (d : Int)]] w (CPut K w Ge (tb A' z.out.length c) (.bool (fitsP z kd d len)) (stepP (z, t) ⟨kd, d, len, b⟩).1 k (stepP (z, t) ⟨kd, d, len, b⟩).2) := by
  obtain ⟨w1, hw1⟩ : ∃ w1, w1 = w.alloc (.cells #[.int .i64 kd, .int .u8 (b.toNat : Int), .int .i64 len, .int .u32 (d : Int)] 42) := ⟨_, rfl⟩
  have hO1 : Only (fun _ => False) w w1 := by rw [hw1]; exact (Only.refl _ _).alloc _
  have HBk : Blk w1 w.heap.size 42 #[.int .i64 kd, .int .u8 (b.toNat : Int), .int .i64 len, .int .u32 (d : Int)] := by rw [hw1]; exact Blk.fresh w _ _
  obtain ⟨old1, old2, old3, old4, old5⟩ := h.old
  have hbox : ¬ K.own Ge w.heap.size := by
    rintro (e | e | e | e)
    · omega
    · have := old4 _ e; omega
    · omega
    · omega
  have h1 := h.quiet hO1
  have KF := Lib.hid (cfits_any (d := d) (kd := kd) (len := len) (by_ := b) h1 hd ⟨hz.r0, hz.r1, hz.r2, hz.r3⟩)
  have o0 : w1.cell? ⟨w.heap.size, 0, none⟩ = some (.int .i64 kd) := HBk.cell 0
  have o1 : w1.cell? ⟨w.heap.size, 1, none⟩ = some (.int .u8 (b.toNat : Int)) := HBk.cell 1
  have o2 : w1.cell? ⟨w.heap.size, 2, none⟩ = some (.int .i64 len) := HBk.cell 2
  have o3 : w1.cell? ⟨w.heap.size, 3, none⟩ = some (.int .u32 (d : Int)) := HBk.cell 3
  have HW1 := Lib.hid hw1
  have HO1 := Lib.hid hO1
  have HZ1 := Lib.hid h1
  have HBX1 := Lib.hid (show Box K w1 Ge w.heap.size #[.int .i64 kd, .int .u8 (b.toNat : Int), .int .i64 len, .int .u32 (d : Int)] from ⟨HBk, hbox⟩)
  have hout : z.out.length ≤ 899000 := Nat.le_trans hz.out hN
  have HN := Lib.hid (And.intro hz (And.intro hN (And.intro hbad (And.intro hd hout))))
  unfold stepP
  dsimp only
  cases hf : fitsP z kd d len with
  | false =>
    rw [if_neg (by decide)]
    rw [hf] at KF
    have HZ0 := Lib.hid h
    clear hw1 hO1 HBk old1 old2 old3 old4 old5 hbox h1 h hz hN hbad hd hf hout HZ1 HBX1
    go_enter Try.func41, Try.ntmps41
    go_upto_region 1 with fail
    rw [← HW1.out]
    clear HW1
    go_wp2_with fail
    refine KF.out.mono ?_
    rintro e w2 ⟨rfl, hq⟩
    have HQ := Lib.hid (HO1.out.trans hq)
    clear hq KF
    go_wp2_with fail
    go_ret
    exact ⟨rfl, Ge, A', c, (HZ0.out.quiet HQ.out).less (by omega), Nwr.refl _ _, Nwr.refl _ _, HQ.out.mono fun _ h => h.elim⟩
  | true =>
    rw [if_pos rfl]
    rw [hf] at KF
    obtain ⟨p1, p2, p3, p4, p5, p6, p7, p8, p9, p10, p11⟩ := fits_may hf
    have hkok := (kindP_ok encM_ok (k := k + 22) (L := 1847 + K.nl) (s := z.out.length % 2 ^ z.pb) (st := z.st) (em := decide (z.out.length = 0)) (kd := kd) (t := t) h.mch.ok (by omega) (mod_pb hz.pb) hz.st (fun _ => p2)).2
    have hlen := hz.len
    clear hw1 hO1 HBk old1 old2 old3 old4 old5 hbox h1 h hf
    have hk : kd = 0 ∨ kd = 1 ∨ kd = 2 ∨ kd = 3 ∨ kd = 4 ∨ kd = 5 ∨ kd = 6 ∨ kd = 7 := by omega
    rcases hk with rfl | rfl | rfl | rfl | rfl | rfl | rfl | rfl
    · have KK := Lib.hid (fun (w2 : World) (h2 : Cw K w2 Ge A' c z (k + 27) t) => ckind_0 (k := k + 22) h2 HN.out.1.st HN.out.1.pb (by have := HN.out.2.2.2.2; omega) rfl)
      rw [packE_lit hbad]
      clear hz hN hbad hd hout hkok hlen p1 p2 p3 p4 p5 p6 p7 p8 p9 p10 p11
      go_enter Try.func41, Try.ntmps41
      go_upto_region 1 with fail
      rw [← HW1.out]
      clear HW1
      go_wp2_with fail
      refine KF.out.mono ?_
      rintro e w2 ⟨rfl, hq⟩
      have HO2 := Lib.hid (show Only (K.own Ge) w w2 from (HO1.out.trans hq).mono fun _ h => h.elim)
      have HBX2 := Lib.hid (HBX1.out.step (Nwr.refl _ _) (hq.mono fun _ h => h.elim))
      have KK := Lib.hid (KK.out w2 (HZ1.out.quiet hq))
      clear hq KF o0 o1 o2 o3 HBX1 HZ1 HO1
      have o0 : w2.cell? ⟨w.heap.size, 0, none⟩ = some (.int .i64 0) := HBX2.out.1.cell 0
      go_wp2_with fail
      refine KK.out.mono ?_
      rintro e w3 ⟨rfl, G3, hz3, hn3, ho3⟩
      have HZ3 := Lib.hid hz3
      have HN3 := Lib.hid (show Nwr w Ge G3 from fun i hi => (hn3 i hi).imp id (fun h => Nat.le_trans HO2.out.size h))
      have HO3 := Lib.hid (HO2.out.trans ho3)
      have HBX3 := Lib.hid (HBX2.out.step hn3 ho3)
      clear hz3 hn3 ho3 KK HBX2 HO2 o0
      have o0 : w3.cell? ⟨w.heap.size, 0, none⟩ = some (.int .i64 0) := HBX3.out.1.cell 0
      have o1 : w3.cell? ⟨w.heap.size, 1, none⟩ = some (.int .u8 (b.toNat : Int)) := HBX3.out.1.cell 1
      have o2 : w3.cell? ⟨w.heap.size, 2, none⟩ = some (.int .i64 len) := HBX3.out.1.cell 2
      have o3 : w3.cell? ⟨w.heap.size, 3, none⟩ = some (.int .u32 (d : Int)) := HBX3.out.1.cell 3
      have KT := Lib.hid (clit_any (k := k + 14) (b := b) (HZ3.out.less (by omega)) HN.out.1 (by have := HN.out.2.1; omega))
      go_wp2_with fail
      refine KT.out.mono ?_
      intro e w5 hp
      obtain ⟨rfl, G5, A5, c5, hz5, hn5, ht5, ho5⟩ := CPut.behind HN3.out HO3.out hp
      have HZ5 := Lib.hid hz5
      have HN5 := Lib.hid hn5
      have HT5 := Lib.hid ht5
      have HO5 := Lib.hid ho5
      clear hp hz5 hn5 ht5 ho5 KT
      go_wp2_with fail
      go_ret
      exact ⟨rfl, G5, A5, c5, HZ5.out.less (by omega), HN5.out, HT5.out, HO5.out⟩
    · have KK := Lib.hid (fun (w2 : World) (h2 : Cw K w2 Ge A' c z (k + 27) t) => ckind_1 (k := k + 22) h2 HN.out.1.st HN.out.1.pb (by have := HN.out.2.2.2.2; omega) rfl)
      obtain ⟨n, rfl⟩ : ∃ n : Nat, len = n := ⟨len.toNat, by have := (p5 ⟨by decide, by decide⟩).1; omega⟩
      have hn2 : 2 ≤ n ∧ n ≤ 273 := by have := p5 ⟨by decide, by decide⟩; omega
      have hlk := (lenP_ok encM_ok (k := k + 12) (a := 819) (s := z.out.length % 2 ^ z.pb) (v := ((n - 2 : Nat) : Int)) hkok (by omega) (mod_pb hz.pb) (fun _ => by omega)).2
      rw [packE_match hbad p1 hn2.1 hn2.2 (p6 rfl) hz.dict ⟨k, _, by omega, hlk⟩]
      have HN2 := Lib.hid hn2
      clear hn2 hlk
      clear hz hN hbad hd hout hkok hlen p1 p2 p3 p4 p5 p6 p7 p8 p9 p10 p11
      go_enter Try.func41, Try.ntmps41
      go_upto_region 1 with fail
      rw [← HW1.out]
      clear HW1
      go_wp2_with fail
      refine KF.out.mono ?_
      rintro e w2 ⟨rfl, hq⟩
      have HO2 := Lib.hid (show Only (K.own Ge) w w2 from (HO1.out.trans hq).mono fun _ h => h.elim)
      have HBX2 := Lib.hid (HBX1.out.step (Nwr.refl _ _) (hq.mono fun _ h => h.elim))
      have KK := Lib.hid (KK.out w2 (HZ1.out.quiet hq))
      clear hq KF o0 o1 o2 o3 HBX1 HZ1 HO1
      have o0 : w2.cell? ⟨w.heap.size, 0, none⟩ = some (.int .i64 1) := HBX2.out.1.cell 0
      go_wp2_with fail
      refine KK.out.mono ?_
      rintro e w3 ⟨rfl, G3, hz3, hn3, ho3⟩
      have HZ3 := Lib.hid hz3
      have HN3 := Lib.hid (show Nwr w Ge G3 from fun i hi => (hn3 i hi).imp id (fun h => Nat.le_trans HO2.out.size h))
      have HO3 := Lib.hid (HO2.out.trans ho3)
      have HBX3 := Lib.hid (HBX2.out.step hn3 ho3)
      clear hz3 hn3 ho3 KK HBX2 HO2 o0
      have o0 : w3.cell? ⟨w.heap.size, 0, none⟩ = some (.int .i64 1) := HBX3.out.1.cell 0
      have o1 : w3.cell? ⟨w.heap.size, 1, none⟩ = some (.int .u8 (b.toNat : Int)) := HBX3.out.1.cell 1
      have o2 : w3.cell? ⟨w.heap.size, 2, none⟩ = some (.int .i64 (n : Int)) := HBX3.out.1.cell 2
      have o3 : w3.cell? ⟨w.heap.size, 3, none⟩ = some (.int .u32 (d : Int)) := HBX3.out.1.cell 3
      have KM := Lib.hid (cmatch_any (k := k) (n := n) (d := d) HZ3.out HN.out.1.pb (by have := HN.out.2.2.2.2; omega) rfl HN2.out.1 HN2.out.2 HN.out.2.2.2.1)
      go_wp2_with fail
      refine KM.out.mono ?_
      rintro e w4 ⟨rfl, G4, hz4, hn4, ho4⟩
      have HZ4 := Lib.hid hz4
      have HN4 := Lib.hid (HN3.out.trans hn4 HO3.out.size)
      have HO4 := Lib.hid (cset_trans HO3.out HN3.out ho4)
      have HBX4 := Lib.hid (HBX3.out.step hn4 ho4)
      clear hz4 hn4 ho4 KM HBX3 HZ3 HN3 HO3 o0 o1 o2 o3
      have o2 : w4.cell? ⟨w.heap.size, 2, none⟩ = some (.int .i64 (n : Int)) := HBX4.out.1.cell 2
      have KT := Lib.hid (ccopies_any (n := n) HZ4.out (by have := HN2.out; omega) (by have := HN.out.2.2.2.2; show z.out.length ≤ _; omega) HN.out.2.2.2.1)
      go_wp2_with fail
      refine KT.out.mono ?_
      intro e w5 hp
      obtain ⟨rfl, G5, A5, c5, hz5, hn5, ht5, ho5⟩ := CPut.behind HN4.out HO4.out hp
      have HZ5 := Lib.hid hz5
      have HN5 := Lib.hid hn5
      have HT5 := Lib.hid ht5
      have HO5 := Lib.hid ho5
      clear hp hz5 hn5 ht5 ho5 KT
      go_wp2_with fail
      go_ret
      exact ⟨rfl, G5, A5, c5, HZ5.out.less (by omega), HN5.out, HT5.out, HO5.out⟩
    · have hne : z.out.length ≠ 0 := by have := (of_decide_eq_true (p7 rfl)).1; omega
      obtain ⟨n, rfl⟩ : ∃ n : Nat, len = n := ⟨len.toNat, by have := (p5 ⟨by decide, by decide⟩).1; omega⟩
      have hn2 : 2 ≤ n ∧ n ≤ 273 := by have := p5 ⟨by decide, by decide⟩; omega
      have hpk : (packP encM z t ⟨2, d, n, b⟩).2 = (copyN n { z.again 0 with st := aft 8 11 z.st }, (lenP encM (kdE z t 2) 1333 (z.out.length % 2 ^ z.pb) ((n - 2 : Nat) : Int)).2) := packE_again (j := 0) hbad p1 (by decide) hn2.1 hn2.2 (p7 rfl)
      rw [hpk]
      have KK := Lib.hid (fun (w2 : World) (h2 : Cw K w2 Ge A' c z (k + 27) t) => ckind_2 (k := k + 22) h2 HN.out.1.st HN.out.1.pb (by have := HN.out.2.2.2.2; omega) hne rfl)
      have HN2 := Lib.hid hn2
      clear hn2 hpk hne
      clear hz hN hbad hd hout hkok hlen p1 p2 p3 p4 p5 p6 p7 p8 p9 p10 p11
      go_enter Try.func41, Try.ntmps41
      go_upto_region 1 with fail
      rw [← HW1.out]
      clear HW1
      go_wp2_with fail
      refine KF.out.mono ?_
      rintro e w2 ⟨rfl, hq⟩
      have HO2 := Lib.hid (show Only (K.own Ge) w w2 from (HO1.out.trans hq).mono fun _ h => h.elim)
      have HBX2 := Lib.hid (HBX1.out.step (Nwr.refl _ _) (hq.mono fun _ h => h.elim))
      have KK := Lib.hid (KK.out w2 (HZ1.out.quiet hq))
      clear hq KF o0 o1 o2 o3 HBX1 HZ1 HO1
      have o0 : w2.cell? ⟨w.heap.size, 0, none⟩ = some (.int .i64 2) := HBX2.out.1.cell 0
      go_wp2_with fail
      refine KK.out.mono ?_
      rintro e w3 ⟨rfl, G3, hz3, hn3, ho3⟩
      have HZ3 := Lib.hid hz3
      have HN3 := Lib.hid (show Nwr w Ge G3 from fun i hi => (hn3 i hi).imp id (fun h => Nat.le_trans HO2.out.size h))
      have HO3 := Lib.hid (HO2.out.trans ho3)
      have HBX3 := Lib.hid (HBX2.out.step hn3 ho3)
      clear hz3 hn3 ho3 KK HBX2 HO2 o0
      have o0 : w3.cell? ⟨w.heap.size, 0, none⟩ = some (.int .i64 2) := HBX3.out.1.cell 0
      have o1 : w3.cell? ⟨w.heap.size, 1, none⟩ = some (.int .u8 (b.toNat : Int)) := HBX3.out.1.cell 1
      have o2 : w3.cell? ⟨w.heap.size, 2, none⟩ = some (.int .i64 (n : Int)) := HBX3.out.1.cell 2
      have o3 : w3.cell? ⟨w.heap.size, 3, none⟩ = some (.int .u32 (d : Int)) := HBX3.out.1.cell 3
      have KM := Lib.hid (show Calls Try.prog 56 #[.pointer (some ⟨K.g, 0, none⟩), .int .i64 0, .int .i64 (n : Int)] w3 (CMid K w3 G3 (.tuple #[]) A' c { z.again 0 with st := aft 8 11 z.st } (k + 12) (lenP encM (kdE z t 2) 1333 (z.out.length % 2 ^ z.pb) ((n - 2 : Nat) : Int)).2) from cagain_any (k := k + 12) (n := n) (j := 0) HZ3.out HN.out.1.pb (by have := HN.out.2.2.2.2; omega) rfl HN2.out.1 HN2.out.2 (by decide))
      go_wp2_with fail
      refine KM.out.mono ?_
      rintro e w4 ⟨rfl, G4, hz4, hn4, ho4⟩
      have HZ4 := Lib.hid hz4
      have HN4 := Lib.hid (HN3.out.trans hn4 HO3.out.size)
      have HO4 := Lib.hid (cset_trans HO3.out HN3.out ho4)
      have HBX4 := Lib.hid (HBX3.out.step hn4 ho4)
      clear hz4 hn4 ho4 KM HBX3 HZ3 HN3 HO3 o0 o1 o2 o3
      have o2 : w4.cell? ⟨w.heap.size, 2, none⟩ = some (.int .i64 (n : Int)) := HBX4.out.1.cell 2
      have KT := Lib.hid (ccopies_any (n := n) HZ4.out (by have := HN2.out; omega) (by have := HN.out.2.2.2.2; show z.out.length ≤ _; omega) HN.out.1.r0)
      go_wp2_with fail
      refine KT.out.mono ?_
      intro e w5 hp
      obtain ⟨rfl, G5, A5, c5, hz5, hn5, ht5, ho5⟩ := CPut.behind HN4.out HO4.out hp
      have HZ5 := Lib.hid hz5
      have HN5 := Lib.hid hn5
      have HT5 := Lib.hid ht5
      have HO5 := Lib.hid ho5
      clear hp hz5 hn5 ht5 ho5 KT
      go_wp2_with fail
      go_ret
      exact ⟨rfl, G5, A5, c5, HZ5.out.less (by omega), HN5.out, HT5.out, HO5.out⟩
    · have hne : z.out.length ≠ 0 := by have := (of_decide_eq_true (p8 rfl)).1; omega
      obtain ⟨n, rfl⟩ : ∃ n : Nat, len = n := ⟨len.toNat, by have := (p5 ⟨by decide, by decide⟩).1; omega⟩
      have hn2 : 2 ≤ n ∧ n ≤ 273 := by have := p5 ⟨by decide, by decide⟩; omega
      have hpk : (packP encM z t ⟨3, d, n, b⟩).2 = (copyN n { z.again 1 with st := aft 8 11 z.st }, (lenP encM (kdE z t 3) 1333 (z.out.length % 2 ^ z.pb) ((n - 2 : Nat) : Int)).2) := packE_again (j := 1) hbad p1 (by decide) hn2.1 hn2.2 (p8 rfl)
      rw [hpk]
      have KK := Lib.hid (fun (w2 : World) (h2 : Cw K w2 Ge A' c z (k + 27) t) => ckind_3 (k := k + 22) h2 HN.out.1.st HN.out.1.pb (by have := HN.out.2.2.2.2; omega) hne rfl)
      have HN2 := Lib.hid hn2
      clear hn2 hpk hne
      clear hz hN hbad hd hout hkok hlen p1 p2 p3 p4 p5 p6 p7 p8 p9 p10 p11
      go_enter Try.func41, Try.ntmps41
      go_upto_region 1 with fail
      rw [← HW1.out]
      clear HW1
      go_wp2_with fail
      refine KF.out.mono ?_
      rintro e w2 ⟨rfl, hq⟩
      have HO2 := Lib.hid (show Only (K.own Ge) w w2 from (HO1.out.trans hq).mono fun _ h => h.elim)
      have HBX2 := Lib.hid (HBX1.out.step (Nwr.refl _ _) (hq.mono fun _ h => h.elim))
      have KK := Lib.hid (KK.out w2 (HZ1.out.quiet hq))
      clear hq KF o0 o1 o2 o3 HBX1 HZ1 HO1
      have o0 : w2.cell? ⟨w.heap.size, 0, none⟩ = some (.int .i64 3) := HBX2.out.1.cell 0
      go_wp2_with fail
      refine KK.out.mono ?_
      rintro e w3 ⟨rfl, G3, hz3, hn3, ho3⟩
      have HZ3 := Lib.hid hz3
      have HN3 := Lib.hid (show Nwr w Ge G3 from fun i hi => (hn3 i hi).imp id (fun h => Nat.le_trans HO2.out.size h))
      have HO3 := Lib.hid (HO2.out.trans ho3)
      have HBX3 := Lib.hid (HBX2.out.step hn3 ho3)
      clear hz3 hn3 ho3 KK HBX2 HO2 o0
      have o0 : w3.cell? ⟨w.heap.size, 0, none⟩ = some (.int .i64 3) := HBX3.out.1.cell 0
      have o1 : w3.cell? ⟨w.heap.size, 1, none⟩ = some (.int .u8 (b.toNat : Int)) := HBX3.out.1.cell 1
      have o2 : w3.cell? ⟨w.heap.size, 2, none⟩ = some (.int .i64 (n : Int)) := HBX3.out.1.cell 2
      have o3 : w3.cell? ⟨w.heap.size, 3, none⟩ = some (.int .u32 (d : Int)) := HBX3.out.1.cell 3
      have KM := Lib.hid (show Calls Try.prog 56 #[.pointer (some ⟨K.g, 0, none⟩), .int .i64 1, .int .i64 (n : Int)] w3 (CMid K w3 G3 (.tuple #[]) A' c { z.again 1 with st := aft 8 11 z.st } (k + 12) (lenP encM (kdE z t 3) 1333 (z.out.length % 2 ^ z.pb) ((n - 2 : Nat) : Int)).2) from cagain_any (k := k + 12) (n := n) (j := 1) HZ3.out HN.out.1.pb (by have := HN.out.2.2.2.2; omega) rfl HN2.out.1 HN2.out.2 (by decide))
      go_wp2_with fail
      refine KM.out.mono ?_
      rintro e w4 ⟨rfl, G4, hz4, hn4, ho4⟩
      have HZ4 := Lib.hid hz4
      have HN4 := Lib.hid (HN3.out.trans hn4 HO3.out.size)
      have HO4 := Lib.hid (cset_trans HO3.out HN3.out ho4)
      have HBX4 := Lib.hid (HBX3.out.step hn4 ho4)
      clear hz4 hn4 ho4 KM HBX3 HZ3 HN3 HO3 o0 o1 o2 o3
      have o2 : w4.cell? ⟨w.heap.size, 2, none⟩ = some (.int .i64 (n : Int)) := HBX4.out.1.cell 2
      have KT := Lib.hid (ccopies_any (n := n) HZ4.out (by have := HN2.out; omega) (by have := HN.out.2.2.2.2; show z.out.length ≤ _; omega) HN.out.1.r1)
      go_wp2_with fail
      refine KT.out.mono ?_
      intro e w5 hp
      obtain ⟨rfl, G5, A5, c5, hz5, hn5, ht5, ho5⟩ := CPut.behind HN4.out HO4.out hp
      have HZ5 := Lib.hid hz5
      have HN5 := Lib.hid hn5
      have HT5 := Lib.hid ht5
      have HO5 := Lib.hid ho5
      clear hp hz5 hn5 ht5 ho5 KT
      go_wp2_with fail
      go_ret
      exact ⟨rfl, G5, A5, c5, HZ5.out.less (by omega), HN5.out, HT5.out, HO5.out⟩
    · have hne : z.out.length ≠ 0 := by have := (of_decide_eq_true (p9 rfl)).1; omega
      obtain ⟨n, rfl⟩ : ∃ n : Nat, len = n := ⟨len.toNat, by have := (p5 ⟨by decide, by decide⟩).1; omega⟩
      have hn2 : 2 ≤ n ∧ n ≤ 273 := by have := p5 ⟨by decide, by decide⟩; omega
      have hpk : (packP encM z t ⟨4, d, n, b⟩).2 = (copyN n { z.again 2 with st := aft 8 11 z.st }, (lenP encM (kdE z t 4) 1333 (z.out.length % 2 ^ z.pb) ((n - 2 : Nat) : Int)).2) := packE_again (j := 2) hbad p1 (by decide) hn2.1 hn2.2 (p9 rfl)
      rw [hpk]
      have KK := Lib.hid (fun (w2 : World) (h2 : Cw K w2 Ge A' c z (k + 27) t) => ckind_4 (k := k + 22) h2 HN.out.1.st HN.out.1.pb (by have := HN.out.2.2.2.2; omega) hne rfl)
      have HN2 := Lib.hid hn2
      clear hn2 hpk hne
      clear hz hN hbad hd hout hkok hlen p1 p2 p3 p4 p5 p6 p7 p8 p9 p10 p11
      go_enter Try.func41, Try.ntmps41
      go_upto_region 1 with fail
      rw [← HW1.out]
      clear HW1
      go_wp2_with fail
      refine KF.out.mono ?_
      rintro e w2 ⟨rfl, hq⟩
      have HO2 := Lib.hid (show Only (K.own Ge) w w2 from (HO1.out.trans hq).mono fun _ h => h.elim)
      have HBX2 := Lib.hid (HBX1.out.step (Nwr.refl _ _) (hq.mono fun _ h => h.elim))
      have KK := Lib.hid (KK.out w2 (HZ1.out.quiet hq))
      clear hq KF o0 o1 o2 o3 HBX1 HZ1 HO1
      have o0 : w2.cell? ⟨w.heap.size, 0, none⟩ = some (.int .i64 4) := HBX2.out.1.cell 0
      go_wp2_with fail
      refine KK.out.mono ?_
      rintro e w3 ⟨rfl, G3, hz3, hn3, ho3⟩
      have HZ3 := Lib.hid hz3
      have HN3 := Lib.hid (show Nwr w Ge G3 from fun i hi => (hn3 i hi).imp id (fun h => Nat.le_trans HO2.out.size h))
      have HO3 := Lib.hid (HO2.out.trans ho3)
      have HBX3 := Lib.hid (HBX2.out.step hn3 ho3)
      clear hz3 hn3 ho3 KK HBX2 HO2 o0
      have o0 : w3.cell? ⟨w.heap.size, 0, none⟩ = some (.int .i64 4) := HBX3.out.1.cell 0
      have o1 : w3.cell? ⟨w.heap.size, 1, none⟩ = some (.int .u8 (b.toNat : Int)) := HBX3.out.1.cell 1
      have o2 : w3.cell? ⟨w.heap.size, 2, none⟩ = some (.int .i64 (n : Int)) := HBX3.out.1.cell 2
      have o3 : w3.cell? ⟨w.heap.size, 3, none⟩ = some (.int .u32 (d : Int)) := HBX3.out.1.cell 3
      have KM := Lib.hid (show Calls Try.prog 56 #[.pointer (some ⟨K.g, 0, none⟩), .int .i64 2, .int .i64 (n : Int)] w3 (CMid K w3 G3 (.tuple #[]) A' c { z.again 2 with st := aft 8 11 z.st } (k + 12) (lenP encM (kdE z t 4) 1333 (z.out.length % 2 ^ z.pb) ((n - 2 : Nat) : Int)).2) from cagain_any (k := k + 12) (n := n) (j := 2) HZ3.out HN.out.1.pb (by have := HN.out.2.2.2.2; omega) rfl HN2.out.1 HN2.out.2 (by decide))
      go_wp2_with fail
      refine KM.out.mono ?_
      rintro e w4 ⟨rfl, G4, hz4, hn4, ho4⟩
      have HZ4 := Lib.hid hz4
      have HN4 := Lib.hid (HN3.out.trans hn4 HO3.out.size)
      have HO4 := Lib.hid (cset_trans HO3.out HN3.out ho4)
      have HBX4 := Lib.hid (HBX3.out.step hn4 ho4)
      clear hz4 hn4 ho4 KM HBX3 HZ3 HN3 HO3 o0 o1 o2 o3
      have o2 : w4.cell? ⟨w.heap.size, 2, none⟩ = some (.int .i64 (n : Int)) := HBX4.out.1.cell 2
      have KT := Lib.hid (ccopies_any (n := n) HZ4.out (by have := HN2.out; omega) (by have := HN.out.2.2.2.2; show z.out.length ≤ _; omega) HN.out.1.r2)
      go_wp2_with fail
      refine KT.out.mono ?_
      intro e w5 hp
      obtain ⟨rfl, G5, A5, c5, hz5, hn5, ht5, ho5⟩ := CPut.behind HN4.out HO4.out hp
      have HZ5 := Lib.hid hz5
      have HN5 := Lib.hid hn5
      have HT5 := Lib.hid ht5
      have HO5 := Lib.hid ho5
      clear hp hz5 hn5 ht5 ho5 KT
      go_wp2_with fail
      go_ret
      exact ⟨rfl, G5, A5, c5, HZ5.out.less (by omega), HN5.out, HT5.out, HO5.out⟩
    · have hne : z.out.length ≠ 0 := by have := (of_decide_eq_true (p10 rfl)).1; omega
      obtain ⟨n, rfl⟩ : ∃ n : Nat, len = n := ⟨len.toNat, by have := (p5 ⟨by decide, by decide⟩).1; omega⟩
      have hn2 : 2 ≤ n ∧ n ≤ 273 := by have := p5 ⟨by decide, by decide⟩; omega
      have hpk : (packP encM z t ⟨5, d, n, b⟩).2 = (copyN n { z.again 3 with st := aft 8 11 z.st }, (lenP encM (kdE z t 5) 1333 (z.out.length % 2 ^ z.pb) ((n - 2 : Nat) : Int)).2) := packE_again (j := 3) hbad p1 (by decide) hn2.1 hn2.2 (p10 rfl)
      rw [hpk]
      have KK := Lib.hid (fun (w2 : World) (h2 : Cw K w2 Ge A' c z (k + 27) t) => ckind_5 (k := k + 22) h2 HN.out.1.st HN.out.1.pb (by have := HN.out.2.2.2.2; omega) hne rfl)
      have HN2 := Lib.hid hn2
      clear hn2 hpk hne
      clear hz hN hbad hd hout hkok hlen p1 p2 p3 p4 p5 p6 p7 p8 p9 p10 p11
      go_enter Try.func41, Try.ntmps41
      go_upto_region 1 with fail
      rw [← HW1.out]
      clear HW1
      go_wp2_with fail
      refine KF.out.mono ?_
      rintro e w2 ⟨rfl, hq⟩
      have HO2 := Lib.hid (show Only (K.own Ge) w w2 from (HO1.out.trans hq).mono fun _ h => h.elim)
      have HBX2 := Lib.hid (HBX1.out.step (Nwr.refl _ _) (hq.mono fun _ h => h.elim))
      have KK := Lib.hid (KK.out w2 (HZ1.out.quiet hq))
      clear hq KF o0 o1 o2 o3 HBX1 HZ1 HO1
      have o0 : w2.cell? ⟨w.heap.size, 0, none⟩ = some (.int .i64 5) := HBX2.out.1.cell 0
      go_wp2_with fail
      refine KK.out.mono ?_
      rintro e w3 ⟨rfl, G3, hz3, hn3, ho3⟩
      have HZ3 := Lib.hid hz3
      have HN3 := Lib.hid (show Nwr w Ge G3 from fun i hi => (hn3 i hi).imp id (fun h => Nat.le_trans HO2.out.size h))
      have HO3 := Lib.hid (HO2.out.trans ho3)
      have HBX3 := Lib.hid (HBX2.out.step hn3 ho3)
      clear hz3 hn3 ho3 KK HBX2 HO2 o0
      have o0 : w3.cell? ⟨w.heap.size, 0, none⟩ = some (.int .i64 5) := HBX3.out.1.cell 0
      have o1 : w3.cell? ⟨w.heap.size, 1, none⟩ = some (.int .u8 (b.toNat : Int)) := HBX3.out.1.cell 1
      have o2 : w3.cell? ⟨w.heap.size, 2, none⟩ = some (.int .i64 (n : Int)) := HBX3.out.1.cell 2
      have o3 : w3.cell? ⟨w.heap.size, 3, none⟩ = some (.int .u32 (d : Int)) := HBX3.out.1.cell 3
      have KM := Lib.hid (show Calls Try.prog 56 #[.pointer (some ⟨K.g, 0, none⟩), .int .i64 3, .int .i64 (n : Int)] w3 (CMid K w3 G3 (.tuple #[]) A' c { z.again 3 with st := aft 8 11 z.st } (k + 12) (lenP encM (kdE z t 5) 1333 (z.out.length % 2 ^ z.pb) ((n - 2 : Nat) : Int)).2) from cagain_any (k := k + 12) (n := n) (j := 3) HZ3.out HN.out.1.pb (by have := HN.out.2.2.2.2; omega) rfl HN2.out.1 HN2.out.2 (by decide))
      go_wp2_with fail
      refine KM.out.mono ?_
      rintro e w4 ⟨rfl, G4, hz4, hn4, ho4⟩
      have HZ4 := Lib.hid hz4
      have HN4 := Lib.hid (HN3.out.trans hn4 HO3.out.size)
      have HO4 := Lib.hid (cset_trans HO3.out HN3.out ho4)
      have HBX4 := Lib.hid (HBX3.out.step hn4 ho4)
      clear hz4 hn4 ho4 KM HBX3 HZ3 HN3 HO3 o0 o1 o2 o3
      have o2 : w4.cell? ⟨w.heap.size, 2, none⟩ = some (.int .i64 (n : Int)) := HBX4.out.1.cell 2
      have KT := Lib.hid (ccopies_any (n := n) HZ4.out (by have := HN2.out; omega) (by have := HN.out.2.2.2.2; show z.out.length ≤ _; omega) HN.out.1.r3)
      go_wp2_with fail
      refine KT.out.mono ?_
      intro e w5 hp
      obtain ⟨rfl, G5, A5, c5, hz5, hn5, ht5, ho5⟩ := CPut.behind HN4.out HO4.out hp
      have HZ5 := Lib.hid hz5
      have HN5 := Lib.hid hn5
      have HT5 := Lib.hid ht5
      have HO5 := Lib.hid ho5
      clear hp hz5 hn5 ht5 ho5 KT
      go_wp2_with fail
      go_ret
      exact ⟨rfl, G5, A5, c5, HZ5.out.less (by omega), HN5.out, HT5.out, HO5.out⟩
    · have hne : z.out.length ≠ 0 := by have := (of_decide_eq_true (p11 rfl)).1; omega
      rw [packE_single hbad p1 (p11 rfl)]
      have KK := Lib.hid (fun (w2 : World) (h2 : Cw K w2 Ge A' c z (k + 27) t) => ckind_6 (k := k + 22) h2 HN.out.1.st HN.out.1.pb (by have := HN.out.2.2.2.2; omega) hne rfl)
      clear hne
      clear hz hN hbad hd hout hkok hlen p1 p2 p3 p4 p5 p6 p7 p8 p9 p10 p11
      go_enter Try.func41, Try.ntmps41
      go_upto_region 1 with fail
      rw [← HW1.out]
      clear HW1
      go_wp2_with fail
      refine KF.out.mono ?_
      rintro e w2 ⟨rfl, hq⟩
      have HO2 := Lib.hid (show Only (K.own Ge) w w2 from (HO1.out.trans hq).mono fun _ h => h.elim)
      have HBX2 := Lib.hid (HBX1.out.step (Nwr.refl _ _) (hq.mono fun _ h => h.elim))
      have KK := Lib.hid (KK.out w2 (HZ1.out.quiet hq))
      clear hq KF o0 o1 o2 o3 HBX1 HZ1 HO1
      have o0 : w2.cell? ⟨w.heap.size, 0, none⟩ = some (.int .i64 6) := HBX2.out.1.cell 0
      go_wp2_with fail
      refine KK.out.mono ?_
      rintro e w3 ⟨rfl, G3, hz3, hn3, ho3⟩
      have HZ3 := Lib.hid hz3
      have HN3 := Lib.hid (show Nwr w Ge G3 from fun i hi => (hn3 i hi).imp id (fun h => Nat.le_trans HO2.out.size h))
      have HO3 := Lib.hid (HO2.out.trans ho3)
      have HBX3 := Lib.hid (HBX2.out.step hn3 ho3)
      clear hz3 hn3 ho3 KK HBX2 HO2 o0
      have o0 : w3.cell? ⟨w.heap.size, 0, none⟩ = some (.int .i64 6) := HBX3.out.1.cell 0
      have c6 := HZ3.out.f.c6
      have f6 := HZ3.out.f.fz 6
      have KS := Lib.hid (psing_any z.st w3)
      have HZ4 : Hid (Cw K (w3.setCell ⟨K.g, 6, none⟩ (.int .i64 ((aft 9 11 z.st : Nat) : Int))) G3 A' c { z with st := aft 9 11 z.st } (k + 22) (kdE z t 6)) := Lib.hid (HZ3.out.put 6 (by decide) (.int .i64 ((aft 9 11 z.st : Nat) : Int)) (z' := { z with st := aft 9 11 z.st }) rfl rfl)
      have HN4 := HN3
      have HO4 : Hid (Only (K.own Ge) w (w3.setCell ⟨K.g, 6, none⟩ (.int .i64 ((aft 9 11 z.st : Nat) : Int)))) := Lib.hid (HO3.out.cwn_put 6 _)
      clear HZ3 HN3 HO3 HBX3
      go_wp2_with fail
      refine KS.out.mono ?_
      rintro e w4' ⟨rfl, rfl⟩
      clear KS o0
      go_upto_region 17 with fail
      generalize w3.setCell ⟨K.g, 6, none⟩ (.int .i64 ((aft 9 11 z.st : Nat) : Int)) = w4 at *
      clear c6 f6
      have KT := Lib.hid (show Calls Try.prog 54 #[.pointer (some ⟨K.g, 0, none⟩), .int .i64 1] w4 (CPut K w4 G3 (tb A' z.out.length c) (.tuple #[]) (copyN 1 { z with st := aft 9 11 z.st }) (k + 22) (kdE z t 6)) from ccopies_any (n := 1) HZ4.out (by decide) (by have := HN.out.2.2.2.2; show z.out.length ≤ _; omega) HN.out.1.r0)
      go_wp2_with fail
      refine KT.out.mono ?_
      intro e w5 hp
      obtain ⟨rfl, G5, A5, c5, hz5, hn5, ht5, ho5⟩ := CPut.behind HN4.out HO4.out hp
      have HZ5 := Lib.hid hz5
      have HN5 := Lib.hid hn5
      have HT5 := Lib.hid ht5
      have HO5 := Lib.hid ho5
      clear hp hz5 hn5 ht5 ho5 KT
      go_wp2_with fail
      go_ret
      exact ⟨rfl, G5, A5, c5, HZ5.out.less (by omega), HN5.out, HT5.out, HO5.out⟩
    · have KK := Lib.hid (fun (w2 : World) (h2 : Cw K w2 Ge A' c z (k + 27) t) => ckind_7 (k := k + 22) h2 HN.out.1.st HN.out.1.pb (by have := HN.out.2.2.2.2; omega) rfl)
      have hlk := (lenP_ok encM_ok (k := k + 12) (a := 819) (s := z.out.length % 2 ^ z.pb) (v := 0) hkok (by omega) (mod_pb hz.pb) (fun _ => by decide)).2
      rw [packE_end hbad ⟨k, _, by omega, hlk⟩]
      clear hlk
      clear hz hN hbad hd hout hkok hlen p1 p2 p3 p4 p5 p6 p7 p8 p9 p10 p11
      go_enter Try.func41, Try.ntmps41
      go_upto_region 1 with fail
      rw [← HW1.out]
      clear HW1
      go_wp2_with fail
      refine KF.out.mono ?_
      rintro e w2 ⟨rfl, hq⟩
      have HO2 := Lib.hid (show Only (K.own Ge) w w2 from (HO1.out.trans hq).mono fun _ h => h.elim)
      have HBX2 := Lib.hid (HBX1.out.step (Nwr.refl _ _) (hq.mono fun _ h => h.elim))
      have KK := Lib.hid (KK.out w2 (HZ1.out.quiet hq))
      clear hq KF o0 o1 o2 o3 HBX1 HZ1 HO1
      have o0 : w2.cell? ⟨w.heap.size, 0, none⟩ = some (.int .i64 7) := HBX2.out.1.cell 0
      go_wp2_with fail
      refine KK.out.mono ?_
      rintro e w3 ⟨rfl, G3, hz3, hn3, ho3⟩
      have HZ3 := Lib.hid hz3
      have HN3 := Lib.hid (show Nwr w Ge G3 from fun i hi => (hn3 i hi).imp id (fun h => Nat.le_trans HO2.out.size h))
      have HO3 := Lib.hid (HO2.out.trans ho3)
      have HBX3 := Lib.hid (HBX2.out.step hn3 ho3)
      clear hz3 hn3 ho3 KK HBX2 HO2 o0
      have o0 : w3.cell? ⟨w.heap.size, 0, none⟩ = some (.int .i64 7) := HBX3.out.1.cell 0
      have KM := Lib.hid (show Calls Try.prog 53 #[.pointer (some ⟨K.g, 0, none⟩), .int .i64 2, .int .u32 4294967295] w3 (CMid K w3 G3 (.tuple #[]) A' c { z with r0 := 4294967295, r1 := z.r0, r2 := z.r1, r3 := z.r2, st := aft 7 10 z.st } k (distP encM (lenP encM (kdE z t 7) 819 (z.out.length % 2 ^ z.pb) 0).2 0 4294967295).2) from cmatch_any (k := k) (n := 2) (d := 4294967295) HZ3.out HN.out.1.pb (by have := HN.out.2.2.2.2; omega) rfl (by decide) (by decide) (by decide))
      go_wp2_with fail
      refine KM.out.mono ?_
      rintro e w4 ⟨rfl, G4, hz4, hn4, ho4⟩
      have HN4 := Lib.hid (HN3.out.trans hn4 HO3.out.size)
      have HO4 : Hid (Only (K.own Ge) w (w4.setCell ⟨K.g, 1859, none⟩ (.bool true))) := Lib.hid ((cset_trans HO3.out HN3.out ho4).cwn_put 12 (.bool true))
      have HZ4 : Hid (Cw K (w4.setCell ⟨K.g, 1859, none⟩ (.bool true)) G4 A' c { z with r0 := 4294967295, r1 := z.r0, r2 := z.r1, r3 := z.r2, st := aft 7 10 z.st, ended := true } k _) := Lib.hid (hz4.put 12 (by decide) (.bool true) (z' := { z with r0 := 4294967295, r1 := z.r0, r2 := z.r1, r3 := z.r2, st := aft 7 10 z.st, ended := true }) rfl rfl)
      have cE := hz4.f.ended
      have fE := hz4.f.fz 1859
      clear hz4 hn4 ho4 KM HBX3 HZ3 HN3 HO3 o0
      go_wp2_with fail
      go_ret
      exact ⟨rfl, G4, A', c, HZ4.out, HN4.out, Nwr.refl _ _, HO4.out.mono fun i hi => .inl hi⟩
end
end Go.Proofs.Ytjganponepafpaa

/-
  Bytes, each a literal: numbers.
-/
namespace Go.Proofs.Ytjganponepafpaa
open Go.RowKit

def litQ (bs : List UInt8) (i : Nat) : Pq := ⟨0, ((bs.getD i 0).toNat : Int), 0, 0⟩
theorem litQ_lit (bs : List UInt8) (i : Nat) : PqLit (litQ bs i) := by
  have := (bs.getD i 0).toNat_lt
  unfold litQ
  exact ⟨⟨by show -9223372036854775808 ≤ (0 : Int); omega, by show (0 : Int) ≤ _; omega⟩, ⟨by show (0 : Int) ≤ ((bs.getD i 0).toNat : Int); omega, by show ((bs.getD i 0).toNat : Int) ≤ 255; omega⟩, ⟨by show -9223372036854775808 ≤ (0 : Int); omega, by show (0 : Int) ≤ _; omega⟩, ⟨by show (0 : Int) ≤ 0; omega, by show (0 : Int) ≤ _; omega⟩⟩
theorem lit_fits {z : Lzs} (h : z.ended = false) : fitsP z 0 0 0 = true := by
  unfold fitsP lateP hasP
  rw [h]
  rfl
theorem lit_succ (bs : List UInt8) (s : Lzs × Pm En) (j : Nat) (he : (runG (litQ bs) s j).1.ended = false) :
    runG (litQ bs) s (j + 1) = stepP (runG (litQ bs) s j) ⟨0, 0, 0, bs.getD j 0⟩ := by
  rw [run_succ]
  have eb : (litQ bs j).pk = ⟨0, 0, 0, bs.getD j 0⟩ := by
    show (⟨0, 0, 0, UInt8.ofNat (((bs.getD j 0).toNat : Int)).toNat⟩ : Pk) = _
    rw [Int.toNat_natCast, UInt8.ofNat_toNat]
  rw [eb]
  rfl
theorem lit_run {bs : List UInt8} {lc lp pb dict : Nat} (h : SetOk lc lp pb dict) (hn : bs.length ≤ 3000) : ∀ j, j ≤ bs.length → (runG (litQ bs) (freshS lc lp pb dict) j).1.out = bs.take j ∧ (runG (litQ bs) (freshS lc lp pb dict) j).1.ended = false
  | 0, _ => ⟨rfl, rfl⟩
  | j + 1, hj => by
    obtain ⟨h1, h2⟩ := lit_run h hn j (by omega)
    have hb := run_bad (qs := litQ bs) (n := bs.length) h (fun i _ => litQ_lit bs i) hn j (by omega)
    rw [lit_succ bs _ j h2]
    generalize runG (litQ bs) (freshS lc lp pb dict) j = s at *
    obtain ⟨z, t⟩ := s
    dsimp only at h1 h2 hb
    unfold stepP
    dsimp only
    rw [if_pos (lit_fits h2), packE_lit hb]
    refine ⟨?_, h2⟩
    show z.out ++ [bs.getD j 0] = _
    rw [h1, List.take_add_one]
    congr 1
    rw [List.getElem?_eq_getElem (by omega), List.getD_eq_getElem?_getD, List.getElem?_eq_getElem (by omega)]
    rfl

end Go.Proofs.Ytjganponepafpaa
