/-
  CwNew, PcFin, CwEnd, Pkts, PsPure: put together.
-/
import Derived.Test.YtdhhibfppcpieaaQ08
import Derived.Laws.MakeOwn
import Derived.Test.YtdhhibfppcpieaaQ03
import Derived.Test.YtdhhibfppcpieaaQ01
import Derived.ProofKit
import Derived.OpenShut
import Derived.ShutString
import Derived.ChangeOld
import Derived.Below
import Derived.Deep.Grids
import Derived.Deep.SlicePairs
set_option linter.unusedVariables false
set_option linter.unusedSimpArgs false
/-
  The program's coder of LZMA: a new one.
-/
namespace Go.Proofs.Ytdhhibfppcpieaa
open Go.RowKit

/-- A coder that begins. -/
def CNewPost (w : World) (lc lp pb dict k : Nat) (e : Ending) (w' : World) : Prop :=
  ∃ K : Koc, e = .returned (.tuple #[.pointer (some ⟨K.g, 0, none⟩), .int .i64 0]) ∧ K.nl = 768 * 2 ^ (lc + lp) ∧
    Cw K w' none none 0 (Lzs.start lc lp pb dict) k ⟨List.replicate (1847 + K.nl) 1024, En.new⟩ ∧ (w.heap.size ≤ K.g ∧ w.heap.size ≤ K.lb ∧ w.heap.size ≤ K.eg) ∧ Only (fun _ => False) w w'

theorem enNew_ok (k : Nat) (hk : k ≤ 1000000) : okE k En.new := ⟨enOk_new, by show 5 + 32 * k ≤ _; omega⟩
theorem new_pm {L k : Nat} (hk : k ≤ 1000000) : PmOk okE L k (⟨List.replicate L 1024, En.new⟩ : Pm En) :=
  ⟨fun p hp => by rw [List.eq_of_mem_replicate hp]; exact ⟨by decide, by decide⟩, by simp, enNew_ok k hk⟩

set_option maxRecDepth 100000 in
set_option maxHeartbeats 16000000 in
theorem cnew7_any {lc lp pb dict k : Nat} (h : SetOk lc lp pb dict) (h6 : lc + lp ≤ 6) (hk : k ≤ 1000000) (w : World) :
    Calls Try.prog 18 #[.agg #[.int .i64 (lc : Int), .int .i64 (lp : Int), .int .i64 (pb : Int), .int .i64 (dict : Int)]] w (CNewPost w lc lp pb dict k) := by
  obtain ⟨w1, hw1⟩ : ∃ w1, w1 = w.alloc (.cells #[.int .i64 (lc : Int), .int .i64 (lp : Int), .int .i64 (pb : Int), .int .i64 (dict : Int)] 39) := ⟨_, rfl⟩
  have HBk : Blk w1 w.heap.size 39 #[.int .i64 (lc : Int), .int .i64 (lp : Int), .int .i64 (pb : Int), .int .i64 (dict : Int)] := by rw [hw1]; exact Blk.fresh w _ _
  have HO1 := Lib.hid (show Only (fun _ => False) w w1 by rw [hw1]; exact (Only.refl _ w).alloc _)
  have KM := pmay_any (lc : Int) (lp : Int) (pb : Int) (dict : Int) w1
  rw [setOk_may h] at KM
  have KM := Lib.hid KM
  have HH := Lib.hid (And.intro h (And.intro h6 hk))
  have HW1 := Lib.hid hw1
  have HBK := Lib.hid HBk
  have KE := Lib.hid (fun w => cnew_any w)
  have o0 : w1.cell? ⟨w.heap.size, 0, none⟩ = some (.int .i64 (lc : Int)) := HBk.cell 0
  have o1 : w1.cell? ⟨w.heap.size, 1, none⟩ = some (.int .i64 (lp : Int)) := HBk.cell 1
  have o2 : w1.cell? ⟨w.heap.size, 2, none⟩ = some (.int .i64 (pb : Int)) := HBk.cell 2
  have o3 : w1.cell? ⟨w.heap.size, 3, none⟩ = some (.int .i64 (dict : Int)) := HBk.cell 3
  clear hw1 HBk h h6 hk
  go_enter Try.func18, Try.ntmps18
  go_upto_region 1 with fail
  rw [← HW1.out]
  clear HW1
  go_wp2_with fail
  refine KM.out.mono ?_
  rintro e w2 ⟨rfl, hb2⟩
  have ho2 : Only (fun _ => False) w1 w2 := Only.of_below hb2
  have HO2 := Lib.hid (HO1.out.trans ho2)
  have HBK2 := Lib.hid (HBK.out.only ho2 (fun h => h))
  clear hb2 ho2 KM o0 o1 o2 o3 HBK HO1
  have HS := Lib.hid (fun (W : World) (hW : Only (fun _ => False) w2 W) => (show W.cell? ⟨w.heap.size, 0, none⟩ = some (.int .i64 (lc : Int)) ∧ W.cell? ⟨w.heap.size, 1, none⟩ = some (.int .i64 (lp : Int)) ∧ W.cell? ⟨w.heap.size, 2, none⟩ = some (.int .i64 (pb : Int)) ∧ W.cell? ⟨w.heap.size, 3, none⟩ = some (.int .i64 (dict : Int)) from
    have hk := HBK2.out.only hW (fun h => h)
    ⟨hk.cell 0, hk.cell 1, hk.cell 2, hk.cell 3⟩))
  obtain ⟨o0, o1, o2, o3⟩ := HS.out w2 (Only.refl _ _)
  go_wp2_with fail
  go_region_held3 (fun W => W.cell? ⟨w.heap.size, 0, none⟩ = some (.int .i64 (lc : Int)) ∧ W.cell? ⟨w.heap.size, 1, none⟩ = some (.int .i64 (lp : Int)) ∧ W.cell? ⟨w.heap.size, 2, none⟩ = some (.int .i64 (pb : Int)) ∧ W.cell? ⟨w.heap.size, 3, none⟩ = some (.int .i64 (dict : Int)))
    (first | assumption | go_keep | exact ⟨o0, o1, o2, o3⟩ | exact HS.out _ HQ3.out)
    (first | (go_at_call 29; refine (KE.out _).mono ?_; rintro e w3 ⟨rfl, hw3⟩; have HW3 := Lib.hid hw3; have HQ3 := Lib.hid (show Only (fun _ => False) w2 w3 from by rw [hw3]; exact ((Only.refl _ w2).drew).alloc _); clear hw3))
  obtain ⟨cs, hcs⟩ : ∃ cs, cs = (((((Try.zeroCells92.setIfInBounds 0 (.int .i64 (lc : Int))).setIfInBounds 1 (.int .i64 (lp : Int))).setIfInBounds 2 (.int .i64 (pb : Int))).setIfInBounds 3 (.int .i64 (dict : Int))).setIfInBounds 4 (.pointer (some ⟨w2.heap.size, 0, none⟩))) := ⟨_, rfl⟩
  rw [← hcs]
  have hblk : Blk (w3.alloc (.cells cs 92)) w3.heap.size 92 cs := Blk.fresh w3 _ _
  rw [hcs, czero_link] at hblk
  rw [← czero_link] at hblk
  have hblk2 := hblk
  rw [czero_link] at hblk2
  have hat : LcAt (w3.alloc (.cells cs 92)) w3.heap.size (coFs (lc : Int) (lp : Int) (pb : Int) (dict : Int) w2.heap.size (.slice none 0 0)) (List.replicate 1847 0) := by
    have := made_co hblk2
    rw [← czero_link, ← hcs] at this
    exact this
  have ho4 : Only (fun _ => False) w3 (w3.alloc (.cells cs 92)) := (Only.refl _ w3).alloc _
  have hpn : Pn w3 w2.heap.size none En.new := by rw [HW3.out]; exact pn_fresh w2.drew
  have HPN := Lib.hid (hpn.only ho4 (fun h => h) (fun _ _ h => h))
  have HS4 := Lib.hid (HS.out _ (HQ3.out.trans ho4))
  have HO4 := Lib.hid ((HO2.out.trans HQ3.out).trans ho4)
  have hs23 : w2.heap.size < w3.heap.size := by rw [HW3.out]; simp
  have HSZ := Lib.hid (And.intro HO2.out.size (And.intro hs23 (show w3.heap.size < (w3.alloc (.cells cs 92)).heap.size from hat.lt)))
  have KR := Lib.hid (creset_any HH.out.1 HH.out.2.1 (⟨hat, by simp⟩ : Lr w3.heap.size _ _ (List.replicate 1847 0)))
  clear hblk hblk2 hat ho4 hpn hs23 hcs HQ3 HO2 HW3 HS HBK2
  generalize w3.alloc (.cells cs 92) = w4 at *
  obtain ⟨o0, o1, o2, o3⟩ := HS4.out
  go_wp2_with fail
  refine KR.out.mono ?_
  rintro e w5 ⟨rfl, lb, hr5, hrow5, hlb, ho5⟩
  obtain ⟨z1, z2, z3⟩ := HSZ.out
  have hst := HH.out.1
  obtain ⟨nl, hnl⟩ : ∃ nl, nl = 768 * 2 ^ (lc + lp) := ⟨_, rfl⟩
  rw [← hnl] at hr5 hrow5
  have hpn5 := HPN.out.only ho5 (fun e => by omega) (fun _ h => by cases h)
  have hrep : ∀ a, a < 1847 → (List.replicate (1847 + nl) 1024).getD a 0 = (List.replicate 1847 1024).getD a 0 := fun a ha => by
    unfold List.getD
    rw [List.getElem?_replicate, List.getElem?_replicate, if_pos ha, if_pos (by omega)]
  have hcw : Cw ⟨w3.heap.size, lb, nl, w2.heap.size⟩ w5 none none 0 (Lzs.start lc lp pb dict) k ⟨List.replicate (1847 + nl) 1024, En.new⟩ := by
    refine ⟨⟨hpn5, ⟨hr5.1.same hrep, ?_, by simp⟩, new_pm HH.out.2.2⟩, ⟨rfl, .inl ⟨rfl, rfl⟩⟩, ⟨?_, ?_, ?_, fun _ h => (by cases h), fun _ h => (by cases h)⟩⟩
    · show Row w5 lb ((List.replicate (1847 + nl) 1024).drop 1847) nl
      rw [List.drop_replicate, Nat.add_sub_cancel_left]
      exact hrow5
    · show w3.heap.size ≠ lb
      omega
    · show w3.heap.size ≠ w2.heap.size
      omega
    · show lb ≠ w2.heap.size
      omega
  have HCW := Lib.hid hcw
  have HNL := Lib.hid hnl
  have HLE := Lib.hid (show w.heap.size ≤ w3.heap.size ∧ w.heap.size ≤ lb ∧ w.heap.size ≤ w2.heap.size by omega)
  have HON := Lib.hid (show Only (fun _ => False) w w5 from HO4.out.trans' ho5 (fun i hi => .inr (by subst hi; omega)))
  clear hr5 hrow5 hlb ho5 z1 z2 z3 hst hpn5 hrep hcw hnl KR o0 o1 o2 o3 HS4 HPN HO4 HSZ
  go_wp2_with fail
  go_ret2
  exact ⟨⟨w3.heap.size, lb, nl, w2.heap.size⟩, rfl, HNL.out, HCW.out, HLE.out, HON.out⟩
end Go.Proofs.Ytdhhibfppcpieaa

/-
  The program's coder is finished.
-/
namespace Go.Proofs.Ytdhhibfppcpieaa
open Go.RowKit

/-- What a finish leaves: the coder's bytes, and a coder that begins. -/
def FinPost (w : World) (g : Nat) (G : Option Nat) (e : En) (x : Ending) (w' : World) : Prop :=
  ∃ A m bs, x = .returned (.slice A bs.length m) ∧ w'.ownsRow 0 5 1 (.slice A bs.length m) bs.length (bv bs) ∧ be bs = e.n ∧ bs.length = e.l ∧ Nwr w G (Value.slice A bs.length m).ownBlock ∧ (Value.slice A bs.length m).ownBlock ≠ some g ∧ Pn w' g none En.new ∧ Only (pset g G) w w'

set_option maxHeartbeats 4000000 in
theorem finish_any {w : World} {g : Nat} {G : Option Nat} {e : En} (h : Pn w g G e) (hlen : e.l ≤ 999999990) :
    Calls Try.prog 60 #[.pointer (some ⟨g, 0, none⟩)] w (FinPost w g G e) := by
  obtain ⟨c, hP, hc⟩ := h
  have HP := Lib.hid hP
  have HC := Lib.hid hc
  have HLEN := Lib.hid hlen
  clear hP hc hlen
  go_enter Try.func60, Try.ntmps60
  go_wp2_with fail
  go_loopw [4] (fun i wr => ∃ (k : Nat) (G' : Option Nat), k ≤ 5 ∧ i = .int .i64 (k : Int) ∧ Pw wr g G' (c.gives k) e.r ∧ Nwr w G G' ∧ Only (pset g G) w wr) (fun i _ => 5 - (intOf i).toNat)
  case atStart => exact ⟨0, G, Nat.zero_le _, rfl, HP.out, Nwr.refl _ _, Only.refl _ _⟩
  case round =>
    clear HP
    obtain ⟨k, G', hk, rfl, hP, hN, hO⟩ := hrel
    have HN := Lib.hid hN
    have HO := Lib.hid hO
    by_cases hlt : k < 5
    · have h5 := (HC.out.mono HC.out.pos (Nat.le_refl 1)).gives k
      have K := Lib.hid (give_any hP h5.wt h5.low (by have h1 := gives_len c k; have h2 := HC.out.len; have h3 := HLEN.out; omega))
      have hlt' : (k : Int) < 5 := by omega
      clear hP hN hO h5
      go_wp2_with fail
      refine K.out.mono ?_
      rintro x w3 ⟨rfl, G2, hP2, hN2, hO2⟩
      have HP2 := Lib.hid hP2
      have HN2 := Lib.hid (HN.out.trans hN2 HO.out.size)
      have HO2 := Lib.hid (pset_trans HO.out HN.out hO2)
      clear hP2 hN2 hO2 HN HO K
      go_wp2_with fail
      go_roundw
      case rel => exact ⟨k + 1, G2, by omega, by go_num, HP2.out, HN2.out, HO2.out⟩
      case measure => simp [intOf]; omega
    · obtain rfl : k = 5 := by omega
      have hirr : ¬ ((5 : Nat) : Int) < 5 := by omega
      obtain ⟨A, m, hB, hOw, hG, hne⟩ := hP
      have c0 : wr.cell? ⟨g, 0, none⟩ = some (.int .u64 ((c.gives 5).lo : Int)) := hB.cell 0
      have c1 : wr.cell? ⟨g, 1, none⟩ = some (.int .u32 (e.r : Int)) := hB.cell 1
      have c2 : wr.cell? ⟨g, 2, none⟩ = some (.slice A (c.gives 5).gs.length m) := hB.cell 2
      have HB := Lib.hid hB
      have HOw := Lib.hid hOw
      have HG := Lib.hid hG
      have HNE := Lib.hid hne
      have K := Lib.hid (cnew_any wr)
      clear hB hOw hG hne hN hO hk hlt
      go_wp2_with fail
      refine K.out.mono ?_
      rintro x w3 ⟨rfl, hw3⟩
      have hO3 : Only (fun _ => False) wr w3 := by rw [hw3]; exact (Only.refl _ wr).alloc _
      have hN3 : Blk w3 wr.heap.size 101 (pcCells 0 4294967295 (.slice none 0 0) 0 0) := by rw [hw3]; exact Blk.fresh wr _ _
      have hB3 : Blk w3 g 101 _ := HB.out.only hO3 (fun h => h)
      obtain ⟨n0, n1, n2, n3, n4⟩ : w3.cell? ⟨wr.heap.size, 0, none⟩ = some (.int .u64 0) ∧ w3.cell? ⟨wr.heap.size, 1, none⟩ = some (.int .u32 4294967295) ∧ w3.cell? ⟨wr.heap.size, 2, none⟩ = some (.slice none 0 0) ∧ w3.cell? ⟨wr.heap.size, 3, none⟩ = some (.int .u8 0) ∧ w3.cell? ⟨wr.heap.size, 4, none⟩ = some (.int .i64 0) := ⟨hN3.cell 0, hN3.cell 1, hN3.cell 2, hN3.cell 3, hN3.cell 4⟩
      obtain ⟨g0, g1, g2, g3, g4⟩ : w3.cell? ⟨g, 0, none⟩ = some (.int .u64 ((c.gives 5).lo : Int)) ∧ w3.cell? ⟨g, 1, none⟩ = some (.int .u32 (e.r : Int)) ∧ w3.cell? ⟨g, 2, none⟩ = some (.slice A (c.gives 5).gs.length m) ∧ w3.cell? ⟨g, 3, none⟩ = some (.int .u8 ((c.gives 5).wt : Int)) ∧ w3.cell? ⟨g, 4, none⟩ = some (.int .i64 ((c.gives 5).fu : Int)) := ⟨hB3.cell 0, hB3.cell 1, hB3.cell 2, hB3.cell 3, hB3.cell 4⟩
      obtain ⟨z0, z1, z2, z3, z4⟩ : w3.frozen? ⟨g, 0, none⟩ = false ∧ w3.frozen? ⟨g, 1, none⟩ = false ∧ w3.frozen? ⟨g, 2, none⟩ = false ∧ w3.frozen? ⟨g, 3, none⟩ = false ∧ w3.frozen? ⟨g, 4, none⟩ = false := ⟨hB3.free 0, hB3.free 1, hB3.free 2, hB3.free 3, hB3.free 4⟩
      have HB3 := Lib.hid hB3
      have HO3 := Lib.hid hO3
      clear hO3 hN3 hB3 hw3 c0 c1 c2 K
      go_wp2_with fail
      first | go_end0 | (go_ret) | refine bodyPost_ret (results_none rfl _ _ _) rfl ?_
      obtain ⟨f1, f2⟩ := HC.out.finish
      have S5 : Only (fun i => i = g) w3 (((((w3.setCell ⟨g, 0, none⟩ (.int .u64 0)).setCell ⟨g, 1, none⟩ (.int .u32 4294967295)).setCell ⟨g, 2, none⟩ (.slice none 0 0)).setCell ⟨g, 3, none⟩ (.int .u8 0)).setCell ⟨g, 4, none⟩ (.int .i64 0)) :=
        (((((Only.refl (fun i => i = g) w3).setCell (p := ⟨g, 0, none⟩) (.inl rfl) _).setCell (p := ⟨g, 1, none⟩) (.inl rfl) _).setCell (p := ⟨g, 2, none⟩) (.inl rfl) _).setCell (p := ⟨g, 3, none⟩) (.inl rfl) _).setCell (p := ⟨g, 4, none⟩) (.inl rfl) _
      have P5 := ((((HB3.out.put 0 (.int .u64 0)).put 1 (.int .u32 4294967295)).put 2 (.slice none 0 0)).put 3 (.int .u8 0)).put 4 (.int .i64 0)
      have hgn : ∀ i, (Value.slice A (c.gives 5).gs.length m).ownBlock = some i → ¬ i = g := fun i hi e => HNE.out (HG.out.symm.trans (e ▸ hi))
      refine ⟨A, m, (c.gives 5).gs, rfl, own_only' (own_only' HOw.out HO3.out (fun _ _ h => h)) S5 hgn, f1, f2, ?_, ?_, ⟨Co.new, ⟨none, 0, P5, ⟨rfl, .inl ⟨rfl, rfl⟩⟩, rfl, by simp⟩, coN_new⟩, ?_⟩
      · rw [HG.out]; exact HN.out
      · rw [HG.out]; exact HNE.out
      · exact (HO.out.trans (HO3.out.mono (fun _ h => h.elim))).trans (S5.mono (fun i hi => .inl hi))
end Go.Proofs.Ytdhhibfppcpieaa

/-
  The program's coder of LZMA: its stream.
-/
namespace Go.Proofs.Ytdhhibfppcpieaa
open Go.RowKit

section
variable {K : Koc} {w w' : World} {Ge Ge' : Option Nat} {A' : Option Addr} {c : Nat} {z : Lzs} {k : Nat} {t : Pm En}
/-- the stream: its bytes -/
def CFin (K : Koc) (w : World) (Ge : Option Nat) (A' : Option Addr) (c : Nat) (z : Lzs) (t : Pm En) (x : Ending) (w' : World) : Prop :=
  ∃ B m bs, x = .returned (.slice B bs.length m) ∧ Sl w' B bs.length (bv bs) ∧ be bs = t.x.n ∧ bs.length = t.x.l ∧ w'.cell? ⟨K.g, 5, none⟩ = some (.slice A' z.out.length c) ∧ Sl w' A' z.out.length (bv z.out) ∧ Only (K.own Ge) w w'
end
end Go.Proofs.Ytdhhibfppcpieaa

/-
  A list of packets, opened: each element has four numbers (int, uint8, int, uint32).
-/
namespace Go.Proofs.Ytdhhibfppcpieaa
open Go.ChangeShapes Go.WideShapes Go.ChangeAt Go.RowKit

/-- a packet as it comes in -/
structure Pq where
  k : Int
  a : Int
  n : Int
  v : Int
instance : Inhabited Pq := ⟨⟨0, 0, 0, 0⟩⟩

/-- a slice of packets -/
def Pkts (w : World) (B : Option Addr) (m : Nat) (q : Nat → Pq) : Prop :=
  0 < m → ∃ b o, B = some ⟨b, o, none⟩ ∧ b < w.heap.size ∧ ∀ i, i < m → w.cell? ⟨b, o + i * 4, none⟩ = some (.int .i64 (q i).k) ∧ w.cell? ⟨b, o + i * 4 + 1, none⟩ = some (.int .u8 (q i).a) ∧
    w.cell? ⟨b, o + i * 4 + 2, none⟩ = some (.int .i64 (q i).n) ∧ w.cell? ⟨b, o + i * 4 + 3, none⟩ = some (.int .u32 (q i).v)
structure PqLit (q : Pq) : Prop where
  k : -9223372036854775808 ≤ q.k ∧ q.k ≤ 9223372036854775807
  a : 0 ≤ q.a ∧ q.a ≤ 255
  n : -9223372036854775808 ≤ q.n ∧ q.n ≤ 9223372036854775807
  v : 0 ≤ q.v ∧ q.v ≤ 4294967295

theorem Pkts.below {w w' : World} {B : Option Addr} {m : Nat} {q : Nat → Pq} (h : Pkts w B m q) (hb : Below w.heap.size w w') : Pkts w' B m q := by
  intro hm
  obtain ⟨b, o, e, hlt, hc⟩ := h hm
  refine ⟨b, o, e, Nat.lt_of_lt_of_le hlt hb.size, fun i hi => ?_⟩
  rw [hb.cell hlt, hb.cell hlt, hb.cell hlt, hb.cell hlt]
  exact hc i hi

section
variable {H : Type} {enc : TypeId × Value → H} {P : Program} {w : World} {held : Bool}
end
end Go.Proofs.Ytdhhibfppcpieaa

/-
  Which packets tell bytes, as numbers.
-/
namespace Go.Proofs.Ytdhhibfppcpieaa

/-- how many bytes, up to so many, are those o ahead of them -/
def eqN (b : List UInt8) (o : Nat) : Nat → Nat → Nat
  | 0, _ => 0
  | f + 1, i => if b.getD i 0 = b.getD (i - o) 0 then eqN b o f (i + 1) + 1 else 0
theorem eqN_le (b : List UInt8) (o : Nat) : ∀ f i, eqN b o f i ≤ f
  | 0, _ => Nat.le_refl _
  | f + 1, i => by
    unfold eqN
    have := eqN_le b o f (i + 1)
    split <;> omega
theorem eqN_same (b : List UInt8) (o : Nat) : ∀ f i k, k < eqN b o f i → b.getD (i + k) 0 = b.getD (i + k - o) 0
  | 0, _, _, h => absurd h (Nat.not_lt_zero _)
  | f + 1, i, k, h => by
    unfold eqN at h
    split at h
    · rename_i he
      match k with
      | 0 => exact he
      | k + 1 =>
        have := eqN_same b o f (i + 1) k (by omega)
        rw [show i + 1 + k = i + (k + 1) by omega] at this
        exact this
    · omega
theorem eqN_ge {b : List UInt8} {o : Nat} : ∀ {f i n}, n ≤ f → (∀ k, k < n → b.getD (i + k) 0 = b.getD (i + k - o) 0) → n ≤ eqN b o f i
  | _, _, 0, _, _ => Nat.zero_le _
  | 0, _, n + 1, h, _ => absurd h (by omega)
  | f + 1, i, n + 1, hn, h => by
    have h0 := h 0 (by omega)
    simp only [Nat.add_zero] at h0
    unfold eqN
    rw [if_pos h0]
    have := eqN_ge (b := b) (o := o) (f := f) (i := i + 1) (n := n) (by omega) (fun k hk => by
      have := h (k + 1) (by omega)
      rw [show i + (k + 1) = i + 1 + k by omega] at this
      exact this)
    omega
theorem eqN_is {b : List UInt8} {o f i n : Nat} (hn : n ≤ f) (h : ∀ k, k < n → b.getD (i + k) 0 = b.getD (i + k - o) 0) (hs : n < f → b.getD (i + n) 0 ≠ b.getD (i + n - o) 0) : eqN b o f i = n := by
  have h1 := eqN_ge hn h
  have h2 := eqN_le b o f i
  by_cases he : eqN b o f i = n
  · exact he
  · exact absurd (eqN_same b o f i n (by omega)) (hs (by omega))
/-- bytes that are a part of others -/
theorem eqN_part {b c : List UInt8} {o p t : Nat} (hp : ∀ j, j < t → c.getD j 0 = b.getD (p + j) 0) : ∀ f i, o ≤ i → i + f ≤ t → eqN c o f i = eqN b o f (p + i)
  | 0, _, _, _ => rfl
  | f + 1, i, ho, ht => by
    unfold eqN
    rw [hp i (by omega), hp (i - o) (by omega), show p + (i - o) = p + i - o by omega, eqN_part hp f (i + 1) (by omega) (by omega)]
    rfl

/-- the copy at a distance -/
def cpN (b : List UInt8) (dict e i d : Nat) : Nat := if d < i ∧ d < dict then eqN b (d + 1) (min 273 (e - i)) i else 0
theorem cpN_le (b : List UInt8) (dict e i d : Nat) : cpN b dict e i d ≤ min 273 (e - i) := by
  unfold cpN
  split
  · exact eqN_le _ _ _ _
  · omega
/-- the least index of the greatest number, and it -/
def best (g : Nat → Nat) : Nat → Nat × Nat
  | 0 => (0, 0)
  | d + 1 => if (best g d).2 < g d then (d, g d) else best g d
theorem best_ge (g : Nat → Nat) : ∀ n d, d < n → g d ≤ (best g n).2
  | 0, _, h => absurd h (Nat.not_lt_zero _)
  | n + 1, d, h => by
    unfold best
    by_cases he : d = n
    · subst he
      split
      · exact Nat.le_refl _
      · omega
    · have := best_ge g n d (by omega)
      split
      · show g d ≤ g n; omega
      · exact this
theorem best_is (g : Nat → Nat) : ∀ n, 0 < (best g n).2 → (best g n).1 < n ∧ g (best g n).1 = (best g n).2 ∧ ∀ d, d < (best g n).1 → g d < (best g n).2
  | 0, h => absurd h (Nat.lt_irrefl _)
  | n + 1, h => by
    unfold best at h ⊢
    split
    · rename_i hl
      exact ⟨by simp, rfl, fun d hd => Nat.lt_of_le_of_lt (best_ge g n d hd) hl⟩
    · rename_i hl
      rw [if_neg hl] at h
      obtain ⟨h1, h2, h3⟩ := best_is g n h
      exact ⟨by omega, h2, h3⟩
theorem best_zero (g : Nat → Nat) : ∀ n, (best g n).2 = 0 → best g n = (0, 0)
  | 0, _ => rfl
  | n + 1, h => by
    unfold best at h ⊢
    split
    · rename_i hl
      rw [if_pos hl] at h
      have h : g n = 0 := h
      omega
    · rename_i hl
      rw [if_neg hl] at h
      exact best_zero g n h
theorem best_congr {g g' : Nat → Nat} : ∀ {n}, (∀ d, d < n → g d = g' d) → best g n = best g' n
  | 0, _ => rfl
  | n + 1, h => by
    unfold best
    rw [best_congr (n := n) (fun d hd => h d (by omega)), h n (by omega)]
/-- the same, of numbers that are 2 at least -/
def best2 (g : Nat → Nat) : Nat → Nat × Nat
  | 0 => (0, 0)
  | d + 1 => if 2 ≤ g d ∧ (best2 g d).2 < g d then (d, g d) else best2 g d
theorem best2_is (g : Nat → Nat) : ∀ n, best2 g n = if 2 ≤ (best g n).2 then best g n else (0, 0)
  | 0 => rfl
  | n + 1 => by
    have ih := best2_is g n
    unfold best2 best
    rw [ih]
    by_cases h2 : 2 ≤ (best g n).2
    · rw [if_pos h2]
      by_cases hl : (best g n).2 < g n
      · rw [if_pos ⟨by omega, hl⟩, if_pos hl, if_pos (by show 2 ≤ g n; omega)]
      · rw [if_neg (fun h => hl h.2), if_neg hl, if_pos h2]
    · rw [if_neg h2]
      by_cases hl : (best g n).2 < g n
      · rw [if_pos hl]
        by_cases hg : 2 ≤ g n
        · rw [if_pos ⟨hg, by show 0 < g n; omega⟩, if_pos (by show 2 ≤ g n; exact hg)]
        · rw [if_neg (fun h => hg h.1), if_neg (by show ¬ 2 ≤ g n; exact hg)]
      · rw [if_neg hl, if_neg h2, if_neg (fun h => by have : 0 < g n := h.2; omega)]

/-- where it stands: the place, and the elder distances -/
structure Ps where
  i : Nat
  r0 : Nat
  r1 : Nat
  r2 : Nat
  r3 : Nat
def Ps.rep (s : Ps) : Nat → Nat
  | 0 => s.r0
  | 1 => s.r1
  | 2 => s.r2
  | _ => s.r3
def Ps.raise (s : Ps) (n : Nat) : Nat → Ps
  | 0 => { s with i := s.i + n }
  | 1 => ⟨s.i + n, s.r1, s.r0, s.r2, s.r3⟩
  | 2 => ⟨s.i + n, s.r2, s.r0, s.r1, s.r3⟩
  | _ => ⟨s.i + n, s.r3, s.r0, s.r1, s.r2⟩
def Ps.push (s : Ps) (n d : Nat) : Ps := ⟨s.i + n, d, s.r0, s.r1, s.r2⟩
def Ps.on (s : Ps) : Ps := { s with i := s.i + 1 }
structure Ps.Lit (s : Ps) : Prop where
  r0 : s.r0 < 4294967296
  r1 : s.r1 < 4294967296
  r2 : s.r2 < 4294967296
  r3 : s.r3 < 4294967296
theorem Ps.Lit.rep {s : Ps} (h : s.Lit) (k : Nat) : s.rep k < 4294967296 := by
  match k with
  | 0 => exact h.r0
  | 1 => exact h.r1
  | 2 => exact h.r2
  | n + 3 => exact h.r3
theorem Ps.Lit.raise {s : Ps} (h : s.Lit) (n k : Nat) : (s.raise n k).Lit := by
  match k with
  | 0 => exact ⟨h.r0, h.r1, h.r2, h.r3⟩
  | 1 => exact ⟨h.r1, h.r0, h.r2, h.r3⟩
  | 2 => exact ⟨h.r2, h.r0, h.r1, h.r3⟩
  | n + 3 => exact ⟨h.r3, h.r0, h.r1, h.r2⟩
theorem Ps.raise_i (s : Ps) (n k : Nat) : (s.raise n k).i = s.i + n := by
  match k with
  | 0 => rfl
  | 1 => rfl
  | 2 => rfl
  | n + 3 => rfl

/-- which packet, by the elder distances' longest copy, the least distance of the longest copy, its length, the copy at the first elder distance, and the byte -/
def stepG (r : Nat × Nat) (d m c : Nat) (y : UInt8) (s : Ps) : Pq × Ps :=
  if 2 ≤ r.2 ∧ m ≤ r.2 + 1 then (⟨2 + (r.1 : Int), 0, (r.2 : Int), 0⟩, s.raise r.2 r.1)
  else if 3 ≤ m ∨ (m = 2 ∧ d < 128) then (⟨1, 0, (m : Int), (d : Int)⟩, s.push m d)
  else if 0 < c then (⟨6, 0, 0, 0⟩, s.on)
  else (⟨0, (y.toNat : Int), 0, 0⟩, s.on)
/-- the same in the program's order: its own two -/
def stepH (a m : Nat × Nat) (c : Nat) (y : UInt8) (s : Ps) : Pq × Ps :=
  if 2 < m.2 ∨ (m.2 = 2 ∧ m.1 < 128) then (⟨1, 0, (m.2 : Int), (m.1 : Int)⟩, s.push m.2 m.1)
  else if 0 < a.2 then (⟨2 + (a.1 : Int), 0, (a.2 : Int), 0⟩, s.raise a.2 a.1)
  else if 0 < c then (⟨6, 0, 0, 0⟩, s.on)
  else (⟨0, (y.toNat : Int), 0, 0⟩, s.on)
section
variable (b : List UInt8) (dict e : Nat)
def eldP (s : Ps) : Nat × Nat := best (fun h => cpN b dict e s.i (s.rep h)) 4
def lonP (s : Ps) : Nat × Nat := best (fun d => cpN b dict e s.i d) (min s.i dict)
def lonM (s : Ps) : Nat := if (lonP b dict e s).2 < 2 then 0 else (lonP b dict e s).2
/-- the packet at a place, and where it stands behind it -/
def stepF (s : Ps) : Pq × Ps := stepG (eldP b dict e s) (lonP b dict e s).1 (lonM b dict e s) (cpN b dict e s.i s.r0) (b.getD s.i 0) s
/-- so many packets, as long as the end isn't come to -/
def goF (s : Ps) : Nat → List Pq × Ps
  | 0 => ([], s)
  | n + 1 => if (goF s n).2.i < e then ((goF s n).1 ++ [(stepF b dict e (goF s n).2).1], (stepF b dict e (goF s n).2).2) else goF s n
def findF (s : Ps) : List Pq × Ps := goF b dict e s e
end

section
variable {b : List UInt8} {dict e : Nat} {s : Ps}
theorem eld_lt : (eldP b dict e s).1 < 4 := by
  by_cases h : 0 < (eldP b dict e s).2
  · exact (best_is _ _ h).1
  · have : eldP b dict e s = (0, 0) := best_zero _ _ (by unfold eldP at h; omega)
    rw [this]
    decide
theorem eld_le : (eldP b dict e s).2 ≤ min 273 (e - s.i) := by
  by_cases h : 0 < (eldP b dict e s).2
  · have := (best_is _ _ h).2.1
    unfold eldP at *
    rw [← this]
    exact cpN_le _ _ _ _ _
  · omega
theorem lon_le : (lonP b dict e s).2 ≤ min 273 (e - s.i) := by
  by_cases h : 0 < (lonP b dict e s).2
  · have := (best_is _ _ h).2.1
    unfold lonP at *
    rw [← this]
    exact cpN_le _ _ _ _ _
  · omega
theorem lonM_le : lonM b dict e s ≤ min 273 (e - s.i) := by
  unfold lonM
  have := lon_le (b := b) (dict := dict) (e := e) (s := s)
  split <;> omega
theorem lon_lt (h : 0 < (lonP b dict e s).2) : (lonP b dict e s).1 < min s.i dict := (best_is _ _ h).1
theorem lonM_pos (h : 0 < lonM b dict e s) : 2 ≤ lonM b dict e s ∧ lonM b dict e s = (lonP b dict e s).2 := by
  unfold lonM at *
  split at h
  · omega
  · rename_i hl
    rw [if_neg hl]
    exact ⟨by omega, rfl⟩
theorem step_i (h : s.i < e) : s.i < (stepF b dict e s).2.i ∧ (stepF b dict e s).2.i ≤ e := by
  have h1 := eld_le (b := b) (dict := dict) (e := e) (s := s)
  have h2 := lonM_le (b := b) (dict := dict) (e := e) (s := s)
  unfold stepF stepG
  split
  · rename_i ha
    have := ha.1
    rw [Ps.raise_i]
    omega
  · split
    · rename_i hm
      have : 2 ≤ lonM b dict e s := by rcases hm with hm | hm <;> omega
      show s.i < s.i + lonM b dict e s ∧ s.i + lonM b dict e s ≤ e
      omega
    · split
      · show s.i < s.i + 1 ∧ s.i + 1 ≤ e; omega
      · show s.i < s.i + 1 ∧ s.i + 1 ≤ e; omega
theorem step_lit (h : s.Lit) (he : e ≤ 4000000000) : (stepF b dict e s).2.Lit := by
  have h2 := lonM_le (b := b) (dict := dict) (e := e) (s := s)
  unfold stepF stepG
  split
  · exact h.raise _ _
  · split
    · rename_i hm
      have hp : 0 < lonM b dict e s := by rcases hm with hm | hm <;> omega
      obtain ⟨_, h4⟩ := lonM_pos hp
      have := lon_lt (b := b) (dict := dict) (e := e) (s := s) (by omega)
      exact ⟨by show (lonP b dict e s).1 < _; omega, h.r0, h.r1, h.r2⟩
    · split <;> exact ⟨h.r0, h.r1, h.r2, h.r3⟩
theorem go_succ {n : Nat} (h : (goF b dict e s n).2.i < e) : goF b dict e s (n + 1) = ((goF b dict e s n).1 ++ [(stepF b dict e (goF b dict e s n).2).1], (stepF b dict e (goF b dict e s n).2).2) := if_pos h
theorem go_same {n : Nat} (h : ¬ (goF b dict e s n).2.i < e) : goF b dict e s (n + 1) = goF b dict e s n := if_neg h
theorem go_more : ∀ n, (goF b dict e s n).2.i < e → s.i + n ≤ (goF b dict e s n).2.i
  | 0, _ => Nat.le_refl _
  | n + 1, h => by
    by_cases hl : (goF b dict e s n).2.i < e
    · rw [go_succ hl] at h ⊢
      have h1 := go_more n hl
      have h2 := (step_i (b := b) (dict := dict) hl).1
      show s.i + (n + 1) ≤ (stepF b dict e (goF b dict e s n).2).2.i
      omega
    · rw [go_same hl] at h
      exact absurd h hl
theorem go_stop {n : Nat} (h : e ≤ (goF b dict e s n).2.i) : ∀ m, goF b dict e s (n + m) = goF b dict e s n
  | 0 => rfl
  | m + 1 => by
    show goF b dict e s (n + m + 1) = _
    rw [go_same (by rw [go_stop h m]; omega), go_stop h m]
theorem find_is {n : Nat} (h : e ≤ (goF b dict e s n).2.i) : findF b dict e s = goF b dict e s n := by
  unfold findF
  have h2 : e ≤ (goF b dict e s e).2.i := by
    by_cases hl : (goF b dict e s e).2.i < e
    · have := go_more e hl
      omega
    · omega
  by_cases hn : n ≤ e
  · have := go_stop h (e - n)
    rwa [show n + (e - n) = e by omega] at this
  · have := go_stop h2 (n - e)
    rw [show e + (n - e) = n by omega] at this
    exact this.symm
theorem go_end (h : s.i ≤ e) : ∀ n, (goF b dict e s n).2.i ≤ e
  | 0 => h
  | n + 1 => by
    by_cases hl : (goF b dict e s n).2.i < e
    · rw [go_succ hl]
      exact (step_i hl).2
    · rw [go_same hl]
      exact go_end h n
theorem go_lit (h : s.Lit) (he : e ≤ 4000000000) : ∀ n, (goF b dict e s n).2.Lit
  | 0 => h
  | n + 1 => by
    by_cases hl : (goF b dict e s n).2.i < e
    · rw [go_succ hl]
      exact step_lit (go_lit h he n) he
    · rw [go_same hl]
      exact go_lit h he n
theorem go_len : ∀ n, (goF b dict e s n).1.length ≤ n
  | 0 => Nat.le_refl _
  | n + 1 => by
    have := go_len n
    by_cases hl : (goF b dict e s n).2.i < e
    · rw [go_succ hl, List.length_append]
      show _ + 1 ≤ _
      omega
    · rw [go_same hl]
      omega
end

/-! ### the program's way -/
section
variable {b : List UInt8} {dict e : Nat} {s : Ps}
/-- the longest copy that is worth more -/
def worth (b : List UInt8) (dict e : Nat) (s : Ps) (least : Nat) : Nat × Nat := if least ≤ (lonP b dict e s).2 then lonP b dict e s else (0, 0)
/-- the elder distances' one, if it is one of a packet -/
def eld2 (b : List UInt8) (dict e : Nat) (s : Ps) : Nat × Nat := best2 (fun h => cpN b dict e s.i (s.rep h)) 4
theorem eld2_is : eld2 b dict e s = if 2 ≤ (eldP b dict e s).2 then eldP b dict e s else (0, 0) := best2_is _ _
theorem step_prog : stepF b dict e s = stepH (eld2 b dict e s) (worth b dict e s ((eld2 b dict e s).2 + 2)) (cpN b dict e s.i s.r0) (b.getD s.i 0) s := by
  rw [eld2_is]
  unfold stepF
  by_cases h2 : 2 ≤ (eldP b dict e s).2
  · rw [if_pos h2]
    by_cases hm : (eldP b dict e s).2 + 2 ≤ (lonP b dict e s).2
    · have e1 : worth b dict e s ((eldP b dict e s).2 + 2) = lonP b dict e s := if_pos hm
      have e2 : lonM b dict e s = (lonP b dict e s).2 := if_neg (by omega)
      rw [e1, e2]
      unfold stepG stepH
      rw [if_neg (by omega), if_pos (.inl (by omega)), if_pos (.inl (by omega))]
    · have e1 : worth b dict e s ((eldP b dict e s).2 + 2) = (0, 0) := if_neg hm
      have e2 : lonM b dict e s ≤ (eldP b dict e s).2 + 1 := by unfold lonM; split <;> omega
      rw [e1]
      unfold stepG stepH
      rw [if_pos ⟨h2, e2⟩, if_neg (by simp), if_pos (by omega)]
  · rw [if_neg h2]
    by_cases hm : 2 ≤ (lonP b dict e s).2
    · have e1 : worth b dict e s (((0, 0) : Nat × Nat).2 + 2) = lonP b dict e s := if_pos hm
      have e2 : lonM b dict e s = (lonP b dict e s).2 := if_neg (by omega)
      rw [e1, e2]
      unfold stepG stepH
      rw [if_neg (fun h => h2 h.1)]
      by_cases hc : 3 ≤ (lonP b dict e s).2 ∨ ((lonP b dict e s).2 = 2 ∧ (lonP b dict e s).1 < 128)
      · rw [if_pos hc, if_pos (hc.imp (fun h => by omega) id)]
      · rw [if_neg hc, if_neg (show ¬ (2 < (lonP b dict e s).2 ∨ ((lonP b dict e s).2 = 2 ∧ (lonP b dict e s).1 < 128)) from fun h => hc (h.imp (fun h => by omega) id)), if_neg (show ¬ 0 < ((0, 0) : Nat × Nat).2 from Nat.lt_irrefl 0)]
    · have e1 : worth b dict e s (((0, 0) : Nat × Nat).2 + 2) = (0, 0) := if_neg hm
      have e2 : lonM b dict e s = 0 := if_pos (by omega)
      rw [e1, e2]
      unfold stepG stepH
      rw [if_neg (fun h => h2 h.1), if_neg (show ¬ (3 ≤ 0 ∨ (0 = 2 ∧ (lonP b dict e s).1 < 128)) by omega), if_neg (show ¬ (2 < ((0, 0) : Nat × Nat).2 ∨ (((0, 0) : Nat × Nat).2 = 2 ∧ ((0, 0) : Nat × Nat).1 < 128)) by simp), if_neg (show ¬ 0 < ((0, 0) : Nat × Nat).2 from Nat.lt_irrefl 0)]
end

/-! ### bytes that are a part of others -/
section
variable {b c : List UInt8} {dict p t : Nat}
theorem cpN_part (hp : ∀ j, j < t → c.getD j 0 = b.getD (p + j) 0) {i d : Nat} (hi : i ≤ t) (hd : p = 0 ∨ dict ≤ i) : cpN c dict t i d = cpN b dict (p + t) (p + i) d := by
  unfold cpN
  rw [show p + t - (p + i) = t - i by omega]
  by_cases h : d < i ∧ d < dict
  · rw [if_pos h, if_pos ⟨by omega, h.2⟩]
    exact eqN_part hp _ _ (by omega) (by omega)
  · rw [if_neg h, if_neg (fun h' => h ⟨by omega, h'.2⟩)]
def Ps.far (s : Ps) (p : Nat) : Ps := { s with i := p + s.i }
theorem far_rep (s : Ps) (p k : Nat) : (s.far p).rep k = s.rep k := by
  match k with
  | 0 => rfl
  | 1 => rfl
  | 2 => rfl
  | n + 3 => rfl
theorem far_raise (s : Ps) (p n k : Nat) : (s.far p).raise n k = (s.raise n k).far p := by
  have e : p + s.i + n = p + (s.i + n) := by omega
  match k with
  | 0 => show Ps.mk (p + s.i + n) _ _ _ _ = _; rw [e]; rfl
  | 1 => show Ps.mk (p + s.i + n) _ _ _ _ = _; rw [e]; rfl
  | 2 => show Ps.mk (p + s.i + n) _ _ _ _ = _; rw [e]; rfl
  | m + 3 => show Ps.mk (p + s.i + n) _ _ _ _ = _; rw [e]; rfl
theorem step_part (hp : ∀ j, j < t → c.getD j 0 = b.getD (p + j) 0) {s : Ps} (hi : s.i < t) (hd : p = 0 ∨ dict ≤ s.i) : stepF b dict (p + t) (s.far p) = ((stepF c dict t s).1, (stepF c dict t s).2.far p) := by
  have k1 : eldP b dict (p + t) (s.far p) = eldP c dict t s := best_congr fun h _ => by
    rw [far_rep]
    exact (cpN_part hp (by omega) hd).symm
  have e0 : min (p + s.i) dict = min s.i dict := by omega
  have k2 : lonP b dict (p + t) (s.far p) = lonP c dict t s := by
    unfold lonP
    show best _ (min (p + s.i) dict) = _
    rw [e0]
    exact best_congr fun d _ => (cpN_part hp (by omega) hd).symm
  have k3 : lonM b dict (p + t) (s.far p) = lonM c dict t s := by unfold lonM; rw [k2]
  have k4 : cpN b dict (p + t) (s.far p).i (s.far p).r0 = cpN c dict t s.i s.r0 := (cpN_part hp (by omega) hd).symm
  have k5 : b.getD (s.far p).i 0 = c.getD s.i 0 := (hp _ hi).symm
  have e1 : ∀ n, p + s.i + n = p + (s.i + n) := fun n => by omega
  unfold stepF
  rw [k1, k2, k3, k4, k5]
  unfold stepG
  rw [far_raise]
  split
  · rfl
  · split
    · show (_, Ps.mk (p + s.i + _) _ _ _ _) = _
      rw [e1]
      rfl
    · split
      · show (_, Ps.mk (p + s.i + 1) _ _ _ _) = _
        rw [e1]
        rfl
      · show (_, Ps.mk (p + s.i + 1) _ _ _ _) = _
        rw [e1]
        rfl
theorem go_part (hp : ∀ j, j < t → c.getD j 0 = b.getD (p + j) 0) {s : Ps} (hd : p = 0 ∨ dict ≤ s.i) : ∀ n, goF b dict (p + t) (s.far p) n = ((goF c dict t s n).1, (goF c dict t s n).2.far p) ∧ s.i ≤ (goF c dict t s n).2.i
  | 0 => ⟨rfl, Nat.le_refl _⟩
  | n + 1 => by
    obtain ⟨h1, h2⟩ := go_part hp hd n
    by_cases hl : (goF c dict t s n).2.i < t
    · rw [go_succ hl, go_succ (by rw [h1]; show p + _ < p + t; omega), h1]
      have := (step_i (b := c) (dict := dict) hl).1
      refine ⟨?_, by show s.i ≤ (stepF c dict t _).2.i; omega⟩
      show ((goF c dict t s n).1 ++ [(stepF b dict (p + t) ((goF c dict t s n).2.far p)).1], (stepF b dict (p + t) ((goF c dict t s n).2.far p)).2) = _
      rw [step_part hp hl (hd.imp id (fun h => by omega))]
    · rw [go_same hl, go_same (by rw [h1]; show ¬ p + _ < p + t; omega)]
      exact ⟨h1, h2⟩
theorem find_part (hp : ∀ j, j < t → c.getD j 0 = b.getD (p + j) 0) {s : Ps} (hi : s.i ≤ t) (hd : p = 0 ∨ dict ≤ s.i) : findF b dict (p + t) (s.far p) = ((findF c dict t s).1, (findF c dict t s).2.far p) := by
  obtain ⟨h1, h2⟩ := go_part hp hd t
  have h3 : t ≤ (goF c dict t s t).2.i := by
    by_cases hl : (goF c dict t s t).2.i < t
    · have := go_more t hl
      omega
    · omega
  rw [find_is (n := t) (by rw [h1]; show p + t ≤ p + _; omega), h1]
  rfl
end
end Go.Proofs.Ytdhhibfppcpieaa
