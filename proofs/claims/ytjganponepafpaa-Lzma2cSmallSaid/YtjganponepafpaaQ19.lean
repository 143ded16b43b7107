/-
  CwNew, PcFin, CwEnd, CkCo, CkMem, Own, AppO: put together.
-/
import Derived.Test.YtjganponepafpaaQ18
import Derived.Laws.MakeOwn
import Derived.Test.YtjganponepafpaaQ07
import Derived.Test.YtjganponepafpaaQ06
import Derived.Test.YtjganponepafpaaQ16
import Derived.Test.YtjganponepafpaaQ01
set_option linter.unusedVariables false
set_option linter.unusedSimpArgs false
/-
  The program's coder of LZMA: a new one.
-/
namespace Go.Proofs.Ytjganponepafpaa
open Go.RowKit

/-- A coder that begins. -/
def CNewPost (w : World) (lc lp pb dict k : Nat) (e : Ending) (w' : World) : Prop :=
  ∃ K : Koc, e = .returned (.tuple #[.pointer (some ⟨K.g, 0, none⟩), .int .i64 0]) ∧ K.nl = 768 * 2 ^ (lc + lp) ∧
    Cw K w' none none 0 (Lzs.start lc lp pb dict) k ⟨List.replicate (1847 + K.nl) 1024, En.new⟩ ∧ (w.heap.size ≤ K.g ∧ w.heap.size ≤ K.lb ∧ w.heap.size ≤ K.eg) ∧ Only (fun _ => False) w w'

theorem enNew_ok (k : Nat) (hk : k ≤ 1000000) : okE k En.new := ⟨enOk_new, by show 5 + 32 * k ≤ _; omega⟩
theorem new_pm {L k : Nat} (hk : k ≤ 1000000) : PmOk okE L k (⟨List.replicate L 1024, En.new⟩ : Pm En) :=
  ⟨fun p hp => by rw [List.eq_of_mem_replicate hp]; exact ⟨by decide, by decide⟩, by simp, enNew_ok k hk⟩

set_option maxRecDepth 100000 in
set_option maxHeartbeats 16000000 in
theorem cnew7_any {lc lp pb dict k : Nat} (h : SetOk lc lp pb dict) (h6 : lc + lp ≤ 6) (hk : k ≤ 1000000) (w : World) :
    Calls Try.prog 16 #[.agg #[.int .i64 (lc : Int), .int .i64 (lp : Int), .int .i64 (pb : Int), .int .i64 (dict : Int)]] w (CNewPost w lc lp pb dict k) := by
  obtain ⟨w1, hw1⟩ : ∃ w1, w1 = w.alloc (.cells #[.int .i64 (lc : Int), .int .i64 (lp : Int), .int .i64 (pb : Int), .int .i64 (dict : Int)] 39) := ⟨_, rfl⟩
  have HBk : Blk w1 w.heap.size 39 #[.int .i64 (lc : Int), .int .i64 (lp : Int), .int .i64 (pb : Int), .int .i64 (dict : Int)] := by rw [hw1]; exact Blk.fresh w _ _
  have HO1 := Lib.hid (show Only (fun _ => False) w w1 by rw [hw1]; exact (Only.refl _ w).alloc _)
  have KM := pmay_any (lc : Int) (lp : Int) (pb : Int) (dict : Int) w1
  rw [setOk_may h] at KM
  have KM := Lib.hid KM
  have HH := Lib.hid (And.intro h (And.intro h6 hk))
  have HW1 := Lib.hid hw1
  have HBK := Lib.hid HBk
  have KE := Lib.hid (fun w => cnew_any w)
  have o0 : w1.cell? ⟨w.heap.size, 0, none⟩ = some (.int .i64 (lc : Int)) := HBk.cell 0
  have o1 : w1.cell? ⟨w.heap.size, 1, none⟩ = some (.int .i64 (lp : Int)) := HBk.cell 1
  have o2 : w1.cell? ⟨w.heap.size, 2, none⟩ = some (.int .i64 (pb : Int)) := HBk.cell 2
  have o3 : w1.cell? ⟨w.heap.size, 3, none⟩ = some (.int .i64 (dict : Int)) := HBk.cell 3
  clear hw1 HBk h h6 hk
  go_enter Try.func16, Try.ntmps16
  go_upto_region 1 with fail
  rw [← HW1.out]
  clear HW1
  go_wp2_with fail
  refine KM.out.mono ?_
  rintro e w2 ⟨rfl, hb2⟩
  have ho2 : Only (fun _ => False) w1 w2 := Only.of_below hb2
  have HO2 := Lib.hid (HO1.out.trans ho2)
  have HBK2 := Lib.hid (HBK.out.only ho2 (fun h => h))
  clear hb2 ho2 KM o0 o1 o2 o3 HBK HO1
  have HS := Lib.hid (fun (W : World) (hW : Only (fun _ => False) w2 W) => (show W.cell? ⟨w.heap.size, 0, none⟩ = some (.int .i64 (lc : Int)) ∧ W.cell? ⟨w.heap.size, 1, none⟩ = some (.int .i64 (lp : Int)) ∧ W.cell? ⟨w.heap.size, 2, none⟩ = some (.int .i64 (pb : Int)) ∧ W.cell? ⟨w.heap.size, 3, none⟩ = some (.int .i64 (dict : Int)) from
    have hk := HBK2.out.only hW (fun h => h)
    ⟨hk.cell 0, hk.cell 1, hk.cell 2, hk.cell 3⟩))
  obtain ⟨o0, o1, o2, o3⟩ := HS.out w2 (Only.refl _ _)
  go_wp2_with fail
  go_region_held3 (fun W => W.cell? ⟨w.heap.size, 0, none⟩ = some (.int .i64 (lc : Int)) ∧ W.cell? ⟨w.heap.size, 1, none⟩ = some (.int .i64 (lp : Int)) ∧ W.cell? ⟨w.heap.size, 2, none⟩ = some (.int .i64 (pb : Int)) ∧ W.cell? ⟨w.heap.size, 3, none⟩ = some (.int .i64 (dict : Int)))
    (first | assumption | go_keep | exact ⟨o0, o1, o2, o3⟩ | exact HS.out _ HQ3.out)
    (first | (go_at_call 26; refine (KE.out _).mono ?_; rintro e w3 ⟨rfl, hw3⟩; have HW3 := Lib.hid hw3; have HQ3 := Lib.hid (show Only (fun _ => False) w2 w3 from by rw [hw3]; exact ((Only.refl _ w2).drew).alloc _); clear hw3))
  obtain ⟨cs, hcs⟩ : ∃ cs, cs = (((((Try.zeroCells91.setIfInBounds 0 (.int .i64 (lc : Int))).setIfInBounds 1 (.int .i64 (lp : Int))).setIfInBounds 2 (.int .i64 (pb : Int))).setIfInBounds 3 (.int .i64 (dict : Int))).setIfInBounds 4 (.pointer (some ⟨w2.heap.size, 0, none⟩))) := ⟨_, rfl⟩
  rw [← hcs]
  have hblk : Blk (w3.alloc (.cells cs 91)) w3.heap.size 91 cs := Blk.fresh w3 _ _
  rw [hcs, czero_link] at hblk
  rw [← czero_link] at hblk
  have hblk2 := hblk
  rw [czero_link] at hblk2
  have hat : LcAt (w3.alloc (.cells cs 91)) w3.heap.size (coFs (lc : Int) (lp : Int) (pb : Int) (dict : Int) w2.heap.size (.slice none 0 0)) (List.replicate 1847 0) := by
    have := made_co hblk2
    rw [← czero_link, ← hcs] at this
    exact this
  have ho4 : Only (fun _ => False) w3 (w3.alloc (.cells cs 91)) := (Only.refl _ w3).alloc _
  have hpn : Pn w3 w2.heap.size none En.new := by rw [HW3.out]; exact pn_fresh w2.drew
  have HPN := Lib.hid (hpn.only ho4 (fun h => h) (fun _ _ h => h))
  have HS4 := Lib.hid (HS.out _ (HQ3.out.trans ho4))
  have HO4 := Lib.hid ((HO2.out.trans HQ3.out).trans ho4)
  have hs23 : w2.heap.size < w3.heap.size := by rw [HW3.out]; simp
  have HSZ := Lib.hid (And.intro HO2.out.size (And.intro hs23 (show w3.heap.size < (w3.alloc (.cells cs 91)).heap.size from hat.lt)))
  have KR := Lib.hid (creset_any HH.out.1 HH.out.2.1 (⟨hat, by simp⟩ : Lr w3.heap.size _ _ (List.replicate 1847 0)))
  clear hblk hblk2 hat ho4 hpn hs23 hcs HQ3 HO2 HW3 HS HBK2
  generalize w3.alloc (.cells cs 91) = w4 at *
  obtain ⟨o0, o1, o2, o3⟩ := HS4.out
  go_wp2_with fail
  refine KR.out.mono ?_
  rintro e w5 ⟨rfl, lb, hr5, hrow5, hlb, ho5⟩
  obtain ⟨z1, z2, z3⟩ := HSZ.out
  have hst := HH.out.1
  obtain ⟨nl, hnl⟩ : ∃ nl, nl = 768 * 2 ^ (lc + lp) := ⟨_, rfl⟩
  rw [← hnl] at hr5 hrow5
  have hpn5 := HPN.out.only ho5 (fun e => by omega) (fun _ h => by cases h)
  have hrep : ∀ a, a < 1847 → (List.replicate (1847 + nl) 1024).getD a 0 = (List.replicate 1847 1024).getD a 0 := fun a ha => by
    unfold List.getD
    rw [List.getElem?_replicate, List.getElem?_replicate, if_pos ha, if_pos (by omega)]
  have hcw : Cw ⟨w3.heap.size, lb, nl, w2.heap.size⟩ w5 none none 0 (Lzs.start lc lp pb dict) k ⟨List.replicate (1847 + nl) 1024, En.new⟩ := by
    refine ⟨⟨hpn5, ⟨hr5.1.same hrep, ?_, by simp⟩, new_pm HH.out.2.2⟩, ⟨rfl, .inl ⟨rfl, rfl⟩⟩, ⟨?_, ?_, ?_, fun _ h => (by cases h), fun _ h => (by cases h)⟩⟩
    · show Row w5 lb ((List.replicate (1847 + nl) 1024).drop 1847) nl
      rw [List.drop_replicate, Nat.add_sub_cancel_left]
      exact hrow5
    · show w3.heap.size ≠ lb
      omega
    · show w3.heap.size ≠ w2.heap.size
      omega
    · show lb ≠ w2.heap.size
      omega
  have HCW := Lib.hid hcw
  have HNL := Lib.hid hnl
  have HLE := Lib.hid (show w.heap.size ≤ w3.heap.size ∧ w.heap.size ≤ lb ∧ w.heap.size ≤ w2.heap.size by omega)
  have HON := Lib.hid (show Only (fun _ => False) w w5 from HO4.out.trans' ho5 (fun i hi => .inr (by subst hi; omega)))
  clear hr5 hrow5 hlb ho5 z1 z2 z3 hst hpn5 hrep hcw hnl KR o0 o1 o2 o3 HS4 HPN HO4 HSZ
  go_wp2_with fail
  go_ret2
  exact ⟨⟨w3.heap.size, lb, nl, w2.heap.size⟩, rfl, HNL.out, HCW.out, HLE.out, HON.out⟩
end Go.Proofs.Ytjganponepafpaa

/-
  The program's coder is finished.
-/
namespace Go.Proofs.Ytjganponepafpaa
open Go.RowKit

/-- What a finish leaves: the coder's bytes, and a coder that begins. -/
def FinPost (w : World) (g : Nat) (G : Option Nat) (e : En) (x : Ending) (w' : World) : Prop :=
  ∃ A m bs, x = .returned (.slice A bs.length m) ∧ w'.ownsRow 0 5 1 (.slice A bs.length m) bs.length (bv bs) ∧ be bs = e.n ∧ bs.length = e.l ∧ Nwr w G (Value.slice A bs.length m).ownBlock ∧ (Value.slice A bs.length m).ownBlock ≠ some g ∧ Pn w' g none En.new ∧ Only (pset g G) w w'

set_option maxHeartbeats 4000000 in
theorem finish_any {w : World} {g : Nat} {G : Option Nat} {e : En} (h : Pn w g G e) (hlen : e.l ≤ 999999990) :
    Calls Try.prog 57 #[.pointer (some ⟨g, 0, none⟩)] w (FinPost w g G e) := by
  obtain ⟨c, hP, hc⟩ := h
  have HP := Lib.hid hP
  have HC := Lib.hid hc
  have HLEN := Lib.hid hlen
  clear hP hc hlen
  go_enter Try.func57, Try.ntmps57
  go_wp2_with fail
  go_loopw [4] (fun i wr => ∃ (k : Nat) (G' : Option Nat), k ≤ 5 ∧ i = .int .i64 (k : Int) ∧ Pw wr g G' (c.gives k) e.r ∧ Nwr w G G' ∧ Only (pset g G) w wr) (fun i _ => 5 - (intOf i).toNat)
  case atStart => exact ⟨0, G, Nat.zero_le _, rfl, HP.out, Nwr.refl _ _, Only.refl _ _⟩
  case round =>
    clear HP
    obtain ⟨k, G', hk, rfl, hP, hN, hO⟩ := hrel
    have HN := Lib.hid hN
    have HO := Lib.hid hO
    by_cases hlt : k < 5
    · have h5 := (HC.out.mono HC.out.pos (Nat.le_refl 1)).gives k
      have K := Lib.hid (give_any hP h5.wt h5.low (by have h1 := gives_len c k; have h2 := HC.out.len; have h3 := HLEN.out; omega))
      have hlt' : (k : Int) < 5 := by omega
      clear hP hN hO h5
      go_wp2_with fail
      refine K.out.mono ?_
      rintro x w3 ⟨rfl, G2, hP2, hN2, hO2⟩
      have HP2 := Lib.hid hP2
      have HN2 := Lib.hid (HN.out.trans hN2 HO.out.size)
      have HO2 := Lib.hid (pset_trans HO.out HN.out hO2)
      clear hP2 hN2 hO2 HN HO K
      go_wp2_with fail
      go_roundw
      case rel => exact ⟨k + 1, G2, by omega, by go_num, HP2.out, HN2.out, HO2.out⟩
      case measure => simp [intOf]; omega
    · obtain rfl : k = 5 := by omega
      have hirr : ¬ ((5 : Nat) : Int) < 5 := by omega
      obtain ⟨A, m, hB, hOw, hG, hne⟩ := hP
      have c0 : wr.cell? ⟨g, 0, none⟩ = some (.int .u64 ((c.gives 5).lo : Int)) := hB.cell 0
      have c1 : wr.cell? ⟨g, 1, none⟩ = some (.int .u32 (e.r : Int)) := hB.cell 1
      have c2 : wr.cell? ⟨g, 2, none⟩ = some (.slice A (c.gives 5).gs.length m) := hB.cell 2
      have HB := Lib.hid hB
      have HOw := Lib.hid hOw
      have HG := Lib.hid hG
      have HNE := Lib.hid hne
      have K := Lib.hid (cnew_any wr)
      clear hB hOw hG hne hN hO hk hlt
      go_wp2_with fail
      refine K.out.mono ?_
      rintro x w3 ⟨rfl, hw3⟩
      have hO3 : Only (fun _ => False) wr w3 := by rw [hw3]; exact (Only.refl _ wr).alloc _
      have hN3 : Blk w3 wr.heap.size 100 (pcCells 0 4294967295 (.slice none 0 0) 0 0) := by rw [hw3]; exact Blk.fresh wr _ _
      have hB3 : Blk w3 g 100 _ := HB.out.only hO3 (fun h => h)
      obtain ⟨n0, n1, n2, n3, n4⟩ : w3.cell? ⟨wr.heap.size, 0, none⟩ = some (.int .u64 0) ∧ w3.cell? ⟨wr.heap.size, 1, none⟩ = some (.int .u32 4294967295) ∧ w3.cell? ⟨wr.heap.size, 2, none⟩ = some (.slice none 0 0) ∧ w3.cell? ⟨wr.heap.size, 3, none⟩ = some (.int .u8 0) ∧ w3.cell? ⟨wr.heap.size, 4, none⟩ = some (.int .i64 0) := ⟨hN3.cell 0, hN3.cell 1, hN3.cell 2, hN3.cell 3, hN3.cell 4⟩
      obtain ⟨g0, g1, g2, g3, g4⟩ : w3.cell? ⟨g, 0, none⟩ = some (.int .u64 ((c.gives 5).lo : Int)) ∧ w3.cell? ⟨g, 1, none⟩ = some (.int .u32 (e.r : Int)) ∧ w3.cell? ⟨g, 2, none⟩ = some (.slice A (c.gives 5).gs.length m) ∧ w3.cell? ⟨g, 3, none⟩ = some (.int .u8 ((c.gives 5).wt : Int)) ∧ w3.cell? ⟨g, 4, none⟩ = some (.int .i64 ((c.gives 5).fu : Int)) := ⟨hB3.cell 0, hB3.cell 1, hB3.cell 2, hB3.cell 3, hB3.cell 4⟩
      obtain ⟨z0, z1, z2, z3, z4⟩ : w3.frozen? ⟨g, 0, none⟩ = false ∧ w3.frozen? ⟨g, 1, none⟩ = false ∧ w3.frozen? ⟨g, 2, none⟩ = false ∧ w3.frozen? ⟨g, 3, none⟩ = false ∧ w3.frozen? ⟨g, 4, none⟩ = false := ⟨hB3.free 0, hB3.free 1, hB3.free 2, hB3.free 3, hB3.free 4⟩
      have HB3 := Lib.hid hB3
      have HO3 := Lib.hid hO3
      clear hO3 hN3 hB3 hw3 c0 c1 c2 K
      go_wp2_with fail
      first | go_end0 | (go_ret) | refine bodyPost_ret (results_none rfl _ _ _) rfl ?_
      obtain ⟨f1, f2⟩ := HC.out.finish
      have S5 : Only (fun i => i = g) w3 (((((w3.setCell ⟨g, 0, none⟩ (.int .u64 0)).setCell ⟨g, 1, none⟩ (.int .u32 4294967295)).setCell ⟨g, 2, none⟩ (.slice none 0 0)).setCell ⟨g, 3, none⟩ (.int .u8 0)).setCell ⟨g, 4, none⟩ (.int .i64 0)) :=
        (((((Only.refl (fun i => i = g) w3).setCell (p := ⟨g, 0, none⟩) (.inl rfl) _).setCell (p := ⟨g, 1, none⟩) (.inl rfl) _).setCell (p := ⟨g, 2, none⟩) (.inl rfl) _).setCell (p := ⟨g, 3, none⟩) (.inl rfl) _).setCell (p := ⟨g, 4, none⟩) (.inl rfl) _
      have P5 := ((((HB3.out.put 0 (.int .u64 0)).put 1 (.int .u32 4294967295)).put 2 (.slice none 0 0)).put 3 (.int .u8 0)).put 4 (.int .i64 0)
      have hgn : ∀ i, (Value.slice A (c.gives 5).gs.length m).ownBlock = some i → ¬ i = g := fun i hi e => HNE.out (HG.out.symm.trans (e ▸ hi))
      refine ⟨A, m, (c.gives 5).gs, rfl, own_only' (own_only' HOw.out HO3.out (fun _ _ h => h)) S5 hgn, f1, f2, ?_, ?_, ⟨Co.new, ⟨none, 0, P5, ⟨rfl, .inl ⟨rfl, rfl⟩⟩, rfl, by simp⟩, coN_new⟩, ?_⟩
      · rw [HG.out]; exact HN.out
      · rw [HG.out]; exact HNE.out
      · exact (HO.out.trans (HO3.out.mono (fun _ h => h.elim))).trans (S5.mono (fun i hi => .inl hi))
end Go.Proofs.Ytjganponepafpaa

/-
  The program's coder of LZMA: its stream.
-/
namespace Go.Proofs.Ytjganponepafpaa
open Go.RowKit

section
variable {K : Koc} {w w' : World} {Ge Ge' : Option Nat} {A' : Option Addr} {c : Nat} {z : Lzs} {k : Nat} {t : Pm En}
/-- the stream: its bytes -/
def CFin (K : Koc) (w : World) (Ge : Option Nat) (A' : Option Addr) (c : Nat) (z : Lzs) (t : Pm En) (x : Ending) (w' : World) : Prop :=
  ∃ B m bs, x = .returned (.slice B bs.length m) ∧ Sl w' B bs.length (bv bs) ∧ be bs = t.x.n ∧ bs.length = t.x.l ∧ w'.cell? ⟨K.g, 5, none⟩ = some (.slice A' z.out.length c) ∧ Sl w' A' z.out.length (bv z.out) ∧ Only (K.own Ge) w w'
end
end Go.Proofs.Ytjganponepafpaa

/-
  The program's coder of LZMA: state, distances and probabilities begin anew, whatever it did; its stream, and what goes on behind.
-/
namespace Go.Proofs.Ytjganponepafpaa
open Go.RowKit

def coFz (a b c d : Int) (eg : Nat) (told lit : Value) (st r0 r1 r2 r3 : Nat) (en : Bool) : List Value :=
  [.int .i64 a, .int .i64 b, .int .i64 c, .int .i64 d, .pointer (some ⟨eg, 0, none⟩), told, .int .i64 (st : Int), .int .u32 (r0 : Int), .int .u32 (r1 : Int), .int .u32 (r2 : Int), .int .u32 (r3 : Int), lit, .bool en]
section
variable {w w' : World} {g eg : Nat}

set_option maxRecDepth 100000 in
set_option maxHeartbeats 8000000 in
/-- Reset of any coder. -/
theorem creagain_any {lc lp pb dict : Nat} {a b c : Int} {ps : List Nat} {told lit : Value} {st r0 r1 r2 r3 : Nat} {en : Bool} (hset : SetOk lc lp pb dict) (h6 : lc + lp ≤ 6) (h : Lr g (coFz a b c (dict : Int) eg told lit st r0 r1 r2 r3 en) w ps) :
    Calls Try.prog 27 #[.pointer (some ⟨g, 0, none⟩), .agg #[.int .i64 (lc : Int), .int .i64 (lp : Int), .int .i64 (pb : Int), .int .i64 (dict : Int)]] w fun e w' =>
      e = .returned (.tuple #[]) ∧ ∃ lb, Lr g (coFz (lc : Int) (lp : Int) (pb : Int) (dict : Int) eg told (.slice (some ⟨lb, 0, none⟩) (768 * 2 ^ (lc + lp)) (768 * 2 ^ (lc + lp))) 0 0 0 0 0 en) w' (List.replicate 1847 1024) ∧ Row w' lb (List.replicate (768 * 2 ^ (lc + lp)) 1024) (768 * 2 ^ (lc + lp)) ∧ w.heap.size ≤ lb ∧ Only (fun i => i = g) w w' := by
  obtain ⟨w1, hw1⟩ : ∃ w1, w1 = w.alloc (.cells #[.int .i64 (lc : Int), .int .i64 (lp : Int), .int .i64 (pb : Int), .int .i64 (dict : Int)] 39) := ⟨_, rfl⟩
  have hO1 : Only (fun _ => False) w w1 := by rw [hw1]; exact (Only.refl _ w).alloc _
  have HBk : Blk w1 w.heap.size 39 #[.int .i64 (lc : Int), .int .i64 (lp : Int), .int .i64 (pb : Int), .int .i64 (dict : Int)] := by rw [hw1]; exact Blk.fresh w _ _
  have hgs : g < w.heap.size := h.1.lt
  have KM := pmay_any (lc : Int) (lp : Int) (pb : Int) (dict : Int) w1
  rw [setOk_may hset] at KM
  have KM := Lib.hid KM
  have KL := fun w => plits_any (lc := lc) (lp := lp) (pb : Int) (dict : Int) (by omega) w
  obtain ⟨nl, hnl⟩ : ∃ nl, nl = 768 * 2 ^ (lc + lp) := ⟨_, rfl⟩
  have hnl6 : nl ≤ 1000000 := by rw [hnl]; exact Nat.le_trans (Nat.mul_le_mul_left 768 (Nat.pow_le_pow_right (by decide) h6)) (by decide)
  rw [← hnl] at KL ⊢
  have KL := Lib.hid KL
  have KF := Lib.hid (fun w => fresh_any (n := nl) hnl6 w)
  have HR1 := Lib.hid ((lr_prb g _).only h hO1 (fun _ _ h => h))
  have HW1 := Lib.hid hw1
  have HO1 := Lib.hid hO1
  have HBK := Lib.hid HBk
  have HG := Lib.hid hgs
  have o0 : w1.cell? ⟨w.heap.size, 0, none⟩ = some (.int .i64 (lc : Int)) := HBk.cell 0
  have o1 : w1.cell? ⟨w.heap.size, 1, none⟩ = some (.int .i64 (lp : Int)) := HBk.cell 1
  have o2 : w1.cell? ⟨w.heap.size, 2, none⟩ = some (.int .i64 (pb : Int)) := HBk.cell 2
  have o3 : w1.cell? ⟨w.heap.size, 3, none⟩ = some (.int .i64 (dict : Int)) := HBk.cell 3
  clear hw1 hO1 HBk h hset h6 hnl hnl6
  go_enter Try.func27, Try.ntmps27
  go_upto_region 1 with fail
  rw [← HW1.out]
  clear HW1
  go_wp2_with fail
  refine KM.out.mono ?_
  rintro e w2 ⟨rfl, hb2⟩
  have ho2 : Only (fun _ => False) w1 w2 := Only.of_below hb2
  have HO2 := Lib.hid (HO1.out.trans ho2)
  have HBK2 := Lib.hid (HBK.out.only ho2 (fun h => h))
  have hr2 := (lr_prb g _).only HR1.out ho2 (fun _ _ h => h)
  have o0 : w2.cell? ⟨w.heap.size, 0, none⟩ = some (.int .i64 (lc : Int)) := HBK2.out.cell 0
  have o1 : w2.cell? ⟨w.heap.size, 1, none⟩ = some (.int .i64 (lp : Int)) := HBK2.out.cell 1
  have o2 : w2.cell? ⟨w.heap.size, 2, none⟩ = some (.int .i64 (pb : Int)) := HBK2.out.cell 2
  have a0 : w2.cell? ⟨g, 0, none⟩ = some (.int .i64 a) := hr2.1.cell 0 (by decide)
  have a1 : w2.cell? ⟨g, 1, none⟩ = some (.int .i64 b) := hr2.1.cell 1 (by decide)
  have a2 : w2.cell? ⟨g, 2, none⟩ = some (.int .i64 c) := hr2.1.cell 2 (by decide)
  have b0 := hr2.1.free 0
  have b1 := hr2.1.free 1
  have b2 := hr2.1.free 2
  have hne : w.heap.size ≠ g := by have := HG.out; omega
  have HR2 := Lib.hid hr2
  have p1 := ((hr2.put 0 (by decide) (.int .i64 (lc : Int))).put 1 (by decide) (.int .i64 (lp : Int))).put 2 (by decide) (.int .i64 (pb : Int))
  have HZ3 : Hid (Lr g (coFz (lc : Int) (lp : Int) (pb : Int) (dict : Int) eg told lit st r0 r1 r2 r3 en) (((w2.setCell ⟨g, 0, none⟩ (.int .i64 (lc : Int))).setCell ⟨g, 1, none⟩ (.int .i64 (lp : Int))).setCell ⟨g, 2, none⟩ (.int .i64 (pb : Int))) ps) := Lib.hid p1
  have hq3 : Only (fun i => i = g) w2 (((w2.setCell ⟨g, 0, none⟩ (.int .i64 (lc : Int))).setCell ⟨g, 1, none⟩ (.int .i64 (lp : Int))).setCell ⟨g, 2, none⟩ (.int .i64 (pb : Int))) :=
    (((Only.refl (fun i => i = g) w2).setCell (p := ⟨g, 0, none⟩) (.inl rfl) _).setCell (p := ⟨g, 1, none⟩) (.inl rfl) _).setCell (p := ⟨g, 2, none⟩) (.inl rfl) _
  have HO3 := Lib.hid (show Only (fun i => i = g) w _ from (HO2.out.mono fun _ h => h.elim).trans hq3)
  have HBK3 := Lib.hid (HBK2.out.only hq3 hne)
  clear hb2 ho2 hr2 p1 hq3 KM HBK HBK2 HR1 HO1 HO2
  go_wp2_with fail
  go_region
  have HZ3 := Lib.hid ((lr_prb g _).only HZ3.out ((Only.refl (fun _ => False) _).drewN 1) (fun _ _ h => h))
  have HO3 := Lib.hid (HO3.out.drewN 1)
  have HBK3 := Lib.hid (HBK3.out.drewN 1)
  change Exit.then _ _ _ _ ((((w2.setCell ⟨g, 0, none⟩ (.int .i64 (lc : Int))).setCell ⟨g, 1, none⟩ (.int .i64 (lp : Int))).setCell ⟨g, 2, none⟩ (.int .i64 (pb : Int))).drewN 1)
  generalize ((((w2.setCell ⟨g, 0, none⟩ (.int .i64 (lc : Int))).setCell ⟨g, 1, none⟩ (.int .i64 (lp : Int))).setCell ⟨g, 2, none⟩ (.int .i64 (pb : Int))).drewN 1) = w3 at *
  clear o0 o1 o2 a0 a1 a2 b0 b1 b2 HR2
  have a6 := HZ3.out.1.cell 6 (by decide)
  have a7 := HZ3.out.1.cell 7 (by decide)
  have a8 := HZ3.out.1.cell 8 (by decide)
  have a9 := HZ3.out.1.cell 9 (by decide)
  have a10 := HZ3.out.1.cell 10 (by decide)
  change w3.cell? ⟨g, 6, none⟩ = some (.int .i64 (st : Int)) at a6
  change w3.cell? ⟨g, 7, none⟩ = some (.int .u32 (r0 : Int)) at a7
  change w3.cell? ⟨g, 8, none⟩ = some (.int .u32 (r1 : Int)) at a8
  change w3.cell? ⟨g, 9, none⟩ = some (.int .u32 (r2 : Int)) at a9
  change w3.cell? ⟨g, 10, none⟩ = some (.int .u32 (r3 : Int)) at a10
  have b6 := HZ3.out.1.free 6
  have b7 := HZ3.out.1.free 7
  have b8 := HZ3.out.1.free 8
  have b9 := HZ3.out.1.free 9
  have b10 := HZ3.out.1.free 10
  have p4 := ((((HZ3.out.put 6 (by decide) (.int .i64 0)).put 7 (by decide) (.int .u32 0)).put 8 (by decide) (.int .u32 0)).put 9 (by decide) (.int .u32 0)).put 10 (by decide) (.int .u32 0)
  have HZ4 : Hid (Lr g (coFz (lc : Int) (lp : Int) (pb : Int) (dict : Int) eg told lit 0 0 0 0 0 en) (((((w3.setCell ⟨g, 6, none⟩ (.int .i64 0)).setCell ⟨g, 7, none⟩ (.int .u32 0)).setCell ⟨g, 8, none⟩ (.int .u32 0)).setCell ⟨g, 9, none⟩ (.int .u32 0)).setCell ⟨g, 10, none⟩ (.int .u32 0)) ps) := Lib.hid p4
  have hq4 : Only (fun i => i = g) w3 (((((w3.setCell ⟨g, 6, none⟩ (.int .i64 0)).setCell ⟨g, 7, none⟩ (.int .u32 0)).setCell ⟨g, 8, none⟩ (.int .u32 0)).setCell ⟨g, 9, none⟩ (.int .u32 0)).setCell ⟨g, 10, none⟩ (.int .u32 0)) :=
    (((((Only.refl (fun i => i = g) w3).setCell (p := ⟨g, 6, none⟩) (.inl rfl) _).setCell (p := ⟨g, 7, none⟩) (.inl rfl) _).setCell (p := ⟨g, 8, none⟩) (.inl rfl) _).setCell (p := ⟨g, 9, none⟩) (.inl rfl) _).setCell (p := ⟨g, 10, none⟩) (.inl rfl) _
  have HO4 := Lib.hid (HO3.out.trans hq4)
  have HBK4 := Lib.hid (HBK3.out.only hq4 hne)
  clear p4 hq4 HZ3 HO3 HBK3
  go_upto_region 4 with fail
  generalize (((((w3.setCell ⟨g, 6, none⟩ (.int .i64 0)).setCell ⟨g, 7, none⟩ (.int .u32 0)).setCell ⟨g, 8, none⟩ (.int .u32 0)).setCell ⟨g, 9, none⟩ (.int .u32 0)).setCell ⟨g, 10, none⟩ (.int .u32 0)) = w4 at *
  clear a6 a7 a8 a9 a10 b6 b7 b8 b9 b10
  have KC := Lib.hid (chances_renew (D := fun _ => False) (lr_prb g _) (lr_lay g) (Nat.le_refl _) ⟨ps, HZ4.out, fun _ h => h.elim, Only.refl _ w4⟩)
  go_wp2_with fail
  refine KC.out.mono ?_
  rintro e w5 ⟨rfl, ps5, hr5, hf5, ho5⟩
  have he := all_fresh' hr5.2 (fun i hi => hf5 i (.inr hi))
  subst he
  have HBK5 := Lib.hid (HBK4.out.only ho5 hne)
  have HZ5 := Lib.hid hr5
  have HO5 := Lib.hid (HO4.out.trans ho5)
  have o0 : w5.cell? ⟨w.heap.size, 0, none⟩ = some (.int .i64 (lc : Int)) := HBK5.out.cell 0
  have o1 : w5.cell? ⟨w.heap.size, 1, none⟩ = some (.int .i64 (lp : Int)) := HBK5.out.cell 1
  have o2 : w5.cell? ⟨w.heap.size, 2, none⟩ = some (.int .i64 (pb : Int)) := HBK5.out.cell 2
  have o3 : w5.cell? ⟨w.heap.size, 3, none⟩ = some (.int .i64 (dict : Int)) := HBK5.out.cell 3
  clear hr5 hf5 ho5 KC HBK4 HZ4 HO4
  go_wp2_with fail
  refine (KL.out _).mono ?_
  rintro e w6 ⟨rfl, hb6⟩
  have ho6 : Only (fun _ => False) w5 w6 := Only.of_below hb6
  have HZ6 := Lib.hid ((lr_prb g _).only HZ5.out ho6 (fun _ _ h => h))
  have HO6 := Lib.hid (HO5.out.trans (ho6.mono fun _ h => h.elim))
  clear hb6 ho6 o0 o1 o2 o3 HBK5 HZ5 HO5 KL
  go_wp2_with fail
  refine (KF.out _).mono ?_
  rintro e w7 ⟨rfl, hrow, hb7⟩
  have ho7 : Only (fun _ => False) w6 w7 := Only.of_below hb7
  have hz7 := (lr_prb g _).only HZ6.out ho7 (fun _ _ h => h)
  have HO7 := Lib.hid ((HO6.out.trans (ho7.mono fun _ h => h.elim)).setCell (p := ⟨g, 1858, none⟩) (.inl rfl) (.slice (some ⟨w6.heap.size, 0, none⟩) nl nl))
  have HLB := Lib.hid (show w.heap.size ≤ w6.heap.size from HO6.out.size)
  have hgl := HZ6.out.1.lt
  have HROW : Hid (Row (w7.setCell ⟨g, 1858, none⟩ (.slice (some ⟨w6.heap.size, 0, none⟩) nl nl)) w6.heap.size (List.replicate nl 1024) nl) := Lib.hid (hrow.only ((Only.refl (fun j => j = g) w7).setCell (p := ⟨g, 1858, none⟩) (.inl rfl) _) (by omega))
  have HZ8 : Hid (Lr g (coFz (lc : Int) (lp : Int) (pb : Int) (dict : Int) eg told (.slice (some ⟨w6.heap.size, 0, none⟩) nl nl) 0 0 0 0 0 en) (w7.setCell ⟨g, 1858, none⟩ (.slice (some ⟨w6.heap.size, 0, none⟩) nl nl)) (List.replicate 1847 1024)) := Lib.hid (hz7.put 11 (by decide) (.slice (some ⟨w6.heap.size, 0, none⟩) nl nl))
  have aL : w7.cell? ⟨g, 1858, none⟩ = some lit := hz7.1.cell 11 (by decide)
  have bL := hz7.1.free 1858
  clear hrow hb7 ho7 hz7 KF HZ6 HO6 hgl
  generalize w6.heap.size = lb at *
  go_wp2_with fail
  first | go_end0 | refine bodyPost_ret (results_none rfl _ _ _) rfl ?_
  exact ⟨rfl, lb, HZ8.out, HROW.out, HLB.out, HO7.out⟩
end

section
variable {K : Koc} {w w' : World} {Ge Ge' : Option Nat} {A' : Option Addr} {c : Nat} {z : Lzs} {k : Nat} {t : Pm En}
theorem Cw.again {k' : Nat} (h : Cw K w Ge A' c z k t) (hk : PmOk okE (1847 + K.nl) k' t) : Cw K w Ge A' c z k' t := ⟨⟨h.mch.pn, h.mch.row, hk⟩, h.told, h.ap⟩
theorem LcAt.cut {g : Nat} {fs : List Value} {ps : List Nat} (h : LcAt w g fs ps) : LcAt w g fs (ps.take 1847) := h.same fun a ha => by
  rw [List.getD_eq_getElem?_getD, List.getD_eq_getElem?_getD, List.getElem?_take_of_lt ha]
def AnewPost (K : Koc) (w : World) (Ge : Option Nat) (A' : Option Addr) (c : Nat) (s : Lzs × Pm En) (k : Nat) (e : Ending) (w' : World) : Prop :=
  e = .returned (.tuple #[]) ∧ ∃ lb, w.heap.size ≤ lb ∧ Cw ⟨K.g, lb, K.nl, K.eg⟩ w' Ge A' c (reS s).1 k (reS s).2 ∧ Only (fun i => i = K.g) w w'
theorem canew_any {lc lp pb dict : Nat} (h : Cw K w Ge A' c z k t) (hset : SetOk lc lp pb dict) (h6 : lc + lp ≤ 6) (hnl : K.nl = 768 * 2 ^ (lc + lp)) (e1 : z.lc = lc) (e2 : z.lp = lp) (e3 : z.pb = pb) (e4 : z.dict = dict) :
    Calls Try.prog 27 #[.pointer (some ⟨K.g, 0, none⟩), .agg #[.int .i64 (lc : Int), .int .i64 (lp : Int), .int .i64 (pb : Int), .int .i64 (dict : Int)]] w (AnewPost K w Ge A' c (z, t) k) := by
  subst e1 e2 e3 e4
  obtain ⟨o1, o2, o3, o4, o5⟩ := h.old
  have hrow := h.mch.row
  have hL : Lr K.g (coFz (z.lc : Int) (z.lp : Int) (z.pb : Int) (z.dict : Int) K.eg (.slice A' z.out.length c) (.slice (some ⟨K.lb, 0, none⟩) K.nl K.nl) z.st z.r0 z.r1 z.r2 z.r3 z.ended) w (t.ps.take 1847) :=
    ⟨hrow.1.cut, by rw [List.length_take, hrow.2.2]; omega⟩
  refine (creagain_any hset h6 hL).mono ?_
  rintro e w1 ⟨rfl, lb, hr, hR, hlb, hO⟩
  refine ⟨rfl, lb, hlb, ⟨⟨h.mch.pn.only hO (fun e => h.ap.ge e.symm) (fun i hi e => (h.ap.eo i hi).1 e), ⟨?_, ?_, ?_⟩, ?_⟩, own_only' h.told hO (fun i hi e => (h.ap.ta i hi).1 e), ?_⟩, hO⟩
  · rw [← hnl] at hr
    refine hr.1.same (ps' := List.replicate t.ps.length 1024) fun a ha => ?_
    rw [List.getD_eq_getElem?_getD, List.getD_eq_getElem?_getD, List.getElem?_replicate, List.getElem?_replicate, if_pos ha, if_pos (by rw [hrow.2.2]; omega)]
  · have e : (reS (z, t)).2.ps.drop 1847 = List.replicate (768 * 2 ^ (z.lc + z.lp)) 1024 := by
      show (List.replicate t.ps.length 1024).drop 1847 = _
      rw [List.drop_replicate, hrow.2.2, hnl, Nat.add_sub_cancel_left]
    rw [e, hnl]
    exact hR
  · show (List.replicate t.ps.length 1024).length = _
    rw [List.length_replicate]
    exact hrow.2.2
  · refine ⟨fun p hp => ?_, ?_, h.mch.ok.x⟩
    · have hp : p ∈ List.replicate t.ps.length 1024 := hp
      rw [List.eq_of_mem_replicate hp]
      exact ⟨by decide, by decide⟩
    · show (List.replicate t.ps.length 1024).length = _
      rw [List.length_replicate]
      exact hrow.2.2
  · refine ⟨?_, h.ap.ge, ?_, fun i hi => ?_, fun i hi => ?_⟩
    · show K.g ≠ lb; omega
    · show lb ≠ K.eg; omega
    · have h1 := h.ap.eo i hi
      have := o4 i hi
      exact ⟨h1.1, by show i ≠ lb; omega, h1.2.2⟩
    · have h1 := h.ap.ta i hi
      have := o5 i hi
      exact ⟨h1.1, by show i ≠ lb; omega, h1.2.2.1, h1.2.2.2⟩

/-- the stream's bytes, and a coder that goes on -/
def CEndPost (K : Koc) (w : World) (Ge : Option Nat) (A' : Option Addr) (c : Nat) (s : Lzs × Pm En) (k : Nat) (x : Ending) (w' : World) : Prop :=
  ∃ B m, x = .returned (.slice B s.2.x.l m) ∧ Sl w' B s.2.x.l (bv (strB s)) ∧ Nwr w Ge (Value.slice B s.2.x.l m).ownBlock ∧ s.2.x.l ≤ m ∧ Cw K w' none A' c { s.1 with ended := false } k (finS s).2 ∧ Only (K.own Ge) w w'
set_option maxRecDepth 100000 in
set_option maxHeartbeats 4000000 in
theorem cend_any {k' : Nat} (h : Cw K w Ge A' c z k t) (hk : k' ≤ 28000000) :
    Calls Try.prog 42 #[.pointer (some ⟨K.g, 0, none⟩)] w (CEndPost K w Ge A' c (z, t) k') := by
  have cE := h.f.ended
  have fE := h.f.fz 1859
  have HZ1 : Hid (Cw K (w.setCell ⟨K.g, 1859, none⟩ (.bool false)) Ge A' c { z with ended := false } k t) := Lib.hid (h.put 12 (by decide) (.bool false) (z' := { z with ended := false }) rfl rfl)
  have HO1 : Hid (Only (K.own Ge) w (w.setCell ⟨K.g, 1859, none⟩ (.bool false))) := Lib.hid ((Only.refl (K.own Ge) w).cwn_put 12 (.bool false))
  clear h
  go_enter Try.func42, Try.ntmps42
  go_upto_region 2 with fail
  have hs1 : (w.setCell ⟨K.g, 1859, none⟩ (.bool false)).heap.size = w.heap.size := by simp
  generalize w.setCell ⟨K.g, 1859, none⟩ (.bool false) = w1 at *
  clear cE fE
  have c4 := HZ1.out.f.c4
  have KF := Lib.hid (finish_any HZ1.out.mch.pn (by have := HZ1.out.mch.ok.x.2; omega))
  go_wp2_with fail
  refine KF.out.mono ?_
  rintro e w2 ⟨B, m, bs, rfl, hown, hbe, hlen, hnw, hne, hpn, hO⟩
  obtain ⟨o1, o2, o3, o4, o5⟩ := HZ1.out.old
  have ap := HZ1.out.ap
  have hbs : bs = strB (z, t) := beB_of hbe hlen
  subst hbs
  have hlen : (strB (z, t)).length = t.x.l := hlen
  rw [hlen] at hown hnw hne ⊢
  have hg : ¬ pset K.eg Ge K.g := by
    rintro (e | e)
    · exact ap.ge e
    · exact (ap.eo _ e).1 rfl
  have hlb : ¬ pset K.eg Ge K.lb := by
    rintro (e | e)
    · exact ap.le e
    · exact (ap.eo _ e).2.1 rfl
  have hrow := (K.prb _ ap.gl).only HZ1.out.mch.row hO (fun i hi => by rcases hi with rfl | rfl; exact hg; exact hlb)
  have htold := own_only' HZ1.out.told hO (fun i hi e => by
    rcases e with e | e
    · exact (ap.ta i hi).2.2.1 e
    · exact (ap.ta i hi).2.2.2 e)
  have hcap : t.x.l ≤ m := by
    rcases hown.2 with ⟨e, _⟩ | ⟨g', cap, cur, hv, hb', hh, r⟩
    · injection e with _ e1 e2
      omega
    · injection hv with _ e1 e2
      have := r.1
      omega
  have HE := Lib.hid (show CEndPost K w Ge A' c (z, t) k' (.returned (.slice B t.x.l m)) w2 from
    ⟨B, m, rfl, Sl.of_own hown, fun i hi => by have := hnw i hi; rw [hs1] at this; exact this, hcap, ⟨⟨hpn, hrow, HZ1.out.mch.ok.ps, HZ1.out.mch.ok.len, okE_new hk⟩, htold, ap.gl, ap.ge, ap.le, fun i hi => (nomatch hi), fun i hi => ⟨(ap.ta i hi).1, (ap.ta i hi).2.1, (ap.ta i hi).2.2.1, fun e => (nomatch e)⟩⟩, HO1.out.trans (hO.mono fun i hi => cset_of hi)⟩)
  clear hown hbe hlen hnw hne hpn hO o1 o2 o3 o4 o5 ap hg hlb hrow htold hcap KF HZ1 HO1 c4 hs1
  go_wp2_with fail
  go_ret
  exact HE.out
end
end Go.Proofs.Ytjganponepafpaa

/-
  The coder of LZMA2 in memory: the block that goes on from piece to piece, its coder, what was told.
-/
namespace Go.Proofs.Ytjganponepafpaa
open Go.RowKit

/-- what stays as it is: the block, the bytes, the setting -/
structure Kq where
  kg : Nat
  A : Option Addr
  n : Nat
  c : Nat
  lc : Nat
  lp : Nat
  pb : Nat
  dict : Nat
def ckCells (Q : Kq) (K : Koc) (F how : Nat) (Ao : Option Addr) (on co : Nat) : Array Value :=
  #[.slice Q.A Q.n Q.c, .int .i64 (F : Int), .int .i64 (Q.lc : Int), .int .i64 (Q.lp : Int), .int .i64 (Q.pb : Int), .int .i64 (Q.dict : Int), .pointer (some ⟨K.g, 0, none⟩), .int .i64 (how : Int), .slice Ao on co]
/-- whose blocks these are -/
def Kow (Q : Kq) (K : Koc) (Ge Gt Go : Option Nat) : Nat → Prop := fun i => K.all Ge Gt i ∨ i = Q.kg ∨ Go = some i

structure Kst (Q : Kq) (K : Koc) (w : World) (Ge : Option Nat) (A : Option Addr) (c F : Nat) (k : Ckn) (m : Nat) (Ao : Option Addr) (co : Nat) : Prop where
  blk : Blk w Q.kg 61 (ckCells Q K F k.how Ao k.out.length co)
  cw : Cw K w Ge A c k.s.1 m k.s.2
  own : w.ownsRow 0 5 1 (.slice Ao k.out.length co) k.out.length (bv k.out)
  kap : ¬ K.all Ge (tb A k.s.1.out.length c) Q.kg
  oap : ∀ i, tb Ao k.out.length co = some i → ¬ K.all Ge (tb A k.s.1.out.length c) i ∧ i ≠ Q.kg
  nl : K.nl = 768 * 2 ^ (Q.lc + Q.lp)
/-- .. its blocks are G -/
def Kwn (Q : Kq) (w : World) (F : Nat) (k : Ckn) (m : Nat) (G : Nat → Prop) : Prop :=
  ∃ K Ge A c Ao co, Kst Q K w Ge A c F k m Ao co ∧ ∀ i, G i ↔ Kow Q K Ge (tb A k.s.1.out.length c) (tb Ao k.out.length co) i

section
variable {Q : Kq} {K : Koc} {w w' : World} {Ge : Option Nat} {A : Option Addr} {c F m : Nat} {k : Ckn} {Ao : Option Addr} {co : Nat} {G S : Nat → Prop}
theorem Kst.only (h : Kst Q K w Ge A c F k m Ao co) (hO : Only S w w') (hn : ∀ i, Kow Q K Ge (tb A k.s.1.out.length c) (tb Ao k.out.length co) i → ¬ S i) : Kst Q K w' Ge A c F k m Ao co := by
  refine ⟨h.blk.only hO (hn _ (.inr (.inl rfl))), h.cw.only hO ?_ ?_ ?_ ?_ ?_, own_only' h.own hO (fun i hi => hn i (.inr (.inr hi))), h.kap, h.oap, h.nl⟩
  · exact hn _ (.inl (.inl (.inr (.inr (.inl rfl)))))
  · exact hn _ (.inl (.inl (.inr (.inr (.inr rfl)))))
  · exact hn _ (.inl (.inl (.inl rfl)))
  · exact fun i hi => hn i (.inl (.inl (.inr (.inl hi))))
  · exact fun i hi => hn i (.inl (.inr hi))
theorem Kwn.only (h : Kwn Q w F k m G) (hO : Only S w w') (hn : ∀ i, G i → ¬ S i) : Kwn Q w' F k m G := by
  obtain ⟨K, Ge, A, c, Ao, co, hs, hG⟩ := h
  exact ⟨K, Ge, A, c, Ao, co, hs.only hO (fun i hi => hn i ((hG i).2 hi)), hG⟩
theorem Kwn.quiet (h : Kwn Q w F k m G) (hO : Only (fun _ => False) w w') : Kwn Q w' F k m G := h.only hO (fun _ _ h => h)
theorem Kst.old (h : Kst Q K w Ge A c F k m Ao co) {i : Nat} (hi : Kow Q K Ge (tb A k.s.1.out.length c) (tb Ao k.out.length co) i) : i < w.heap.size := by
  obtain ⟨o1, o2, o3, o4, o5⟩ := h.cw.old
  rcases hi with ((e | e | e | e) | e) | e | e
  · exact e ▸ o3
  · exact o4 _ e
  · exact e ▸ o1
  · exact e ▸ o2
  · exact o5 _ e
  · exact e ▸ h.blk.lt
  · exact own_old h.own e
theorem Kwn.old (h : Kwn Q w F k m G) {i : Nat} (hi : G i) : i < w.heap.size := by
  obtain ⟨K, Ge, A, c, Ao, co, hs, hG⟩ := h
  exact hs.old ((hG i).1 hi)
/-- More bytes were told, and the cell that leads to them is stored. -/
theorem Kst.put {w1 w3 : World} {A2 : Option Addr} {c2 : Nat} {xs : List UInt8} (h : Kst Q K w Ge A c F k m Ao co) (h1 : Only (fun _ => False) w w1)
    (ho : w3.ownsRow 0 5 1 (.slice A2 (k.out.length + xs.length) c2) (k.out.length + xs.length) (bv k.out ++ bv xs)) (hg : w1.grownBy w3 (Value.slice Ao k.out.length co).ownBlock)
    (hq : (Value.slice A2 (k.out.length + xs.length) c2).ownBlock = (Value.slice Ao k.out.length co).ownBlock ∨ (Value.slice A2 (k.out.length + xs.length) c2).ownBlock = some w1.heap.size) :
    Kst Q K (w3.setCell ⟨Q.kg, 8, none⟩ (.slice A2 (k.out.length + xs.length) c2)) Ge A c F ⟨k.how, k.s, k.out ++ xs⟩ m A2 c2 ∧ Blk w3 Q.kg 61 (ckCells Q K F k.how Ao k.out.length co) ∧
    (∀ i, Kow Q K Ge (tb A k.s.1.out.length c) (tb A2 (k.out ++ xs).length c2) i → Kow Q K Ge (tb A k.s.1.out.length c) (tb Ao k.out.length co) i ∨ w.heap.size ≤ i) ∧
    Only (Kow Q K Ge (tb A k.s.1.out.length c) (tb Ao k.out.length co)) w (w3.setCell ⟨Q.kg, 8, none⟩ (.slice A2 (k.out.length + xs.length) c2)) := by
  have hs1 := h1.size
  have hO3 : Only (fun i => tb Ao k.out.length co = some i) w w3 :=
    (h1.mono (fun _ h => h.elim)).trans ⟨hg.os, hg.tape, hg.output, hg.size, fun i hi hn => hg.block i hi fun e => hn e.symm⟩
  have hq' : ∀ i, tb A2 (k.out.length + xs.length) c2 = some i → tb Ao k.out.length co = some i ∨ i = w1.heap.size := by
    intro i hi
    rcases hq with e | e
    · exact .inl (e.symm.trans hi)
    · unfold tb at hi; rw [e] at hi; injection hi with hi; exact .inr hi.symm
  have hlen : (k.out ++ xs).length = k.out.length + xs.length := List.length_append
  have hOf := (Only.refl (fun j => j = Q.kg) w3).setCell (p := ⟨Q.kg, 8, none⟩) (.inl rfl) (.slice A2 (k.out.length + xs.length) c2)
  have hb3 := h.blk.only hO3 (fun e => (h.oap _ e).2 rfl)
  have hold : ∀ i, K.all Ge (tb A k.s.1.out.length c) i → i < w.heap.size := fun i hi => h.old (.inl hi)
  have hap : ∀ i, tb A2 (k.out.length + xs.length) c2 = some i → ¬ K.all Ge (tb A k.s.1.out.length c) i ∧ i ≠ Q.kg := by
    intro i hi
    rcases hq' i hi with e | e
    · exact h.oap i e
    · have := h.blk.lt
      exact ⟨fun ha => by have := hold i ha; omega, by omega⟩
  have hcw3 : Cw K w3 Ge A c k.s.1 m k.s.2 := h.cw.only hO3 (fun e => (h.oap _ e).1 (.inl (.inr (.inr (.inl rfl))))) (fun e => (h.oap _ e).1 (.inl (.inr (.inr (.inr rfl))))) (fun e => (h.oap _ e).1 (.inl (.inl rfl))) (fun i hi e => (h.oap _ e).1 (.inl (.inr (.inl hi)))) (fun i hi e => (h.oap _ e).1 (.inr hi))
  refine ⟨⟨?_, hcw3.only hOf ?_ ?_ ?_ ?_ ?_, ?_, h.kap, ?_, h.nl⟩, hb3, ?_, ?_⟩
  · rw [hlen]
    exact hb3.put 8 _
  · exact fun e => h.kap (e ▸ .inl (.inr (.inr (.inl rfl))))
  · exact fun e => h.kap (e ▸ .inl (.inr (.inr (.inr rfl))))
  · exact fun e => h.kap (e ▸ .inl (.inl rfl))
  · exact fun i hi e => h.kap (e ▸ .inl (.inr (.inl hi)))
  · exact fun i hi e => h.kap (e ▸ .inr hi)
  · show (w3.setCell _ _).ownsRow 0 5 1 (.slice A2 (k.out ++ xs).length c2) (k.out ++ xs).length (bv (k.out ++ xs))
    rw [hlen, bv_append]
    exact own_only' ho hOf (fun i hi e => (hap i hi).2 e)
  · show ∀ i, tb A2 (k.out ++ xs).length c2 = some i → _
    rw [hlen]
    exact hap
  · rw [hlen]
    rintro i (e | e | e)
    · exact .inl (.inl e)
    · exact .inl (.inr (.inl e))
    · rcases hq' i e with e | e
      · exact .inl (.inr (.inr e))
      · exact .inr (by omega)
  · exact (hO3.mono (fun i hi => .inr (.inr hi))).setCell (p := ⟨Q.kg, 8, none⟩) (.inl (.inr (.inl rfl))) _
end
end Go.Proofs.Ytjganponepafpaa

/-
  What is owned: a call leaves all but its own blocks as they were.
-/
namespace Go.Proofs.Ytjganponepafpaa
open Go.RowKit

/-- what a call leaves: blocks that are owned then were so ahead, or are new; no other has turned -/
def OwnPost (Own : World → (Nat → Prop) → Prop) (w : World) (G : Nat → Prop) (v : Value) (x : Ending) (w' : World) : Prop :=
  x = .returned v ∧ ∃ G', Own w' G' ∧ (∀ i, G' i → G i ∨ w.heap.size ≤ i) ∧ Only G w w'

end Go.Proofs.Ytjganponepafpaa

/-
  append onto a row of the call's own, which block it is then.
-/
namespace Go.Proofs.Ytjganponepafpaa
open Go.RowKit

section
variable {P : Program} (w : World)
theorem wpList_appO {ops : Array Oper} {rest : List Oper} {o : Oper} {a : Act} {Q : Exit → Act → World → Prop} (hgd : o.guard = none) (s x : Operand) (t : TypeId)
    (ho : o.op = .call { callee := .builtin .append, args := #[s, x], argTypes := #[t, t] })
    (base : Nat) (e : TypeId) (i : TypeInfo) (z : Value) (bytes : Nat) (ht : P.underlying t = some (.slice e)) (hi : P.info? e = some i) (hz : i.zero = some z)
    (hsize : i.size = 1) (hby : i.bytes = bytes) (hzs : z.cells.size = 1)
    (v : Value) (n : Nat) (xs : List Value) (hs : a.eval s = v) (hown : w.ownsRow base e 1 v n xs)
    (A : Option Addr) (m c : Nat) (news : List Value) (hx : a.eval x = .slice A m c) (hr : Sl w A m news) (h1 : ∀ u ∈ news, u.oneCell' = true)
    (hbytes : (n + m) * bytes ≤ 140737488355328) (hb0 : 0 < bytes) (hbase : base ≤ w.heap.size)
    (h : ∀ A' c' w', w'.ownsRow base e 1 (.slice A' (n + m) c') (n + m) (xs ++ news) → w.grownBy w' v.ownBlock → ((Value.slice A' (n + m) c').ownBlock = v.ownBlock ∨ (Value.slice A' (n + m) c').ownBlock = some w.heap.size) → wpList P ops Q rest (a.put o.dst (.slice A' (n + m) c')) w') : wpList P ops Q (o :: rest) a w :=
  wpList_plain hgd fun K hK => by
    obtain ⟨v', w', hrun, h2, h3, h4⟩ := run_app (P := P) w base t o.type e i z bytes ht hi hz hsize hby hzs v n xs hown A m c news hr h1 hbytes hb0 hbase
    obtain ⟨A', c', rfl, h2⟩ := own_form h2
    unfold Oper.wp execOp
    simp only [ho, resolve, invoke, builtin, Sem.run_bind, Sem.run_pure, Result.andThen_ok, List.map_toArray, List.map_cons, List.map_nil, hs, hx, hrun]
    exact hK _ _ (h A' c' w' h2 h3 h4)
end

end Go.Proofs.Ytjganponepafpaa
