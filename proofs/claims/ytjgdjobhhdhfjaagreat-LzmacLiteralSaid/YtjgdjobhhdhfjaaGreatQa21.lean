/-
  PcFin, CwEnd, CwPack, AwkNine, CwAwake, CwLight, CwRuns, LzMem: put together.
-/
import Derived.Test.YtjgdjobhhdhfjaaGreatQa14
import Derived.Test.YtjgdjobhhdhfjaaGreatQa20
import Derived.Test.YtjgdjobhhdhfjaaGreatQa01
import Derived.Test.YtjgdjobhhdhfjaaGreatQa02
import Derived.Test.YtjgdjobhhdhfjaaGreatQa12
import Derived.Laws.MakeOwn
import Derived.Deep.Cut
import Derived.Test.YtjgdjobhhdhfjaaGreatQa16
import Derived.Test.YtjgdjobhhdhfjaaGreatQa04
import Derived.Test.YtjgdjobhhdhfjaaGreatQa05
set_option linter.unusedVariables false
set_option linter.unusedSimpArgs false
/-
  The program's coder is finished.
-/
namespace Go.Proofs.YtjgdjobhhdhfjaaGreat
open Go.RowKit

/-- What a finish leaves: the coder's bytes, and a coder that begins. -/
def FinPost (w : World) (g : Nat) (G : Option Nat) (e : En) (x : Ending) (w' : World) : Prop :=
  ∃ A m bs, x = .returned (.slice A bs.length m) ∧ w'.ownsRow 0 5 1 (.slice A bs.length m) bs.length (bv bs) ∧ be bs = e.n ∧ bs.length = e.l ∧ Nwr w G (Value.slice A bs.length m).ownBlock ∧ (Value.slice A bs.length m).ownBlock ≠ some g ∧ Pn w' g none En.new ∧ Only (pset g G) w w'

set_option maxHeartbeats 4000000 in
theorem finish_any {w : World} {g : Nat} {G : Option Nat} {e : En} (h : Pn w g G e) (hlen : e.l ≤ 999999990) :
    Calls Tryz.prog 52 #[.pointer (some ⟨g, 0, none⟩)] w (FinPost w g G e) := by
  obtain ⟨c, hP, hc⟩ := h
  have HP := Lib.hid hP
  have HC := Lib.hid hc
  have HLEN := Lib.hid hlen
  clear hP hc hlen
  go_enter Tryz.func52, Tryz.ntmps52
  go_wp2_with fail
  go_loopw [4] (fun i wr => ∃ (k : Nat) (G' : Option Nat), k ≤ 5 ∧ i = .int .i64 (k : Int) ∧ Pw wr g G' (c.gives k) e.r ∧ Nwr w G G' ∧ Only (pset g G) w wr) (fun i _ => 5 - (intOf i).toNat)
  case atStart => exact ⟨0, G, Nat.zero_le _, rfl, HP.out, Nwr.refl _ _, Only.refl _ _⟩
  case round =>
    clear HP
    obtain ⟨k, G', hk, rfl, hP, hN, hO⟩ := hrel
    have HN := Lib.hid hN
    have HO := Lib.hid hO
    by_cases hlt : k < 5
    · have h5 := (HC.out.mono HC.out.pos (Nat.le_refl 1)).gives k
      have K := Lib.hid (give_any hP h5.wt h5.low (by have h1 := gives_len c k; have h2 := HC.out.len; have h3 := HLEN.out; omega))
      have hlt' : (k : Int) < 5 := by omega
      clear hP hN hO h5
      go_wp2_with fail
      refine K.out.mono ?_
      rintro x w3 ⟨rfl, G2, hP2, hN2, hO2⟩
      have HP2 := Lib.hid hP2
      have HN2 := Lib.hid (HN.out.trans hN2 HO.out.size)
      have HO2 := Lib.hid (pset_trans HO.out HN.out hO2)
      clear hP2 hN2 hO2 HN HO K
      go_wp2_with fail
      go_roundw
      case rel => exact ⟨k + 1, G2, by omega, by go_num, HP2.out, HN2.out, HO2.out⟩
      case measure => simp [intOf]; omega
    · obtain rfl : k = 5 := by omega
      have hirr : ¬ ((5 : Nat) : Int) < 5 := by omega
      obtain ⟨A, m, hB, hOw, hG, hne⟩ := hP
      have c0 : wr.cell? ⟨g, 0, none⟩ = some (.int .u64 ((c.gives 5).lo : Int)) := hB.cell 0
      have c1 : wr.cell? ⟨g, 1, none⟩ = some (.int .u32 (e.r : Int)) := hB.cell 1
      have c2 : wr.cell? ⟨g, 2, none⟩ = some (.slice A (c.gives 5).gs.length m) := hB.cell 2
      have HB := Lib.hid hB
      have HOw := Lib.hid hOw
      have HG := Lib.hid hG
      have HNE := Lib.hid hne
      have K := Lib.hid (cnew_any wr)
      clear hB hOw hG hne hN hO hk hlt
      go_wp2_with fail
      refine K.out.mono ?_
      rintro x w3 ⟨rfl, hw3⟩
      have hO3 : Only (fun _ => False) wr w3 := by rw [hw3]; exact (Only.refl _ wr).alloc _
      have hN3 : Blk w3 wr.heap.size 142 (pcCells 0 4294967295 (.slice none 0 0) 0 0) := by rw [hw3]; exact Blk.fresh wr _ _
      have hB3 : Blk w3 g 142 _ := HB.out.only hO3 (fun h => h)
      obtain ⟨n0, n1, n2, n3, n4⟩ : w3.cell? ⟨wr.heap.size, 0, none⟩ = some (.int .u64 0) ∧ w3.cell? ⟨wr.heap.size, 1, none⟩ = some (.int .u32 4294967295) ∧ w3.cell? ⟨wr.heap.size, 2, none⟩ = some (.slice none 0 0) ∧ w3.cell? ⟨wr.heap.size, 3, none⟩ = some (.int .u8 0) ∧ w3.cell? ⟨wr.heap.size, 4, none⟩ = some (.int .i64 0) := ⟨hN3.cell 0, hN3.cell 1, hN3.cell 2, hN3.cell 3, hN3.cell 4⟩
      obtain ⟨g0, g1, g2, g3, g4⟩ : w3.cell? ⟨g, 0, none⟩ = some (.int .u64 ((c.gives 5).lo : Int)) ∧ w3.cell? ⟨g, 1, none⟩ = some (.int .u32 (e.r : Int)) ∧ w3.cell? ⟨g, 2, none⟩ = some (.slice A (c.gives 5).gs.length m) ∧ w3.cell? ⟨g, 3, none⟩ = some (.int .u8 ((c.gives 5).wt : Int)) ∧ w3.cell? ⟨g, 4, none⟩ = some (.int .i64 ((c.gives 5).fu : Int)) := ⟨hB3.cell 0, hB3.cell 1, hB3.cell 2, hB3.cell 3, hB3.cell 4⟩
      obtain ⟨z0, z1, z2, z3, z4⟩ : w3.frozen? ⟨g, 0, none⟩ = false ∧ w3.frozen? ⟨g, 1, none⟩ = false ∧ w3.frozen? ⟨g, 2, none⟩ = false ∧ w3.frozen? ⟨g, 3, none⟩ = false ∧ w3.frozen? ⟨g, 4, none⟩ = false := ⟨hB3.free 0, hB3.free 1, hB3.free 2, hB3.free 3, hB3.free 4⟩
      have HB3 := Lib.hid hB3
      have HO3 := Lib.hid hO3
      clear hO3 hN3 hB3 hw3 c0 c1 c2 K
      go_wp2_with fail
      first | go_end0 | (go_ret) | refine bodyPost_ret (results_none rfl _ _ _) rfl ?_
      obtain ⟨f1, f2⟩ := HC.out.finish
      have S5 : Only (fun i => i = g) w3 (((((w3.setCell ⟨g, 0, none⟩ (.int .u64 0)).setCell ⟨g, 1, none⟩ (.int .u32 4294967295)).setCell ⟨g, 2, none⟩ (.slice none 0 0)).setCell ⟨g, 3, none⟩ (.int .u8 0)).setCell ⟨g, 4, none⟩ (.int .i64 0)) :=
        (((((Only.refl (fun i => i = g) w3).setCell (p := ⟨g, 0, none⟩) (.inl rfl) _).setCell (p := ⟨g, 1, none⟩) (.inl rfl) _).setCell (p := ⟨g, 2, none⟩) (.inl rfl) _).setCell (p := ⟨g, 3, none⟩) (.inl rfl) _).setCell (p := ⟨g, 4, none⟩) (.inl rfl) _
      have P5 := ((((HB3.out.put 0 (.int .u64 0)).put 1 (.int .u32 4294967295)).put 2 (.slice none 0 0)).put 3 (.int .u8 0)).put 4 (.int .i64 0)
      have hgn : ∀ i, (Value.slice A (c.gives 5).gs.length m).ownBlock = some i → ¬ i = g := fun i hi e => HNE.out (HG.out.symm.trans (e ▸ hi))
      refine ⟨A, m, (c.gives 5).gs, rfl, own_only' (own_only' HOw.out HO3.out (fun _ _ h => h)) S5 hgn, f1, f2, ?_, ?_, ⟨Co.new, ⟨none, 0, P5, ⟨rfl, .inl ⟨rfl, rfl⟩⟩, rfl, by simp⟩, coN_new⟩, ?_⟩
      · rw [HG.out]; exact HN.out
      · rw [HG.out]; exact HNE.out
      · exact (HO.out.trans (HO3.out.mono (fun _ h => h.elim))).trans (S5.mono (fun i hi => .inl hi))
end Go.Proofs.YtjgdjobhhdhfjaaGreat

/-
  The program's coder of LZMA: its stream; what was told.
-/
namespace Go.Proofs.YtjgdjobhhdhfjaaGreat
open Go.RowKit

section
variable {K : Koc} {w w' : World} {Ge Ge' : Option Nat} {A' : Option Addr} {c : Nat} {z : Lzs} {k : Nat} {t : Pm En}
/-- the stream: its bytes -/
def CFin (K : Koc) (w : World) (Ge : Option Nat) (A' : Option Addr) (c : Nat) (z : Lzs) (t : Pm En) (x : Ending) (w' : World) : Prop :=
  ∃ B m bs, x = .returned (.slice B bs.length m) ∧ Sl w' B bs.length (bv bs) ∧ be bs = t.x.n ∧ bs.length = t.x.l ∧ w'.cell? ⟨K.g, 5, none⟩ = some (.slice A' z.out.length c) ∧ Sl w' A' z.out.length (bv z.out) ∧ Only (K.own Ge) w w'
set_option maxRecDepth 100000 in
set_option maxHeartbeats 4000000 in
theorem cfinish_any (h : Cw K w Ge A' c z k t) :
    Calls Tryz.prog 24 #[.pointer (some ⟨K.g, 0, none⟩)] w (CFin K w Ge A' c z t) := by
  have cE := h.f.ended
  have fE := h.f.fz 1859
  have HZ1 : Hid (Cw K (w.setCell ⟨K.g, 1859, none⟩ (.bool false)) Ge A' c { z with ended := false } k t) := Lib.hid (h.put 12 (by decide) (.bool false) (z' := { z with ended := false }) rfl rfl)
  have HO1 : Hid (Only (K.own Ge) w (w.setCell ⟨K.g, 1859, none⟩ (.bool false))) := Lib.hid ((Only.refl (K.own Ge) w).cwn_put 12 (.bool false))
  clear h
  go_enter Tryz.func24, Tryz.ntmps24
  go_upto_region 2 with fail
  generalize w.setCell ⟨K.g, 1859, none⟩ (.bool false) = w1 at *
  clear cE fE
  have c4 := HZ1.out.f.c4
  have KF := Lib.hid (finish_any HZ1.out.mch.pn (by have := HZ1.out.mch.ok.x.2; omega))
  go_wp2_with fail
  refine KF.out.mono ?_
  rintro e w2 ⟨B, m, bs, rfl, hown, hbe, hlen, hrest⟩
  obtain ⟨o1, o2, o3, o4, o5⟩ := HZ1.out.old
  have hta := HZ1.out.ap.ta
  have hkeep : w2.cell? ⟨K.g, 5, none⟩ = some (.slice A' z.out.length c) := by
    have hc5 := HZ1.out.f.c5
    refine (World.cell?_of_block (hrest.2.2.2.block K.g o1 ?_)).trans hc5
    rintro (e | e)
    · exact HZ1.out.ap.ge e
    · exact (HZ1.out.ap.eo _ e).1 rfl
  have htold : Sl w2 A' z.out.length (bv z.out) := by
    refine Sl.of_own (own_only' HZ1.out.told hrest.2.2.2 (fun i hi e => ?_))
    rcases e with e | e
    · exact (hta i hi).2.2.1 e
    · exact (hta i hi).2.2.2 e
  have HE := Lib.hid (show CFin K w Ge A' c z t (.returned (.slice B bs.length m)) w2 from ⟨B, m, bs, rfl, Sl.of_own hown, hbe, hlen, hkeep, htold, HO1.out.trans (hrest.2.2.2.mono fun i hi => cset_of hi)⟩)
  clear hown hbe hlen hrest o1 o2 o3 o4 o5 hta hkeep htold KF HZ1 HO1 c4
  go_wp2_with fail
  go_ret
  exact HE.out

set_option maxRecDepth 100000 in
set_option maxHeartbeats 4000000 in
/-- what was told, in a row of its own -/
theorem ctold_any (h : Cw K w Ge A' c z k t) (hl : z.out.length ≤ 1000000) :
    Calls Tryz.prog 23 #[.pointer (some ⟨K.g, 0, none⟩)] w fun e w' => ∃ B m, e = .returned (.slice B z.out.length m) ∧ Sl w' B z.out.length (bv z.out) ∧ Only (fun _ => False) w w' := by
  have KC := Lib.hid (clone_any (A := A') (c := c) (Sl.of_own h.told) (by omega))
  have c5 := h.f.c5
  clear h hl
  go_enter Tryz.func23, Tryz.ntmps23
  go_wp2_with fail
  refine KC.out.mono ?_
  rintro e w1 ⟨B, m, rfl, hs, hb⟩
  have HS := Lib.hid (Sl.of_own hs)
  have HB := Lib.hid (show Only (fun _ => False) w w1 from Only.of_below hb)
  clear hs hb KC
  go_wp2_with fail
  go_ret
  exact ⟨B, m, rfl, HS.out, HB.out⟩
end
end Go.Proofs.YtjgdjobhhdhfjaaGreat

/-
  The program's Pack: the stream of a list's packets, and what they tell.
-/
namespace Go.Proofs.YtjgdjobhhdhfjaaGreat
open Go.RowKit

/-- what packing answers -/
def PackedPost (w : World) (s : Lzs × Pm En) (x : Ending) (w' : World) : Prop :=
  Below w.heap.size w w' ∧ ∃ (bs : List UInt8) (A1 : Option Addr) (c1 : Nat) (A2 : Option Addr) (c2 : Nat), x = .returned (.tuple #[.slice A1 bs.length c1, .slice A2 s.1.out.length c2, .int .i64 0]) ∧ Sl w' A1 bs.length (bv bs) ∧ be bs = s.2.x.n ∧ bs.length = s.2.x.l ∧ Sl w' A2 s.1.out.length (bv s.1.out)

/-- a coder, all of whose blocks are new -/
structure Young (B : Nat) (K : Koc) (Ge Gt : Option Nat) : Prop where
  g : B ≤ K.g
  l : B ≤ K.lb
  e : B ≤ K.eg
  ge : ∀ i, Ge = some i → B ≤ i
  gt : ∀ i, Gt = some i → B ≤ i
theorem Young.all {B : Nat} {K : Koc} {Ge Gt : Option Nat} (h : Young B K Ge Gt) {i : Nat} (hi : K.all Ge Gt i) : B ≤ i := by
  rcases hi with (e | e | e | e) | e
  · exact e ▸ h.e
  · exact h.ge i e
  · exact e ▸ h.g
  · exact e ▸ h.l
  · exact h.gt i e
theorem Young.step {B : Nat} {K : Koc} {w : World} {Ge Ge' Gt Gt' : Option Nat} (h : Young B K Ge Gt) (h1 : Nwr w Ge Ge') (h2 : Nwr w Gt Gt') (hB : B ≤ w.heap.size) : Young B K Ge' Gt' :=
  ⟨h.g, h.l, h.e, fun i hi => by rcases h1 i hi with e | e; exact h.ge i e; omega, fun i hi => by rcases h2 i hi with e | e; exact h.gt i e; omega⟩

set_option maxRecDepth 100000 in
set_option maxHeartbeats 16000000 in
theorem cpack_any {w : World} {lc lp pb dict n c : Nat} {A : Option Addr} {qs : Nat → Pq} (h : SetOk lc lp pb dict) (h6 : lc + lp ≤ 6) (hP : Pkts w A n qs) (hq : ∀ i, i < n → PqLit (qs i)) (hn : n ≤ 1000) :
    Calls Tryz.prog 19 #[.agg #[.int .i64 (lc : Int), .int .i64 (lp : Int), .int .i64 (pb : Int), .int .i64 (dict : Int)], .slice A n c] w (PackedPost w (runG qs (freshS lc lp pb dict) n)) := by
  obtain ⟨w1, hw1⟩ : ∃ w1, w1 = w.alloc (.cells #[.int .i64 (lc : Int), .int .i64 (lp : Int), .int .i64 (pb : Int), .int .i64 (dict : Int)] 24) := ⟨_, rfl⟩
  have hO1 : Only (fun _ => False) w w1 := by rw [hw1]; exact (Only.refl _ w).alloc _
  have HBk : Blk w1 w.heap.size 24 #[.int .i64 (lc : Int), .int .i64 (lp : Int), .int .i64 (pb : Int), .int .i64 (dict : Int)] := by rw [hw1]; exact Blk.fresh w _ _
  have KN := Lib.hid (cnew7_any (k := 27 * n) h h6 (by omega) w1)
  have HOK := Lib.hid (fun j (hj : j ≤ n) => And.intro (run_ok h hq (by omega) j hj) (run_bad h hq (by omega) j hj))
  have HSUC := Lib.hid (fun j => run_succ (qs := qs) (freshS lc lp pb dict) j)
  have HP := Lib.hid hP
  have HQ := Lib.hid hq
  have HN := Lib.hid hn
  have HW1 := Lib.hid hw1
  have HO1 := Lib.hid hO1
  have hpn : probsN lc lp = 1847 + 768 * 2 ^ (lc + lp) := rfl
  obtain ⟨s0, hs0⟩ : ∃ s0, s0 = freshS lc lp pb dict := ⟨_, rfl⟩
  rw [← hs0] at HOK HSUC ⊢
  have HS0 := Lib.hid hs0
  have HPN := Lib.hid hpn
  have o0 : w1.cell? ⟨w.heap.size, 0, none⟩ = some (.int .i64 (lc : Int)) := HBk.cell 0
  have o1 : w1.cell? ⟨w.heap.size, 1, none⟩ = some (.int .i64 (lp : Int)) := HBk.cell 1
  have o2 : w1.cell? ⟨w.heap.size, 2, none⟩ = some (.int .i64 (pb : Int)) := HBk.cell 2
  have o3 : w1.cell? ⟨w.heap.size, 3, none⟩ = some (.int .i64 (dict : Int)) := HBk.cell 3
  clear hw1 hO1 HBk h h6 hP hq hn hs0 hpn
  go_enter Tryz.func19, Tryz.ntmps19
  go_upto_region 1 with fail
  rw [← HW1.out]
  clear HW1
  go_wp2_with fail
  refine KN.out.mono ?_
  rintro e w2 ⟨K, rfl, hnl, hcw, hnew, ho2⟩
  have hB2 : Below w.heap.size w w2 := (HO1.out.trans ho2).below (Nat.le_refl _) (fun _ h => h.elim)
  have hst : Cw K w2 none none 0 (runG qs s0 0).1 (27 * (n - 0)) (runG qs s0 0).2 := by
    have e : runG qs s0 0 = s0 := rfl
    rw [e, HS0.out]
    unfold freshS
    rw [HPN.out, ← hnl]
    exact hcw
  have HY := Lib.hid (show Young w.heap.size K none (tb none (runG qs s0 0).1.out.length 0) from ⟨by have := HO1.out.size; omega, by have := HO1.out.size; omega, by have := HO1.out.size; omega, fun _ h => by (cases h), fun _ h => by (cases h)⟩)
  have HST := Lib.hid hst
  have HB2 := Lib.hid hB2
  have HNL := Lib.hid (show 1847 + K.nl = probsN lc lp by rw [HPN.out, hnl])
  clear hnl hcw hnew ho2 hB2 hst KN HO1 o0 o1 o2 o3 HPN HS0
  go_wp2_with fail
  go_loopw [10, 21] (fun _ i wr => ∃ (j : Nat) (Ge : Option Nat) (A1 : Option Addr) (c1 : Nat), j ≤ n ∧ i = .int .i64 (j : Int) ∧ Cw K wr Ge A1 c1 (runG qs s0 j).1 (27 * (n - j)) (runG qs s0 j).2 ∧ Young w.heap.size K Ge (tb A1 (runG qs s0 j).1.out.length c1) ∧ Below w.heap.size w wr) (fun _ i _ => n - (intOf i).toNat)
  case atStart => exact ⟨0, none, none, 0, Nat.zero_le _, rfl, HST.out, HY.out, HB2.out⟩
  case round =>
    clear HST HY HB2
    obtain ⟨j, Ge, A1, c1, hj, rfl, hz, hy, hb⟩ := hrel
    by_cases hlt : j < n
    · have glt : (j : Int) < (n : Int) := by omega
      have j0 : (0 : Int) ≤ (j : Int) := by omega
      have ej : IntKind.i64.wrap ((j : Int) + 1) = (j : Int) + 1 := IntWalk.i64_in _ (by have := HN.out; omega)
      obtain ⟨⟨hnr, hpm⟩, hbad⟩ := HOK.out j (by omega)
      have hsuc := HSUC.out j
      obtain ⟨b, o, rfl, hbw, hcl⟩ := (HP.out.below' hb) (by omega)
      obtain ⟨l0, l1, l2, l3⟩ := hcl j hlt
      have hql := HQ.out j hlt
      generalize qs j = q at *
      have ea : (((UInt8.ofNat q.a.toNat).toNat : Nat) : Int) = q.a := by
        have := hql.a
        have e : (UInt8.ofNat q.a.toNat).toNat = q.a.toNat := by simp; omega
        rw [e]
        omega
      have ev : ((q.v.toNat : Nat) : Int) = q.v := by have := hql.v; omega
      have KC := fun W (hW : Only (fun _ => False) wr W) => ccode_any (k := 27 * (n - (j + 1))) (kd := q.k) (len := q.n) (d := q.v.toNat) (b := UInt8.ofNat q.a.toNat) (by rw [show 27 * (n - (j + 1)) + 27 = 27 * (n - j) by omega]; exact hz.quiet hW) (by rw [HNL.out]; exact hnr) (by have := HN.out; omega) hbad (by have := hql.v; omega)
      rw [ea, ev] at KC
      have hstep : stepP (runG qs s0 j) ⟨q.k, q.v.toNat, q.n, UInt8.ofNat q.a.toNat⟩ = runG qs s0 (j + 1) := by rw [hsuc]; rfl
      have hpair : ((runG qs s0 j).1, (runG qs s0 j).2) = runG qs s0 j := rfl
      rw [hpair, hstep] at KC
      have KC := Lib.hid KC
      have HY := Lib.hid hy
      have HB := Lib.hid hb
      have HSZ := Lib.hid hb.size
      have HBW := Lib.hid (show b < wr.heap.size from Nat.lt_of_lt_of_le hbw hb.size)
      clear hnr hpm hbad hsuc hcl hql ea ev hstep hpair hz hy hb hj hlt hbw
      go_wp2_with fail
      refine (KC.out _ ((Only.refl _ wr).alloc _)).mono ?_
      rintro e w3 ⟨rfl, G3, A3, c3, hz3, hn3, hnt3, ho3⟩
      have hal : Only (K.all Ge (tb A1 (runG qs s0 j).1.out.length c1)) wr w3 := ((Only.refl _ wr).alloc _).trans ho3
      have HZ3 := Lib.hid hz3
      have HY3 := Lib.hid (HY.out.step hn3 hnt3 (Nat.le_trans HSZ.out (by simp)))
      have HB3 := Lib.hid (HB.out.trans (hal.below HSZ.out (fun i hi => HY.out.all hi)))
      clear hz3 hn3 hnt3 ho3 hal HY HB KC
      go_wp2_with fail
      go_roundw
      case rel => exact ⟨j + 1, G3, A3, c3, by omega, by go_num, HZ3.out, HY3.out, HB3.out⟩
      case measure => simp [intOf]; omega
    · obtain rfl : j = n := by omega
      have c5 := hz.f.c5
      have KF := Lib.hid (fun n => cfinish_any (hz.drewN n))
      have HZ := Lib.hid hz
      have HY := Lib.hid hy
      have HB := Lib.hid hb
      clear hz hy hb hj
      go_wp2_with fail
      go_region_held3 (fun W => W.cell? ⟨K.g, 5, none⟩ = some (.slice A1 (runG qs s0 j).1.out.length c1)) (first | assumption | go_keep | exact c5 | exact f5)
        (first | (go_at_call 24; refine (KF.out _).mono ?_; rintro e w3 ⟨B, m, bs, rfl, hs1, hbe, hle, f5, hs2, ho3⟩; have HO3 := Lib.hid (Only.of_drewN ho3); have HE := Lib.hid (And.intro hs1 (And.intro hbe (And.intro hle hs2))); clear hs1 hbe hle hs2 ho3))
      go_wp2_with fail
      go_ret3
      have hbel := HB.out.trans (HO3.out.below HB.out.size (fun i hi => HY.out.all (.inl hi)))
      exact ⟨hbel, bs, B, m, A1, c1, rfl, HE.out.1, HE.out.2.1, HE.out.2.2.1, HE.out.2.2.2⟩
end Go.Proofs.YtjgdjobhhdhfjaaGreat

/-
  The laws' beginning of stage 9, as numbers.
-/
namespace Go.Proofs.YtjgdjobhhdhfjaaGreat
def awkQ (i : Nat) : Pq := if i = 0 then ⟨6, 0, 0, 0⟩ else ⟨0, 0, 0, 0⟩
set_option maxRecDepth 1000000 in
theorem awk_run : (runG awkQ (freshS 3 0 2 4096) 2).2.x.n = 0 ∧ (runG awkQ (freshS 3 0 2 4096) 2).2.x.l = 6 ∧ (runG awkQ (freshS 3 0 2 4096) 2).1.out = [0] := by decide +kernel
theorem zeros_of {bs : List UInt8} {k : Nat} (h : be bs = 0) (hl : bs.length = k) : bs = List.replicate k 0 := be_inj _ _ (by rw [hl]; simp) (by rw [h, be_zeros])
end Go.Proofs.YtjgdjobhhdhfjaaGreat

/-
  The laws' beginning of stage 9.
-/
namespace Go.Proofs.YtjgdjobhhdhfjaaGreat
open Go.RowKit

theorem zeros_sl (k : Nat) (w : World) (hk : k ≤ 1000) : Sl (w.alloc (.cells (bv (List.replicate k 0)).toArray 5)) (some ⟨w.heap.size, 0, none⟩) k (bv (List.replicate k 0)) := by
  have := sl_lit w 5 (bv (List.replicate k 0)).toArray (by simp [bv]; omega)
  simpa [bv] using this
theorem awk_set : SetOk 3 0 2 4096 := ⟨by decide, by decide, by decide, by decide, by decide⟩
def litCells : Array Value := #[.int .i64 6, .int .u8 0, .int .i64 0, .int .u32 0, .int .i64 0, .int .u8 0, .int .i64 0, .int .u32 0]
theorem awk_pkts {w : World} {q : Nat} {T : TypeId} (h : Blk w q T litCells) : Pkts w (some ⟨q, 0, none⟩) 2 awkQ := by
  intro _
  refine ⟨q, 0, rfl, h.lt, fun i hi => ?_⟩
  match i, hi with
  | 0, _ => exact ⟨h.cell 0, h.cell 1, h.cell 2, h.cell 3⟩
  | 1, _ => exact ⟨h.cell 4, h.cell 5, h.cell 6, h.cell 7⟩
theorem awk_lit (i : Nat) (_ : i < 2) : PqLit (awkQ i) := by
  unfold awkQ
  split
  · exact ⟨by decide, by decide, by decide, by decide⟩
  · exact ⟨by decide, by decide, by decide, by decide⟩

def Awk9 (w : World) (n : Nat) (out : List UInt8) (x : Ending) (w' : World) : Prop :=
  Below w.heap.size w w' ∧ ∃ (A1 : Option Addr) (c1 : Nat) (A2 : Option Addr) (c2 : Nat), x = .returned (.tuple #[.slice A1 n c1, .slice A2 out.length c2, .int .i64 0]) ∧ Sl w' A1 n (bv (List.replicate n 0)) ∧ Sl w' A2 out.length (bv out)
theorem awk_none (w : World) : Calls Tryz.prog 19 #[.agg #[.int .i64 3, .int .i64 0, .int .i64 2, .int .i64 4096], .slice none 0 0] w (Awk9 w 5 []) := by
  refine Calls.mono (show Calls Tryz.prog 19 #[.agg #[.int .i64 3, .int .i64 0, .int .i64 2, .int .i64 4096], .slice none 0 0] w (PackedPost w (runG (fun _ => ⟨0, 0, 0, 0⟩) (freshS 3 0 2 4096) 0)) from cpack_any (lc := 3) (lp := 0) (pb := 2) (dict := 4096) (n := 0) (c := 0) (A := none) (qs := fun _ => ⟨0, 0, 0, 0⟩) awk_set (by decide) (fun h => absurd h (by decide)) (fun i hi => absurd hi (Nat.not_lt_zero i)) (by decide)) ?_
  rintro e w' ⟨hb, bs, A1, c1, A2, c2, rfl, h1, h2, h3, h4⟩
  have h3 : bs.length = 5 := h3
  have hz := zeros_of (show be bs = 0 from h2) h3
  rw [h3, hz] at h1
  rw [h3]
  exact ⟨hb, A1, c1, A2, c2, rfl, h1, h4⟩
theorem awk_two {w : World} {q : Nat} {T : TypeId} (h : Blk w q T litCells) : Calls Tryz.prog 19 #[.agg #[.int .i64 3, .int .i64 0, .int .i64 2, .int .i64 4096], .slice (some ⟨q, 0, none⟩) 2 2] w (Awk9 w 6 [0]) := by
  refine Calls.mono (show Calls Tryz.prog 19 #[.agg #[.int .i64 3, .int .i64 0, .int .i64 2, .int .i64 4096], .slice (some ⟨q, 0, none⟩) 2 2] w (PackedPost w (runG awkQ (freshS 3 0 2 4096) 2)) from cpack_any (lc := 3) (lp := 0) (pb := 2) (dict := 4096) (n := 2) (c := 2) awk_set (by decide) (awk_pkts h) awk_lit (by decide)) ?_
  rintro e w' ⟨hb, bs, A1, c1, A2, c2, rfl, h1, h2, h3, h4⟩
  obtain ⟨a1, a2, a3⟩ := awk_run
  rw [a1] at h2
  rw [a2] at h3
  rw [a3] at h4 ⊢
  have hz := zeros_of h2 h3
  rw [h3, hz] at h1
  rw [h3]
  exact ⟨hb, A1, c1, A2, c2, rfl, h1, h4⟩

set_option maxRecDepth 100000 in
set_option maxHeartbeats 8000000 in
theorem awake9_any (w : World) : Calls Tryz.prog 17 #[] w fun e w' => e = .returned (.bool true) ∧ Below w.heap.size w w' := by
  have hmk6 : ∀ w, (Instr.makeSlice 22 (.int .i64 6) (.int .i64 6)).run Tryz.prog w = .ok (.slice (some ⟨w.heap.size, 0, none⟩) 6 6) (w.alloc (.cells (bv (List.replicate 6 0)).toArray 5)) := fun _ => by kernel_rfl
  have hmk5 : ∀ w, (Instr.makeSlice 22 (.int .i64 5) (.int .i64 5)).run Tryz.prog w = .ok (.slice (some ⟨w.heap.size, 0, none⟩) 5 5) (w.alloc (.cells (bv (List.replicate 5 0)).toArray 5)) := fun _ => by kernel_rfl
  obtain ⟨w1, hw1⟩ : ∃ w1, w1 = w.alloc (.cells #[.int .i64 3, .int .i64 0, .int .i64 2, .int .i64 4096] 24) := ⟨_, rfl⟩
  have hb1 : Below w.heap.size w w1 := by rw [hw1]; exact (Below.refl _ _).alloc (Nat.le_refl _) _
  have HBk : Blk w1 w.heap.size 24 #[.int .i64 3, .int .i64 0, .int .i64 2, .int .i64 4096] := by rw [hw1]; exact Blk.fresh w _ _
  have HW1 := Lib.hid hw1
  have HB1 := Lib.hid hb1
  have HBK := Lib.hid HBk
  have o0 : w1.cell? ⟨w.heap.size, 0, none⟩ = some (.int .i64 3) := HBk.cell 0
  have o1 : w1.cell? ⟨w.heap.size, 1, none⟩ = some (.int .i64 0) := HBk.cell 1
  have o2 : w1.cell? ⟨w.heap.size, 2, none⟩ = some (.int .i64 2) := HBk.cell 2
  have o3 : w1.cell? ⟨w.heap.size, 3, none⟩ = some (.int .i64 4096) := HBk.cell 3
  have K0 := Lib.hid (awk_none w1)
  clear hw1 hb1 HBk
  go_enter Tryz.func17, Tryz.ntmps17
  go_upto_region 2 with fail
  rw [← HW1.out]
  clear HW1
  go_wp2_with fail
  refine K0.out.mono ?_
  rintro e w2 ⟨hb2, A1, c1, A2, c2, rfl, hs1, hs2⟩
  have HK2 := Lib.hid (HBK.out.below hb2)
  have HB2 := Lib.hid (HB1.out.trans ⟨hb2.os, hb2.tape, hb2.output, hb2.size, fun i hi => hb2.block i (Nat.lt_of_lt_of_le hi HB1.out.size)⟩)
  have HS2 := Lib.hid hs1
  have o0 : w2.cell? ⟨w.heap.size, 0, none⟩ = some (.int .i64 3) := HK2.out.cell 0
  have o1 : w2.cell? ⟨w.heap.size, 1, none⟩ = some (.int .i64 0) := HK2.out.cell 1
  have o2 : w2.cell? ⟨w.heap.size, 2, none⟩ = some (.int .i64 2) := HK2.out.cell 2
  have o3 : w2.cell? ⟨w.heap.size, 3, none⟩ = some (.int .i64 4096) := HK2.out.cell 3
  have K2 := Lib.hid (awk_two (Blk.fresh w2 41 litCells))
  clear hb2 hs1 hs2 K0 HBK HB1
  go_wp2_with fail
  refine K2.out.mono ?_
  rintro e w3 ⟨hb3, A3, c3, A4, c4, rfl, hs3, hs4⟩
  have ho3 : Only (fun _ => False) w2 w3 := ((Only.refl _ w2).alloc _).trans (Only.of_below hb3)
  have HB3 := Lib.hid (HB2.out.trans (ho3.below HB2.out.size (fun _ h => h.elim)))
  have HS1 := Lib.hid (fun (W : World) (hW : Only (fun _ => False) w3 W) => (HS2.out.only ho3 (fun _ _ _ _ h => h)).only hW (fun _ _ _ _ h => h))
  have HS3 := Lib.hid (fun (W : World) (hW : Only (fun _ => False) w3 W) => hs3.only hW (fun _ _ _ _ h => h))
  have HS4 := Lib.hid (fun (W : World) (hW : Only (fun _ => False) w3 W) => hs4.only hW (fun _ _ _ _ h => h))
  clear hb3 hs3 hs4 ho3 K2 HK2 HB2 HS2 o0 o1 o2 o3
  go_wp2_with fail
  refine (bytesSame_any (bs := List.replicate 5 0) (HS1.out _ ((Only.refl _ w3).alloc _)) (zeros_sl 5 w3 (by decide)) (by decide)).mono ?_
  rintro e w4 ⟨rfl, d4, hw4⟩
  have HO4 := Lib.hid (show Only (fun _ => False) w3 w4 from hw4 ▸ ((Only.refl _ w3).alloc _).drewN d4)
  clear hw4
  go_wp2_with fail
  refine (bytesSame_any (bs := List.replicate 6 0) (HS3.out _ (HO4.out.alloc _)) (zeros_sl 6 w4 (by decide)) (by decide)).mono ?_
  rintro e w5 ⟨rfl, d5, hw5⟩
  have HO5 := Lib.hid (show Only (fun _ => False) w3 w5 from hw5 ▸ (HO4.out.alloc _).drewN d5)
  clear hw5
  go_wp2_with fail
  refine (bytesSame_any (bs := [0]) (HS4.out _ (HO5.out.alloc _)) (sl_one w5 _ _) (by decide)).mono ?_
  rintro e w6 ⟨rfl, d6, hw6⟩
  have HO6 := Lib.hid (show Only (fun _ => False) w3 w6 from hw6 ▸ (HO5.out.alloc _).drewN d6)
  clear hw6
  go_wp2_with fail
  go_ret
  exact ⟨rfl, HB3.out.trans (HO6.out.below HB3.out.size (fun _ h => h.elim))⟩

end Go.Proofs.YtjgdjobhhdhfjaaGreat

/-
  The laws' setting of stage 9.
-/
namespace Go.Proofs.YtjgdjobhhdhfjaaGreat
open Go.RowKit

def light9P (a b c d : Int) : Bool := !maySet a b c d || decide (a + b ≤ 5)
set_option maxRecDepth 100000 in
set_option maxHeartbeats 2000000 in
theorem light9_any (a b c d : Int) (w : World) :
    Calls Tryz.prog 18 #[.agg #[.int .i64 a, .int .i64 b, .int .i64 c, .int .i64 d]] w fun x w' => x = .returned (.bool (light9P a b c d)) ∧ Below w.heap.size w w' := by
  obtain ⟨w1, hw1⟩ : ∃ w1, w1 = w.alloc (.cells #[.int .i64 a, .int .i64 b, .int .i64 c, .int .i64 d] 24) := ⟨_, rfl⟩
  have hb1 : Below w.heap.size w w1 := by rw [hw1]; exact (Below.refl _ _).alloc (Nat.le_refl _) _
  have HBk : Blk w1 w.heap.size 24 #[.int .i64 a, .int .i64 b, .int .i64 c, .int .i64 d] := by rw [hw1]; exact Blk.fresh w _ _
  have K := Lib.hid (may_any a b c d w1)
  have d0 : w1.cell? ⟨w.heap.size, 0, none⟩ = some (.int .i64 a) := HBk.cell 0
  have d1 : w1.cell? ⟨w.heap.size, 1, none⟩ = some (.int .i64 b) := HBk.cell 1
  have d2 : w1.cell? ⟨w.heap.size, 2, none⟩ = some (.int .i64 c) := HBk.cell 2
  have d3 : w1.cell? ⟨w.heap.size, 3, none⟩ = some (.int .i64 d) := HBk.cell 3
  have HW1 := Lib.hid hw1
  have HB1 := Lib.hid hb1
  have HBK := Lib.hid HBk
  obtain ⟨v, hv⟩ : ∃ v, v = light9P a b c d := ⟨_, rfl⟩
  rw [← hv]
  unfold light9P at hv
  obtain ⟨mm, hmm⟩ : ∃ mm, mm = maySet a b c d := ⟨_, rfl⟩
  rw [← hmm] at hv K
  have HMM := Lib.hid hmm
  clear hw1 hb1 HBk hmm
  cases mm with
  | false =>
    obtain rfl : v = true := hv
    go_enter Tryz.func18, Tryz.ntmps18
    go_upto_region 1 with fail
    rw [← HW1.out]
    clear HW1
    go_wp2_with fail
    refine K.out.mono ?_
    rintro e w2 ⟨rfl, hb2⟩
    have HB2 := Lib.hid (HB1.out.trans ⟨hb2.os, hb2.tape, hb2.output, hb2.size, fun i hi => hb2.block i (Nat.lt_of_lt_of_le hi HB1.out.size)⟩)
    clear hb2 K d0 d1 d2 d3 HB1 HBK
    go_wp2_with fail
    go_ret
    exact ⟨rfl, HB2.out⟩
  | true =>
    obtain ⟨m1, m2, m3, m4, m5⟩ := may_iff.1 HMM.out.symm
    obtain ⟨ab, hab⟩ : ∃ ab, ab = a + b := ⟨_, rfl⟩
    have e1 : IntKind.i64.wrap (a + b) = ab := by rw [hab]; exact IntWalk.i64_in _ (by omega)
    have hv2 : v = decide (ab ≤ 5) := by rw [hab]; exact hv
    have HAB := Lib.hid hab
    clear m1 m2 m3 m4 m5 hab
    have HE1 := Lib.hid e1
    clear e1
    by_cases h6 : ab ≤ 5
    · obtain rfl : v = true := by rw [hv2, decide_eq_true h6]
      have H6 := Lib.hid h6
      clear hv hv2 h6
      go_enter Tryz.func18, Tryz.ntmps18
      go_upto_region 1 with fail
      rw [← HW1.out]
      clear HW1
      go_wp2_with fail
      refine K.out.mono ?_
      rintro e w2 ⟨rfl, hb2⟩
      have HB2 := Lib.hid (HB1.out.trans ⟨hb2.os, hb2.tape, hb2.output, hb2.size, fun i hi => hb2.block i (Nat.lt_of_lt_of_le hi HB1.out.size)⟩)
      have hk2 : Blk w2 w.heap.size 24 #[.int .i64 a, .int .i64 b, .int .i64 c, .int .i64 d] := HBK.out.below hb2
      have o0 : w2.cell? ⟨w.heap.size, 0, none⟩ = some (.int .i64 a) := hk2.cell 0
      have o1 : w2.cell? ⟨w.heap.size, 1, none⟩ = some (.int .i64 b) := hk2.cell 1
      have e1 := HE1.out
      have h6 := H6.out
      clear hb2 hk2 K d0 d1 d2 d3 HB1 HBK
      go_wp2_with fail
      go_ret
      exact ⟨rfl, HB2.out⟩
    · obtain rfl : v = false := by rw [hv2, decide_eq_false h6]
      have H6 := Lib.hid h6
      clear hv hv2 h6
      go_enter Tryz.func18, Tryz.ntmps18
      go_upto_region 1 with fail
      rw [← HW1.out]
      clear HW1
      go_wp2_with fail
      refine K.out.mono ?_
      rintro e w2 ⟨rfl, hb2⟩
      have HB2 := Lib.hid (HB1.out.trans ⟨hb2.os, hb2.tape, hb2.output, hb2.size, fun i hi => hb2.block i (Nat.lt_of_lt_of_le hi HB1.out.size)⟩)
      have hk2 : Blk w2 w.heap.size 24 #[.int .i64 a, .int .i64 b, .int .i64 c, .int .i64 d] := HBK.out.below hb2
      have o0 : w2.cell? ⟨w.heap.size, 0, none⟩ = some (.int .i64 a) := hk2.cell 0
      have o1 : w2.cell? ⟨w.heap.size, 1, none⟩ = some (.int .i64 b) := hk2.cell 1
      have e1 := HE1.out
      have h6 := H6.out
      clear hb2 hk2 K d0 d1 d2 d3 HB1 HBK
      go_wp2_with fail
      go_ret
      exact ⟨congrArg (fun b => Ending.returned (.bool b)) (decide_eq_false (by have := H6.out; omega)), HB2.out⟩
end Go.Proofs.YtjgdjobhhdhfjaaGreat

/-
  The law LzmacRuns: its walk.
-/
namespace Go.Proofs.YtjgdjobhhdhfjaaGreat
open Go.RowKit

def runCells (b : UInt8) (k : Nat) : Array Value := #[.int .i64 0, .int .u8 (b.toNat : Int), .int .i64 0, .int .u32 0, .int .i64 1, .int .u8 0, .int .i64 (k : Int), .int .u32 0]
theorem run_pkts {w : World} {q : Nat} {T : TypeId} {b : UInt8} {k : Nat} (h : Blk w q T (runCells b k)) : Pkts w (some ⟨q, 0, none⟩) 2 (runQ b k) := by
  intro _
  refine ⟨q, 0, rfl, h.lt, fun i hi => ?_⟩
  match i, hi with
  | 0, _ => exact ⟨h.cell 0, h.cell 1, h.cell 2, h.cell 3⟩
  | 1, _ => exact ⟨h.cell 4, h.cell 5, h.cell 6, h.cell 7⟩
theorem runs_any {w : World} {q lc lp pb dict k : Nat} {T : TypeId} {b : UInt8} (h : Blk w q T (runCells b k)) (hs : SetOk lc lp pb dict) (h6 : lc + lp ≤ 6) (hk : 2 ≤ k) (hk2 : k ≤ 273) :
    Calls Tryz.prog 19 #[.agg #[.int .i64 (lc : Int), .int .i64 (lp : Int), .int .i64 (pb : Int), .int .i64 (dict : Int)], .slice (some ⟨q, 0, none⟩) 2 2] w fun x w' => Below w.heap.size w w' ∧
      ∃ (bs : List UInt8) (A1 : Option Addr) (c1 : Nat) (A2 : Option Addr) (c2 : Nat), x = .returned (.tuple #[.slice A1 bs.length c1, .slice A2 (k + 1) c2, .int .i64 0]) ∧ Sl w' A1 bs.length (bv bs) ∧ Sl w' A2 (k + 1) (bv (List.replicate (k + 1) b)) ∧
        lzRes bs lc lp pb dict (((k + 1 : Nat)) : Int) = some (List.replicate (k + 1) b) ∧ lzCode bs lc lp pb dict (((k + 1 : Nat)) : Int) = 0 ∧ bs.length ≤ 3000000 := by
  have hq : ∀ i, i < 2 → PqLit (runQ b k i) := fun i _ => runQ_lit hk2 i
  refine (cpack_any hs h6 (run_pkts h) hq (by decide)).mono ?_
  rintro e w' ⟨hb, bs, A1, c1, A2, c2, rfl, h1, h2, h3, h4⟩
  obtain ⟨r1, r2, r3, _⟩ := packed_back hs hq (by decide) h2 h3
  have ho := runs_out hs hk hk2 b
  generalize runG (runQ b k) (freshS lc lp pb dict) 2 = s at *
  rw [ho] at h4 r1 r2 ⊢
  have hl : (List.replicate (k + 1) b).length = k + 1 := by simp
  rw [hl] at h4 r1 r2 ⊢
  exact ⟨hb, bs, A1, c1, A2, c2, rfl, h1, h4, r1, r2, r3⟩

/-- a stream is unpacked under the great quota -/
theorem runs_up (C : UpCon) {lc lp pb dict n c gm : Nat} {sz : Int} {A : Option Addr} {bs out : List UInt8} {w5 W : World} (hs : SetOk lc lp pb dict) (h6 : lc + lp ≤ 6) (hn : n ≤ 100000) (hA : Sl w5 A bs.length (bv bs))
    (hr : lzRes bs lc lp pb dict ((n : Nat) : Int) = some out) (hc : lzCode bs lc lp pb dict ((n : Nat) : Int) = 0) (hl : bs.length ≤ 3000000) (hol : out.length = n) (hsz : sz = ((n : Nat) : Int)) (hM : MeterAt W 86 gm muchQ Tel.zero) (hgm : w5.heap.size ≤ gm) (hb : Below w5.heap.size w5 W) :
    Calls Tryz.prog 11 #[.slice A bs.length c, .agg #[.int .i64 (lc : Int), .int .i64 (lp : Int), .int .i64 (pb : Int), .int .i64 (dict : Int)], .int .i64 sz, .pointer (some ⟨gm, 0, none⟩)] W fun x w' =>
      Only (fun i => i = gm) W w' ∧ ∃ X cX, x = .returned (.tuple #[.slice X n cX, .int .i64 0]) ∧ Sl w' X n (bv out) := by
  subst hsz
  have KU := C.up (c := c) (a := (lc : Int)) (b := (lp : Int)) (cc := (pb : Int)) (d := (dict : Int)) (size := ((n : Nat) : Int)) rfl (hA.below hb) (fun h0 q o e => by
    obtain ⟨b', o', e', hlt, _⟩ := hA.2 h0
    rw [e] at e'
    injection e' with e'
    injection e' with e'
    omega) (by omega) hM (fun _ => by omega) (by omega) (by omega)
  rw [hr, hc] at KU
  refine KU.mono ?_
  rintro e w' ⟨_, h2, X, cX, rfl, h4⟩
  have h4 : Sl w' X out.length (bv out) := h4
  rw [hol] at h4
  refine ⟨h2, X, cX, ?_, h4⟩
  show Ending.returned (.tuple #[.slice X out.length cX, .int .i64 0]) = _
  rw [hol]

set_option maxRecDepth 100000 in
set_option maxHeartbeats 8000000 in
theorem lzmacRuns_walk (C : UpCon) {a b cc d : Int} {x : UInt8} {n : Nat} {w : World} (hn : n < 65536) :
    Calls Tryz.prog 7 #[.agg #[.int .i64 a, .int .i64 b, .int .i64 cc, .int .i64 d], .int .u8 (x.toNat : Int), .int .u16 (n : Int)] w fun e w' => e = .returned (.bool true) ∧ Below w.heap.size w w' := by
  obtain ⟨w1, hw1⟩ : ∃ w1, w1 = w.alloc (.cells #[.int .i64 a, .int .i64 b, .int .i64 cc, .int .i64 d] 24) := ⟨_, rfl⟩
  have hb1 : Below w.heap.size w w1 := by rw [hw1]; exact (Below.refl _ _).alloc (Nat.le_refl _) _
  have HBk : Blk w1 w.heap.size 24 #[.int .i64 a, .int .i64 b, .int .i64 cc, .int .i64 d] := by rw [hw1]; exact Blk.fresh w _ _
  have HW1 := Lib.hid hw1
  have HB1 := Lib.hid hb1
  have HBK := Lib.hid HBk
  have KA := Lib.hid (awake9_any w1)
  have HC := Lib.hid C
  have HNN := Lib.hid hn
  clear hw1 hb1 HBk hn
  go_enter Tryz.func7, Tryz.ntmps7
  go_upto_region 1 with fail
  rw [← HW1.out]
  clear HW1
  go_wp2_with fail
  refine KA.out.mono ?_
  rintro e w2 ⟨rfl, hb2⟩
  have HB2 := Lib.hid hb2
  have hk2 : Blk w2 w.heap.size 24 #[.int .i64 a, .int .i64 b, .int .i64 cc, .int .i64 d] := HBK.out.below hb2
  have o0 : w2.cell? ⟨w.heap.size, 0, none⟩ = some (.int .i64 a) := hk2.cell 0
  have o1 : w2.cell? ⟨w.heap.size, 1, none⟩ = some (.int .i64 b) := hk2.cell 1
  have o2 : w2.cell? ⟨w.heap.size, 2, none⟩ = some (.int .i64 cc) := hk2.cell 2
  have o3 : w2.cell? ⟨w.heap.size, 3, none⟩ = some (.int .i64 d) := hk2.cell 3
  have HE2 := Lib.hid (below_go HB1.out hb2 (Nat.le_refl _))
  clear hb2 hk2 KA
  have KL := Lib.hid (light9_any a b cc d w2)
  obtain ⟨lt, hlt⟩ : ∃ lt, lt = light9P a b cc d := ⟨_, rfl⟩
  rw [← hlt] at KL
  have HLT := Lib.hid hlt
  clear hlt
  cases lt with
  | false =>
    go_wp2_with fail
    refine KL.out.mono ?_
    rintro e w3 ⟨rfl, hb3⟩
    have HE3 := Lib.hid (below_go HE2.out hb3 (Nat.le_refl _))
    clear hb3 KL o0 o1 o2 o3
    go_wp2_with fail
    go_ret
    exact ⟨rfl, HE3.out⟩
  | true =>
    go_wp2_with fail
    refine KL.out.mono ?_
    rintro e w3 ⟨rfl, hb3⟩
    have HB3 := Lib.hid (below_go HB2.out hb3 (Nat.le_refl _))
    have HE3 := Lib.hid (below_go HE2.out hb3 (Nat.le_refl _))
    have hk3 : Blk w3 w.heap.size 24 #[.int .i64 a, .int .i64 b, .int .i64 cc, .int .i64 d] := HBK.out.below HB3.out
    have p0 : w3.cell? ⟨w.heap.size, 0, none⟩ = some (.int .i64 a) := hk3.cell 0
    have p1 : w3.cell? ⟨w.heap.size, 1, none⟩ = some (.int .i64 b) := hk3.cell 1
    have p2 : w3.cell? ⟨w.heap.size, 2, none⟩ = some (.int .i64 cc) := hk3.cell 2
    have p3 : w3.cell? ⟨w.heap.size, 3, none⟩ = some (.int .i64 d) := hk3.cell 3
    clear hb3 hk3 KL o0 o1 o2 o3 HE2 HB2
    have KM := Lib.hid (may_any a b cc d w3)
    obtain ⟨mm, hmm⟩ : ∃ mm, mm = maySet a b cc d := ⟨_, rfl⟩
    rw [← hmm] at KM
    have HMM := Lib.hid hmm
    clear hmm
    cases mm with
    | false =>
      go_wp2_with fail
      refine KM.out.mono ?_
      rintro e w4 ⟨rfl, hb4⟩
      have HE4 := Lib.hid (below_go HE3.out hb4 (Nat.le_refl _))
      clear hb4 KM p0 p1 p2 p3
      go_wp2_with fail
      go_ret
      exact ⟨rfl, HE4.out⟩
    | true =>
      obtain ⟨m1, m2, m3, m4, m5, m6, m7, m8⟩ := may_iff.1 HMM.out.symm
      have h5 : a + b ≤ 5 := by
        have := HLT.out
        unfold light9P at this
        rw [← HMM.out] at this
        exact of_decide_eq_true this.symm
      obtain ⟨lc, rfl⟩ := Int.eq_ofNat_of_zero_le m1
      obtain ⟨lp, rfl⟩ := Int.eq_ofNat_of_zero_le m3
      obtain ⟨pb, rfl⟩ := Int.eq_ofNat_of_zero_le m5
      obtain ⟨dict, rfl⟩ := Int.eq_ofNat_of_zero_le (show 0 ≤ d by omega)
      have HSET := Lib.hid (show SetOk lc lp pb dict ∧ lc + lp ≤ 5 from ⟨⟨by omega, by omega, by omega, by omega, by omega⟩, by omega⟩)
      obtain ⟨r, hr⟩ : ∃ r, r = n % 272 := ⟨_, rfl⟩
      obtain ⟨k, hk⟩ : ∃ k, k = r + 2 := ⟨_, rfl⟩
      have hr2 : r < 272 := by omega
      have e1 : IntKind.i64.wrap (n : Int) = (n : Int) := IntWalk.i64_in _ (by have := HNN.out; omega)
      have e2 : (n : Int).tmod 272 = (r : Int) := by rw [hr]; exact (Int.ofNat_tmod n 272).symm
      have e3 : IntKind.i64.wrap (r : Int) = (r : Int) := IntWalk.i64_in _ (by omega)
      have e4 : IntKind.i64.wrap (2 + (r : Int)) = (k : Int) := by rw [IntWalk.i64_in _ (by omega)]; omega
      have e5 : IntKind.i64.wrap ((k : Int) + 1) = ((k + 1 : Nat) : Int) := by rw [IntWalk.i64_in _ (by omega)]; omega
      have e6 : (((k + 1 : Nat) : Int) == ((k + 1 : Nat) : Int)) = true := by simp
      have HK := Lib.hid (show 2 ≤ k ∧ k ≤ 273 by omega)
      clear m1 m2 m3 m4 m5 m6 m7 m8 h5 hr hk hr2
      go_wp2_with fail
      refine KM.out.mono ?_
      rintro e w4 ⟨rfl, hb4⟩
      have HB4 := Lib.hid (below_go HB3.out hb4 (Nat.le_refl _))
      have hk4 : Blk w4 w.heap.size 24 #[.int .i64 (lc : Int), .int .i64 (lp : Int), .int .i64 (pb : Int), .int .i64 (dict : Int)] := HBK.out.below HB4.out
      have o0 : w4.cell? ⟨w.heap.size, 0, none⟩ = some (.int .i64 (lc : Int)) := hk4.cell 0
      have o1 : w4.cell? ⟨w.heap.size, 1, none⟩ = some (.int .i64 (lp : Int)) := hk4.cell 1
      have o2 : w4.cell? ⟨w.heap.size, 2, none⟩ = some (.int .i64 (pb : Int)) := hk4.cell 2
      have o3 : w4.cell? ⟨w.heap.size, 3, none⟩ = some (.int .i64 (dict : Int)) := hk4.cell 3
      have KP := Lib.hid (runs_any (Blk.fresh w4 41 (runCells x k)) HSET.out.1 (by have := HSET.out.2; omega) HK.out.1 HK.out.2)
      unfold runCells at KP
      clear hb4 hk4 KM p0 p1 p2 p3 HB3 HE3
      go_wp2_with fail
      refine KP.out.mono ?_
      rintro e w5 ⟨hb5, bs, A1, c1, A2, c2, rfl, hs1, hs2, hres, hcod, hbl⟩
      have HB5 := Lib.hid (below_go (HB4.out.alloc (HB4.out.size) _) hb5 (Nat.le_refl _))
      have HS1 := Lib.hid hs1
      have HS2 := Lib.hid hs2
      have HRES := Lib.hid (And.intro hres (And.intro hcod hbl))
      have hk5 : Blk w5 w.heap.size 24 #[.int .i64 (lc : Int), .int .i64 (lp : Int), .int .i64 (pb : Int), .int .i64 (dict : Int)] := HBK.out.below HB5.out
      have q0 : w5.cell? ⟨w.heap.size, 0, none⟩ = some (.int .i64 (lc : Int)) := hk5.cell 0
      have q1 : w5.cell? ⟨w.heap.size, 1, none⟩ = some (.int .i64 (lp : Int)) := hk5.cell 1
      have q2 : w5.cell? ⟨w.heap.size, 2, none⟩ = some (.int .i64 (pb : Int)) := hk5.cell 2
      have q3 : w5.cell? ⟨w.heap.size, 3, none⟩ = some (.int .i64 (dict : Int)) := hk5.cell 3
      have hbz := HB5.out.size
      have KU := Lib.hid (fun (W : World) (gm : Nat) (hM : MeterAt W 86 gm muchQ Tel.zero) (hgm : w5.heap.size ≤ gm) (hb : Below w5.heap.size w5 W) => runs_up (sz := (k : Int) + 1) HC.out HSET.out.1 (by have := HSET.out.2; omega) (by have := HK.out; omega) (c := c1) HS1.out HRES.out.1 HRES.out.2.1 HRES.out.2.2 (by simp) (by omega) hM hgm hb)
      have HS := Lib.hid (fun (W : World) (hb : Below w5.heap.size w5 W) => show W.cell? ⟨w.heap.size, 0, none⟩ = some (.int .i64 (lc : Int)) ∧ W.cell? ⟨w.heap.size, 1, none⟩ = some (.int .i64 (lp : Int)) ∧ W.cell? ⟨w.heap.size, 2, none⟩ = some (.int .i64 (pb : Int)) ∧ W.cell? ⟨w.heap.size, 3, none⟩ = some (.int .i64 (dict : Int)) from ⟨(hk5.below hb).cell 0, (hk5.below hb).cell 1, (hk5.below hb).cell 2, (hk5.below hb).cell 3⟩)
      clear hb5 hs1 hs2 hres hcod hbl hk5 KP HB4 HS1 hbz o0 o1 o2 o3
      go_wp2_with fail
      go_region_held3 (fun W => W.cell? ⟨w.heap.size, 0, none⟩ = some (.int .i64 (lc : Int)) ∧ W.cell? ⟨w.heap.size, 1, none⟩ = some (.int .i64 (lp : Int)) ∧ W.cell? ⟨w.heap.size, 2, none⟩ = some (.int .i64 (pb : Int)) ∧ W.cell? ⟨w.heap.size, 3, none⟩ = some (.int .i64 (dict : Int))) (first | assumption | go_keep | exact ⟨q0, q1, q2, q3⟩) (first | (go_at_call 10; refine (much_any _).mono ?_; rintro e w6 ⟨gm, rfl, hM, hgm, hb⟩; have HB6 := Lib.hid (show Below w5.heap.size w5 w6 from ⟨hb.os, hb.tape, hb.output, hb.size, hb.block⟩); have HM6 := Lib.hid hM; have HGM := Lib.hid (show w5.heap.size ≤ gm from hgm); have r := HS.out w6 HB6.out; clear hM hgm hb) | (go_at_call 11; refine (KU.out _ gm (by first | exact HM6.out | exact HM6.out.drewN _) HGM.out (by first | exact HB6.out | exact below_drewN HB6.out _)).mono ?_; rintro e w7 ⟨hO7, X, cX, rfl, hSX⟩; have HO7 := Lib.hid (show Only (fun i => i = gm) w6 w7 from ⟨hO7.os, hO7.tape, hO7.output, hO7.size, hO7.block⟩); have HSX := Lib.hid hSX; have r7 := HS.out w7 (HB6.out.trans (HO7.out.below HB6.out.size (by rintro i rfl; exact HGM.out))); clear hO7 hSX))
      have HB7 := Lib.hid (HB1.out.trans ((HB5.out.trans ((HB6.out.trans (HO7.out.below HB6.out.size (by rintro i rfl; exact HGM.out))).mono HB5.out.size)).mono HB1.out.size))
      have HX := Lib.hid (And.intro HSX.out ((HS2.out.below HB6.out).only HO7.out (fun h0 q o e => by
        obtain ⟨b', o', e', hlt, _⟩ := HS2.out.2 h0
        rw [e] at e'
        injection e' with e'
        injection e' with e'
        have := HGM.out
        omega)))
      clear KU HS HO7 HSX HM6 HS2 HB5 q0 q1 q2 q3
      go_wp2_with fail
      go_loopw [13] (fun i wr => ∃ j : Nat, j ≤ k + 1 ∧ i = .int .i64 (j : Int) ∧ wr = w7) (fun i _ => k + 1 - (intOf i).toNat)
      case atStart => exact ⟨0, Nat.zero_le _, rfl, rfl⟩
      case round =>
        obtain ⟨j, hj, rfl, rfl⟩ := hrel
        by_cases hlt : j < k + 1
        · obtain ⟨ba, oa, rfl, hba, hca⟩ := HX.out.1.2 (by omega)
          obtain ⟨bb, ob, rfl, hbb, hcb⟩ := HX.out.2.2 (by omega)
          have hget : (bv (List.replicate (k + 1) x))[j]? = some (.int .u8 (x.toNat : Int)) := by rw [bv_get _ j (by simp; omega)]; simp [hlt]
          have c1' := (hca j hlt).trans hget
          have c2' := (hcb j hlt).trans hget
          have i0 : (0 : Int) ≤ (j : Int) := by omega
          have i1 : (j : Int) < ((k + 1 : Nat) : Int) := by omega
          have i2 : (j : Int) ≤ (k : Int) := by omega
          have i3 : IntKind.i64.wrap ((j : Int) + 1) = (j : Int) + 1 := IntWalk.i64_in _ (by have := HK.out; omega)
          clear hca hcb hget
          go_wp2_with fail
          go_roundw
          case rel => exact ⟨j + 1, by omega, by go_num, by first | rfl | trivial⟩
          case measure => simp [intOf]; omega
        · have i2 : ¬ (j : Int) ≤ (k : Int) := by omega
          clear hlt hj
          go_wp2_with fail
          go_ret
          exact ⟨rfl, HB7.out⟩
end Go.Proofs.YtjgdjobhhdhfjaaGreat

/-
  The reference's decoder or coder of LZMA in memory, over a machine that is not looked into.
-/
namespace Go.Proofs.YtjgdjobhhdhfjaaGreat
open Go.RowKit

def zCells (z : Lzs) (Dv Ev : Value) (p L pc : Nat) (A : Option Addr) (n c : Nat) : Array Value :=
  #[.int .i64 (z.lc : Int), .int .i64 (z.lp : Int), .int .i64 (z.pb : Int), .int .i64 (z.dict : Int), Dv, Ev, .slice (some ⟨p, 0, none⟩) L pc, .slice A n c, .int .i64 (z.st : Int),
    .int .u32 (z.r0 : Int), .int .u32 (z.r1 : Int), .int .u32 (z.r2 : Int), .int .u32 (z.r3 : Int), .bool z.ended, .bool z.bad]

/-- A machine in memory: what it owns (G), what it reads alone (R). -/
structure MachMem {σ : Type} (R : Nat → Prop) (K : World → Value → Value → (Nat → Prop) → σ → Prop) : Prop where
  old : ∀ {w Dv Ev G x i}, K w Dv Ev G x → G i → i < w.heap.size
  only : ∀ {w w' Dv Ev G x} {S : Nat → Prop}, K w Dv Ev G x → Only S w w' → (∀ i, G i → ¬ S i) → (∀ i, R i → ¬ S i) → K w' Dv Ev G x

/-- Block g is the reference's, in the state z; its probabilities and its machine are t. G holds all that it owns. -/
structure Zr {σ : Type} (R : Nat → Prop) (K : World → Value → Value → (Nat → Prop) → σ → Prop) (w : World) (g : Nat) (G : Nat → Prop) (z : Lzs) (t : Pm σ)
    (Gm : Nat → Prop) (Dv Ev : Value) (p pc : Nat) (A : Option Addr) (c : Nat) : Prop where
  blk : Blk w g 75 (zCells z Dv Ev p t.ps.length pc A z.out.length c)
  row : Row w p t.ps pc
  out : w.ownsRow 0 5 1 (.slice A z.out.length c) z.out.length (bv z.out)
  mch : K w Dv Ev Gm t.x
  gg : G g
  gp : G p
  gm : ∀ i, Gm i → G i
  go : ∀ i, (Value.slice A z.out.length c).ownBlock = some i → G i ∧ i ≠ g ∧ i ≠ p ∧ ¬ Gm i
  pg : p ≠ g
  mg : ¬ Gm g
  mp : ¬ Gm p
  old : ∀ i, G i → i < w.heap.size
  far : ∀ i, G i → ¬ R i
def Zz {σ : Type} (R : Nat → Prop) (K : World → Value → Value → (Nat → Prop) → σ → Prop) (w : World) (g : Nat) (G : Nat → Prop) (z : Lzs) (t : Pm σ) : Prop :=
  ∃ Gm Dv Ev p pc A c, Zr R K w g G z t Gm Dv Ev p pc A c

section
variable {σ : Type} {R : Nat → Prop} {K : World → Value → Value → (Nat → Prop) → σ → Prop} {w w' : World} {g : Nat} {G : Nat → Prop} {z : Lzs} {t : Pm σ} {Gm : Nat → Prop} {Dv Ev : Value} {p pc : Nat} {A : Option Addr} {c : Nat}

theorem Zr.only (h : Zr R K w g G z t Gm Dv Ev p pc A c) (M : MachMem R K) {S : Nat → Prop} (hO : Only S w w') (hS : ∀ i, G i → ¬ S i) (hR : ∀ i, R i → ¬ S i) : Zr R K w' g G z t Gm Dv Ev p pc A c :=
  ⟨h.blk.only hO (hS g h.gg), h.row.only hO (hS p h.gp), own_only' h.out hO (fun i hi => hS i (h.go i hi).1), M.only h.mch hO (fun i hi => hS i (h.gm i hi)) hR, h.gg, h.gp, h.gm, h.go, h.pg, h.mg, h.mp, fun i hi => Nat.lt_of_lt_of_le (h.old i hi) hO.size, h.far⟩
theorem Zr.drewN (h : Zr R K w g G z t Gm Dv Ev p pc A c) (M : MachMem R K) (n : Nat) : Zr R K (w.drewN n) g G z t Gm Dv Ev p pc A c :=
  h.only M ((Only.refl (fun _ => False) w).drewN n) (fun _ _ h => h) (fun _ _ h => h)
/-- One of its own cells is stored: the place i, with what the state then is. -/
theorem Zr.put (h : Zr R K w g G z t Gm Dv Ev p pc A c) (M : MachMem R K) {i : Nat} {u : Value} {z' : Lzs} (hz : (zCells z Dv Ev p t.ps.length pc A z.out.length c).setIfInBounds i u = zCells z' Dv Ev p t.ps.length pc A z.out.length c) (ho : z'.out = z.out) :
    Zr R K (w.setCell ⟨g, i, none⟩ u) g G z' t Gm Dv Ev p pc A c := by
  have hO := (Only.refl (fun j => j = g) w).setCell (p := ⟨g, i, none⟩) (.inl rfl) u
  have hB := h.blk.put i u
  rw [hz] at hB
  refine ⟨by rw [ho]; exact hB, h.row.only hO h.pg, ?_, M.only h.mch hO (fun j hj e => h.mg (e ▸ hj)) (fun j hj e => h.far g h.gg (e ▸ hj)), h.gg, h.gp, h.gm, by rw [ho]; exact h.go, h.pg, h.mg, h.mp, fun j hj => by have := h.old j hj; simpa [World.setCell] using this, h.far⟩
  rw [ho]
  exact own_only' h.out hO (fun j hj e => (h.go j hj).2.1 e)
/-- A probability is stored. -/
theorem Zr.prob (h : Zr R K w g G z t Gm Dv Ev p pc A c) (M : MachMem R K) (i q : Nat) : Zr R K (w.setCell ⟨p, i, none⟩ (.int .u16 (q : Int))) g G z ⟨t.ps.set i q, t.x⟩ Gm Dv Ev p pc A c := by
  have hO := (Only.refl (fun j => j = p) w).setCell (p := ⟨p, i, none⟩) (.inl rfl) (.int .u16 (q : Int))
  refine ⟨?_, h.row.put i q, own_only' h.out hO (fun j hj e => (h.go j hj).2.2.1 e), M.only h.mch hO (fun j hj e => h.mp (e ▸ hj)) (fun j hj e => h.far p h.gp (e ▸ hj)), h.gg, h.gp, h.gm, h.go, h.pg, h.mg, h.mp, fun j hj => by have := h.old j hj; simpa [World.setCell] using this, h.far⟩
  show Blk _ g _ (zCells z Dv Ev p (t.ps.set i q).length pc A z.out.length c)
  rw [List.length_set]
  exact h.blk.only hO (fun e => h.pg e.symm)
/-- The machine has turned. -/
theorem Zr.mach (h : Zr R K w g G z t Gm Dv Ev p pc A c) {Gm' : Nat → Prop} {x : σ} (hO : Only Gm w w') (hK : K w' Dv Ev Gm' x) (hN : ∀ i, Gm' i → Gm i ∨ w.heap.size ≤ i) (hlt : ∀ i, Gm' i → i < w'.heap.size) (hR : ∀ i, R i → i < w.heap.size) :
    Zr R K w' g (fun i => G i ∨ Gm' i) z ⟨t.ps, x⟩ Gm' Dv Ev p pc A c := by
  refine ⟨h.blk.only hO h.mg, h.row.only hO h.mp, own_only' h.out hO (fun i hi => (h.go i hi).2.2.2), hK, .inl h.gg, .inl h.gp, fun i hi => .inr hi, fun i hi => ?_, h.pg, fun hi => ?_, fun hi => ?_, fun i hi => ?_, fun i hi hr => ?_⟩
  · obtain ⟨h1, h2, h3, h4⟩ := h.go i hi
    refine ⟨.inl h1, h2, h3, fun h5 => ?_⟩
    rcases hN i h5 with h6 | h6
    · exact h4 h6
    · have := h.old i h1; omega
  · rcases hN g hi with h6 | h6
    · exact h.mg h6
    · have := h.old g h.gg; omega
  · rcases hN p hi with h6 | h6
    · exact h.mp h6
    · have := h.old p h.gp; omega
  · rcases hi with hi | hi
    · exact Nat.lt_of_lt_of_le (h.old i hi) hO.size
    · exact hlt i hi
  · rcases hi with hi | hi
    · exact h.far i hi hr
    · rcases hN i hi with h6 | h6
      · exact h.far i (h.gm i h6) hr
      · have := hR i hr; omega

theorem Zz.only (h : Zz R K w g G z t) (M : MachMem R K) {S : Nat → Prop} (hO : Only S w w') (hS : ∀ i, G i → ¬ S i) (hR : ∀ i, R i → ¬ S i) : Zz R K w' g G z t := by
  obtain ⟨Gm, Dv, Ev, p, pc, A, c, h⟩ := h
  exact ⟨Gm, Dv, Ev, p, pc, A, c, h.only M hO hS hR⟩
theorem Zz.old (h : Zz R K w g G z t) {i : Nat} (hi : G i) : i < w.heap.size := by
  obtain ⟨Gm, Dv, Ev, p, pc, A, c, h⟩ := h
  exact h.old i hi
theorem Zz.own (h : Zz R K w g G z t) : G g := by
  obtain ⟨Gm, Dv, Ev, p, pc, A, c, h⟩ := h
  exact h.gg
/-- its numbers -/
theorem Zz.cells (h : Zz R K w g G z t) : w.cell? ⟨g, 0, none⟩ = some (.int .i64 (z.lc : Int)) ∧ w.cell? ⟨g, 1, none⟩ = some (.int .i64 (z.lp : Int)) ∧ w.cell? ⟨g, 2, none⟩ = some (.int .i64 (z.pb : Int)) ∧ w.cell? ⟨g, 3, none⟩ = some (.int .i64 (z.dict : Int)) ∧
    w.cell? ⟨g, 8, none⟩ = some (.int .i64 (z.st : Int)) ∧ w.cell? ⟨g, 9, none⟩ = some (.int .u32 (z.r0 : Int)) ∧ w.cell? ⟨g, 10, none⟩ = some (.int .u32 (z.r1 : Int)) ∧ w.cell? ⟨g, 11, none⟩ = some (.int .u32 (z.r2 : Int)) ∧ w.cell? ⟨g, 12, none⟩ = some (.int .u32 (z.r3 : Int)) ∧
    w.cell? ⟨g, 13, none⟩ = some (.bool z.ended) ∧ w.cell? ⟨g, 14, none⟩ = some (.bool z.bad) ∧ (∀ i, w.frozen? ⟨g, i, none⟩ = false) := by
  obtain ⟨Gm, Dv, Ev, p, pc, A, c, h⟩ := h
  exact ⟨h.blk.cell 0, h.blk.cell 1, h.blk.cell 2, h.blk.cell 3, h.blk.cell 8, h.blk.cell 9, h.blk.cell 10, h.blk.cell 11, h.blk.cell 12, h.blk.cell 13, h.blk.cell 14, fun i => h.blk.free i⟩
/-- what was told is read -/
theorem Zz.told (h : Zz R K w g G z t) : ∃ A c, w.cell? ⟨g, 7, none⟩ = some (.slice A z.out.length c) ∧ Sl w A z.out.length (bv z.out) := by
  obtain ⟨Gm, Dv, Ev, p, pc, A, c, h⟩ := h
  exact ⟨A, c, h.blk.cell 7, Sl.of_own h.out⟩
theorem Zz.put (h : Zz R K w g G z t) (M : MachMem R K) {i : Nat} {u : Value} {z' : Lzs} (hz : ∀ Dv Ev p pc A c, (zCells z Dv Ev p t.ps.length pc A z.out.length c).setIfInBounds i u = zCells z' Dv Ev p t.ps.length pc A z.out.length c) (ho : z'.out = z.out) :
    Zz R K (w.setCell ⟨g, i, none⟩ u) g G z' t := by
  obtain ⟨Gm, Dv, Ev, p, pc, A, c, h⟩ := h
  exact ⟨Gm, Dv, Ev, p, pc, A, c, h.put M (hz Dv Ev p pc A c) ho⟩
end

/-- what a call leaves, with a state -/
def ZPost {σ : Type} (R : Nat → Prop) (K : World → Value → Value → (Nat → Prop) → σ → Prop) (w : World) (g : Nat) (G : Nat → Prop) (z : Lzs) (t : Pm σ) (v : Value) : Ending → World → Prop :=
  OwnPost (fun w' G' => Zz R K w' g G' z t) w G v

/-- What the reference's bit and its straight bits owe. -/
structure ZOps {σ : Type} (M : Mach σ) (ok : Nat → σ → Prop) (R : Nat → Prop) (K : World → Value → Value → (Nat → Prop) → σ → Prop) : Prop where
  mem : MachMem R K
  okm : MachOk M ok
  bit : ∀ {w g G z t L k a} {b : Int}, Zz R K w g G z t → PmOk ok L (k + 1) t → a < L → L ≤ 100000000 → M.may b →
    Calls Tryz.prog 121 #[.pointer (some ⟨g, 0, none⟩), .int .i64 ((a : Nat) : Int), .int .i64 b] w (ZPost R K w g G z (bitP M t a b).2 (.int .i64 ((bitP M t a b).1 : Int)))
  str : ∀ {w g G z t L k n v}, Zz R K w g G z t → PmOk ok L (k + 1) t → n ≤ 26 → v < 4294967296 → (M.enc = true → v < 2 ^ n) →
    Calls Tryz.prog 126 #[.pointer (some ⟨g, 0, none⟩), .int .i64 ((n : Nat) : Int), .int .u32 ((v : Nat) : Int)] w (ZPost R K w g G z ⟨t.ps, (M.str t.x n v).2⟩ (.int .u32 ((M.str t.x n v).1 : Int)))

/-- one call behind another -/
theorem own_then {w w1 w2 : World} {G G1 G2 : Nat → Prop} (hN : ∀ i, G1 i → G i ∨ w.heap.size ≤ i) (hO : Only G w w1) (hN2 : ∀ i, G2 i → G1 i ∨ w1.heap.size ≤ i) (hO2 : Only G1 w1 w2) : (∀ i, G2 i → G i ∨ w.heap.size ≤ i) ∧ Only G w w2 := by
  refine ⟨fun i hi => ?_, hO.trans' hO2 hN⟩
  rcases hN2 i hi with h | h
  · exact hN i h
  · exact .inr (Nat.le_trans hO.size h)
end Go.Proofs.YtjgdjobhhdhfjaaGreat
