/-
  LzBegin, RqCo, RqRe, RqNum, RqFive, PsRf: put together.
-/
import Derived.Test.YtoencondpbkomaaGreatQ19
import Derived.Test.YtoencondpbkomaaGreatQ23
import Derived.Deep.RegionLaw
import Derived.Test.YtoencondpbkomaaGreatQ22
import Derived.Test.YtoencondpbkomaaGreatQ13
import Derived.Deep.RegionHeld3
import Derived.Test.YtoencondpbkomaaGreatQ17
import Derived.Test.YtoencondpbkomaaGreatQ16
import Derived.Test.YtoencondpbkomaaGreatQ14
set_option linter.unusedVariables false
set_option linter.unusedSimpArgs false
/-
  The reference of LZMA begins.
-/
namespace Go.Proofs.YtoencondpbkomaaGreat
open Go.RowKit

/-- Block g is a new one, of neither kind yet. -/
def Zn (w : World) (g p pc : Nat) (z : Lzs) (L : Nat) : Prop :=
  Blk w g 56 (zCells z (.pointer none) (.pointer none) p L pc none 0 0) ∧ Row w p (List.replicate L 1024) pc ∧ p ≠ g
theorem own_zero {w : World} {base : Nat} {e : TypeId} {v : Value} {n : Nat} {xs : List Value} (h : w.ownsRow base e 1 v n xs) : w.ownsRow 0 e 1 v n xs := by
  refine ⟨h.1, ?_⟩
  rcases h.2 with hv | ⟨g, cap, cur, hv, hb, r⟩
  · exact .inl hv
  · exact .inr ⟨g, cap, cur, hv, Nat.zero_le _, r⟩
theorem zn_fresh {w w2 w3 : World} {lc lp pb dict L c' : Nat} {A' : Option Addr} (hL : 1 ≤ L) (hb : Below w.heap.size w w2) (h3 : Below w2.heap.size w2 w3)
    (ho : w3.ownsRow w2.heap.size 67 1 (.slice A' L c') L (pv (List.replicate L 1024))) {W : World}
    (hW : W = w3.alloc (.cells #[.int .i64 (lc : Int), .int .i64 (lp : Int), .int .i64 (pb : Int), .int .i64 (dict : Int), .pointer none, .pointer none, .slice A' L c', .slice none 0 0, .int .i64 0, .int .u32 0, .int .u32 0, .int .u32 0, .int .u32 0, .bool false, .bool false] 56)) :
    ∃ g p pc, Value.pointer (some ⟨w3.heap.size, 0, none⟩) = .pointer (some ⟨g, 0, none⟩) ∧ Zn W g p pc (Lzs.start lc lp pb dict) L ∧ w.heap.size ≤ g ∧ w.heap.size ≤ p ∧ Below w.heap.size w W := by
  obtain ⟨q, cap, hv, hq, hlt⟩ := ho.form (by omega)
  injection hv with h1 h2 h4
  subst h1 h4 hW
  have s1 := hb.size
  have s2 := h3.size
  refine ⟨_, q, c', rfl, ⟨Blk.fresh w3 _ _, ?_, by omega⟩, by omega, by omega, ?_⟩
  · unfold Row
    rw [List.length_replicate]
    exact own_only (own_zero ho) ((Only.refl (fun _ => False) w3).alloc _) (fun h => h)
  · exact (hb.trans ⟨h3.os, h3.tape, h3.output, h3.size, fun i hi => h3.block i (by omega)⟩).alloc (by omega) _

set_option maxHeartbeats 4000000 in
theorem znew_any {lc lp pb dict : Nat} (h : SetOk lc lp pb dict) (w : World) :
    Calls Tryz.prog 31 #[.agg #[.int .i64 (lc : Int), .int .i64 (lp : Int), .int .i64 (pb : Int), .int .i64 (dict : Int)]] w fun x w' =>
      ∃ g p pc, x = .returned (.pointer (some ⟨g, 0, none⟩)) ∧ Zn w' g p pc (Lzs.start lc lp pb dict) (probsN lc lp) ∧ w.heap.size ≤ g ∧ w.heap.size ≤ p ∧ Below w.heap.size w w' := by
  obtain ⟨hp, hp1, hp2⟩ := probsN_is h
  obtain ⟨w1, hw1⟩ : ∃ w1, w1 = w.alloc (.cells #[.int .i64 (lc : Int), .int .i64 (lp : Int), .int .i64 (pb : Int), .int .i64 (dict : Int)] 24) := ⟨_, rfl⟩
  have hb1 : Below w.heap.size w w1 := by rw [hw1]; exact (Below.refl _ _).alloc (Nat.le_refl _) _
  have HBk : Blk w1 w.heap.size 24 #[.int .i64 (lc : Int), .int .i64 (lp : Int), .int .i64 (pb : Int), .int .i64 (dict : Int)] := by rw [hw1]; exact Blk.fresh w _ _
  have K := Lib.hid (fun n => probs_any lc lp pb dict (w1.drewN n))
  rw [hp] at K
  have d0 : w1.cell? ⟨w.heap.size, 0, none⟩ = some (.int .i64 (lc : Int)) := HBk.cell 0
  have d1 : w1.cell? ⟨w.heap.size, 1, none⟩ = some (.int .i64 (lp : Int)) := HBk.cell 1
  have d2 : w1.cell? ⟨w.heap.size, 2, none⟩ = some (.int .i64 (pb : Int)) := HBk.cell 2
  have d3 : w1.cell? ⟨w.heap.size, 3, none⟩ = some (.int .i64 (dict : Int)) := HBk.cell 3
  have HW1 := Lib.hid hw1
  have HB1 := Lib.hid hb1
  have HBK := Lib.hid HBk
  have HL := Lib.hid (And.intro hp1 hp2)
  obtain ⟨L, hL⟩ : ∃ L, L = probsN lc lp := ⟨_, rfl⟩
  rw [← hL] at K HL ⊢
  have KF := Lib.hid (fun W => reffresh_any (n := L) (by have := HL.out; omega) W)
  clear hw1 hb1 HBk hp hp1 hp2 h hL
  go_enter Tryz.func31, Tryz.ntmps31
  go_upto_region 1 with fail
  rw [← HW1.out]
  clear HW1
  go_region_law (first
    | (go_simp; go_at_call 34; refine (K.out _).mono ?_; rintro e w2 ⟨rfl, hb2⟩; have hk2 := Blk.below (w := w1.drewN _) HBK.out hb2; have o0 := hk2.cell 0; have o1 := hk2.cell 1; have o2 := hk2.cell 2; have o3 := hk2.cell 3; have HB2 := Lib.hid hb2; have HK2 := Lib.hid hk2; clear hb2 hk2)
    | (go_simp; go_at_call 33; refine (KF.out _).mono ?_; rintro e w3 ⟨A', c', rfl, ho3, hb3⟩; have hk3 := HK2.out.below hb3; have r0 := hk3.cell 0; have r1 := hk3.cell 1; have r2 := hk3.cell 2; have r3 := hk3.cell 3; clear hk3; have HB3 := Lib.hid hb3; have HO3 := Lib.hid ho3; clear hb3 ho3))
  all_goals
    have HE := Lib.hid (fun W => zn_fresh (W := W) (lc := lc) (lp := lp) (pb := pb) (dict := dict) (by have := HL.out; omega) (HB1.out.trans ⟨HB2.out.os, HB2.out.tape, HB2.out.output, HB2.out.size, fun i hi => HB2.out.block i (Nat.lt_of_lt_of_le hi HB1.out.size)⟩) HB3.out HO3.out)
    clear K KF HB1 HB2 HB3 HO3 HBK HK2
    go_wp2_with fail
    go_ret
    obtain ⟨g, p, pc, h1, h2, h3, h4, h5⟩ := HE.out _ rfl
    exact ⟨g, p, pc, congrArg Ending.returned h1, h2, h3, h4, h5⟩
end Go.Proofs.YtoencondpbkomaaGreat

/-
  The reference's coder: begun, begun anew, its stream told.
-/
namespace Go.Proofs.YtoencondpbkomaaGreat
set_option linter.unusedVariables false
set_option linter.unusedSimpArgs false
open Go.RowKit

/-- a coder is put in -/
theorem zn_encQ {w2 w3 : World} {g p pc eb q : Nat} {z : Lzs} {L : Nat} {e : En} (hz : Zn w2 g p pc z L) (ho : z.out = []) (hb3 : Below w2.heap.size w2 w3) (hR : Rn w3 eb q e) (heb : w2.heap.size ≤ eb ∧ w2.heap.size ≤ q) :
    Zz (fun _ => False) Ke (w3.setCell ⟨g, 5, none⟩ (.pointer (some ⟨eb, 0, none⟩))) g (fun i => i = g ∨ i = p ∨ i = eb ∨ i = q) z ⟨List.replicate L 1024, e⟩ := by
  obtain ⟨hB, hr, hpg⟩ := hz
  have hg2 := hB.lt
  have hp2 : p < w2.heap.size := hr.lt
  have hset : ∀ (S : Nat → Prop), S g → Only S w3 (w3.setCell ⟨g, 5, none⟩ (.pointer (some ⟨eb, 0, none⟩))) := fun S hS => (Only.refl S w3).setCell (p := ⟨g, 5, none⟩) (.inl hS) _
  have h3 : Only (fun _ => False) w2 w3 := Only.of_below hb3
  have hs3 := hb3.size
  have hdl := hR.lt
  refine ⟨fun i => i = eb ∨ i = q, .pointer none, .pointer (some ⟨eb, 0, none⟩), p, pc, none, 0, ?_, ?_, ?_, ⟨eb, q, rfl, rfl, fun i => Iff.rfl, hR.only (hset (fun i => i = g) rfl) (by show ¬ eb = g; omega) (by show ¬ q = g; omega)⟩, .inl rfl, .inr (.inl rfl), fun i hi => .inr (.inr hi), ?_, hpg, by show ¬ (g = eb ∨ g = q); omega, by show ¬ (p = eb ∨ p = q); omega, ?_, ?_⟩
  · have h4 := (hB.only h3 (fun h => h)).put 5 (.pointer (some ⟨eb, 0, none⟩))
    rw [List.length_replicate, ho]
    exact h4
  · exact (hr.only h3 (fun h => h)).only (hset (fun i => i = g) rfl) hpg
  · rw [ho]
    exact ⟨rfl, .inl ⟨rfl, rfl⟩⟩
  · intro i hi
    rw [ho] at hi
    cases hi
  · rintro i (rfl | rfl | rfl | rfl)
    · simp [World.setCell]; omega
    · simp [World.setCell]; omega
    · simpa [World.setCell] using hdl.1
    · simpa [World.setCell] using hdl.2
  · intro i _ h
    exact h
set_option maxRecDepth 100000 in
set_option maxHeartbeats 4000000 in
theorem rstartQ_any {lc lp pb dict : Nat} (h : SetOk lc lp pb dict) (w : World) :
    Calls Tryz.prog 16 #[.agg #[.int .i64 (lc : Int), .int .i64 (lp : Int), .int .i64 (pb : Int), .int .i64 (dict : Int)]] w fun x w' =>
      ∃ (g : Nat) (G : Nat → Prop), x = .returned (.pointer (some ⟨g, 0, none⟩)) ∧ Zz (fun _ => False) Ke w' g G (freshS lc lp pb dict).1 (freshS lc lp pb dict).2 ∧ (∀ i, G i → w.heap.size ≤ i) ∧ Below w.heap.size w w' := by
  obtain ⟨w1, hw1⟩ : ∃ w1, w1 = w.alloc (.cells #[.int .i64 (lc : Int), .int .i64 (lp : Int), .int .i64 (pb : Int), .int .i64 (dict : Int)] 24) := ⟨_, rfl⟩
  have hb1 : Below w.heap.size w w1 := by rw [hw1]; exact (Below.refl _ _).alloc (Nat.le_refl _) _
  have HBk : Blk w1 w.heap.size 24 #[.int .i64 (lc : Int), .int .i64 (lp : Int), .int .i64 (pb : Int), .int .i64 (dict : Int)] := by rw [hw1]; exact Blk.fresh w _ _
  have KN := Lib.hid (znew_any h w1)
  have d0 : w1.cell? ⟨w.heap.size, 0, none⟩ = some (.int .i64 (lc : Int)) := HBk.cell 0
  have d1 : w1.cell? ⟨w.heap.size, 1, none⟩ = some (.int .i64 (lp : Int)) := HBk.cell 1
  have d2 : w1.cell? ⟨w.heap.size, 2, none⟩ = some (.int .i64 (pb : Int)) := HBk.cell 2
  have d3 : w1.cell? ⟨w.heap.size, 3, none⟩ = some (.int .i64 (dict : Int)) := HBk.cell 3
  have HW1 := Lib.hid hw1
  have HB1 := Lib.hid hb1
  unfold freshS
  obtain ⟨L, hL⟩ : ∃ L, L = probsN lc lp := ⟨_, rfl⟩
  obtain ⟨z0, hz0⟩ : ∃ z0, z0 = Lzs.start lc lp pb dict := ⟨_, rfl⟩
  have hout : z0.out = [] := by rw [hz0]; rfl
  rw [← hL, ← hz0] at KN ⊢
  have HOUT := Lib.hid hout
  clear hw1 hb1 HBk h hL hz0 hout
  go_enter Tryz.func16, Tryz.ntmps16
  go_upto_region 1 with fail
  rw [← HW1.out]
  clear HW1
  go_wp2_with fail
  refine KN.out.mono ?_
  rintro e w2 ⟨g, p, pc, rfl, hz2, hg2, hp2, hb2⟩
  have HB2 := Lib.hid (HB1.out.trans ⟨hb2.os, hb2.tape, hb2.output, hb2.size, fun i hi => hb2.block i (Nat.lt_of_lt_of_le hi HB1.out.size)⟩)
  have HZ2 := Lib.hid hz2
  have HGP := Lib.hid (show w.heap.size ≤ g ∧ w.heap.size ≤ p from ⟨by have := HB1.out.size; omega, by have := HB1.out.size; omega⟩)
  have KE := Lib.hid (rnew5_any w2)
  clear hz2 hg2 hp2 hb2 KN d0 d1 d2 d3 HB1
  go_wp2_with fail
  refine KE.out.mono ?_
  rintro e w3 ⟨rfl, hR, hb3⟩
  have hzz := zn_encQ HZ2.out HOUT.out hb3 hR ⟨by omega, Nat.le_refl _⟩
  have hb3' : Below w.heap.size w w3 := HB2.out.trans ⟨hb3.os, hb3.tape, hb3.output, hb3.size, fun i hi => hb3.block i (Nat.lt_of_lt_of_le hi HB2.out.size)⟩
  have hb4 : Below w.heap.size w (w3.setCell ⟨g, 5, none⟩ (.pointer (some ⟨w2.heap.size + 1, 0, none⟩))) := hb3'.trans ((Only.refl (fun i => i = g) w3).setCell (p := ⟨g, 5, none⟩) (.inl rfl) _ |>.below hb3'.size (by rintro i rfl; exact HGP.out.1))
  have hk3 : Blk w3 g 56 (zCells z0 (.pointer none) (.pointer none) p L pc none 0 0) := HZ2.out.1.below hb3
  have q5 : w3.cell? ⟨g, 5, none⟩ = some (.pointer none) := hk3.cell 5
  have f5 := hk3.free 5
  have hGl : ∀ i, (i = g ∨ i = p ∨ i = w2.heap.size + 1 ∨ i = w2.heap.size) → w.heap.size ≤ i := by
    have := HB2.out.size
    rintro i (rfl | rfl | rfl | rfl)
    · exact HGP.out.1
    · exact HGP.out.2
    · omega
    · omega
  have HGL := Lib.hid hGl
  have HZZ := Lib.hid hzz
  have HB4 := Lib.hid hb4
  clear hR hb3 hb3' hzz hk3 hb4 hGl KE HB2 HZ2 HGP HOUT
  go_wp2_with fail
  go_ret
  exact ⟨g, _, rfl, HZZ.out, HGL.out, HB4.out⟩

/-- the coder in memory, its blocks from lo on -/
def Rco (w : World) (g lo : Nat) (G : Nat → Prop) (s : Lzs × Pm En) : Prop := Zz (fun _ => False) Ke w g G s.1 s.2 ∧ ∀ i, G i → lo ≤ i

def RqFin (w : World) (g : Nat) (G : Nat → Prop) (s : Lzs × Pm En) (x : Ending) (w' : World) : Prop :=
  ∃ (bs : List UInt8) (A1 : Option Addr) (c1 : Nat) (G' : Nat → Prop), x = .returned (.slice A1 bs.length c1) ∧ Sl w' A1 bs.length (bv bs) ∧ be bs = s.2.x.n ∧ bs.length = s.2.x.l ∧ bs.length ≤ c1 ∧ c1 ≤ maxLen ∧
    (∀ b o, A1 = some ⟨b, o, none⟩ → G b) ∧ Zz (fun _ => False) Ke w' g G' { s.1 with ended := false } ⟨s.2.ps, En.new⟩ ∧ (∀ i, G' i → G i ∨ w.heap.size ≤ i) ∧ Only G w w'
set_option maxRecDepth 100000 in
set_option maxHeartbeats 4000000 in
theorem rfinishQ_any {w : World} {g : Nat} {G : Nat → Prop} {s : Lzs × Pm En} (h : Zz (fun _ => False) Ke w g G s.1 s.2) :
    Calls Tryz.prog 20 #[.pointer (some ⟨g, 0, none⟩)] w (RqFin w g G s) := by
  obtain ⟨z, t⟩ := s
  have h : Zz (fun _ => False) Ke w g G z t := h
  obtain ⟨Gm, Dv, Ev, p, pc, A, c, hz⟩ := h
  obtain ⟨eb, q, rfl, rfl, hG, ⟨ce, bs, hB, hY, h1, h2, hqe⟩⟩ := hz.mch
  have heg : eb ≠ g := fun e => hz.mg ((hG g).2 (.inl e.symm))
  have hqg : q ≠ g := fun e => hz.mg ((hG g).2 (.inr e.symm))
  have hqG : G q := hz.gm q ((hG q).2 (.inr rfl))
  have hf := own_facts hY.own
  have c5 : w.cell? ⟨g, 5, none⟩ = some (.pointer (some ⟨eb, 0, none⟩)) := hz.blk.cell 5
  have ce0 : w.cell? ⟨eb, 0, none⟩ = some (.slice (some ⟨q, 0, none⟩) bs.length ce) := hB.cell 0
  have f5 := hz.blk.free 5
  have f13 := hz.blk.free 13
  have c13 : w.cell? ⟨g, 13, none⟩ = some (.bool z.ended) := hz.blk.cell 13
  have KE := Lib.hid (rnew5_any w)
  have hgl := hz.blk.lt
  have hold := hz.old
  have hend : ∀ (w3 : World), Below w.heap.size w w3 → Rn w3 (w.heap.size + 1) w.heap.size En.new → Sl ((w3.setCell ⟨g, 5, none⟩ (.pointer (some ⟨w.heap.size + 1, 0, none⟩))).setCell ⟨g, 13, none⟩ (.bool false)) (some ⟨q, 0, none⟩) bs.length (bv bs) ∧ Zz (fun _ => False) Ke ((w3.setCell ⟨g, 5, none⟩ (.pointer (some ⟨w.heap.size + 1, 0, none⟩))).setCell ⟨g, 13, none⟩ (.bool false)) g (fun i => (G i ∨ (i = w.heap.size + 1 ∨ i = w.heap.size))) { z with ended := false } ⟨t.ps, En.new⟩ ∧ Only G w ((w3.setCell ⟨g, 5, none⟩ (.pointer (some ⟨w.heap.size + 1, 0, none⟩))).setCell ⟨g, 13, none⟩ (.bool false)) := by
    intro w3 hb hR
    have ho : Only (fun _ => False) w w3 := Only.of_below hb
    have hg3 : Only (fun i => i = g) w3 ((w3.setCell ⟨g, 5, none⟩ (.pointer (some ⟨w.heap.size + 1, 0, none⟩))).setCell ⟨g, 13, none⟩ (.bool false)) := ((Only.refl (fun i => i = g) w3).setCell (p := ⟨g, 5, none⟩) (.inl rfl) _).setCell (p := ⟨g, 13, none⟩) (.inl rfl) _
    have hg : Only (fun i => i = g) w ((w3.setCell ⟨g, 5, none⟩ (.pointer (some ⟨w.heap.size + 1, 0, none⟩))).setCell ⟨g, 13, none⟩ (.bool false)) := (show Only (fun i => i = g) w w3 from ho.mono (fun _ h => h.elim)).trans hg3
    have hlt := hR.lt
    have hsz : ((w3.setCell ⟨g, 5, none⟩ (.pointer (some ⟨w.heap.size + 1, 0, none⟩))).setCell ⟨g, 13, none⟩ (.bool false)).heap.size = w3.heap.size := by simp [World.setCell]
    refine ⟨?_, ?_, hg.mono (fun i hi => hi ▸ hz.gg)⟩
    · exact Sl.of_own (own_only' hY.own hg (fun i hi e => hqg (by injection hi with hi; exact hi.trans e)))
    · refine ⟨fun i => i = w.heap.size + 1 ∨ i = w.heap.size, .pointer none, .pointer (some ⟨w.heap.size + 1, 0, none⟩), p, pc, A, c, ?_, ?_, ?_, ⟨_, _, rfl, rfl, fun i => Iff.rfl, hR.only hg3 (by show ¬ _ = g; omega) (by show ¬ _ = g; omega)⟩, .inl hz.gg, .inl hz.gp, fun i hi => .inr hi, fun i hi => ?_, hz.pg, ?_, ?_, ?_, fun i _ h => h⟩
      · exact ((hz.blk.only ho (fun h => h)).put 5 _).put 13 _
      · exact (hz.row.only ho (fun h => h)).only hg3 hz.pg
      · exact own_only' hz.out hg (fun i hi e => (hz.go i hi).2.1 e)
      · obtain ⟨g1, g2, g3, g4⟩ := hz.go i hi
        have := hold i g1
        exact ⟨.inl g1, g2, g3, by rintro (e | e) <;> omega⟩
      · rintro (e | e) <;> omega
      · have := hold p hz.gp
        rintro (e | e) <;> omega
      · rintro i (hi | rfl | rfl)
        · have := hold i hi
          have := hb.size
          omega
        · rw [hsz]; exact hlt.1
        · rw [hsz]; exact hlt.2
  have HEND := Lib.hid hend
  have HE := Lib.hid (show be bs = t.x.n ∧ bs.length = t.x.l ∧ bs.length ≤ ce ∧ ce ≤ maxLen ∧ G q from ⟨h1, h2, hf.2.1, hf.2.2.1, hqG⟩)
  clear hend hB hY h1 h2 hqe hG hf hz hold hqG
  go_enter Tryz.func20, Tryz.ntmps20
  go_wp2_with fail
  refine KE.out.mono ?_
  rintro e w3 ⟨rfl, hR3, hb3⟩
  have f5' : w3.frozen? ⟨g, 5, none⟩ = false := (hb3.frozen hgl).trans f5
  have f13' : w3.frozen? ⟨g, 13, none⟩ = false := (hb3.frozen hgl).trans f13
  have c5' : w3.cell? ⟨g, 5, none⟩ = some (.pointer (some ⟨eb, 0, none⟩)) := (hb3.cell hgl).trans c5
  have c13' : w3.cell? ⟨g, 13, none⟩ = some (.bool z.ended) := (hb3.cell hgl).trans c13
  have HX := Lib.hid (HEND.out w3 hb3 hR3)
  clear hb3 hR3 KE HEND c5 c13 f5 f13 ce0
  go_wp2_with fail
  go_ret
  exact ⟨bs, _, ce, _, rfl, HX.out.1, HE.out.1, HE.out.2.1, HE.out.2.2.1, HE.out.2.2.2.1, (fun b o e => by injection e with e; injection e with e1 e2; subst e1; exact HE.out.2.2.2.2), HX.out.2.1, (by rintro i (h | rfl | rfl); exact .inl h; exact .inr (Nat.le_succ _); exact .inr (Nat.le_refl _)), HX.out.2.2⟩
end Go.Proofs.YtoencondpbkomaaGreat

/-
  The reference's coder: begun anew.
-/
namespace Go.Proofs.YtoencondpbkomaaGreat
set_option linter.unusedVariables false
set_option linter.unusedSimpArgs false
open Go.RowKit

theorem zr_anew {w w6 W : World} {g : Nat} {G Gm : Nat → Prop} {z : Lzs} {t : Pm En} {Dv Ev : Value} {p pc c c' L B : Nat} {A A' : Option Addr}
    (hz : Zr (fun _ => False) Ke w g G z t Gm Dv Ev p pc A c) (hb : Below w.heap.size w w6) (hL : 1 ≤ L) (hB : w.heap.size ≤ B)
    (ho : w6.ownsRow B 67 1 (.slice A' L c') L (pv (List.replicate L 1024)))
    (hW : W = (((((w6.setCell ⟨g, 6, none⟩ (.slice A' L c')).setCell ⟨g, 8, none⟩ (.int .i64 0)).setCell ⟨g, 9, none⟩ (.int .u32 0)).setCell ⟨g, 10, none⟩ (.int .u32 0)).setCell ⟨g, 11, none⟩ (.int .u32 0)).setCell ⟨g, 12, none⟩ (.int .u32 0)) :
    ∃ G', Zz (fun _ => False) Ke W g G' { z with st := 0, r0 := 0, r1 := 0, r2 := 0, r3 := 0 } ⟨List.replicate L 1024, t.x⟩ ∧ (∀ i, G' i → G i ∨ w.heap.size ≤ i) ∧ Only G w W := by
  obtain ⟨q, cap, hv, hq, hlt⟩ := ho.form (by omega)
  injection hv with h1 h2 h4
  subst h1 h4
  have h6 : Only (fun _ => False) w w6 := Only.of_below hb
  have hS : Only (fun i => i = g) w6 W := by
    rw [hW]
    exact ((((((Only.refl (fun i => i = g) w6).setCell (p := ⟨g, 6, none⟩) (.inl rfl) _).setCell (p := ⟨g, 8, none⟩) (.inl rfl) _).setCell (p := ⟨g, 9, none⟩) (.inl rfl) _).setCell (p := ⟨g, 10, none⟩) (.inl rfl) _).setCell (p := ⟨g, 11, none⟩) (.inl rfl) _).setCell (p := ⟨g, 12, none⟩) (.inl rfl) _
  have hgl := hz.blk.lt
  have hold := hz.old
  have hsz : W.heap.size = w6.heap.size := by rw [hW]; simp [World.setCell]
  have hs6 := hb.size
  refine ⟨fun i => G i ∨ i = q, ⟨Gm, Dv, Ev, q, c', A, c, ?_⟩, ?_, ?_⟩
  · refine ⟨?_, ?_, ?_, ?_, .inl hz.gg, .inr rfl, fun i hi => .inl (hz.gm i hi), fun i hi => ?_, by omega, hz.mg, fun hi => ?_, ?_, fun i _ h => h⟩
    · have := ((((((hz.blk.only h6 (fun h => h)).put 6 (.slice (some ⟨q, 0, none⟩) L c')).put 8 (.int .i64 0)).put 9 (.int .u32 0)).put 10 (.int .u32 0)).put 11 (.int .u32 0)).put 12 (.int .u32 0)
      rw [hW]
      show Blk _ g _ (zCells _ _ _ _ (List.replicate L 1024).length _ _ _ _)
      rw [List.length_replicate]
      exact this
    · show Row W q (List.replicate L 1024) c'
      unfold Row
      rw [List.length_replicate]
      exact own_only (own_zero ho) hS (by show ¬ q = g; omega)
    · exact own_only' (own_only' hz.out h6 (fun _ _ h => h)) hS (fun i hi e => (hz.go i hi).2.1 e)
    · exact ke_mem.only (ke_mem.only hz.mch h6 (fun _ _ h => h) (fun _ _ h => h)) hS (fun i hi e => hz.mg (e ▸ hi)) (fun i hi _ => hi)
    · obtain ⟨g1, g2, g3, g4⟩ := hz.go i hi
      have := hold i g1
      exact ⟨.inl g1, g2, by omega, g4⟩
    · have := hold q (hz.gm q hi)
      omega
    · rintro i (hi | rfl)
      · have := hold i hi
        omega
      · rw [hsz]; exact hlt
  · rintro i (hi | rfl)
    · exact .inl hi
    · exact .inr (by omega)
  · exact (h6.mono (fun _ h => h.elim)).trans (hS.mono (fun i hi => hi ▸ hz.gg))
set_option maxRecDepth 100000 in
set_option maxHeartbeats 4000000 in
theorem rresetQ_any {w : World} {g : Nat} {G : Nat → Prop} {s : Lzs × Pm En} {lc lp pb dict : Nat} (h : Zz (fun _ => False) Ke w g G s.1 s.2) (hset : SetOk lc lp pb dict) (hs : s.1.lc = lc ∧ s.1.lp = lp ∧ s.1.pb = pb ∧ s.1.dict = dict) (hL : s.2.ps.length = probsN lc lp) :
    Calls Tryz.prog 17 #[.pointer (some ⟨g, 0, none⟩), .agg #[.int .i64 (lc : Int), .int .i64 (lp : Int), .int .i64 (pb : Int), .int .i64 (dict : Int)]] w fun x w' => x = .returned (.tuple #[]) ∧
      ∃ G', Zz (fun _ => False) Ke w' g G' (reS s).1 (reS s).2 ∧ (∀ i, G' i → G i ∨ w.heap.size ≤ i) ∧ Only G w w' := by
  obtain ⟨z, t⟩ := s
  unfold reS
  change Zz (fun _ => False) Ke w g G z t at h
  change z.lc = lc ∧ z.lp = lp ∧ z.pb = pb ∧ z.dict = dict at hs
  change t.ps.length = probsN lc lp at hL
  show Calls _ _ _ _ fun x w' => x = .returned (.tuple #[]) ∧ ∃ G', Zz (fun _ => False) Ke w' g G' { z with st := 0, r0 := 0, r1 := 0, r2 := 0, r3 := 0 } ⟨List.replicate t.ps.length 1024, t.x⟩ ∧ (∀ i, G' i → G i ∨ w.heap.size ≤ i) ∧ Only G w w'
  obtain ⟨rfl, rfl, rfl, rfl⟩ := hs
  obtain ⟨hp, hp1, hp2⟩ := probsN_is hset
  obtain ⟨Gm, Dv, Ev, p, pc, A, c, hz⟩ := h
  obtain ⟨w1, hw1⟩ : ∃ w1, w1 = w.alloc (.cells #[.int .i64 (z.lc : Int), .int .i64 (z.lp : Int), .int .i64 (z.pb : Int), .int .i64 (z.dict : Int)] 24) := ⟨_, rfl⟩
  have hb1 : Below w.heap.size w w1 := by rw [hw1]; exact (Below.refl _ _).alloc (Nat.le_refl _) _
  have hbk : Blk w1 w.heap.size 24 #[.int .i64 (z.lc : Int), .int .i64 (z.lp : Int), .int .i64 (z.pb : Int), .int .i64 (z.dict : Int)] := by rw [hw1]; exact Blk.fresh w _ _
  have d0 : w1.cell? ⟨w.heap.size, 0, none⟩ = some (.int .i64 (z.lc : Int)) := hbk.cell 0
  have d1 : w1.cell? ⟨w.heap.size, 1, none⟩ = some (.int .i64 (z.lp : Int)) := hbk.cell 1
  have d2 : w1.cell? ⟨w.heap.size, 2, none⟩ = some (.int .i64 (z.pb : Int)) := hbk.cell 2
  have hz1 := hz.only ke_mem (Only.of_below (S := fun _ => False) hb1) (fun _ _ h => h) (fun _ _ h => h)
  have c0 : w1.cell? ⟨g, 0, none⟩ = some (.int .i64 (z.lc : Int)) := hz1.blk.cell 0
  have c1 : w1.cell? ⟨g, 1, none⟩ = some (.int .i64 (z.lp : Int)) := hz1.blk.cell 1
  have c2 : w1.cell? ⟨g, 2, none⟩ = some (.int .i64 (z.pb : Int)) := hz1.blk.cell 2
  have f0 := hz1.blk.free 0
  have f1 := hz1.blk.free 1
  have f2 := hz1.blk.free 2
  have hgl := hz.blk.lt
  have hgy : w.heap.size ≠ g := by omega
  have HZ1 := Lib.hid hz1
  have HW1 := Lib.hid hw1
  have HB1 := Lib.hid hb1
  have HG := Lib.hid hz.gg
  have HP := Lib.hid (show probsOf (z.lc : Int) (z.lp : Int) (z.pb : Int) (z.dict : Int) = ((t.ps.length : Nat) : Int) ∧ 1 ≤ t.ps.length ∧ t.ps.length ≤ 100000000 from by rw [hL]; exact ⟨hp, by omega, by omega⟩)
  clear hw1 hb1 hbk hz1 hz hp hp1 hp2 hset hL
  go_enter Tryz.func17, Tryz.ntmps17
  go_upto_region 1 with fail
  rw [← HW1.out]
  clear HW1
  go_upto_region 4 with fail
  have hz4 := ((HZ1.out.put ke_mem (i := 0) (u := .int .i64 (z.lc : Int)) (z' := z) rfl rfl).put ke_mem (i := 1) (u := .int .i64 (z.lp : Int)) (z' := z) rfl rfl).put ke_mem (i := 2) (u := .int .i64 (z.pb : Int)) (z' := z) rfl rfl
  have hO4 : Only (fun i => i = g) w (((w1.setCell ⟨g, 0, none⟩ (.int .i64 (z.lc : Int))).setCell ⟨g, 1, none⟩ (.int .i64 (z.lp : Int))).setCell ⟨g, 2, none⟩ (.int .i64 (z.pb : Int))) :=
    ((((Only.of_below (S := fun i => i = g) HB1.out).setCell (p := ⟨g, 0, none⟩) (.inl rfl) _).setCell (p := ⟨g, 1, none⟩) (.inl rfl) _).setCell (p := ⟨g, 2, none⟩) (.inl rfl) _)
  clear d0 d1 d2 c0 c1 c2 f0 f1 f2
  generalize ((w1.setCell ⟨g, 0, none⟩ (.int .i64 (z.lc : Int))).setCell ⟨g, 1, none⟩ (.int .i64 (z.lp : Int))).setCell ⟨g, 2, none⟩ (.int .i64 (z.pb : Int)) = w4 at *
  have c0 : w4.cell? ⟨g, 0, none⟩ = some (.int .i64 (z.lc : Int)) := hz4.blk.cell 0
  have c1 : w4.cell? ⟨g, 1, none⟩ = some (.int .i64 (z.lp : Int)) := hz4.blk.cell 1
  have c2 : w4.cell? ⟨g, 2, none⟩ = some (.int .i64 (z.pb : Int)) := hz4.blk.cell 2
  have c3 : w4.cell? ⟨g, 3, none⟩ = some (.int .i64 (z.dict : Int)) := hz4.blk.cell 3
  have K := probs_any (z.lc : Int) (z.lp : Int) (z.pb : Int) (z.dict : Int) w4
  rw [HP.out.1] at K
  have K := Lib.hid K
  have HZ4 := Lib.hid hz4
  have HO4 := Lib.hid hO4
  clear hz4 hO4 HZ1 HB1
  go_wp2_with fail
  refine K.out.mono ?_
  rintro x w5 ⟨rfl, hb5⟩
  have HB5 := Lib.hid hb5
  have K2 := Lib.hid (reffresh_any (n := t.ps.length) HP.out.2.2 w5)
  clear K hb5 c0 c1 c2 c3
  go_wp2_with fail
  refine K2.out.mono ?_
  rintro x w6 ⟨A', c', rfl, ho6, hb6⟩
  have hb46 : Below w4.heap.size w4 w6 := HB5.out.trans (hb6.mono HB5.out.size)
  have hz6 := HZ4.out.only ke_mem (Only.of_below (S := fun _ => False) hb46) (fun _ _ h => h) (fun _ _ h => h)
  have c6 := hz6.blk.cell 6
  have c8 := hz6.blk.cell 8
  have c9 := hz6.blk.cell 9
  have c10 := hz6.blk.cell 10
  have c11 := hz6.blk.cell 11
  have c12 := hz6.blk.cell 12
  have f6 := hz6.blk.free 6
  have f8 := hz6.blk.free 8
  have f9 := hz6.blk.free 9
  have f10 := hz6.blk.free 10
  have f11 := hz6.blk.free 11
  have f12 := hz6.blk.free 12
  have c6 : w6.cell? ⟨g, 6, none⟩ = some (.slice (some ⟨p, 0, none⟩) t.ps.length pc) := c6
  have c8 : w6.cell? ⟨g, 8, none⟩ = some (.int .i64 (z.st : Int)) := c8
  have c9 : w6.cell? ⟨g, 9, none⟩ = some (.int .u32 (z.r0 : Int)) := c9
  have c10 : w6.cell? ⟨g, 10, none⟩ = some (.int .u32 (z.r1 : Int)) := c10
  have c11 : w6.cell? ⟨g, 11, none⟩ = some (.int .u32 (z.r2 : Int)) := c11
  have c12 : w6.cell? ⟨g, 12, none⟩ = some (.int .u32 (z.r3 : Int)) := c12
  have HEND := Lib.hid (fun W hW => zr_anew (W := W) (B := w5.heap.size) HZ4.out hb46 HP.out.2.1 HB5.out.size ho6 hW)
  have HK6 := Lib.hid hz6.blk
  clear hb46 hz6 ho6 hb6 K2 HB5 HZ4 c9 c10 c11 c12 f9 f10 f11 f12
  go_upto_region 6 with fail
  have hk7 := (HK6.out.put 6 (.slice A' t.ps.length c')).put 8 (.int .i64 0)
  obtain ⟨w7, hw7⟩ : ∃ w7, w7 = (w6.setCell ⟨g, 6, none⟩ (.slice A' t.ps.length c')).setCell ⟨g, 8, none⟩ (.int .i64 0) := ⟨_, rfl⟩
  rw [← hw7] at hk7 HEND ⊢
  have c9 : w7.cell? ⟨g, 9, none⟩ = some (.int .u32 (z.r0 : Int)) := hk7.cell 9
  have c10 : w7.cell? ⟨g, 10, none⟩ = some (.int .u32 (z.r1 : Int)) := hk7.cell 10
  have c11 : w7.cell? ⟨g, 11, none⟩ = some (.int .u32 (z.r2 : Int)) := hk7.cell 11
  have c12 : w7.cell? ⟨g, 12, none⟩ = some (.int .u32 (z.r3 : Int)) := hk7.cell 12
  have f9 := hk7.free 9
  have f10 := hk7.free 10
  have f11 := hk7.free 11
  have f12 := hk7.free 12
  clear hk7 hw7 c6 c8 f6 f8 HK6
  go_wp2_with fail
  first | go_end0 | refine bodyPost_ret (results_none rfl _ _ _) rfl ?_
  obtain ⟨G', z1, z2, z3⟩ := HEND.out _ rfl
  refine ⟨rfl, G', z1, fun i hi => ?_, ?_⟩
  · rcases z2 i hi with h | h
    · exact .inl h
    · exact .inr (Nat.le_trans HO4.out.size h)
  · exact (HO4.out.mono (fun i hi => hi ▸ HG.out)).trans z3
end Go.Proofs.YtoencondpbkomaaGreat

/-
  The document's coder of LZMA2: what it brings, as numbers.
-/
namespace Go.Proofs.YtoencondpbkomaaGreat
set_option linter.unusedVariables false
set_option linter.unusedSimpArgs false
open Go.RowKit

/-- what a piece brings, by what came ahead -/
def howR (any last : Bool) (F : Nat) : Nat := if F = 0 then 3 else if any = false then 2 else if last = true then 1 else 0
theorem howR_le (any last : Bool) (F : Nat) : howR any last F ≤ 3 := by
  unfold howR
  split
  · omega
  · split
    · omega
    · split <;> omega
theorem howR_packed {F : Nat} (h : F ≠ 0) : 0 = howR true false F := by
  unfold howR
  rw [if_neg h]
  rfl
theorem howR_plain {any last : Bool} {F F' : Nat} (h0 : F = 0 → any = false) (h : F' ≠ 0) : nextH (howR any last F) = howR any true F' := by
  unfold howR nextH
  by_cases hF : F = 0
  · rw [if_pos hF, if_neg h, h0 hF]
    rfl
  · rw [if_neg hF, if_neg h]
    cases any <;> cases last <;> rfl
theorem dictI_is {d : Nat} (h : 1 ≤ d) : dictI (d : Int) = d := by
  unfold dictI
  omega
theorem dictI_set {lc lp pb dict : Nat} (h : SetOk lc lp pb dict) : dictI (dict : Int) = dict := dictI_is (by have := h.2.2.2.1; omega)
/-- a piece told, part by part -/
theorem piece_packed {b xs : List UInt8} {p0 : UInt8} {dict at_ : Nat} {k : Ckn} {s2 : Lzs × Pm En} (hs : strS b dict (min at_ b.length) (min (at_ + xs.length) b.length) k.how k.s = s2) (h : s2.2.x.l < xs.length) :
    pieceN b p0 dict at_ xs k = ⟨0, finS s2, k.out ++ packedB k.how p0 xs.length (strB s2)⟩ := by
  unfold pieceN
  rw [hs, if_pos h]
theorem piece_plain {b xs : List UInt8} {p0 : UInt8} {dict at_ : Nat} {k : Ckn} {s2 : Lzs × Pm En} (hs : strS b dict (min at_ b.length) (min (at_ + xs.length) b.length) k.how k.s = s2) (h : ¬ s2.2.x.l < xs.length) :
    pieceN b p0 dict at_ xs k = ⟨nextH k.how, finS s2, k.out ++ plainB k.how xs⟩ := by
  unfold pieceN
  rw [hs, if_neg h]
end Go.Proofs.YtoencondpbkomaaGreat

/-
  The document's coder of LZMA2: the head bytes of a piece.
-/
namespace Go.Proofs.YtoencondpbkomaaGreat
set_option linter.unusedVariables false
set_option linter.unusedSimpArgs false
open Go.RowKit

theorem sl_eq {w : World} {cs cs' : Array Value} {e : TypeId} {A : Option Addr} {n : Nat} {xs : List Value} (h : cs = cs') (hs : Sl (w.alloc (.cells cs' e)) A n xs) : Sl (w.alloc (.cells cs e)) A n xs := by
  rw [h]
  exact hs
theorem sl_bs (w : World) {bs : List UInt8} {n : Nat} (hn : bs.length = n) (hm : n ≤ 1000000000) : Sl (w.alloc (.cells (bv bs).toArray 5)) (some ⟨w.heap.size, 0, none⟩) n (bv bs) := by
  have hl : (bv bs).length = n := by unfold bv; rw [List.length_map, hn]
  have h := sl_lit w 5 (bv bs).toArray (show (bv bs).length ≤ 1000000000 by omega)
  have e : (bv bs).toArray.size = n := hl
  rw [e] at h
  exact h
theorem u8_of (a : Nat) : ((UInt8.ofNat a).toNat : Int) = (a : Int) % 256 := by
  rw [UInt8.toNat_ofNat']
  omega
theorem five_num {how m l : Nat} (hh : how ≤ 3) (hm : 1 ≤ m) (hm2 : m ≤ 65536) (hl : 1 ≤ l) (hl2 : l ≤ 65536) :
    (#[Value.int .u8 (wrap64 (wrap64 (128 + wrap64 (32 * (how : Int))) + wrap64 (((m : Int) - 1).tdiv 65536)) % 256), .int .u8 ((wrap64 (((m : Int) - 1).tdiv 256)).tmod 256 % 256), .int .u8 (((m : Int) - 1) % 256),
      .int .u8 (wrap64 ((wrap64 ((l : Int) - 1)).tdiv 256) % 256), .int .u8 ((wrap64 ((l : Int) - 1)).tmod 256 % 256)] : Array Value)
    = (bv ([UInt8.ofNat (128 + 32 * how)] ++ cntB m ++ cntB l)).toArray := by
  have e1 : ((m : Int) - 1).tdiv 65536 = 0 := by rw [Int.tdiv_eq_ediv_of_nonneg (by omega)]; omega
  have e2 : ((m : Int) - 1).tdiv 256 = ((m : Int) - 1) / 256 := Int.tdiv_eq_ediv_of_nonneg (by omega)
  have e3 : wrap64 (((m : Int) - 1) / 256) = ((m : Int) - 1) / 256 := IntWalk.wrap64_in _ (by omega)
  have e4 : (((m : Int) - 1) / 256).tmod 256 = (((m : Int) - 1) / 256) % 256 := Int.tmod_eq_emod_of_nonneg (by omega)
  have e5 : wrap64 ((l : Int) - 1) = (l : Int) - 1 := IntWalk.wrap64_in _ (by omega)
  have e6 : ((l : Int) - 1).tdiv 256 = ((l : Int) - 1) / 256 := Int.tdiv_eq_ediv_of_nonneg (by omega)
  have e7 : wrap64 (((l : Int) - 1) / 256) = ((l : Int) - 1) / 256 := IntWalk.wrap64_in _ (by omega)
  have e8 : ((l : Int) - 1).tmod 256 = ((l : Int) - 1) % 256 := Int.tmod_eq_emod_of_nonneg (by omega)
  have e9 : wrap64 (32 * (how : Int)) = 32 * (how : Int) := IntWalk.wrap64_in _ (by omega)
  have e10 : wrap64 (128 + 32 * (how : Int)) = 128 + 32 * (how : Int) := IntWalk.wrap64_in _ (by omega)
  have e11 : wrap64 (0 : Int) = 0 := IntWalk.wrap64_in _ (by omega)
  have e12 : wrap64 (128 + 32 * (how : Int) + 0) = 128 + 32 * (how : Int) := by rw [IntWalk.wrap64_in _ (by omega)]; omega
  rw [e1, e2, e3, e4, e5, e6, e7, e8, e9, e10, e11, e12]
  show _ = #[Value.int .u8 ((UInt8.ofNat (128 + 32 * how)).toNat : Int), .int .u8 ((UInt8.ofNat ((m - 1) / 256)).toNat : Int), .int .u8 ((UInt8.ofNat ((m - 1) % 256)).toNat : Int), .int .u8 ((UInt8.ofNat ((l - 1) / 256)).toNat : Int), .int .u8 ((UInt8.ofNat ((l - 1) % 256)).toNat : Int)]
  rw [u8_of, u8_of, u8_of, u8_of, u8_of]
  have f1 : (128 + 32 * (how : Int)) % 256 = ((128 + 32 * how : Nat) : Int) % 256 := by omega
  have f2 : ((m : Int) - 1) / 256 % 256 % 256 = (((m - 1) / 256 : Nat) : Int) % 256 := by omega
  have f3 : ((m : Int) - 1) % 256 = (((m - 1) % 256 : Nat) : Int) % 256 := by omega
  have f4 : ((l : Int) - 1) / 256 % 256 = (((l - 1) / 256 : Nat) : Int) % 256 := by omega
  have f5 : ((l : Int) - 1) % 256 % 256 = (((l - 1) % 256 : Nat) : Int) % 256 := by omega
  rw [f1, f2, f5, f4, f3]
end Go.Proofs.YtoencondpbkomaaGreat

/-
  The reference's Find: what holds from packet to packet.
-/
namespace Go.Proofs.YtoencondpbkomaaGreat
open Go.RowKit
def repC (s : Ps) : Array Value := #[.int .u32 (s.r0 : Int), .int .u32 (s.r1 : Int), .int .u32 (s.r2 : Int), .int .u32 (s.r3 : Int)]
structure Rff (w wr : World) (q0 q1 : Nat) (s : Ps) (L : List Pq) (R : Option Addr) (cl : Nat) : Prop where
  rb : Blk wr q0 49 (repC s)
  zb : Blk wr q1 49 zero4
  row : wr.ownsRow w.heap.size 59 4 (.slice R L.length cl) L.length (L.flatMap pkV)
  ra : ∀ k, (Value.slice R L.length cl).ownBlock = some k → k ≠ q0 ∧ k ≠ q1
  bel : Below w.heap.size w wr
  q0w : w.heap.size ≤ q0
  qq : q0 < q1
  lit : s.Lit
section
variable {w wr w' : World} {q0 q1 : Nat} {s s' : Ps} {L : List Pq} {R : Option Addr} {cl : Nat}
theorem Rff.drewN (h : Rff w wr q0 q1 s L R cl) (k : Nat) : Rff w (wr.drewN k) q0 q1 s L R cl := ⟨h.rb.drewN k, h.zb.drewN k, h.row, h.ra, below_drewN h.bel k, h.q0w, h.qq, h.lit⟩
theorem Rff.rlt (h : Rff w wr q0 q1 s L R cl) (k : Nat) (e : (Value.slice R L.length cl).ownBlock = some k) : w.heap.size ≤ k ∧ k < wr.heap.size := World.ownsRow.lt h.row k e
theorem Rff.rep (h : Rff w wr q0 q1 s L R cl) {k : Nat} (hk : k < 4) : wr.cell? ⟨q0, k, none⟩ = some (.int .u32 (s.rep k : Int)) := by
  match k, hk with
  | 0, _ => exact h.rb.cell 0
  | 1, _ => exact h.rb.cell 1
  | 2, _ => exact h.rb.cell 2
  | 3, _ => exact h.rb.cell 3
theorem Rff.alloc (h : Rff w wr q0 q1 s L R cl) (o : Obj) : Rff w (wr.alloc o) q0 q1 s L R cl :=
  ⟨h.rb.alloc o, h.zb.alloc o, pown4_below h.row ((Below.refl _ _).alloc (Nat.le_refl _) _), h.ra, h.bel.alloc h.bel.size _, h.q0w, h.qq, h.lit⟩
theorem Rff.app (h : Rff w wr q0 q1 s L R cl) {p : Pq} {x cap : Nat} (ho : w'.ownsRow w.heap.size 59 4 (.slice (some ⟨x, 0, none⟩) (L.length + 1) cap) (L.length + 1) (L.flatMap pkV ++ pkV p)) (hg : wr.grownBy w' (Value.slice R L.length cl).ownBlock) (hl : (Value.slice R L.length cl).ownBlock = some x ∨ x = wr.heap.size) :
    Rff w w' q0 q1 s (L ++ [p]) (some ⟨x, 0, none⟩) cap := by
  have hO : Only (fun i => (Value.slice R L.length cl).ownBlock = some i) wr w' := ⟨hg.os, hg.tape, hg.output, hg.size, fun i hi hn => hg.block i hi (fun e => hn e.symm)⟩
  have l0 := h.rb.lt
  have l1 := h.zb.lt
  refine ⟨h.rb.only hO (fun e => (h.ra q0 e).1 rfl), h.zb.only hO (fun e => (h.ra q1 e).2 rfl), pk_snoc' ho, fun k e => ?_, h.bel.grown hg h.bel.size (fun k e => (h.rlt k e).1), h.q0w, h.qq, h.lit⟩
  have ek : x = k := by injection e
  subst ek
  rcases hl with hl | hl
  · exact h.ra x hl
  · omega
theorem Rff.turn (h : Rff w wr q0 q1 s L R cl) (hO : Only (fun i => i = q0) wr w') (hB : Blk w' q0 49 (repC s')) (hl : s'.Lit) : Rff w w' q0 q1 s' L R cl :=
  ⟨hB, h.zb.only hO (fun e => by have := h.qq; omega), pown4_only h.row hO (fun k e e2 => (h.ra k e).1 e2), h.ra, h.bel.trans (hO.below h.bel.size (by rintro i rfl; exact h.q0w)), h.q0w, h.qq, hl⟩
/-- the distances on their way -/
def shf (s : Ps) (k h t : Nat) : Nat := if h < t ∧ t ≤ k then s.rep (t - 1) else s.rep t
def shC (s : Ps) (k h : Nat) : Array Value := #[.int .u32 (shf s k h 0 : Int), .int .u32 (shf s k h 1 : Int), .int .u32 (shf s k h 2 : Int), .int .u32 (shf s k h 3 : Int)]
theorem shC_start (s : Ps) (k : Nat) : shC s k k = repC s := by
  have e : ∀ t, shf s k k t = s.rep t := fun t => if_neg (by omega)
  unfold shC
  rw [e, e, e, e]
  rfl
theorem shC_step (s : Ps) {k h : Nat} (hk : k < 4) (hh : h + 1 ≤ k) : (shC s k (h + 1)).setIfInBounds (h + 1) (.int .u32 (s.rep h : Int)) = shC s k h := by
  have h1 : h = 0 ∨ h = 1 ∨ h = 2 := by omega
  have k1 : k = 1 ∨ k = 2 ∨ k = 3 := by omega
  rcases h1 with rfl | rfl | rfl <;> rcases k1 with rfl | rfl | rfl <;> first | rfl | (exfalso; omega)
theorem shC_end (s : Ps) {k : Nat} (hk : k < 4) : (shC s k 0).setIfInBounds 0 (.int .u32 (s.rep k : Int)) = repC (s.raise 0 k) := by
  have k1 : k = 0 ∨ k = 1 ∨ k = 2 ∨ k = 3 := by omega
  rcases k1 with rfl | rfl | rfl | rfl <;> rfl
theorem shf_at (s : Ps) {k h : Nat} (hh : h + 1 ≤ k) : shf s k (h + 1) h = s.rep h := if_neg (by omega)
theorem shC_cell {w : World} {q : Nat} {T : TypeId} {s : Ps} {k h t : Nat} (hb : Blk w q T (shC s k h)) (ht : t < 4) : w.cell? ⟨q, t, none⟩ = some (.int .u32 (shf s k h t : Int)) := by
  match t, ht with
  | 0, _ => exact hb.cell 0
  | 1, _ => exact hb.cell 1
  | 2, _ => exact hb.cell 2
  | 3, _ => exact hb.cell 3
end
end Go.Proofs.YtoencondpbkomaaGreat
