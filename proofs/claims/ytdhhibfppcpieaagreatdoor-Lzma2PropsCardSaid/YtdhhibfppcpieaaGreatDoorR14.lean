/-
  LwMem, PkSt, PkRow, LwMid: put together.
-/
import Derived.Test.YtdhhibfppcpieaaGreatDoorR09
import Derived.Test.YtdhhibfppcpieaaGreatDoorR08
import Derived.Test.YtdhhibfppcpieaaGreatDoorR13
import Derived.Test.YtdhhibfppcpieaaGreatDoorR02
import Derived.Deep.Cut
import Derived.Deep.RegionHeld3
set_option linter.unusedVariables false
set_option linter.unusedSimpArgs false
/-
  The program's decoder of LZMA in memory: its numbers, its probabilities, its window, its decoder of ranges.
-/
namespace Go.Proofs.YtdhhibfppcpieaaGreatDoor
open Go.RowKit

/-- where the number k of its fields lies, all probabilities left out -/
def fat (k : Nat) : Nat := if k < 15 then k else k + 1847
theorem fat_sg {a k : Nat} (h : a < 1847) : fat k ≠ 15 + sg a := by
  have := sg_lt h
  unfold fat
  split <;> omega
theorem fat_inj {j k : Nat} (h : fat j = fat k) : j = k := by
  unfold fat at h
  repeat' split at h
  all_goals omega

/-- Block g is a decoder: its fields, and the probabilities in it. -/
def LzAt (w : World) (g : Nat) (fs : List Value) (ps : List Nat) : Prop :=
  ∃ cs : Array Value, Blk w g 145 cs ∧ cs.size = 1866 ∧ fs.length = 19 ∧ (∀ k, k < 19 → cs[fat k]? = fs[k]?) ∧ ∀ a, a < 1847 → cs[15 + sg a]? = some (.int .u16 ((ps.getD a 0 : Nat) : Int))

section
variable {w w' : World} {g : Nat} {fs : List Value} {ps : List Nat}
theorem LzAt.lt (h : LzAt w g fs ps) : g < w.heap.size := by
  obtain ⟨cs, hB, _⟩ := h
  exact hB.lt
theorem LzAt.only {S : Nat → Prop} (h : LzAt w g fs ps) (hO : Only S w w') (hg : ¬ S g) : LzAt w' g fs ps := by
  obtain ⟨cs, hB, r⟩ := h
  exact ⟨cs, hB.only hO hg, r⟩
theorem LzAt.cell (h : LzAt w g fs ps) (k : Nat) (hk : k < 19) : w.cell? ⟨g, fat k, none⟩ = fs[k]? := by
  obtain ⟨cs, hB, _, _, h1, _⟩ := h
  rw [hB.cell, h1 k hk]
theorem LzAt.free (h : LzAt w g fs ps) (i : Nat) : w.frozen? ⟨g, i, none⟩ = false := by
  obtain ⟨cs, hB, _⟩ := h
  exact hB.free i
theorem LzAt.chance (h : LzAt w g fs ps) {a : Nat} (ha : a < 1847) : w.cell? ⟨g, 15 + sg a, none⟩ = some (.int .u16 ((ps.getD a 0 : Nat) : Int)) := by
  obtain ⟨cs, hB, _, _, _, h2⟩ := h
  rw [hB.cell, h2 a ha]
theorem LzAt.put (h : LzAt w g fs ps) (k : Nat) (hk : k < 19) (v : Value) : LzAt (w.setCell ⟨g, fat k, none⟩ v) g (fs.set k v) ps := by
  obtain ⟨cs, hB, hs, hl, h1, h2⟩ := h
  have hf : fat k < 1866 := by unfold fat; split <;> omega
  refine ⟨_, hB.put (fat k) v, by simp [hs], by simp [hl], fun j hj => ?_, fun a ha => ?_⟩
  · by_cases hjk : j = k
    · subst hjk
      rw [Array.getElem?_setIfInBounds, List.getElem?_set]
      simp [hs, hf, hl, hj]
    · rw [Array.getElem?_setIfInBounds_ne (fun e => hjk (fat_inj e.symm)), List.getElem?_set_ne (fun e => hjk e.symm)]
      exact h1 j hj
  · rw [Array.getElem?_setIfInBounds_ne (fat_sg ha)]
    exact h2 a ha
theorem LzAt.prob (h : LzAt w g fs ps) {a : Nat} (ha : a < 1847) (hl : 1847 ≤ ps.length) (q : Nat) : LzAt (w.setCell ⟨g, 15 + sg a, none⟩ (.int .u16 (q : Int))) g fs (ps.set a q) := by
  obtain ⟨cs, hB, hs, hfl, h1, h2⟩ := h
  have hf := sg_lt ha
  refine ⟨_, hB.put (15 + sg a) _, by simp [hs], hfl, fun j hj => ?_, fun b hb => ?_⟩
  · rw [Array.getElem?_setIfInBounds_ne (fat_sg ha).symm]
    exact h1 j hj
  · by_cases hab : a = b
    · subst hab
      rw [Array.getElem?_setIfInBounds]
      simp only [List.getD, List.getElem?_set]
      simp [hs, show 15 + sg a < 1866 by omega, show a < ps.length by omega]
    · rw [Array.getElem?_setIfInBounds_ne (fun e => hab (sg_inj ha hb (by omega))), h2 b hb]
      simp only [List.getD, List.getElem?_set_ne hab]
theorem LzAt.same {ps' : List Nat} (h : LzAt w g fs ps) (he : ∀ a, a < 1847 → ps'.getD a 0 = ps.getD a 0) : LzAt w g fs ps' := by
  obtain ⟨cs, hB, hs, hfl, h1, h2⟩ := h
  exact ⟨cs, hB, hs, hfl, h1, fun a ha => by rw [he a ha]; exact h2 a ha⟩
end

/-- what stays where it is: the decoder, the literals' probabilities (so many), window, meter, the decoder of ranges, its feed, its bytes; what the meter gave; the window's size -/
structure Kon where
  g : Nat
  lb : Nat
  nl : Nat
  wg : Nat
  m : Nat
  dg : Nat
  f : Nat
  lo : Nat
  bs : List UInt8
  room : Int
  sz : Nat
def Kon.Bk (K : Kon) : Nat → Prop := fun i => i = K.g ∨ i = K.lb
def Kon.ad (K : Kon) (a : Nat) : Nat × Nat := if a < 1847 then (K.g, 15 + sg a) else (K.lb, a - 1847)
def Rk (K : Kon) (fs : List Value) (w : World) (ps : List Nat) : Prop := LzAt w K.g fs ps ∧ Row w K.lb (ps.drop 1847) K.nl ∧ ps.length = 1847 + K.nl

theorem Kon.prb (K : Kon) (fs : List Value) (hn : K.g ≠ K.lb) : Prb (Rk K fs) K.Bk K.ad (1847 + K.nl) where
  blk {a} _ := by unfold Kon.ad Kon.Bk; split <;> simp
  cell {w ps a} h ha := by
    unfold Kon.ad
    split
    · rename_i h1
      exact h.1.chance h1
    · rename_i h1
      have hlen := h.2.2
      have hi : a - 1847 < (ps.drop 1847).length := by rw [List.length_drop]; omega
      have := h.2.1.cell hi
      dsimp only
      rw [this]
      simp only [List.getD, List.getElem?_drop]
      rw [show 1847 + (a - 1847) = a by omega]
  free {w ps a} h ha := by
    unfold Kon.ad
    split
    · exact h.1.free _
    · exact h.2.1.free _
  put {w ps a} h ha q := by
    have hlen := h.2.2
    unfold Kon.ad
    split
    · rename_i h1
      dsimp only
      refine ⟨h.1.prob h1 (by omega) q, ?_, by rw [List.length_set]; exact hlen⟩
      rw [List.drop_set_of_lt h1]
      exact h.2.1.only ((Only.refl (fun j => j = K.g) w).setCell (p := ⟨K.g, _, none⟩) (.inl rfl) _) (fun e => hn e.symm)
    · rename_i h1
      dsimp only
      refine ⟨(h.1.only ((Only.refl (fun j => j = K.lb) w).setCell (p := ⟨K.lb, _, none⟩) (.inl rfl) _) hn).same (fun b hb => ?_), ?_, by rw [List.length_set]; exact hlen⟩
      · simp only [List.getD]
        rw [List.getElem?_set_ne (by omega)]
      · have := h.2.1.put (a - 1847) q
        have e : (ps.set a q).drop 1847 = (ps.drop 1847).set (a - 1847) q := by
          rw [List.drop_set, if_neg (by omega)]
        rw [e]
        exact this
  only {w w' ps S} h hO hS := ⟨h.1.only hO (hS _ (.inl rfl)), h.2.1.only hO (hS _ (.inr rfl)), h.2.2⟩
  len h := h.2.2
  old {w ps i} h hi := by
    rcases hi with rfl | rfl
    · exact h.1.lt
    · exact h.2.1.lt

/-- its fields -/
def lwFs (K : Kon) (z : Lzs) (left : Nat) : List Value :=
  [.int .i64 (z.lc : Int), .int .i64 (z.lp : Int), .int .i64 (z.pb : Int), .int .i64 (z.dict : Int), .iface 55 (.pointer (some ⟨K.f, 0, none⟩)), .pointer (some ⟨K.dg, 0, none⟩), .pointer (some ⟨K.wg, 0, none⟩), .pointer (some ⟨K.m, 0, none⟩), .int .i64 K.room,
    .int .i64 (z.out.length : Int), .int .i64 (z.st : Int), .int .u32 (z.r0 : Int), .int .u32 (z.r1 : Int), .int .u32 (z.r2 : Int), .int .u32 (z.r3 : Int), .slice (some ⟨K.lb, 0, none⟩) K.nl K.nl, .int .i64 (left : Int), .bool z.ended, .bool z.bad]

/-- what lies apart -/
structure Apart (K : Kon) (Gw : Nat → Prop) : Prop where
  gl : K.g < K.lo
  ll : K.lb < K.lo
  ml : K.m < K.lo
  gn : K.g ≠ K.lb
  mg : K.m ≠ K.g
  mb : K.m ≠ K.lb
  wd : ∀ i, Gw i → i ≠ K.g ∧ i ≠ K.lb ∧ i ≠ K.m ∧ (i < K.lo ∨ K.dg < i)
theorem Apart.b0 {K : Kon} {Gw : Nat → Prop} (h : Apart K Gw) : ∀ i, K.Bk i → i < K.lo ∨ K.dg < i := by
  rintro i (rfl | rfl)
  · exact .inl h.gl
  · exact .inl h.ll

/-- The decoder, whole. -/
structure Lw (K : Kon) (w : World) (Gw : Nat → Prop) (z : Lzs) (t : Pm Dc) (left : Nat) : Prop where
  mch : Mch (Rk K (lwFs K z left)) K.dg K.f K.lo K.bs (1847 + K.nl) w t
  win : Pwin w K.wg Gw K.m ⟨K.sz, z.out, false⟩
  ap : Apart K Gw
/-- what a call turns that leaves the window alone -/
def Kon.own (K : Kon) : Nat → Prop := owns K.f K.dg K.Bk
def MidPost (K : Kon) (w : World) (Gw : Nat → Prop) (v : Value) (z : Lzs) (t : Pm Dc) (left : Nat) (e : Ending) (w' : World) : Prop :=
  e = .returned v ∧ Lw K w' Gw z t left ∧ Only K.own w w'
/-- what a call turns that puts bytes -/
def Kon.all (K : Kon) (Gw : Nat → Prop) : Nat → Prop := fun i => K.own i ∨ Gw i
def PutPost (K : Kon) (w : World) (Gw : Nat → Prop) (v : Value) (z : Lzs) (t : Pm Dc) (left : Nat) (e : Ending) (w' : World) : Prop :=
  e = .returned v ∧ ∃ Gw', Lw K w' Gw' z t left ∧ (∀ i, Gw' i → Gw i ∨ w.heap.size ≤ i) ∧ Only (K.all Gw) w w'

section
variable {K : Kon} {w w' : World} {Gw : Nat → Prop} {z : Lzs} {t : Pm Dc} {left : Nat}
theorem Lw.dec (h : Lw K w Gw z t left) : LzAt w K.g (lwFs K z left) t.ps := h.mch.row.1
theorem Apart.own (h : Apart K Gw) (hp : K.lo ≤ K.f ∧ K.f < K.dg) {i : Nat} (hi : Gw i) : ¬ K.own i := by
  have := h.wd i hi
  rintro (e | e | e | e) <;> omega
theorem Mch.prb (_ : Mch (Rk K (lwFs K z left)) K.dg K.f K.lo K.bs (1847 + K.nl) w t) (hn : K.g ≠ K.lb) : Prb (Rk K (lwFs K z left)) K.Bk K.ad (1847 + K.nl) := K.prb _ hn
theorem Lw.drewN (h : Lw K w Gw z t left) (n : Nat) : Lw K (w.drewN n) Gw z t left :=
  ⟨⟨h.mch.pd.drewN n, (K.prb _ h.ap.gn).only h.mch.row ((Only.refl (fun _ => False) w).drewN n) (fun _ _ h => h), h.mch.ok⟩, h.win.only ((Only.refl (fun _ => False) w).drewN n) (fun _ _ h => h), h.ap⟩
/-- a call of the decoder of ranges -/
theorem Lw.bits {v : Value} {t' : Pm Dc} {e : Ending} (h : Lw K w Gw z t left) (hp : MPost (Rk K (lwFs K z left)) K.Bk K.dg K.f K.lo K.bs (1847 + K.nl) w v t' e w') : MidPost K w Gw v z t' left e w' :=
  ⟨hp.1, ⟨hp.2.1, h.win.only hp.2.2 (fun _ hi => h.ap.own h.mch.pd.lo hi), h.ap⟩, hp.2.2⟩
/-- a field is stored -/
theorem Lw.put (h : Lw K w Gw z t left) (k : Nat) (hk : k < 19) (v : Value) {z' : Lzs} {left' : Nat} (hz : (lwFs K z left).set k v = lwFs K z' left') (ho : z'.out = z.out) : Lw K (w.setCell ⟨K.g, fat k, none⟩ v) Gw z' t left' := by
  have hO := (Only.refl (fun j => j = K.g) w).setCell (p := ⟨K.g, fat k, none⟩) (.inl rfl) v
  have hlo := h.mch.pd.lo
  refine ⟨⟨h.mch.pd.only hO (fun i hi => .inl (hi ▸ h.ap.gl)), ⟨?_, h.mch.row.2.1.only hO (fun e => h.ap.gn e.symm), h.mch.row.2.2⟩, h.mch.ok⟩, ?_, h.ap⟩
  · have := h.dec.put k hk v
    rw [hz] at this
    exact this
  · rw [ho]
    exact h.win.only hO (fun i hi e => (h.ap.wd i hi).1 e)
theorem MidPost.trans {w1 : World} {v : Value} {z' : Lzs} {t' : Pm Dc} {left' : Nat} {e : Ending} (h : Only K.own w w1) (hp : MidPost K w1 Gw v z' t' left' e w') : MidPost K w Gw v z' t' left' e w' := ⟨hp.1, hp.2.1, h.trans hp.2.2⟩
end
end Go.Proofs.YtdhhibfppcpieaaGreatDoor

/-
  The program's states: behind each packet.
-/
namespace Go.Proofs.YtdhhibfppcpieaaGreatDoor
open Go.RowKit

end Go.Proofs.YtdhhibfppcpieaaGreatDoor

/-
  The program's probabilities of packets: those of a literal, and of a distance's slot.
-/
namespace Go.Proofs.YtdhhibfppcpieaaGreatDoor
open Go.RowKit

end Go.Proofs.YtdhhibfppcpieaaGreatDoor

/-
  The program's decoder of LZMA: its small calls: the place's bits, which packet, which elder distance.
-/
namespace Go.Proofs.YtdhhibfppcpieaaGreatDoor
open Go.RowKit

/-! ### a machine that is dead changes nothing; what is wanted of a decoder doesn't matter -/
theorem set_self (ps : List Nat) (a : Nat) : ps.set a (ps.getD a 0) = ps := by
  by_cases h : a < ps.length
  · exact set_same_get ps a h
  · exact List.set_eq_of_length_le (by omega)
theorem bitP_none {t : Pm Dc} {a : Nat} {w : Int} (h : t.x = none) : bitP decM t a w = (0, t) := by
  show ((bitD t.x (t.ps.getD a 0)).1, (⟨t.ps.set a (bitD t.x (t.ps.getD a 0)).2.1, (bitD t.x (t.ps.getD a 0)).2.2⟩ : Pm Dc)) = _
  rw [h]
  show (0, (⟨t.ps.set a (t.ps.getD a 0), none⟩ : Pm Dc)) = _
  rw [set_self, ← h]
theorem treeG_none {t : Pm Dc} {a n : Nat} {v : Int} (h : t.x = none) : ∀ j, (treeG decM t a n v j).t = t
  | 0 => rfl
  | j + 1 => by
    show (bitP decM (treeG decM t a n v j).t _ _).2 = t
    rw [treeG_none h j, bitP_none h]
theorem revG_none {t : Pm Dc} {a : Nat} {v : Int} (h : t.x = none) : ∀ j, (revG decM t a v j).t = t
  | 0 => rfl
  | j + 1 => by
    show (bitP decM (revG decM t a v j).t _ _).2 = t
    rw [revG_none h j, bitP_none h]
theorem treeG_dec {t : Pm Dc} {a n : Nat} (v v' : Int) : ∀ j, treeG decM t a n v j = treeG decM t a n v' j
  | 0 => rfl
  | j + 1 => by
    show tgStep decM a j _ (treeG decM t a n v j) = tgStep decM a j _ (treeG decM t a n v' j)
    rw [treeG_dec v v' j]
    rfl
theorem revG_dec {t : Pm Dc} {a : Nat} (v v' : Int) : ∀ j, revG decM t a v j = revG decM t a v' j
  | 0 => rfl
  | j + 1 => by
    show tgStep decM a j _ (revG decM t a v j) = tgStep decM a j _ (revG decM t a v' j)
    rw [revG_dec v v' j]
    rfl
/-! ### where a probability lies -/
section
variable {K : Kon} {w w' : World} {Gw : Nat → Prop} {z : Lzs} {t : Pm Dc} {left : Nat}
theorem Kon.lay (K : Kon) : Lay K.ad K.g 15 := fun a ha => by unfold Kon.ad; rw [if_pos ha]
theorem Kon.ad_lit {a i : Nat} (h : 1847 ≤ a) (hi : i = a - 1847) : K.ad a = (K.lb, i) := by
  unfold Kon.ad
  rw [if_neg (by omega), hi]

theorem Lw.bit (h : Lw K w Gw z t left) {a b i : Nat} (k : Int) (hab : K.ad a = (b, i)) (ha : a < 1847 + K.nl) :
    Calls Tryz.prog 128 #[.pointer (some ⟨K.dg, 0, none⟩), .pointer (some ⟨b, i, none⟩)] w (MidPost K w Gw (.int .i64 ((bitP decM t a k).1 : Int)) z (bitP decM t a k).2 left) :=
  (lw_bit (K.prb _ h.ap.gn) h.ap.b0 hab ha h.mch).mono fun _ _ hp => h.bits hp
/-- a value that is told, by a machine that may be dead then -/
def Alive (t : Pm Dc) (v u : Nat) : Nat := if t.x = none then v else u
def TreePost (K : Kon) (w : World) (Gw : Nat → Prop) (z : Lzs) (r : Nat × Pm Dc) (left : Nat) (e : Ending) (w' : World) : Prop := MidPost K w Gw (.int .i64 (Alive r.2 0 r.1 : Nat)) z r.2 left e w'
/-- what its fields hold -/
structure Lf (K : Kon) (w : World) (z : Lzs) (left : Nat) : Prop where
  c0 : w.cell? ⟨K.g, 0, none⟩ = some (.int .i64 (z.lc : Int))
  c1 : w.cell? ⟨K.g, 1, none⟩ = some (.int .i64 (z.lp : Int))
  c2 : w.cell? ⟨K.g, 2, none⟩ = some (.int .i64 (z.pb : Int))
  c4 : w.cell? ⟨K.g, 4, none⟩ = some (.iface 55 (.pointer (some ⟨K.f, 0, none⟩)))
  c5 : w.cell? ⟨K.g, 5, none⟩ = some (.pointer (some ⟨K.dg, 0, none⟩))
  c6 : w.cell? ⟨K.g, 6, none⟩ = some (.pointer (some ⟨K.wg, 0, none⟩))
  c7 : w.cell? ⟨K.g, 7, none⟩ = some (.pointer (some ⟨K.m, 0, none⟩))
  c8 : w.cell? ⟨K.g, 8, none⟩ = some (.int .i64 K.room)
  c9 : w.cell? ⟨K.g, 9, none⟩ = some (.int .i64 (z.out.length : Int))
  c10 : w.cell? ⟨K.g, 10, none⟩ = some (.int .i64 (z.st : Int))
  c11 : w.cell? ⟨K.g, 11, none⟩ = some (.int .u32 (z.r0 : Int))
  c12 : w.cell? ⟨K.g, 12, none⟩ = some (.int .u32 (z.r1 : Int))
  c13 : w.cell? ⟨K.g, 13, none⟩ = some (.int .u32 (z.r2 : Int))
  c14 : w.cell? ⟨K.g, 14, none⟩ = some (.int .u32 (z.r3 : Int))
  lits : w.cell? ⟨K.g, 1862, none⟩ = some (.slice (some ⟨K.lb, 0, none⟩) K.nl K.nl)
  left : w.cell? ⟨K.g, 1863, none⟩ = some (.int .i64 (left : Int))
  ended : w.cell? ⟨K.g, 1864, none⟩ = some (.bool z.ended)
  bad : w.cell? ⟨K.g, 1865, none⟩ = some (.bool z.bad)
  fz : ∀ i, w.frozen? ⟨K.g, i, none⟩ = false
theorem Lw.f (h : Lw K w Gw z t left) : Lf K w z left :=
  ⟨h.dec.cell 0 (by decide), h.dec.cell 1 (by decide), h.dec.cell 2 (by decide), h.dec.cell 4 (by decide), h.dec.cell 5 (by decide), h.dec.cell 6 (by decide), h.dec.cell 7 (by decide), h.dec.cell 8 (by decide), h.dec.cell 9 (by decide), h.dec.cell 10 (by decide),
    h.dec.cell 11 (by decide), h.dec.cell 12 (by decide), h.dec.cell 13 (by decide), h.dec.cell 14 (by decide), h.dec.cell 15 (by decide), h.dec.cell 16 (by decide), h.dec.cell 17 (by decide), h.dec.cell 18 (by decide), fun i => h.dec.free i⟩

def ElderPost (K : Kon) (w : World) (Gw : Nat → Prop) (z : Lzs) (t : Pm Dc) (left : Nat) (e : Ending) (w' : World) : Prop :=
  ((bitP decM t (216 + z.st) 0).1 = 0 ∧ MidPost K w Gw (.int .i64 ((1 : Nat) : Int)) z (bitP decM t (216 + z.st) 0).2 left e w') ∨
  ((bitP decM t (216 + z.st) 0).1 ≠ 0 ∧ MidPost K w Gw (.int .i64 ((2 + (bitP decM (bitP decM t (216 + z.st) 0).2 (228 + z.st) 0).1 : Nat) : Int)) z (bitP decM (bitP decM t (216 + z.st) 0).2 (228 + z.st) 0).2 left e w')

end
end Go.Proofs.YtdhhibfppcpieaaGreatDoor
