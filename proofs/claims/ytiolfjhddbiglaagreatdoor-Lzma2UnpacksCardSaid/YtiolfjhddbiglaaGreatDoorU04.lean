/-
  LwMem, PkSt, PkRow, LwMid, LwSet, LwReset, WnEmp, LqMem, LqRead, ZqAnew, LwLen, LwDist: put together.
-/
import Derived.Test.YtiolfjhddbiglaaGreatDoorU03
import Derived.Test.YtiolfjhddbiglaaGreatDoorU02
import Derived.Test.YtiolfjhddbiglaaGreatDoorU01
import Derived.Deep.Cut
import Derived.Deep.RegionHeld3
import Derived.BigQuiet
set_option linter.unusedVariables false
set_option linter.unusedSimpArgs false
/-
  The program's decoder of LZMA in memory: its numbers, its probabilities, its window, its decoder of ranges.
-/
namespace Go.Proofs.YtiolfjhddbiglaaGreatDoor
open Go.RowKit

/-- where the number k of its fields lies, all probabilities left out -/
def fat (k : Nat) : Nat := if k < 15 then k else k + 1847
theorem fat_sg {a k : Nat} (h : a < 1847) : fat k ≠ 15 + sg a := by
  have := sg_lt h
  unfold fat
  split <;> omega
theorem fat_inj {j k : Nat} (h : fat j = fat k) : j = k := by
  unfold fat at h
  repeat' split at h
  all_goals omega

/-- Block g is a decoder: its fields, and the probabilities in it. -/
def LzAt (w : World) (g : Nat) (fs : List Value) (ps : List Nat) : Prop :=
  ∃ cs : Array Value, Blk w g 150 cs ∧ cs.size = 1866 ∧ fs.length = 19 ∧ (∀ k, k < 19 → cs[fat k]? = fs[k]?) ∧ ∀ a, a < 1847 → cs[15 + sg a]? = some (.int .u16 ((ps.getD a 0 : Nat) : Int))

section
variable {w w' : World} {g : Nat} {fs : List Value} {ps : List Nat}
theorem LzAt.lt (h : LzAt w g fs ps) : g < w.heap.size := by
  obtain ⟨cs, hB, _⟩ := h
  exact hB.lt
theorem LzAt.only {S : Nat → Prop} (h : LzAt w g fs ps) (hO : Only S w w') (hg : ¬ S g) : LzAt w' g fs ps := by
  obtain ⟨cs, hB, r⟩ := h
  exact ⟨cs, hB.only hO hg, r⟩
theorem LzAt.cell (h : LzAt w g fs ps) (k : Nat) (hk : k < 19) : w.cell? ⟨g, fat k, none⟩ = fs[k]? := by
  obtain ⟨cs, hB, _, _, h1, _⟩ := h
  rw [hB.cell, h1 k hk]
theorem LzAt.free (h : LzAt w g fs ps) (i : Nat) : w.frozen? ⟨g, i, none⟩ = false := by
  obtain ⟨cs, hB, _⟩ := h
  exact hB.free i
theorem LzAt.chance (h : LzAt w g fs ps) {a : Nat} (ha : a < 1847) : w.cell? ⟨g, 15 + sg a, none⟩ = some (.int .u16 ((ps.getD a 0 : Nat) : Int)) := by
  obtain ⟨cs, hB, _, _, _, h2⟩ := h
  rw [hB.cell, h2 a ha]
theorem LzAt.put (h : LzAt w g fs ps) (k : Nat) (hk : k < 19) (v : Value) : LzAt (w.setCell ⟨g, fat k, none⟩ v) g (fs.set k v) ps := by
  obtain ⟨cs, hB, hs, hl, h1, h2⟩ := h
  have hf : fat k < 1866 := by unfold fat; split <;> omega
  refine ⟨_, hB.put (fat k) v, by simp [hs], by simp [hl], fun j hj => ?_, fun a ha => ?_⟩
  · by_cases hjk : j = k
    · subst hjk
      rw [Array.getElem?_setIfInBounds, List.getElem?_set]
      simp [hs, hf, hl, hj]
    · rw [Array.getElem?_setIfInBounds_ne (fun e => hjk (fat_inj e.symm)), List.getElem?_set_ne (fun e => hjk e.symm)]
      exact h1 j hj
  · rw [Array.getElem?_setIfInBounds_ne (fat_sg ha)]
    exact h2 a ha
theorem LzAt.prob (h : LzAt w g fs ps) {a : Nat} (ha : a < 1847) (hl : 1847 ≤ ps.length) (q : Nat) : LzAt (w.setCell ⟨g, 15 + sg a, none⟩ (.int .u16 (q : Int))) g fs (ps.set a q) := by
  obtain ⟨cs, hB, hs, hfl, h1, h2⟩ := h
  have hf := sg_lt ha
  refine ⟨_, hB.put (15 + sg a) _, by simp [hs], hfl, fun j hj => ?_, fun b hb => ?_⟩
  · rw [Array.getElem?_setIfInBounds_ne (fat_sg ha).symm]
    exact h1 j hj
  · by_cases hab : a = b
    · subst hab
      rw [Array.getElem?_setIfInBounds]
      simp only [List.getD, List.getElem?_set]
      simp [hs, show 15 + sg a < 1866 by omega, show a < ps.length by omega]
    · rw [Array.getElem?_setIfInBounds_ne (fun e => hab (sg_inj ha hb (by omega))), h2 b hb]
      simp only [List.getD, List.getElem?_set_ne hab]
theorem LzAt.same {ps' : List Nat} (h : LzAt w g fs ps) (he : ∀ a, a < 1847 → ps'.getD a 0 = ps.getD a 0) : LzAt w g fs ps' := by
  obtain ⟨cs, hB, hs, hfl, h1, h2⟩ := h
  exact ⟨cs, hB, hs, hfl, h1, fun a ha => by rw [he a ha]; exact h2 a ha⟩
end

/-- a row of which the first numbers are told -/
def Rowx (w : World) (b : Nat) (ps : List Nat) (c : Nat) : Prop := ∃ rs, Row w b (ps ++ rs) c ∧ (ps ++ rs).length = c
section
variable {w w' : World} {b c i : Nat} {ps : List Nat}
theorem Rowx.cell (h : Rowx w b ps c) (hi : i < ps.length) : w.cell? ⟨b, i, none⟩ = some (.int .u16 ((ps.getD i 0 : Nat) : Int)) := by
  obtain ⟨rs, h, _⟩ := h
  rw [h.cell (by rw [List.length_append]; omega)]
  simp only [List.getD, List.getElem?_append_left hi]
theorem Rowx.free (h : Rowx w b ps c) (i : Nat) : w.frozen? ⟨b, i, none⟩ = false := by
  obtain ⟨rs, h, _⟩ := h
  exact h.free i
theorem Rowx.put (h : Rowx w b ps c) (hi : i < ps.length) (q : Nat) : Rowx (w.setCell ⟨b, i, none⟩ (.int .u16 (q : Int))) b (ps.set i q) c := by
  obtain ⟨rs, h, hl⟩ := h
  refine ⟨rs, ?_, by simpa using hl⟩
  have := h.put i q
  rw [List.set_append_left _ _ hi] at this
  exact this
theorem Rowx.only {S : Nat → Prop} (h : Rowx w b ps c) (hb : Only S w w') (hS : ¬ S b) : Rowx w' b ps c := by
  obtain ⟨rs, h, hl⟩ := h
  exact ⟨rs, h.only hb hS, hl⟩
theorem Rowx.lt (h : Rowx w b ps c) : b < w.heap.size := by
  obtain ⟨rs, h, _⟩ := h
  exact h.lt
theorem Rowx.most (h : Rowx w b ps c) : ps.length ≤ c := by
  obtain ⟨rs, h, hl⟩ := h
  rw [List.length_append] at hl
  omega
end

/-- what stays where it is: the decoder, the literals' probabilities (so many), window, meter, the decoder of ranges, its feed, its bytes; what the meter gave; the window's size -/
structure Kon where
  g : Nat
  lb : Nat
  nl : Nat
  wg : Nat
  m : Nat
  dg : Nat
  S : Sc
  bs : List UInt8
  room : Int
  sz : Nat
  nc : Nat
  sd : Int
def Kon.Bk (K : Kon) : Nat → Prop := fun i => i = K.g ∨ i = K.lb
def Kon.ad (K : Kon) (a : Nat) : Nat × Nat := if a < 1847 then (K.g, 15 + sg a) else (K.lb, a - 1847)
def Rk (K : Kon) (fs : List Value) (w : World) (ps : List Nat) : Prop := LzAt w K.g fs ps ∧ Rowx w K.lb (ps.drop 1847) K.nc ∧ ps.length = 1847 + K.nl

theorem Kon.prb (K : Kon) (fs : List Value) (hn : K.g ≠ K.lb) : Prb (Rk K fs) K.Bk K.ad (1847 + K.nl) where
  blk {a} _ := by unfold Kon.ad Kon.Bk; split <;> simp
  cell {w ps a} h ha := by
    unfold Kon.ad
    split
    · rename_i h1
      exact h.1.chance h1
    · rename_i h1
      have hlen := h.2.2
      have hi : a - 1847 < (ps.drop 1847).length := by rw [List.length_drop]; omega
      have := h.2.1.cell hi
      dsimp only
      rw [this]
      simp only [List.getD, List.getElem?_drop]
      rw [show 1847 + (a - 1847) = a by omega]
  free {w ps a} h ha := by
    unfold Kon.ad
    split
    · exact h.1.free _
    · exact h.2.1.free _
  put {w ps a} h ha q := by
    have hlen := h.2.2
    unfold Kon.ad
    split
    · rename_i h1
      dsimp only
      refine ⟨h.1.prob h1 (by omega) q, ?_, by rw [List.length_set]; exact hlen⟩
      rw [List.drop_set_of_lt h1]
      exact h.2.1.only ((Only.refl (fun j => j = K.g) w).setCell (p := ⟨K.g, _, none⟩) (.inl rfl) _) (fun e => hn e.symm)
    · rename_i h1
      dsimp only
      refine ⟨(h.1.only ((Only.refl (fun j => j = K.lb) w).setCell (p := ⟨K.lb, _, none⟩) (.inl rfl) _) hn).same (fun b hb => ?_), ?_, by rw [List.length_set]; exact hlen⟩
      · simp only [List.getD]
        rw [List.getElem?_set_ne (by omega)]
      · have := h.2.1.put (i := a - 1847) (by rw [List.length_drop]; omega) q
        have e : (ps.set a q).drop 1847 = (ps.drop 1847).set (a - 1847) q := by
          rw [List.drop_set, if_neg (by omega)]
        rw [e]
        exact this
  only {w w' ps S} h hO hS := ⟨h.1.only hO (hS _ (.inl rfl)), h.2.1.only hO (hS _ (.inr rfl)), h.2.2⟩
  len h := h.2.2
  old {w ps i} h hi := by
    rcases hi with rfl | rfl
    · exact h.1.lt
    · exact h.2.1.lt

/-- its fields -/
def lwFs (K : Kon) (z : Lzs) (left : Nat) : List Value :=
  [.int .i64 (z.lc : Int), .int .i64 (z.lp : Int), .int .i64 (z.pb : Int), .int .i64 K.sd, .iface 103 (.pointer (some ⟨K.S.f, 0, none⟩)), .pointer (some ⟨K.dg, 0, none⟩), .pointer (some ⟨K.wg, 0, none⟩), .pointer (some ⟨K.m, 0, none⟩), .int .i64 K.room,
    .int .i64 (z.out.length : Int), .int .i64 (z.st : Int), .int .u32 (z.r0 : Int), .int .u32 (z.r1 : Int), .int .u32 (z.r2 : Int), .int .u32 (z.r3 : Int), .slice (some ⟨K.lb, 0, none⟩) K.nc K.nc, .int .i64 (left : Int), .bool z.ended, .bool z.bad]

/-- what lies apart -/
structure Apart (K : Kon) (Gw : Nat → Prop) : Prop where
  gl : ¬ K.S.hold K.g ∧ K.g ≠ K.dg
  ll : ¬ K.S.hold K.lb ∧ K.lb ≠ K.dg
  ml : ¬ K.S.hold K.m ∧ K.m < K.dg
  gn : K.g ≠ K.lb
  mg : K.m ≠ K.g
  mb : K.m ≠ K.lb
  nc : K.nl ≤ K.nc ∧ K.nc ≤ 1000000
  wd : ∀ i, Gw i → i ≠ K.g ∧ i ≠ K.lb ∧ i ≠ K.m ∧ ¬ K.S.hold i ∧ i ≠ K.dg
theorem Apart.b0 {K : Kon} {Gw : Nat → Prop} (h : Apart K Gw) : ∀ i, K.Bk i → ¬ K.S.hold i ∧ i ≠ K.dg := by
  rintro i (rfl | rfl)
  · exact h.gl
  · exact h.ll

/-- The decoder, whole. -/
structure Lw (K : Kon) (w : World) (Gw : Nat → Prop) (z : Lzs) (t : Pm Dc) (left : Nat) : Prop where
  mch : Mch (Rk K (lwFs K z left)) K.dg K.S K.bs (1847 + K.nl) w t
  win : Pwin w K.wg Gw K.m ⟨K.sz, z.out, false⟩
  ap : Apart K Gw
/-- what a call turns that leaves the window alone -/
def Kon.own (K : Kon) : Nat → Prop := owns K.S K.dg K.Bk
def MidPost (K : Kon) (w : World) (Gw : Nat → Prop) (v : Value) (z : Lzs) (t : Pm Dc) (left : Nat) (e : Ending) (w' : World) : Prop :=
  e = .returned v ∧ Lw K w' Gw z t left ∧ Only K.own w w'
/-- what a call turns that puts bytes -/
def Kon.all (K : Kon) (Gw : Nat → Prop) : Nat → Prop := fun i => K.own i ∨ Gw i
def PutPost (K : Kon) (w : World) (Gw : Nat → Prop) (v : Value) (z : Lzs) (t : Pm Dc) (left : Nat) (e : Ending) (w' : World) : Prop :=
  e = .returned v ∧ ∃ Gw', Lw K w' Gw' z t left ∧ (∀ i, Gw' i → Gw i ∨ w.heap.size ≤ i) ∧ Only (K.all Gw) w w'

section
variable {K : Kon} {w w' : World} {Gw : Nat → Prop} {z : Lzs} {t : Pm Dc} {left : Nat}
theorem Lw.dec (h : Lw K w Gw z t left) : LzAt w K.g (lwFs K z left) t.ps := h.mch.row.1
theorem Apart.own (h : Apart K Gw) (hS : ScOk K.S) {i : Nat} (hi : Gw i) : ¬ K.own i := by
  obtain ⟨h1, h2, h3, h4, h5⟩ := h.wd i hi
  rintro (e | e | e | e)
  · exact h4 (hS.tf _ e)
  · exact h5 e
  · exact h1 e
  · exact h2 e
theorem Mch.prb (_ : Mch (Rk K (lwFs K z left)) K.dg K.S K.bs (1847 + K.nl) w t) (hn : K.g ≠ K.lb) : Prb (Rk K (lwFs K z left)) K.Bk K.ad (1847 + K.nl) := K.prb _ hn
theorem Lw.drewN (h : Lw K w Gw z t left) (n : Nat) : Lw K (w.drewN n) Gw z t left :=
  ⟨⟨h.mch.sc, h.mch.pd.drewN h.mch.sc n, (K.prb _ h.ap.gn).only h.mch.row ((Only.refl (fun _ => False) w).drewN n) (fun _ _ h => h), h.mch.ok⟩, h.win.only ((Only.refl (fun _ => False) w).drewN n) (fun _ _ h => h), h.ap⟩
/-- a call of the decoder of ranges -/
theorem Lw.bits {v : Value} {t' : Pm Dc} {e : Ending} (h : Lw K w Gw z t left) (hp : MPost (Rk K (lwFs K z left)) K.Bk K.dg K.S K.bs (1847 + K.nl) w v t' e w') : MidPost K w Gw v z t' left e w' :=
  ⟨hp.1, ⟨hp.2.1, h.win.only hp.2.2 (fun _ hi => h.ap.own h.mch.sc hi), h.ap⟩, hp.2.2⟩
/-- a field is stored -/
theorem Lw.put (h : Lw K w Gw z t left) (k : Nat) (hk : k < 19) (v : Value) {z' : Lzs} {left' : Nat} (hz : (lwFs K z left).set k v = lwFs K z' left') (ho : z'.out = z.out) : Lw K (w.setCell ⟨K.g, fat k, none⟩ v) Gw z' t left' := by
  have hO := (Only.refl (fun j => j = K.g) w).setCell (p := ⟨K.g, fat k, none⟩) (.inl rfl) v
  refine ⟨⟨h.mch.sc, h.mch.pd.only h.mch.sc hO (fun i hi => hi ▸ h.ap.gl), ⟨?_, h.mch.row.2.1.only hO (fun e => h.ap.gn e.symm), h.mch.row.2.2⟩, h.mch.ok⟩, ?_, h.ap⟩
  · have := h.dec.put k hk v
    rw [hz] at this
    exact this
  · rw [ho]
    exact h.win.only hO (fun i hi e => (h.ap.wd i hi).1 e)
theorem Only.own_put (h : Only K.own w w') (k : Nat) (v : Value) : Only K.own w (w'.setCell ⟨K.g, fat k, none⟩ v) := h.setCell (p := ⟨K.g, fat k, none⟩) (.inl (.inr (.inr (.inl rfl)))) v
theorem MidPost.trans {w1 : World} {v : Value} {z' : Lzs} {t' : Pm Dc} {left' : Nat} {e : Ending} (h : Only K.own w w1) (hp : MidPost K w1 Gw v z' t' left' e w') : MidPost K w Gw v z' t' left' e w' := ⟨hp.1, hp.2.1, h.trans hp.2.2⟩
end
end Go.Proofs.YtiolfjhddbiglaaGreatDoor

/-
  The program's states: behind each packet.
-/
namespace Go.Proofs.YtiolfjhddbiglaaGreatDoor
open Go.RowKit

set_option maxRecDepth 100000 in
set_option maxHeartbeats 1000000 in
theorem papart_any (st : Nat) (w : World) :
    Calls Tryz.prog 138 #[.int .i64 (st : Int)] w fun e w' => e = .returned (.bool (decide (7 ≤ st))) ∧ w = w' := by
  have hu : decide ((st : Int) ≥ 7) = decide (7 ≤ st) := by rw [Bool.eq_iff_iff]; simp; omega
  have HU := Lib.hid hu
  clear hu
  go_enter Tryz.func138, Tryz.ntmps138
  go_wp2_with fail
  go_ret
  exact ⟨congrArg (fun x => Ending.returned (.bool x)) HU.out, rfl⟩

set_option maxRecDepth 100000 in
set_option maxHeartbeats 1000000 in
theorem pbehind_any (st a b : Nat) (w : World) :
    Calls Tryz.prog 167 #[.int .i64 (st : Int), .int .i64 (a : Int), .int .i64 (b : Int)] w fun e w' => e = .returned (.int .i64 ((aft a b st : Nat) : Int)) ∧ w = w' := by
  have KA := Lib.hid (papart_any st w)
  unfold aft
  by_cases h7 : st < 7
  · have g7 : decide (7 ≤ st) = false := decide_eq_false (by omega)
    rw [g7] at KA
    rw [if_pos h7]
    clear h7 g7
    go_enter Tryz.func167, Tryz.ntmps167
    go_wp2_with fail
    refine KA.out.mono ?_
    rintro e w1 ⟨rfl, rfl⟩
    go_wp2_with fail
    go_ret
    exact ⟨rfl, rfl⟩
  · have g7 : decide (7 ≤ st) = true := decide_eq_true (by omega)
    rw [g7] at KA
    rw [if_neg h7]
    clear h7 g7
    go_enter Tryz.func167, Tryz.ntmps167
    go_wp2_with fail
    refine KA.out.mono ?_
    rintro e w1 ⟨rfl, rfl⟩
    go_wp2_with fail
    go_ret
    exact ⟨rfl, rfl⟩

set_option maxRecDepth 100000 in
set_option maxHeartbeats 1000000 in
theorem pmat_any (st : Nat) (w : World) :
    Calls Tryz.prog 165 #[.int .i64 (st : Int)] w fun e w' => e = .returned (.int .i64 ((aft 7 10 st : Nat) : Int)) ∧ w = w' := by
  have KA := Lib.hid (pbehind_any st 7 10 w)
  go_enter Tryz.func165, Tryz.ntmps165
  go_wp2_with fail
  refine KA.out.mono ?_
  rintro e w1 ⟨rfl, rfl⟩
  go_wp2_with fail
  go_ret
  exact ⟨rfl, rfl⟩

set_option maxRecDepth 100000 in
set_option maxHeartbeats 1000000 in
theorem pag_any (st : Nat) (w : World) :
    Calls Tryz.prog 168 #[.int .i64 (st : Int)] w fun e w' => e = .returned (.int .i64 ((aft 8 11 st : Nat) : Int)) ∧ w = w' := by
  have KA := Lib.hid (pbehind_any st 8 11 w)
  go_enter Tryz.func168, Tryz.ntmps168
  go_wp2_with fail
  refine KA.out.mono ?_
  rintro e w1 ⟨rfl, rfl⟩
  go_wp2_with fail
  go_ret
  exact ⟨rfl, rfl⟩

set_option maxRecDepth 100000 in
set_option maxHeartbeats 1000000 in
theorem psing_any (st : Nat) (w : World) :
    Calls Tryz.prog 123 #[.int .i64 (st : Int)] w fun e w' => e = .returned (.int .i64 ((aft 9 11 st : Nat) : Int)) ∧ w = w' := by
  have KA := Lib.hid (pbehind_any st 9 11 w)
  go_enter Tryz.func123, Tryz.ntmps123
  go_wp2_with fail
  refine KA.out.mono ?_
  rintro e w1 ⟨rfl, rfl⟩
  go_wp2_with fail
  go_ret
  exact ⟨rfl, rfl⟩

set_option maxRecDepth 100000 in
set_option maxHeartbeats 1000000 in
theorem llit7_any (st : Nat) (hs : st ≤ 11) (w : World) :
    Calls Tryz.prog 141 #[.int .i64 (st : Int)] w fun e w' => e = .returned (.int .i64 ((litSt st : Nat) : Int)) ∧ w = w' := by
  unfold litSt
  by_cases h4 : st < 4
  · have g4 : (st : Int) < 4 := by omega
    rw [if_pos h4]
    clear h4 hs
    go_enter Tryz.func141, Tryz.ntmps141
    go_wp2_with fail
    go_ret
    exact ⟨rfl, rfl⟩
  · have g4 : ¬ (st : Int) < 4 := by omega
    rw [if_neg h4]
    by_cases h10 : st < 10
    · have g10 : (st : Int) < 10 := by omega
      rw [if_pos h10]
      have e1 : IntKind.i64.wrap ((st : Int) - 3) = ((st - 3 : Nat) : Int) := by rw [show (st : Int) - 3 = ((st - 3 : Nat) : Int) by omega]; exact IntWalk.i64_in _ (by omega)
      clear h4 h10 hs
      go_enter Tryz.func141, Tryz.ntmps141
      go_wp2_with fail
      go_ret
      exact ⟨rfl, rfl⟩
    · have g10 : ¬ (st : Int) < 10 := by omega
      rw [if_neg h10]
      have e1 : IntKind.i64.wrap ((st : Int) - 6) = ((st - 6 : Nat) : Int) := by rw [show (st : Int) - 6 = ((st - 6 : Nat) : Int) by omega]; exact IntWalk.i64_in _ (by omega)
      clear h4 h10 hs
      go_enter Tryz.func141, Tryz.ntmps141
      go_wp2_with fail
      go_ret
      exact ⟨rfl, rfl⟩
end Go.Proofs.YtiolfjhddbiglaaGreatDoor

/-
  The program's probabilities of packets: those of a literal, and of a distance's slot.
-/
namespace Go.Proofs.YtiolfjhddbiglaaGreatDoor
open Go.RowKit

theorem ofInt_w64 (a : Nat) (h : a < 18446744073709551616) : (BitVec.ofInt 64 (a : Int)).toNat = a := by simp; omega
theorem i64_and_low (n k : Nat) (hn : n < 9223372036854775808) (hk : k ≤ 62) : bits .and .i64 (n : Int) (wrap64 (wrap64 (2 ^ k) - 1)) = ((n % 2 ^ k : Nat) : Int) := by
  have hp : 2 ^ k ≤ 2 ^ 62 := Nat.pow_le_pow_right (by omega) hk
  have h1 : 1 ≤ 2 ^ k := Nat.one_le_two_pow
  have hw : wrap64 (2 ^ k) = ((2 ^ k : Nat) : Int) := by
    rw [cast_pow2]
    generalize 2 ^ k = y at *
    unfold wrap64
    omega
  have hw2 : wrap64 (((2 ^ k : Nat) : Int) - 1) = ((2 ^ k - 1 : Nat) : Int) := by
    generalize 2 ^ k = y at *
    unfold wrap64
    omega
  rw [hw, hw2]
  show IntKind.i64.wrap ((BitVec.ofInt 64 (n : Int) &&& BitVec.ofInt 64 ((2 ^ k - 1 : Nat) : Int)).toNat : Int) = _
  rw [BitVec.toNat_and, ofInt_w64 n (by omega), ofInt_w64 (2 ^ k - 1) (by omega), Nat.and_two_pow_sub_one_eq_mod]
  have := Nat.mod_le n (2 ^ k)
  exact IntWalk.i64_in _ (by omega)

theorem pow_pb {k : Nat} (h : k ≤ 4) : 2 ^ k ≤ 16 := Nat.le_trans (Nat.pow_le_pow_right (by omega) h) (by decide)
theorem mod_pb {n k : Nat} (h : k ≤ 4) : n % 2 ^ k ≤ 15 := by
  have h1 := pow_pb h
  have h2 := Nat.mod_lt n (Nat.two_pow_pos k)
  omega

theorem wrap_id (x : Nat) (h : x < 9223372036854775808) : wrap64 (x : Int) = (x : Int) := by unfold wrap64; omega
theorem shr_nat (x k : Nat) (h : x < 9223372036854775808) : wrap64 (x : Int) / 2 ^ k = ((x / 2 ^ k : Nat) : Int) := by
  rw [wrap_id x h, cast_pow2]
  exact (Int.natCast_ediv x (2 ^ k)).symm
theorem shl_nat (x k y : Nat) (hy : y = x * 2 ^ k) (h : y < 9223372036854775808) : wrap64 ((x : Int) * 2 ^ k) = (y : Int) := by
  rw [cast_pow2, ← Int.natCast_mul, ← hy]
  exact wrap_id y h

theorem row_small {a x nl : Nat} (h : a = 768 * x) (h1 : a + 768 ≤ nl) (h2 : nl ≤ 100000000) : x ≤ 200000 ∧ a ≤ 100000000 := by omega
theorem row_facts {a S b nl P2 last : Nat} (h : a = 768 * (P2 + last)) (h1 : a + 768 ≤ nl) (h2 : nl ≤ 100000000) (hS : S = P2 + last) (hb : b = a + 768) :
    wrap64 ((P2 : Int) + (last : Int)) = (S : Int) ∧ wrap64 (768 * (S : Int)) = (a : Int) ∧ wrap64 ((a : Int) + 768) = (b : Int) ∧ (0 : Int) ≤ (a : Int) ∧ (a : Int) ≤ (b : Int) ∧ (b : Int) ≤ (nl : Int) ∧ ¬ nl = a := by
  have hs := row_small h h1 h2
  refine ⟨?_, ?_, ?_, by omega, by omega, by omega, by omega⟩
  · rw [← Int.natCast_add, ← hS]
    exact wrap_id _ (by omega)
  · rw [show 768 * (S : Int) = (a : Int) by omega]
    exact wrap_id _ (by omega)
  · rw [show (a : Int) + 768 = (b : Int) by omega]
    exact wrap_id _ (by omega)


set_option maxRecDepth 100000 in
set_option maxHeartbeats 2000000 in
theorem pslot_any {g o0 l ml : Nat} (hm : ml = min l 3) (w : World) :
    Calls Tryz.prog 190 #[.pointer (some ⟨g, o0, none⟩), .int .i64 (l : Int)] w fun e w' => e = .returned (.slice (some ⟨g, o0 + 1591 + ml * 64, none⟩) 64 64) ∧ w = w' := by
  by_cases h3 : l ≤ 3
  · obtain rfl : ml = l := by omega
    have g3 : (ml : Int) ≤ 3 := by omega
    have g3' : (ml : Int) < 4 := by omega
    have g0 : (0 : Int) ≤ (ml : Int) := by omega
    have gm : min (ml : Int) 3 = (ml : Int) := by omega
    clear hm h3
    go_enter Tryz.func190, Tryz.ntmps190
    go_wp2_with fail
    go_ret
    exact ⟨rfl, rfl⟩
  · obtain rfl : ml = 3 := by omega
    have g3 : ¬ (l : Int) ≤ 3 := by omega
    have gm : min (l : Int) 3 = 3 := by omega
    clear hm h3
    go_enter Tryz.func190, Tryz.ntmps190
    go_wp2_with fail
    go_ret
    exact ⟨rfl, rfl⟩

set_option maxRecDepth 100000 in
set_option maxHeartbeats 4000000 in
theorem prow_any {b nl lc lp n last a : Nat} {pb d : Int} (hlc : lc ≤ 8) (hlp : lp ≤ 4) (hn : n ≤ 1000000) (hla : last < 256) (ha : a = 768 * (n % 2 ^ lp * 2 ^ lc + last / 2 ^ (8 - lc))) (h1 : a + 768 ≤ nl) (h2 : nl ≤ 100000000) (w : World) :
    Calls Tryz.prog 136 #[.slice (some ⟨b, 0, none⟩) nl nl, .agg #[.int .i64 (lc : Int), .int .i64 (lp : Int), .int .i64 pb, .int .i64 d], .int .i64 (n : Int), .int .u8 (last : Int)] w fun e w' => e = .returned (.slice (some ⟨b, a, none⟩) 768 (nl - a)) ∧ Only (fun _ => False) w w' := by
  have hl4 : min lp 64 = lp := by omega
  have hl8 : min lc 64 = lc := by omega
  have hl88 : min (8 - lc) 64 = 8 - lc := by omega
  obtain ⟨w1, hw1⟩ : ∃ w1, w1 = w.alloc (.cells #[.int .i64 (lc : Int), .int .i64 (lp : Int), .int .i64 pb, .int .i64 d] 40) := ⟨_, rfl⟩
  have hb1 : Only (fun _ => False) w w1 := by rw [hw1]; exact (Only.refl _ w).alloc _
  have HBk : Blk w1 w.heap.size 40 #[.int .i64 (lc : Int), .int .i64 (lp : Int), .int .i64 pb, .int .i64 d] := by rw [hw1]; exact Blk.fresh w _ _
  have c0 : w1.cell? ⟨w.heap.size, 0, none⟩ = some (.int .i64 (lc : Int)) := HBk.cell 0
  have c1 : w1.cell? ⟨w.heap.size, 1, none⟩ = some (.int .i64 (lp : Int)) := HBk.cell 1
  have e0 : IntKind.i64.wrap (8 - (lc : Int)) = ((8 - lc : Nat) : Int) := by rw [show 8 - (lc : Int) = ((8 - lc : Nat) : Int) by omega]; exact IntWalk.i64_in _ (by omega)
  have E1 := Lib.hid (i64_and_low n lp (by omega) (by omega))
  obtain ⟨P, hP⟩ : ∃ P, P = n % 2 ^ lp := ⟨_, rfl⟩
  rw [← hP] at E1 ha
  have E2 := Lib.hid (shr_nat last (8 - lc) (by omega))
  obtain ⟨la, hla2⟩ : ∃ x, x = last / 2 ^ (8 - lc) := ⟨_, rfl⟩
  rw [← hla2] at E2 ha
  obtain ⟨P2, hP2⟩ : ∃ x, x = P * 2 ^ lc := ⟨_, rfl⟩
  rw [← hP2] at ha
  have hsm := row_small ha h1 h2
  have f1 := shl_nat P lc P2 hP2 (Nat.lt_of_le_of_lt (Nat.le_trans (Nat.le_add_right _ _) hsm.1) (by decide))
  obtain ⟨S, hS⟩ : ∃ S, S = P2 + la := ⟨_, rfl⟩
  obtain ⟨b2, hb⟩ : ∃ b, b = a + 768 := ⟨_, rfl⟩
  obtain ⟨f2, f3, f4, g1, g2, g3, g4⟩ := row_facts ha h1 h2 hS hb
  have HB := Lib.hid hb
  have HF := Lib.hid (And.intro f1 (And.intro f2 (And.intro f3 (And.intro f4 (And.intro g1 (And.intro g2 (And.intro g3 g4)))))))
  have HW1 := Lib.hid hw1
  have HB1 := Lib.hid hb1
  clear hb ha hP hla2 hP2 hsm f1 f2 f3 f4 g1 g2 g3 g4 hS hn h1 h2 hla hw1 hb1 HBk
  go_enter Tryz.func136, Tryz.ntmps136
  go_upto_region 1 with fail
  rw [← HW1.out]
  clear HW1
  go_upto_region 2 with fail
  rw [E1.out]
  go_quiet (fail)
  rw [E2.out]
  have HB2 := Lib.hid (HB1.out.drewN nq)
  obtain ⟨f1, f2, f3, f4, g1, g2, g3, g4⟩ := HF.out
  clear e0 E1 E2 HF c0 c1 HB1
  generalize w1.drewN nq = w2 at *
  go_wp2_with fail
  go_ret
  have e768 : b2 - a = 768 := by have := HB.out; omega
  exact ⟨congrArg (fun n => Ending.returned (.slice (some ⟨b, a, none⟩) n (nl - a))) e768, HB2.out⟩
end Go.Proofs.YtiolfjhddbiglaaGreatDoor

/-
  The program's decoder of LZMA: its small calls: the place's bits, which packet, which elder distance.
-/
namespace Go.Proofs.YtiolfjhddbiglaaGreatDoor
open Go.RowKit

/-! ### a machine that is dead changes nothing; what is wanted of a decoder doesn't matter -/
theorem set_self (ps : List Nat) (a : Nat) : ps.set a (ps.getD a 0) = ps := by
  by_cases h : a < ps.length
  · exact set_same_get ps a h
  · exact List.set_eq_of_length_le (by omega)
theorem bitP_none {t : Pm Dc} {a : Nat} {w : Int} (h : t.x = none) : bitP decM t a w = (0, t) := by
  show ((bitD t.x (t.ps.getD a 0)).1, (⟨t.ps.set a (bitD t.x (t.ps.getD a 0)).2.1, (bitD t.x (t.ps.getD a 0)).2.2⟩ : Pm Dc)) = _
  rw [h]
  show (0, (⟨t.ps.set a (t.ps.getD a 0), none⟩ : Pm Dc)) = _
  rw [set_self, ← h]
theorem treeG_none {t : Pm Dc} {a n : Nat} {v : Int} (h : t.x = none) : ∀ j, (treeG decM t a n v j).t = t
  | 0 => rfl
  | j + 1 => by
    show (bitP decM (treeG decM t a n v j).t _ _).2 = t
    rw [treeG_none h j, bitP_none h]
theorem revG_none {t : Pm Dc} {a : Nat} {v : Int} (h : t.x = none) : ∀ j, (revG decM t a v j).t = t
  | 0 => rfl
  | j + 1 => by
    show (bitP decM (revG decM t a v j).t _ _).2 = t
    rw [revG_none h j, bitP_none h]
theorem treeP_none {t : Pm Dc} {a n : Nat} {v : Int} (h : t.x = none) : (treeP decM t a n v).2 = t := treeG_none h n
theorem revP_none {t : Pm Dc} {a n : Nat} {v : Int} (h : t.x = none) : (revP decM t a n v).2 = t := revG_none h n
theorem treeG_dec {t : Pm Dc} {a n : Nat} (v v' : Int) : ∀ j, treeG decM t a n v j = treeG decM t a n v' j
  | 0 => rfl
  | j + 1 => by
    show tgStep decM a j _ (treeG decM t a n v j) = tgStep decM a j _ (treeG decM t a n v' j)
    rw [treeG_dec v v' j]
    rfl
theorem revG_dec {t : Pm Dc} {a : Nat} (v v' : Int) : ∀ j, revG decM t a v j = revG decM t a v' j
  | 0 => rfl
  | j + 1 => by
    show tgStep decM a j _ (revG decM t a v j) = tgStep decM a j _ (revG decM t a v' j)
    rw [revG_dec v v' j]
    rfl
theorem treeP_dec {t : Pm Dc} {a n : Nat} (v v' : Int) : treeP decM t a n v = treeP decM t a n v' := by
  unfold treeP
  rw [treeG_dec v v']
theorem revP_dec {t : Pm Dc} {a n : Nat} (v v' : Int) : revP decM t a n v = revP decM t a n v' := by
  unfold revP
  rw [revG_dec v v']
theorem distB_none {b : Nat × Pm Dc} {v : Nat} (h : b.2.x = none) : (distB decM b v).2 = b.2 := by
  unfold distB
  split
  · rfl
  split
  · exact revP_none h
  · unfold distC
    have e : (decM.str b.2.x (b.1 / 2 - 1 - 4) ((v + 4294967296 - (2 + b.1 % 2) * 2 ^ (b.1 / 2 - 1)) % 4294967296 / 16)).2 = none := by
      show (straightD _ b.2.x).2 = none
      rw [h, straightD_none]
    rw [e]
    have : (⟨b.2.ps, none⟩ : Pm Dc) = b.2 := by rw [← h]
    rw [this]
    exact revP_none h
theorem distP_none {t : Pm Dc} {l v : Nat} (h : t.x = none) : (distP decM t l v).2 = t := by
  have h1 : (treeP decM t (432 + 64 * min l 3) 6 (slotOf v : Int)).2 = t := treeP_none h
  unfold distP
  rw [distB_none (by rw [h1]; exact h), h1]

/-! ### where a probability lies -/
section
variable {K : Kon} {w w' : World} {Gw : Nat → Prop} {z : Lzs} {t : Pm Dc} {left : Nat}
theorem Kon.lay (K : Kon) : Lay K.ad K.g 15 := fun a ha => by unfold Kon.ad; rw [if_pos ha]
theorem Kon.ad_low {a i : Nat} (h : a < 192) (hi : i = 15 + a) : K.ad a = (K.g, i) := K.lay.low h hi
theorem Kon.ad_rep {a i : Nat} (h : 192 ≤ a) (h1 : a < 240) (hi : i = 15 + (a + 192)) : K.ad a = (K.g, i) := K.lay.rep h h1 hi
theorem Kon.ad_long {a i : Nat} (h : 240 ≤ a) (h1 : a < 432) (hi : i = 15 + (a - 48)) : K.ad a = (K.g, i) := K.lay.long h h1 hi
theorem Kon.ad_slot {a i : Nat} (h : 432 ≤ a) (h1 : a < 688) (hi : i = 15 + (a + 1159)) : K.ad a = (K.g, i) := K.lay.slot h h1 hi
theorem Kon.ad_rest {a i : Nat} (h : 688 ≤ a) (h1 : a < 1847) (hi : i = 15 + (a - 256)) : K.ad a = (K.g, i) := K.lay.rest h h1 hi
theorem Kon.ad_lit {a i : Nat} (h : 1847 ≤ a) (hi : i = a - 1847) : K.ad a = (K.lb, i) := by
  unfold Kon.ad
  rw [if_neg (by omega), hi]

theorem Lw.bit (h : Lw K w Gw z t left) {a b i : Nat} (k : Int) (hab : K.ad a = (b, i)) (ha : a < 1847 + K.nl) :
    Calls Tryz.prog 134 #[.pointer (some ⟨K.dg, 0, none⟩), .pointer (some ⟨b, i, none⟩)] w (MidPost K w Gw (.int .i64 ((bitP decM t a k).1 : Int)) z (bitP decM t a k).2 left) :=
  (lw_bit (K.prb _ h.ap.gn) h.ap.b0 hab ha h.mch).mono fun _ _ hp => h.bits hp
/-- a value that is told, by a machine that may be dead then -/
def Alive (t : Pm Dc) (v u : Nat) : Nat := if t.x = none then v else u
def TreePost (K : Kon) (w : World) (Gw : Nat → Prop) (z : Lzs) (r : Nat × Pm Dc) (left : Nat) (e : Ending) (w' : World) : Prop := MidPost K w Gw (.int .i64 (Alive r.2 0 r.1 : Nat)) z r.2 left e w'
theorem Lw.tree (h : Lw K w Gw z t left) {a n b o len cap : Nat} (v : Int) (had : ∀ m, m < 2 ^ n → K.ad (a + m) = (b, o + m)) (haL : a + 2 ^ n ≤ 1847 + K.nl) (hn : 2 ^ n ≤ len) (hn8 : n ≤ 8) :
    Calls Tryz.prog 140 #[.pointer (some ⟨K.dg, 0, none⟩), .slice (some ⟨b, o, none⟩) len cap, .int .i64 (n : Int)] w (TreePost K w Gw z (treeP decM t a n v) left) := by
  rw [treeP_dec v 0]
  exact (lw_tree (K.prb _ h.ap.gn) h.ap.b0 had haL rfl h.mch hn hn8).mono fun _ _ hp => h.bits hp
theorem Lw.rev (h : Lw K w Gw z t left) {a n b o len cap : Nat} (v : Int) (had : ∀ m, m < 2 ^ n → K.ad (a + m) = (b, o + m)) (haL : a + 2 ^ n ≤ 1847 + K.nl) (hn : 2 ^ n ≤ len) (hn8 : n ≤ 8) :
    Calls Tryz.prog 198 #[.pointer (some ⟨K.dg, 0, none⟩), .slice (some ⟨b, o, none⟩) len cap, .int .i64 (n : Int)] w (TreePost K w Gw z (revP decM t a n v) left) := by
  rw [revP_dec v 0]
  exact (lw_rev (K.prb _ h.ap.gn) h.ap.b0 had haL rfl h.mch hn hn8).mono fun _ _ hp => h.bits hp
theorem Lw.straight (h : Lw K w Gw z t left) {n : Nat} (hn : n ≤ 32) :
    Calls Tryz.prog 199 #[.pointer (some ⟨K.dg, 0, none⟩), .int .i64 (n : Int)] w (MidPost K w Gw (.int .u32 ((straightD n t.x).1 : Int)) z ⟨t.ps, (straightD n t.x).2⟩ left) :=
  (lw_straight (K.prb _ h.ap.gn) h.ap.b0 h.mch hn).mono fun _ _ hp => h.bits hp
theorem Lw.isBad (h : Lw K w Gw z t left) : Calls Tryz.prog 133 #[.pointer (some ⟨K.dg, 0, none⟩)] w fun e w' => e = .returned (.bool (decM.bad t.x)) ∧ w = w' := lw_bad h.mch

/-- what its fields hold -/
structure Lf (K : Kon) (w : World) (z : Lzs) (left : Nat) : Prop where
  c0 : w.cell? ⟨K.g, 0, none⟩ = some (.int .i64 (z.lc : Int))
  c1 : w.cell? ⟨K.g, 1, none⟩ = some (.int .i64 (z.lp : Int))
  c2 : w.cell? ⟨K.g, 2, none⟩ = some (.int .i64 (z.pb : Int))
  c4 : w.cell? ⟨K.g, 4, none⟩ = some (.iface 103 (.pointer (some ⟨K.S.f, 0, none⟩)))
  c5 : w.cell? ⟨K.g, 5, none⟩ = some (.pointer (some ⟨K.dg, 0, none⟩))
  c6 : w.cell? ⟨K.g, 6, none⟩ = some (.pointer (some ⟨K.wg, 0, none⟩))
  c7 : w.cell? ⟨K.g, 7, none⟩ = some (.pointer (some ⟨K.m, 0, none⟩))
  c8 : w.cell? ⟨K.g, 8, none⟩ = some (.int .i64 K.room)
  c9 : w.cell? ⟨K.g, 9, none⟩ = some (.int .i64 (z.out.length : Int))
  c10 : w.cell? ⟨K.g, 10, none⟩ = some (.int .i64 (z.st : Int))
  c11 : w.cell? ⟨K.g, 11, none⟩ = some (.int .u32 (z.r0 : Int))
  c12 : w.cell? ⟨K.g, 12, none⟩ = some (.int .u32 (z.r1 : Int))
  c13 : w.cell? ⟨K.g, 13, none⟩ = some (.int .u32 (z.r2 : Int))
  c14 : w.cell? ⟨K.g, 14, none⟩ = some (.int .u32 (z.r3 : Int))
  lits : w.cell? ⟨K.g, 1862, none⟩ = some (.slice (some ⟨K.lb, 0, none⟩) K.nc K.nc)
  left : w.cell? ⟨K.g, 1863, none⟩ = some (.int .i64 (left : Int))
  ended : w.cell? ⟨K.g, 1864, none⟩ = some (.bool z.ended)
  bad : w.cell? ⟨K.g, 1865, none⟩ = some (.bool z.bad)
  fz : ∀ i, w.frozen? ⟨K.g, i, none⟩ = false
theorem Lw.f (h : Lw K w Gw z t left) : Lf K w z left :=
  ⟨h.dec.cell 0 (by decide), h.dec.cell 1 (by decide), h.dec.cell 2 (by decide), h.dec.cell 4 (by decide), h.dec.cell 5 (by decide), h.dec.cell 6 (by decide), h.dec.cell 7 (by decide), h.dec.cell 8 (by decide), h.dec.cell 9 (by decide), h.dec.cell 10 (by decide),
    h.dec.cell 11 (by decide), h.dec.cell 12 (by decide), h.dec.cell 13 (by decide), h.dec.cell 14 (by decide), h.dec.cell 15 (by decide), h.dec.cell 16 (by decide), h.dec.cell 17 (by decide), h.dec.cell 18 (by decide), fun i => h.dec.free i⟩

set_option maxRecDepth 100000 in
set_option maxHeartbeats 1000000 in
theorem lplace_any (h : Lw K w Gw z t left) (hp : z.pb ≤ 4) (ho : z.out.length ≤ 1000000) :
    Calls Tryz.prog 135 #[.pointer (some ⟨K.g, 0, none⟩)] w fun e w' => e = .returned (.int .i64 ((z.out.length % 2 ^ z.pb : Nat) : Int)) ∧ ∃ n, w.drewN n = w' := by
  have c9 := h.f.c9
  have c2 := h.f.c2
  have e0 := i64_and_low z.out.length z.pb (by omega) (by omega)
  have HE0 := Lib.hid e0
  clear h e0
  generalize z.out.length = n at *
  generalize z.pb = k at *
  go_enter Tryz.func135, Tryz.ntmps135
  go_wp2_with fail
  go_quiet (fail)
  go_wp2_with fail
  go_ret
  exact ⟨congrArg (fun x => Ending.returned (.int .i64 x)) HE0.out, _, rfl⟩

theorem lplace_mid (h : Lw K w Gw z t left) (hp : z.pb ≤ 4) (ho : z.out.length ≤ 1000000) :
    Calls Tryz.prog 135 #[.pointer (some ⟨K.g, 0, none⟩)] w (MidPost K w Gw (.int .i64 ((z.out.length % 2 ^ z.pb : Nat) : Int)) z t left) := by
  refine (lplace_any h hp ho).mono ?_
  rintro e w' ⟨rfl, n, rfl⟩
  exact ⟨rfl, h.drewN n, (Only.refl _ w).drewN n⟩

set_option maxRecDepth 100000 in
set_option maxHeartbeats 2000000 in
theorem lstart_any (h : Lw K w Gw z t left) (hs : z.st ≤ 11) (hp : z.pb ≤ 4) (ho : z.out.length ≤ 1000000) :
    Calls Tryz.prog 106 #[.pointer (some ⟨K.g, 0, none⟩)] w
      (MidPost K w Gw (.bool (decide ((bitP decM t (16 * z.st + z.out.length % 2 ^ z.pb) 0).1 = 0))) z (bitP decM t (16 * z.st + z.out.length % 2 ^ z.pb) 0).2 left) := by
  have c10 := h.f.c10
  have c5 := h.f.c5
  have KP := Lib.hid (fun n => lplace_any (h.drewN n) hp ho)
  have hs15 := mod_pb (n := z.out.length) hp
  obtain ⟨s, hs2⟩ : ∃ s, s = z.out.length % 2 ^ z.pb := ⟨_, rfl⟩
  rw [← hs2] at KP hs15 ⊢
  have KB := Lib.hid (fun n => (h.drewN n).bit (a := 16 * z.st + s) (b := K.g) (i := 15 + z.st * 16 + s) 0 (Kon.ad_low (by omega) (by omega)) (by omega))
  obtain ⟨B, hB⟩ : ∃ B, B = bitP decM t (16 * z.st + s) 0 := ⟨_, rfl⟩
  rw [← hB] at KB ⊢
  obtain ⟨st, hst⟩ : ∃ st, st = z.st := ⟨_, rfl⟩
  rw [← hst] at c10 KB
  have i1 : (st : Int) < 12 := by omega
  have i0 : (0 : Int) ≤ (st : Int) := by omega
  have j1 : (s : Int) < 16 := by omega
  have j0 : (0 : Int) ≤ (s : Int) := by omega
  have hu : ((B.1 : Int) == 0) = decide (B.1 = 0) := by rw [Bool.eq_iff_iff]; simp
  have HST := Lib.hid hst
  clear h hst hs2 hB hs15 hs hp ho
  go_enter Tryz.func106, Tryz.ntmps106
  go_wp2_with fail
  go_region_held3 (fun w' => w'.cell? ⟨K.g, 5, none⟩ = some (.pointer (some ⟨K.dg, 0, none⟩)) ∧ w'.cell? ⟨K.g, 10, none⟩ = some (.int .i64 (st : Int)))
    (first | assumption | go_keep | exact ⟨c5, c10⟩ | exact ⟨e5, e10⟩)
    (first
      | (go_at_call 135; refine (KP.out 1).mono ?_; rintro e w1 ⟨rfl, n1, rfl⟩; clear KP)
      | (go_at_call 134; refine (KB.out _).mono ?_; rintro e w2 ⟨rfl, hz2, ho2⟩; have e5 := hz2.f.c5; have e10 := hz2.f.c10; rw [← HST.out] at e10; have HZ2 := Lib.hid hz2; have HO2 := Lib.hid (Only.of_drewN ho2); clear hz2 ho2 KB))
  go_wp2_with fail
  go_ret
  exact ⟨rfl, HZ2.out, HO2.out⟩

def ElderPost (K : Kon) (w : World) (Gw : Nat → Prop) (z : Lzs) (t : Pm Dc) (left : Nat) (e : Ending) (w' : World) : Prop :=
  ((bitP decM t (216 + z.st) 0).1 = 0 ∧ MidPost K w Gw (.int .i64 ((1 : Nat) : Int)) z (bitP decM t (216 + z.st) 0).2 left e w') ∨
  ((bitP decM t (216 + z.st) 0).1 ≠ 0 ∧ MidPost K w Gw (.int .i64 ((2 + (bitP decM (bitP decM t (216 + z.st) 0).2 (228 + z.st) 0).1 : Nat) : Int)) z (bitP decM (bitP decM t (216 + z.st) 0).2 (228 + z.st) 0).2 left e w')

set_option maxRecDepth 100000 in
set_option maxHeartbeats 2000000 in
theorem lelder_any (h : Lw K w Gw z t left) (hs : z.st ≤ 11) :
    Calls Tryz.prog 183 #[.pointer (some ⟨K.g, 0, none⟩)] w (ElderPost K w Gw z t left) := by
  have c10 := h.f.c10
  have c5 := h.f.c5
  have KB := Lib.hid ((h.drewN 1).bit (a := 216 + z.st) (b := K.g) (i := 423 + z.st) 0 (Kon.ad_rep (by omega) (by omega) (by omega)) (by omega))
  have KB2 := Lib.hid (fun (w1 : World) (h1 : Lw K w1 Gw z (bitP decM t (216 + z.st) 0).2 left) => (h1.drewN 1).bit (a := 228 + z.st) (b := K.g) (i := 435 + z.st) 0 (Kon.ad_rep (by omega) (by omega) (by omega)) (by omega))
  have hb1 := (bitP_ok decM_ok (k := 0) (a := 216 + z.st) (w := 0) (okD_any h.mch.ok) (by omega) (fun h => by cases h))
  have hb2 := (bitP_ok decM_ok (k := 0) (a := 228 + z.st) (w := 0) (okD_any hb1.2) (by omega) (fun h => by cases h)).1
  unfold ElderPost
  obtain ⟨B, hB⟩ : ∃ B, B = bitP decM t (216 + z.st) 0 := ⟨_, rfl⟩
  rw [← hB] at KB KB2 hb1 hb2 ⊢
  obtain ⟨B2, hB2⟩ : ∃ B2, B2 = bitP decM B.2 (228 + z.st) 0 := ⟨_, rfl⟩
  rw [← hB2] at KB2 hb2 ⊢
  obtain ⟨st, hst⟩ : ∃ st, st = z.st := ⟨_, rfl⟩
  rw [← hst] at c10 KB KB2
  have i1 : (st : Int) < 12 := by omega
  have i0 : (0 : Int) ≤ (st : Int) := by omega
  have e2 : IntKind.i64.wrap (2 + (B2.1 : Int)) = ((2 + B2.1 : Nat) : Int) := by rw [show 2 + (B2.1 : Int) = ((2 + B2.1 : Nat) : Int) by omega]; exact IntWalk.i64_in _ (by omega)
  have HST := Lib.hid hst
  clear h hst hB hB2 hs hb1 hb2
  by_cases hu : B.1 = 0
  · have hu2 : ((B.1 : Int) == 0) = true := by simp [hu]
    have HU := Lib.hid hu
    clear hu
    go_enter Tryz.func183, Tryz.ntmps183
    go_wp2_with fail
    go_still_tail 13, (by kernel_rfl)
    change wpList _ _ _ _ _ w.drew
    go_wp2_with fail
    refine KB.out.mono ?_
    rintro e w2 ⟨rfl, hz2, ho2⟩
    have HZ2 := Lib.hid hz2
    have HO2 := Lib.hid (Only.of_drewN ho2)
    clear hz2 ho2 KB
    go_wp2_with fail
    go_ret
    exact .inl ⟨HU.out, rfl, HZ2.out, HO2.out⟩
  · have hu2 : ((B.1 : Int) == 0) = false := by simp; omega
    have HU := Lib.hid hu
    clear hu
    go_enter Tryz.func183, Tryz.ntmps183
    go_wp2_with fail
    go_still_tail 13, (by kernel_rfl)
    change wpList _ _ _ _ _ w.drew
    go_wp2_with fail
    refine KB.out.mono ?_
    rintro e w2 ⟨rfl, hz2, ho2⟩
    have HO2 := Lib.hid (Only.of_drewN ho2)
    have e5 := hz2.f.c5
    have e10 := hz2.f.c10
    rw [← HST.out] at e10
    have KC := Lib.hid (KB2.out w2 hz2)
    clear hz2 ho2 KB KB2 c10 c5
    go_wp2_with fail
    go_still_tail 13, (by kernel_rfl)
    change wpList _ _ _ _ _ w2.drew
    go_wp2_with fail
    refine KC.out.mono ?_
    rintro e w3 ⟨rfl, hz3, ho3⟩
    have HZ3 := Lib.hid hz3
    have HO3 := Lib.hid (HO2.out.trans (Only.of_drewN ho3))
    clear hz3 ho3 KC
    go_wp2_with fail
    go_ret
    exact .inr ⟨HU.out, rfl, HZ3.out, HO3.out⟩
end
end Go.Proofs.YtiolfjhddbiglaaGreatDoor

/-
  The program's settings of LZMA: whether one may be; how many probabilities there are.
-/
namespace Go.Proofs.YtiolfjhddbiglaaGreatDoor
open Go.RowKit

def inB (n most : Int) : Bool := decide (0 ≤ n ∧ n ≤ most)
set_option maxRecDepth 100000 in
set_option maxHeartbeats 1000000 in
theorem pwithin_any (n most : Int) (w : World) : Calls Tryz.prog 115 #[.int .i64 n, .int .i64 most] w fun e w' => e = .returned (.bool (inB n most)) ∧ w = w' := by
  obtain ⟨v, hv⟩ : ∃ v, v = inB n most := ⟨_, rfl⟩
  rw [← hv]
  unfold inB at hv
  by_cases h0 : 0 ≤ n
  · have g0 : n ≥ 0 := h0
    by_cases h1 : n ≤ most
    · obtain rfl : v = true := by rw [hv]; exact decide_eq_true ⟨h0, h1⟩
      clear hv
      go_enter Tryz.func115, Tryz.ntmps115
      go_wp2_with fail
      go_ret
      exact ⟨rfl, rfl⟩
    · obtain rfl : v = false := by rw [hv]; exact decide_eq_false (fun h => h1 h.2)
      clear hv
      go_enter Tryz.func115, Tryz.ntmps115
      go_wp2_with fail
      go_ret
      exact ⟨rfl, rfl⟩
  · have g0 : ¬ n ≥ 0 := h0
    obtain rfl : v = false := by rw [hv]; exact decide_eq_false (fun h => h0 h.1)
    clear hv
    go_enter Tryz.func115, Tryz.ntmps115
    go_wp2_with fail
    go_ret
    exact ⟨rfl, rfl⟩

def mayB (a b c : Int) : Bool := inB a 8 && (inB b 4 && inB c 4)
set_option maxRecDepth 100000 in
set_option maxHeartbeats 4000000 in
theorem pbits_any (a b c d : Int) (w : World) : Calls Tryz.prog 86 #[.agg #[.int .i64 a, .int .i64 b, .int .i64 c, .int .i64 d]] w fun e w' => e = .returned (.bool (mayB a b c)) ∧ Below w.heap.size w w' := by
  have HB := Lib.hid ((Below.refl w.heap.size w).alloc (Nat.le_refl _) (.cells #[.int .i64 a, .int .i64 b, .int .i64 c, .int .i64 d] 40))
  have K1 := Lib.hid (fun w => pwithin_any a 8 w)
  have K2 := Lib.hid (fun w => pwithin_any b 4 w)
  have K3 := Lib.hid (fun w => pwithin_any c 4 w)
  obtain ⟨v, hv⟩ : ∃ v, v = mayB a b c := ⟨_, rfl⟩
  rw [← hv]
  unfold mayB at hv
  obtain ⟨x, hx⟩ : ∃ x, x = inB a 8 := ⟨_, rfl⟩
  obtain ⟨y, hy⟩ : ∃ x, x = inB b 4 := ⟨_, rfl⟩
  obtain ⟨z, hz⟩ : ∃ x, x = inB c 4 := ⟨_, rfl⟩
  rw [← hx] at K1 hv
  rw [← hy] at K2 hv
  rw [← hz] at K3 hv
  clear hx hy hz
  cases x with
  | false =>
    obtain rfl : v = false := hv
    go_enter Tryz.func86, Tryz.ntmps86
    go_wp2_with fail
    refine (K1.out _).mono ?_
    rintro e w1 ⟨rfl, rfl⟩
    go_wp2_with fail
    go_ret
    exact ⟨rfl, HB.out⟩
  | true =>
    cases y with
    | false =>
      obtain rfl : v = false := hv
      go_enter Tryz.func86, Tryz.ntmps86
      go_wp2_with fail
      refine (K1.out _).mono ?_
      rintro e w1 ⟨rfl, rfl⟩
      go_wp2_with fail
      refine (K2.out _).mono ?_
      rintro e w1 ⟨rfl, rfl⟩
      go_wp2_with fail
      go_ret
      exact ⟨rfl, HB.out⟩
    | true =>
      obtain rfl : v = z := by rw [hv]; cases z <;> rfl
      clear hv
      cases v
      all_goals
        go_enter Tryz.func86, Tryz.ntmps86
        go_wp2_with fail
        refine (K1.out _).mono ?_
        rintro e w1 ⟨rfl, rfl⟩
        go_wp2_with fail
        refine (K2.out _).mono ?_
        rintro e w1 ⟨rfl, rfl⟩
        go_wp2_with fail
        refine (K3.out _).mono ?_
        rintro e w1 ⟨rfl, rfl⟩
        go_wp2_with fail
        go_ret
        exact ⟨rfl, HB.out⟩

theorem may_split (a b c d : Int) : maySet a b c d = (mayB a b c && (decide (4096 ≤ d) && decide (d ≤ 4294967295))) := by
  unfold maySet mayB inB
  rw [Bool.eq_iff_iff]
  simp
  constructor
  · rintro ⟨h1, h2, h3, h4, h5, h6, h7, h8⟩; exact ⟨⟨⟨h1, h2⟩, ⟨h3, h4⟩, h5, h6⟩, h7, h8⟩
  · rintro ⟨⟨⟨h1, h2⟩, ⟨h3, h4⟩, h5, h6⟩, h7, h8⟩; exact ⟨h1, h2, h3, h4, h5, h6, h7, h8⟩

set_option maxRecDepth 100000 in
set_option maxHeartbeats 4000000 in
theorem pmay_any (a b c d : Int) (w : World) : Calls Tryz.prog 57 #[.agg #[.int .i64 a, .int .i64 b, .int .i64 c, .int .i64 d]] w fun e w' => e = .returned (.bool (maySet a b c d)) ∧ Below w.heap.size w w' := by
  obtain ⟨w1, hw1⟩ : ∃ w1, w1 = w.alloc (.cells #[.int .i64 a, .int .i64 b, .int .i64 c, .int .i64 d] 40) := ⟨_, rfl⟩
  have hb1 : Below w.heap.size w w1 := by rw [hw1]; exact (Below.refl _ _).alloc (Nat.le_refl _) _
  have HBk : Blk w1 w.heap.size 40 #[.int .i64 a, .int .i64 b, .int .i64 c, .int .i64 d] := by rw [hw1]; exact Blk.fresh w _ _
  have K := Lib.hid (pbits_any a b c d w1)
  have c0 : w1.cell? ⟨w.heap.size, 0, none⟩ = some (.int .i64 a) := HBk.cell 0
  have c1 : w1.cell? ⟨w.heap.size, 1, none⟩ = some (.int .i64 b) := HBk.cell 1
  have c2 : w1.cell? ⟨w.heap.size, 2, none⟩ = some (.int .i64 c) := HBk.cell 2
  have c3 : w1.cell? ⟨w.heap.size, 3, none⟩ = some (.int .i64 d) := HBk.cell 3
  have HW1 := Lib.hid hw1
  have HB1 := Lib.hid hb1
  have HBK := Lib.hid HBk
  have hs := may_split a b c d
  obtain ⟨v, hv⟩ : ∃ v, v = maySet a b c d := ⟨_, rfl⟩
  rw [← hv] at hs ⊢
  obtain ⟨x, hx⟩ : ∃ x, x = mayB a b c := ⟨_, rfl⟩
  rw [← hx] at hs K
  clear hw1 hb1 HBk hv hx
  cases x with
  | false =>
    obtain rfl : v = false := hs
    go_enter Tryz.func57, Tryz.ntmps57
    go_upto_region 1 with fail
    rw [← HW1.out]
    clear HW1
    go_wp2_with fail
    refine K.out.mono ?_
    rintro e w2 ⟨rfl, hb2⟩
    have HB2 := Lib.hid (HB1.out.trans ⟨hb2.os, hb2.tape, hb2.output, hb2.size, fun i hi => hb2.block i (Nat.lt_of_lt_of_le hi HB1.out.size)⟩)
    clear hb2 K c0 c1 c2 c3 HB1
    go_wp2_with fail
    go_ret
    exact ⟨rfl, HB2.out⟩
  | true =>
    rw [Bool.true_and] at hs
    by_cases h6 : 4096 ≤ d
    · have g6 : d ≥ 4096 := h6
      by_cases h7 : d ≤ 4294967295
      · obtain rfl : v = true := by rw [hs, decide_eq_true h6, decide_eq_true h7]; rfl
        clear hs h6
        go_enter Tryz.func57, Tryz.ntmps57
        go_upto_region 1 with fail
        rw [← HW1.out]
        clear HW1
        go_wp2_with fail
        refine K.out.mono ?_
        rintro e w2 ⟨rfl, hb2⟩
        have hk2 : Blk w2 w.heap.size 40 #[.int .i64 a, .int .i64 b, .int .i64 c, .int .i64 d] := HBK.out.below hb2
        have d3 : w2.cell? ⟨w.heap.size, 3, none⟩ = some (.int .i64 d) := hk2.cell 3
        have HB2 := Lib.hid (HB1.out.trans ⟨hb2.os, hb2.tape, hb2.output, hb2.size, fun i hi => hb2.block i (Nat.lt_of_lt_of_le hi HB1.out.size)⟩)
        clear hb2 hk2 K c0 c1 c2 c3 HB1
        go_wp2_with fail
        go_ret
        exact ⟨rfl, HB2.out⟩
      · obtain rfl : v = false := by rw [hs, decide_eq_false h7, Bool.and_false]
        have H7 := Lib.hid h7
        clear hs h6 h7
        go_enter Tryz.func57, Tryz.ntmps57
        go_upto_region 1 with fail
        rw [← HW1.out]
        clear HW1
        go_wp2_with fail
        refine K.out.mono ?_
        rintro e w2 ⟨rfl, hb2⟩
        have hk2 : Blk w2 w.heap.size 40 #[.int .i64 a, .int .i64 b, .int .i64 c, .int .i64 d] := HBK.out.below hb2
        have d3 : w2.cell? ⟨w.heap.size, 3, none⟩ = some (.int .i64 d) := hk2.cell 3
        have HB2 := Lib.hid (HB1.out.trans ⟨hb2.os, hb2.tape, hb2.output, hb2.size, fun i hi => hb2.block i (Nat.lt_of_lt_of_le hi HB1.out.size)⟩)
        clear hb2 hk2 K c0 c1 c2 c3 HB1
        go_wp2_with fail
        go_ret
        exact ⟨congrArg (fun b => Ending.returned (.bool b)) (decide_eq_false (by have := H7.out; omega)), HB2.out⟩
    · obtain rfl : v = false := by rw [hs, decide_eq_false h6]; rfl
      have g6 : ¬ d ≥ 4096 := h6
      clear hs h6
      go_enter Tryz.func57, Tryz.ntmps57
      go_upto_region 1 with fail
      rw [← HW1.out]
      clear HW1
      go_wp2_with fail
      refine K.out.mono ?_
      rintro e w2 ⟨rfl, hb2⟩
      have hk2 : Blk w2 w.heap.size 40 #[.int .i64 a, .int .i64 b, .int .i64 c, .int .i64 d] := HBK.out.below hb2
      have d3 : w2.cell? ⟨w.heap.size, 3, none⟩ = some (.int .i64 d) := hk2.cell 3
      have HB2 := Lib.hid (HB1.out.trans ⟨hb2.os, hb2.tape, hb2.output, hb2.size, fun i hi => hb2.block i (Nat.lt_of_lt_of_le hi HB1.out.size)⟩)
      clear hb2 hk2 K c0 c1 c2 c3 HB1
      go_wp2_with fail
      go_ret
      exact ⟨rfl, HB2.out⟩

theorem lits_small {k : Nat} (h : k ≤ 12) : 768 * 2 ^ k ≤ 3145728 := Nat.mul_le_mul_left 768 (Nat.le_trans (Nat.pow_le_pow_right (by decide) h) (show 2 ^ 12 ≤ 4096 by decide))
set_option maxRecDepth 100000 in
set_option maxHeartbeats 2000000 in
theorem plits_any {lc lp : Nat} (c d : Int) (h : lc + lp ≤ 12) (w : World) : Calls Tryz.prog 69 #[.agg #[.int .i64 (lc : Int), .int .i64 (lp : Int), .int .i64 c, .int .i64 d]] w fun e w' => e = .returned (.int .i64 ((768 * 2 ^ (lc + lp) : Nat) : Int)) ∧ Below w.heap.size w w' := by
  have HB := Lib.hid ((Below.refl w.heap.size w).alloc (Nat.le_refl _) (.cells #[.int .i64 (lc : Int), .int .i64 (lp : Int), .int .i64 c, .int .i64 d] 40))
  obtain ⟨k, hk⟩ : ∃ k, k = lc + lp := ⟨_, rfl⟩
  have hs := lits_small h
  rw [← hk] at hs ⊢
  have e1 : IntKind.i64.wrap ((lc : Int) + (lp : Int)) = (k : Int) := by rw [hk, ← Int.natCast_add]; exact IntWalk.i64_in _ (by omega)
  obtain ⟨y, hy⟩ : ∃ y, y = 768 * 2 ^ k := ⟨_, rfl⟩
  rw [← hy] at hs ⊢
  have e2 : IntKind.i64.wrap (768 * 2 ^ k) = (y : Int) := by
    rw [cast_pow2, show (768 : Int) * ((2 ^ k : Nat) : Int) = (y : Int) by rw [hy, Int.natCast_mul]; rfl]
    exact IntWalk.i64_in _ (by omega)
  have e3 : min k 64 = k := by omega
  have e4 : (0 : Int) ≤ (k : Int) := by omega
  have HE := Lib.hid (And.intro h hk)
  have HY := Lib.hid (And.intro hy hs)
  clear h hk hy hs
  go_enter Tryz.func69, Tryz.ntmps69
  go_wp2_with fail
  go_ret
  exact ⟨rfl, HB.out⟩
end Go.Proofs.YtiolfjhddbiglaaGreatDoor

/-
  The program's decoder of LZMA: state, distances and probabilities begin anew.
-/
namespace Go.Proofs.YtiolfjhddbiglaaGreatDoor
open Go.RowKit

/-- the fields of a decoder that has begun nothing; what is cut out of them is written by Reset -/
def unFs (K : Kon) (a b c d : Int) : List Value :=
  [.int .i64 a, .int .i64 b, .int .i64 c, .int .i64 d, .nilIface, .pointer none, .pointer (some ⟨K.wg, 0, none⟩), .pointer (some ⟨K.m, 0, none⟩), .int .i64 K.room,
    .int .i64 0, .int .i64 0, .int .u32 0, .int .u32 0, .int .u32 0, .int .u32 0, .slice (some ⟨K.lb, 0, none⟩) K.nl K.nl, .int .i64 0, .bool false, .bool false]

theorem all_fresh {ps : List Nat} {L : Nat} (hl : ps.length = L) (h : ∀ i, i < L → ps.getD i 0 = 1024) : ps = List.replicate L 1024 := by
  refine List.ext_getElem (by simp [hl]) (fun i h1 h2 => ?_)
  have := h i (by omega)
  simp only [List.getD, List.getElem?_eq_getElem h1, Option.getD_some] at this
  rw [this, List.getElem_replicate]
theorem Rk.put {K : Kon} {fs : List Value} {w : World} {ps : List Nat} (h : Rk K fs w ps) (hn : K.g ≠ K.lb) (k : Nat) (hk : k < 19) (v : Value) : Rk K (fs.set k v) (w.setCell ⟨K.g, fat k, none⟩ v) ps :=
  ⟨h.1.put k hk v, h.2.1.only ((Only.refl (fun j => j = K.g) w).setCell (p := ⟨K.g, fat k, none⟩) (.inl rfl) v) (fun e => hn e.symm), h.2.2⟩

section
variable {K : Kon} {w w' : World} {a b c d : Int}

set_option maxRecDepth 100000 in
set_option maxHeartbeats 8000000 in
theorem preset_any {lc lp pb : Nat} {ps : List Nat} (hn : K.g ≠ K.lb) (h1 : lc ≤ 8) (h2 : lp ≤ 4) (h3 : pb ≤ 4) (hnl : K.nl = 768 * 2 ^ (lc + lp)) (hnl2 : K.nl ≤ 1000000) (h : Rk K (unFs K 0 0 0 0) w ps) :
    Calls Tryz.prog 70 #[.pointer (some ⟨K.g, 0, none⟩), .agg #[.int .i64 (lc : Int), .int .i64 (lp : Int), .int .i64 (pb : Int), .int .i64 d]] w fun e w' =>
      e = .returned (.tuple #[]) ∧ Rk K (unFs K lc lp pb d) w' (List.replicate (1847 + K.nl) 1024) ∧ Only K.Bk w w' := by
  obtain ⟨w1, hw1⟩ : ∃ w1, w1 = w.alloc (.cells #[.int .i64 (lc : Int), .int .i64 (lp : Int), .int .i64 (pb : Int), .int .i64 d] 40) := ⟨_, rfl⟩
  have hO1 : Only K.Bk w w1 := by rw [hw1]; exact (Only.refl _ w).alloc _
  have hz1 : Rk K (unFs K 0 0 0 0) w1 ps := (K.prb _ hn).only h (show Only (fun _ => False) w w1 by rw [hw1]; exact (Only.refl _ w).alloc _) (fun _ _ h => h)
  have HBk : Blk w1 w.heap.size 40 #[.int .i64 (lc : Int), .int .i64 (lp : Int), .int .i64 (pb : Int), .int .i64 d] := by rw [hw1]; exact Blk.fresh w _ _
  have hgs : K.g < w.heap.size := h.1.lt
  have hls : K.lb < w.heap.size := h.2.1.lt
  have KM := fun w => pbits_any (lc : Int) (lp : Int) (pb : Int) d w
  have hmay : mayB (lc : Int) (lp : Int) (pb : Int) = true := by unfold mayB inB; simp; omega
  rw [hmay] at KM
  have KM := Lib.hid KM
  have KL := fun w => plits_any (lc := lc) (lp := lp) (pb : Int) d (by omega) w
  rw [← hnl] at KL
  have KL := Lib.hid KL
  have HW1 := Lib.hid hw1
  have HZ1 := Lib.hid hz1
  have HO1 := Lib.hid hO1
  have HN := Lib.hid (And.intro hn (And.intro hnl2 (And.intro hgs hls)))
  clear hw1 hz1 hO1 hmay hnl h h1 h2 h3 hn hnl2
  generalize hB : w.heap.size = B at *
  have HBK := Lib.hid HBk
  have q1 : ¬ ((K.nl : Nat) : Int) > (K.nl : Int) := by omega
  have q1' : decide (((K.nl : Nat) : Int) > (K.nl : Int)) = false := decide_eq_false q1
  clear HBk hgs hls
  go_enter Tryz.func70, Tryz.ntmps70
  go_upto_region 1 with fail
  rw [← HW1.out]
  clear HW1
  have HS := Lib.hid (fun (W : World) (hW : Only (fun _ => False) w1 W) => (show W.cell? ⟨B, 0, none⟩ = some (.int .i64 (lc : Int)) ∧ W.cell? ⟨B, 1, none⟩ = some (.int .i64 (lp : Int)) ∧ W.cell? ⟨B, 2, none⟩ = some (.int .i64 (pb : Int)) ∧ W.cell? ⟨B, 3, none⟩ = some (.int .i64 d) ∧ W.cell? ⟨K.g, 1862, none⟩ = some (.slice (some ⟨K.lb, 0, none⟩) K.nl K.nl) from
    have hk := HBK.out.only hW (fun h => h)
    ⟨hk.cell 0, hk.cell 1, hk.cell 2, hk.cell 3, (HZ1.out.1.only hW (fun h => h)).cell 15 (by decide)⟩))
  obtain ⟨c0, c1, c2, c3, c4⟩ := HS.out w1 (Only.refl _ _)
  go_region_held3 (fun w' => w'.cell? ⟨B, 0, none⟩ = some (.int .i64 (lc : Int)) ∧ w'.cell? ⟨B, 1, none⟩ = some (.int .i64 (lp : Int)) ∧ w'.cell? ⟨B, 2, none⟩ = some (.int .i64 (pb : Int)) ∧ w'.cell? ⟨B, 3, none⟩ = some (.int .i64 d) ∧ w'.cell? ⟨K.g, 1862, none⟩ = some (.slice (some ⟨K.lb, 0, none⟩) K.nl K.nl))
    (first | assumption | go_keep | exact ⟨c0, c1, c2, c3, c4⟩ | exact HS.out _ HB2.out | exact HS.out _ HB3.out)
    (first
      | (go_at_call 86; refine (KM.out _).mono ?_; rintro e w2 ⟨rfl, hb2⟩; have HB2 := Lib.hid (show Only (fun _ => False) w1 w2 from ((Only.refl (fun _ => False) w1).drew).trans (Only.of_below hb2)); clear hb2)
      | (go_at_call 69; refine (KL.out _).mono ?_; rintro e w3 ⟨rfl, hb3⟩; have HB3 := Lib.hid (show Only (fun _ => False) w1 w3 from HB2.out.trans (Only.of_below hb3)); clear hb3))
  have hz3 : Rk K (unFs K 0 0 0 0) w3 ps := (K.prb _ HN.out.1).only HZ1.out HB3.out (fun _ _ h => h)
  have p0 := hz3.put HN.out.1 0 (by decide) (.int .i64 (lc : Int))
  have p1 := p0.put HN.out.1 1 (by decide) (.int .i64 (lp : Int))
  have p2 := p1.put HN.out.1 2 (by decide) (.int .i64 (pb : Int))
  have p3 := p2.put HN.out.1 3 (by decide) (.int .i64 d)
  have p4 := p3.put HN.out.1 10 (by decide) (.int .i64 0)
  have p5 := p4.put HN.out.1 11 (by decide) (.int .u32 0)
  have p6 := p5.put HN.out.1 12 (by decide) (.int .u32 0)
  have p7 := p6.put HN.out.1 13 (by decide) (.int .u32 0)
  have p8 := p7.put HN.out.1 14 (by decide) (.int .u32 0)
  have HZ4 : Hid (Rk K (unFs K lc lp pb d) ((((((((((w3).setCell ⟨K.g, 0, none⟩ (.int .i64 (lc : Int))).setCell ⟨K.g, 1, none⟩ (.int .i64 (lp : Int))).setCell ⟨K.g, 2, none⟩ (.int .i64 (pb : Int))).setCell ⟨K.g, 3, none⟩ (.int .i64 d)).setCell ⟨K.g, 10, none⟩ (.int .i64 0)).setCell ⟨K.g, 11, none⟩ (.int .u32 0)).setCell ⟨K.g, 12, none⟩ (.int .u32 0)).setCell ⟨K.g, 13, none⟩ (.int .u32 0)).setCell ⟨K.g, 14, none⟩ (.int .u32 0)) ps) := Lib.hid p8
  have HO4 : Hid (Only K.Bk w ((((((((((w3).setCell ⟨K.g, 0, none⟩ (.int .i64 (lc : Int))).setCell ⟨K.g, 1, none⟩ (.int .i64 (lp : Int))).setCell ⟨K.g, 2, none⟩ (.int .i64 (pb : Int))).setCell ⟨K.g, 3, none⟩ (.int .i64 d)).setCell ⟨K.g, 10, none⟩ (.int .i64 0)).setCell ⟨K.g, 11, none⟩ (.int .u32 0)).setCell ⟨K.g, 12, none⟩ (.int .u32 0)).setCell ⟨K.g, 13, none⟩ (.int .u32 0)).setCell ⟨K.g, 14, none⟩ (.int .u32 0))) := Lib.hid ((((((((((HO1.out.trans (HB3.out.mono fun _ h => h.elim)).setCell (p := ⟨K.g, 0, none⟩) (.inl (.inl rfl)) (.int .i64 (lc : Int))).setCell (p := ⟨K.g, 1, none⟩) (.inl (.inl rfl)) (.int .i64 (lp : Int))).setCell (p := ⟨K.g, 2, none⟩) (.inl (.inl rfl)) (.int .i64 (pb : Int))).setCell (p := ⟨K.g, 3, none⟩) (.inl (.inl rfl)) (.int .i64 d)).setCell (p := ⟨K.g, 10, none⟩) (.inl (.inl rfl)) (.int .i64 0)).setCell (p := ⟨K.g, 11, none⟩) (.inl (.inl rfl)) (.int .u32 0)).setCell (p := ⟨K.g, 12, none⟩) (.inl (.inl rfl)) (.int .u32 0)).setCell (p := ⟨K.g, 13, none⟩) (.inl (.inl rfl)) (.int .u32 0)).setCell (p := ⟨K.g, 14, none⟩) (.inl (.inl rfl)) (.int .u32 0))
  have HB4 : Hid (Blk ((((((((((w3).setCell ⟨K.g, 0, none⟩ (.int .i64 (lc : Int))).setCell ⟨K.g, 1, none⟩ (.int .i64 (lp : Int))).setCell ⟨K.g, 2, none⟩ (.int .i64 (pb : Int))).setCell ⟨K.g, 3, none⟩ (.int .i64 d)).setCell ⟨K.g, 10, none⟩ (.int .i64 0)).setCell ⟨K.g, 11, none⟩ (.int .u32 0)).setCell ⟨K.g, 12, none⟩ (.int .u32 0)).setCell ⟨K.g, 13, none⟩ (.int .u32 0)).setCell ⟨K.g, 14, none⟩ (.int .u32 0)) B 40 #[.int .i64 (lc : Int), .int .i64 (lp : Int), .int .i64 (pb : Int), .int .i64 d]) := Lib.hid (((((((((((HBK.out.only HB3.out (fun h => h)).far (p := ⟨K.g, 0, none⟩) (show B ≠ K.g by have := HN.out.2.2.1; omega) (.int .i64 (lc : Int))).far (p := ⟨K.g, 1, none⟩) (show B ≠ K.g by have := HN.out.2.2.1; omega) (.int .i64 (lp : Int))).far (p := ⟨K.g, 2, none⟩) (show B ≠ K.g by have := HN.out.2.2.1; omega) (.int .i64 (pb : Int))).far (p := ⟨K.g, 3, none⟩) (show B ≠ K.g by have := HN.out.2.2.1; omega) (.int .i64 d)).far (p := ⟨K.g, 10, none⟩) (show B ≠ K.g by have := HN.out.2.2.1; omega) (.int .i64 0)).far (p := ⟨K.g, 11, none⟩) (show B ≠ K.g by have := HN.out.2.2.1; omega) (.int .u32 0)).far (p := ⟨K.g, 12, none⟩) (show B ≠ K.g by have := HN.out.2.2.1; omega) (.int .u32 0)).far (p := ⟨K.g, 13, none⟩) (show B ≠ K.g by have := HN.out.2.2.1; omega) (.int .u32 0)).far (p := ⟨K.g, 14, none⟩) (show B ≠ K.g by have := HN.out.2.2.1; omega) (.int .u32 0)))
  obtain ⟨u0, a0⟩ : ∃ u, w3.cell? ⟨K.g, 0, none⟩ = some u := ⟨_, hz3.1.cell 0 (by decide)⟩
  have f0 := hz3.1.free 0
  obtain ⟨u1, a1⟩ : ∃ u, w3.cell? ⟨K.g, 1, none⟩ = some u := ⟨_, hz3.1.cell 1 (by decide)⟩
  have f1 := hz3.1.free 1
  obtain ⟨u2, a2⟩ : ∃ u, w3.cell? ⟨K.g, 2, none⟩ = some u := ⟨_, hz3.1.cell 2 (by decide)⟩
  have f2 := hz3.1.free 2
  obtain ⟨u3, a3⟩ : ∃ u, w3.cell? ⟨K.g, 3, none⟩ = some u := ⟨_, hz3.1.cell 3 (by decide)⟩
  have f3 := hz3.1.free 3
  obtain ⟨u10, a10⟩ : ∃ u, w3.cell? ⟨K.g, 10, none⟩ = some u := ⟨_, hz3.1.cell 10 (by decide)⟩
  have f10 := hz3.1.free 10
  obtain ⟨u11, a11⟩ : ∃ u, w3.cell? ⟨K.g, 11, none⟩ = some u := ⟨_, hz3.1.cell 11 (by decide)⟩
  have f11 := hz3.1.free 11
  obtain ⟨u12, a12⟩ : ∃ u, w3.cell? ⟨K.g, 12, none⟩ = some u := ⟨_, hz3.1.cell 12 (by decide)⟩
  have f12 := hz3.1.free 12
  obtain ⟨u13, a13⟩ : ∃ u, w3.cell? ⟨K.g, 13, none⟩ = some u := ⟨_, hz3.1.cell 13 (by decide)⟩
  have f13 := hz3.1.free 13
  obtain ⟨u14, a14⟩ : ∃ u, w3.cell? ⟨K.g, 14, none⟩ = some u := ⟨_, hz3.1.cell 14 (by decide)⟩
  have f14 := hz3.1.free 14
  obtain ⟨c0, c1, c2, c3, _⟩ := HS.out w3 HB3.out
  clear hz3 p0 p1 p2 p3 p4 p5 p6 p7 p8 HS HZ1 HBK HB2 HB3 KM
  go_upto_region 4 with fail
  generalize (((((((((w3).setCell ⟨K.g, 0, none⟩ (.int .i64 (lc : Int))).setCell ⟨K.g, 1, none⟩ (.int .i64 (lp : Int))).setCell ⟨K.g, 2, none⟩ (.int .i64 (pb : Int))).setCell ⟨K.g, 3, none⟩ (.int .i64 d)).setCell ⟨K.g, 10, none⟩ (.int .i64 0)).setCell ⟨K.g, 11, none⟩ (.int .u32 0)).setCell ⟨K.g, 12, none⟩ (.int .u32 0)).setCell ⟨K.g, 13, none⟩ (.int .u32 0)).setCell ⟨K.g, 14, none⟩ (.int .u32 0) = w4 at *
  clear a0 f0 a1 f1 a2 f2 a3 f3 a10 f10 a11 f11 a12 f12 a13 f13 a14 f14 c0 c1 c2 c3
  have KC := Lib.hid (chances_renew (D := fun _ => False) (K.prb _ HN.out.1) K.lay (by omega) ⟨ps, HZ4.out, fun _ h => h.elim, Only.refl _ _⟩)
  go_wp2_with fail
  refine KC.out.mono ?_
  rintro e w5 ⟨rfl, hr5⟩
  have HR5 := Lib.hid hr5
  obtain ⟨ps5, hp5, _, ho5⟩ := hr5
  have HS5 := Lib.hid (fun (W : World) (hW : Only (fun _ => False) w5 W) => (show W.cell? ⟨B, 0, none⟩ = some (.int .i64 (lc : Int)) ∧ W.cell? ⟨B, 1, none⟩ = some (.int .i64 (lp : Int)) ∧ W.cell? ⟨B, 2, none⟩ = some (.int .i64 (pb : Int)) ∧ W.cell? ⟨B, 3, none⟩ = some (.int .i64 d) ∧ W.cell? ⟨K.g, 1862, none⟩ = some (.slice (some ⟨K.lb, 0, none⟩) K.nl K.nl) from
    have hk := (HB4.out.only ho5 (fun h => by have := HN.out.2.2; rcases h with h | h <;> omega)).only hW (fun h => h)
    ⟨hk.cell 0, hk.cell 1, hk.cell 2, hk.cell 3, (hp5.1.only hW (fun h => h)).cell 15 (by decide)⟩))
  obtain ⟨c0, c1, c2, c3, c4⟩ := HS5.out w5 (Only.refl _ _)
  have q2 : (0 : Int) ≤ ((K.nl : Nat) : Int) := by omega
  clear hp5 ho5 HZ4 KC
  go_wp2_with fail
  go_region_held3 (fun w' => w'.cell? ⟨B, 0, none⟩ = some (.int .i64 (lc : Int)) ∧ w'.cell? ⟨B, 1, none⟩ = some (.int .i64 (lp : Int)) ∧ w'.cell? ⟨B, 2, none⟩ = some (.int .i64 (pb : Int)) ∧ w'.cell? ⟨B, 3, none⟩ = some (.int .i64 d) ∧ w'.cell? ⟨K.g, 1862, none⟩ = some (.slice (some ⟨K.lb, 0, none⟩) K.nl K.nl))
    (first | assumption | go_keep | exact ⟨c0, c1, c2, c3, c4⟩ | exact HS5.out _ HB6.out | exact HS6)
    (first
      | (go_at_call 69; refine (KL.out _).mono ?_; rintro e w6 ⟨rfl, hb6⟩; have HB6 := Lib.hid (show Only (fun _ => False) w5 w6 from ((Only.refl (fun _ => False) w5).drew).trans (Only.of_below hb6)); clear hb6)
      | (go_at_call 97; refine (renew_any (R := Rk K (unFs K lc lp pb d)) (B := K.Bk) (w0 := w4) (D := fun i => False ∨ i < 1847) (ad := K.ad) (L := 1847 + K.nl) (a := 1847) (b := K.lb) (o := 0) (n := K.nl) (cap := K.nl) (K.prb _ HN.out.1) (fun j hj => Kon.ad_lit (by omega) (by omega)) (by omega) HN.out.2.1 ?_).mono ?_; (· obtain ⟨ps6, g1, g2, g3⟩ := HR5.out; exact ⟨ps6, (K.prb _ HN.out.1).only g1 HB6.out (fun _ _ h => h), g2, g3.trans (HB6.out.mono fun _ h => h.elim)⟩); rintro e w7 ⟨rfl, hr7⟩; have HR7 := Lib.hid hr7; have HS6 := (show w7.cell? ⟨B, 0, none⟩ = some (.int .i64 (lc : Int)) ∧ w7.cell? ⟨B, 1, none⟩ = some (.int .i64 (lp : Int)) ∧ w7.cell? ⟨B, 2, none⟩ = some (.int .i64 (pb : Int)) ∧ w7.cell? ⟨B, 3, none⟩ = some (.int .i64 d) ∧ w7.cell? ⟨K.g, 1862, none⟩ = some (.slice (some ⟨K.lb, 0, none⟩) K.nl K.nl) from (by obtain ⟨ps7, g1, _, g3⟩ := hr7; have hk := HB4.out.only g3 (fun h => by have := HN.out.2.2; rcases h with h | h <;> omega); exact ⟨hk.cell 0, hk.cell 1, hk.cell 2, hk.cell 3, g1.1.cell 15 (by decide)⟩)); clear hr7))
  go_wp2_with fail
  first | go_end0 | refine bodyPost_ret (results_none rfl _ _ _) rfl ?_
  obtain ⟨ps7, g1, g2, g3⟩ := HR7.out
  have he := all_fresh g1.2.2 (fun i hi => g2 i (by
    by_cases h : i < 1847
    · exact .inl (.inr h)
    · exact .inr (by omega)))
  rw [he] at g1
  exact ⟨rfl, g1, HO4.out.trans g3⟩
end
end Go.Proofs.YtiolfjhddbiglaaGreatDoor

/-
  The program's window is emptied.
-/
namespace Go.Proofs.YtiolfjhddbiglaaGreatDoor
open Go.RowKit

section
variable {w w' : World} {g m : Nat} {G : Nat → Prop} {s : Ws}
set_option maxRecDepth 100000 in
set_option maxHeartbeats 1000000 in
theorem wempty_any (h : Pwin w g G m s) :
    Calls Tryz.prog 99 #[.pointer (some ⟨g, 0, none⟩)] w (OwnPost (fun w' G' => Pwin w' g G' m s.empty) w G (.tuple #[])) := by
  have hend : Pwin ((w.setCell ⟨g, 2, none⟩ (.int .i64 0)).setCell ⟨g, 3, none⟩ (.int .i64 0)) g G m s.empty ∧ Only G w ((w.setCell ⟨g, 2, none⟩ (.int .i64 0)).setCell ⟨g, 3, none⟩ (.int .i64 0)) := by
    have hg : G g := by
      rcases h with ⟨ring, h⟩ | h
      · exact h.2.2.1
      · exact h.2.1
    have hO : ∀ S : Nat → Prop, S g → Only S w ((w.setCell ⟨g, 2, none⟩ (.int .i64 0)).setCell ⟨g, 3, none⟩ (.int .i64 0)) := fun S hS => ((Only.refl S w).setCell (p := ⟨g, 2, none⟩) (.inl hS) _).setCell (p := ⟨g, 3, none⟩) (.inl hS) _
    refine ⟨?_, hO G hg⟩
    rcases h with ⟨ring, h1, h2, h3, h4, A, c, hB, hR⟩ | ⟨h1, h3, h4, hB⟩
    · refine .inl ⟨ring, h1, ring_empty h2, h3, fun i hi => by have := h4 i hi; simpa [World.setCell] using this, A, c, ?_, hR.only (hO (fun i => i = g) rfl) (fun i _ hn => hn)⟩
      have := (hB.put 2 (.int .i64 0)).put 3 (.int .i64 0)
      rw [empty_count]
      have e : s.empty.l.length % s.empty.sz = 0 := Nat.zero_mod _
      rw [e]
      exact this
    · exact .inr ⟨h1, h3, fun i hi => by have := h4 i hi; simpa [World.setCell] using this, (hB.put 2 (.int .i64 0)).put 3 (.int .i64 0)⟩
  obtain ⟨x2, x3, c2, c3, z2, z3⟩ : ∃ x2 x3 : Int, w.cell? ⟨g, 2, none⟩ = some (.int .i64 x2) ∧ w.cell? ⟨g, 3, none⟩ = some (.int .i64 x3) ∧ w.frozen? ⟨g, 2, none⟩ = false ∧ w.frozen? ⟨g, 3, none⟩ = false := by
    rcases h with ⟨ring, h1, h2, h3, h4, A, c, hB, hR⟩ | ⟨h1, h3, h4, hB⟩
    · exact ⟨_, _, hB.cell 2, hB.cell 3, hB.free 2, hB.free 3⟩
    · exact ⟨_, _, hB.cell 2, hB.cell 3, hB.free 2, hB.free 3⟩
  have HE := Lib.hid hend
  clear h hend
  go_enter Tryz.func99, Tryz.ntmps99
  go_wp2_with fail
  first | go_end0 | refine bodyPost_ret (results_none rfl _ _ _) rfl ?_
  exact ⟨rfl, G, HE.out.1, fun i hi => .inl hi, HE.out.2⟩
end
end Go.Proofs.YtiolfjhddbiglaaGreatDoor

/-
  The decoder of LZMA2 in memory; its small calls.
-/
namespace Go.Proofs.YtiolfjhddbiglaaGreatDoor
open Go.RowKit

/-- A decoder of LZMA, whether or not it has a decoder of ranges: the bytes in its window are out. -/
structure Rz (K : Kon) (w : World) (Gw : Nat → Prop) (out : List UInt8) (fs : List Value) (ps : List Nat) : Prop where
  row : Rk K (fs.set 9 (.int .i64 (out.length : Int))) w ps
  win : Pwin w K.wg Gw K.m ⟨K.sz, out, false⟩
  f6 : fs[6]? = some (.pointer (some ⟨K.wg, 0, none⟩))
  f7 : fs[7]? = some (.pointer (some ⟨K.m, 0, none⟩))
  f8 : fs[8]? = some (.int .i64 K.room)
  gn : K.g ≠ K.lb
  mg : K.m ≠ K.g
  mb : K.m ≠ K.lb
  wd : ∀ i, Gw i → i ≠ K.g ∧ i ≠ K.lb ∧ i ≠ K.m
  sz : K.sz ≤ 1048576
  mo : K.m < w.heap.size
def RzPost (K : Kon) (w : World) (Gw : Nat → Prop) (out : List UInt8) (fs : List Value) (ps : List Nat) (e : Ending) (w' : World) : Prop :=
  e = .returned (.tuple #[]) ∧ ∃ Gw', Rz K w' Gw' out fs ps ∧ (∀ i, Gw' i → Gw i ∨ w.heap.size ≤ i) ∧ Only (fun i => i = K.g ∨ Gw i) w w'

section
variable {K : Kon} {w w' : World} {Gw S : Nat → Prop} {out : List UInt8} {fs : List Value} {ps : List Nat}
theorem Rz.only (h : Rz K w Gw out fs ps) (hO : Only S w w') (h1 : ¬ S K.g) (h2 : ¬ S K.lb) (h3 : ∀ i, Gw i → ¬ S i) : Rz K w' Gw out fs ps :=
  ⟨(K.prb _ h.gn).only h.row hO (fun i hi hs => by rcases hi with rfl | rfl; exact h1 hs; exact h2 hs), h.win.only hO h3, h.f6, h.f7, h.f8, h.gn, h.mg, h.mb, h.wd, h.sz, Nat.lt_of_lt_of_le h.mo hO.size⟩
theorem Rz.cell6 (h : Rz K w Gw out fs ps) : w.cell? ⟨K.g, 6, none⟩ = some (.pointer (some ⟨K.wg, 0, none⟩)) := by
  rw [show (6 : Nat) = fat 6 from rfl, h.row.1.cell 6 (by decide), List.getElem?_set_ne (by decide)]
  exact h.f6
theorem Rz.cell9 (h : Rz K w Gw out fs ps) : w.cell? ⟨K.g, 9, none⟩ = some (.int .i64 (out.length : Int)) := by
  have hl : fs.length = 19 := by
    obtain ⟨_, _, _, h, _⟩ := h.row.1
    simpa using h
  rw [show (9 : Nat) = fat 9 from rfl, h.row.1.cell 9 (by decide), List.getElem?_set_self (by omega)]
/-- the window has turned, then the place is told -/
theorem Rz.moved {w1 : World} {G1 : Nat → Prop} {out' : List UInt8} (h : Rz K w Gw out fs ps) (hW : Pwin w1 K.wg G1 K.m ⟨K.sz, out', false⟩) (hG : ∀ i, G1 i → Gw i ∨ w.heap.size ≤ i) (hO : Only Gw w w1) :
    RzPost K w Gw out' fs ps (.returned (.tuple #[])) (w1.setCell ⟨K.g, 9, none⟩ (.int .i64 (out'.length : Int))) := by
  have hg : K.g < w.heap.size := h.row.1.lt
  have hb : K.lb < w.heap.size := h.row.2.1.lt
  have hR1 : Rk K (fs.set 9 (.int .i64 (out.length : Int))) w1 ps := (K.prb _ h.gn).only h.row hO (fun i hi hs => by
    rcases hi with rfl | rfl
    · exact (h.wd _ hs).1 rfl
    · exact (h.wd _ hs).2.1 rfl)
  have hR2 := hR1.put h.gn 9 (by decide) (.int .i64 (out'.length : Int))
  rw [List.set_set] at hR2
  have hOg := (Only.refl (fun i => i = K.g) w1).setCell (p := ⟨K.g, 9, none⟩) (.inl rfl) (.int .i64 (out'.length : Int))
  have hs1 : w.heap.size ≤ w1.heap.size := hO.size
  have hgg : ∀ i, G1 i → i ≠ K.g := fun i hi e => by
    rcases hG i hi with h' | h'
    · exact (h.wd i h').1 e
    · omega
  refine ⟨rfl, G1, ⟨hR2, hW.only hOg (fun i hi e => hgg i hi e), h.f6, h.f7, h.f8, h.gn, h.mg, h.mb, fun i hi => ?_, h.sz, ?_⟩, hG, (hO.mono fun i hi => .inr hi).trans (hOg.mono fun i hi => .inl hi)⟩
  rcases hG i hi with h' | h'
  · exact h.wd i h'
  · refine ⟨by omega, by omega, fun e => ?_⟩
    have : K.m < w.heap.size := h.mo
    omega
  · exact Nat.lt_of_lt_of_le h.mo (Nat.le_trans hs1 hOg.size)

set_option maxRecDepth 100000 in
set_option maxHeartbeats 2000000 in
/-- a byte that no packet told -/
theorem zput_one {b : UInt8} (h : Rz K w Gw out fs ps) (ho : out.length ≤ 1000000) :
    Calls Tryz.prog 77 #[.pointer (some ⟨K.g, 0, none⟩), .int .u8 (b.toNat : Int)] w (RzPost K w Gw (out ++ [b]) fs ps) := by
  have c6 := h.cell6
  have KP := Lib.hid (wput_any (b := b) h.win h.sz (show out.length ≤ 1000000000 by omega))
  have e1 : IntKind.i64.wrap ((out.length : Int) + 1) = (out.length : Int) + 1 := IntWalk.i64_in _ (by omega)
  have HH := Lib.hid h
  clear h ho
  go_enter Tryz.func77, Tryz.ntmps77
  go_wp2_with fail
  refine KP.out.mono ?_
  rintro e w1 ⟨rfl, G1, hW, hG, hO⟩
  have hm := HH.out.moved (out' := out ++ [b]) hW hG hO
  have hRz1 : Rz K w1 Gw out fs ps ∨ True := .inr trivial
  have c9 : w1.cell? ⟨K.g, 9, none⟩ = some (.int .i64 (out.length : Int)) := by
    rw [hO.cell HH.out.row.1.lt (fun hh => (HH.out.wd _ hh).1 rfl)]
    exact HH.out.cell9
  have z9 : w1.frozen? ⟨K.g, 9, none⟩ = false := by
    obtain ⟨cs, hB, _⟩ := HH.out.row.1
    exact (hB.only hO (fun hh => (HH.out.wd _ hh).1 rfl)).free 9
  rw [List.length_append, List.length_singleton, Int.natCast_add, Int.natCast_one] at hm
  have HM := Lib.hid hm
  clear hm hW hG hO KP c6 hRz1
  go_wp2_with fail
  first | go_end0 | refine bodyPost_ret (results_none rfl _ _ _) rfl ?_
  exact HM.out

set_option maxRecDepth 100000 in
set_option maxHeartbeats 2000000 in
/-- the window is emptied -/
theorem zempty_one (h : Rz K w Gw out fs ps) :
    Calls Tryz.prog 74 #[.pointer (some ⟨K.g, 0, none⟩)] w (RzPost K w Gw [] fs ps) := by
  have c6 := h.cell6
  have KP := Lib.hid (wempty_any h.win)
  have HH := Lib.hid h
  clear h
  go_enter Tryz.func74, Tryz.ntmps74
  go_wp2_with fail
  refine KP.out.mono ?_
  rintro e w1 ⟨rfl, G1, hW, hG, hO⟩
  have hm := HH.out.moved (out' := []) hW hG hO
  have z9 : w1.frozen? ⟨K.g, 9, none⟩ = false := by
    obtain ⟨cs, hB, _⟩ := HH.out.row.1
    exact (hB.only hO (fun hh => (HH.out.wd _ hh).1 rfl)).free 9
  have c9 : w1.cell? ⟨K.g, 9, none⟩ = some (.int .i64 (out.length : Int)) := by
    rw [hO.cell HH.out.row.1.lt (fun hh => (HH.out.wd _ hh).1 rfl)]
    exact HH.out.cell9
  have HM := Lib.hid hm
  clear hm hW hG hO KP c6
  go_wp2_with fail
  first | go_end0 | refine bodyPost_ret (results_none rfl _ _ _) rfl ?_
  exact HM.out
end
end Go.Proofs.YtiolfjhddbiglaaGreatDoor

/-
  The decoder of LZMA2: a byte is read, a number of bytes.
-/
namespace Go.Proofs.YtiolfjhddbiglaaGreatDoor
open Go.RowKit

def srcV (f : Nat) (b : Bool) : Value := if b = true then .iface 52 (.pointer (some ⟨f, 0, none⟩)) else .nilIface
def pkV : Option Nat → Value
  | none => .pointer none
  | some p => .pointer (some ⟨p, 0, none⟩)
def d2Cells (g f : Nat) (s : Ds) : Array Value :=
  #[.pointer (some ⟨g, 0, none⟩), .bool s.closed, srcV f s.src, .bool s.ended, .int .u8 (s.nd : Int), .int .i64 s.a0, .int .i64 s.a1, .int .i64 s.a2, .int .i64 s.a3, .int .i64 (s.left : Int), pkV s.pk]

section
variable {w w' : World} {d g f lo : Nat} {s : Ds} {q : Lq} {bs : List UInt8}

set_option maxRecDepth 100000 in
set_option maxHeartbeats 1000000 in
theorem qbad_any (h : Blk w d 105 (d2Cells g f s)) :
    Calls Tryz.prog 73 #[.pointer (some ⟨d, 0, none⟩)] w fun e w' => e = .returned (.bool (!s.src)) ∧ w = w' := by
  have c2 : w.cell? ⟨d, 2, none⟩ = some (srcV f s.src) := h.cell 2
  clear h
  generalize s.src = b at *
  have q0 : ∀ w : World, (binOp .eql 101 .nilIface .nilIface).run Tryz.prog w = .ok (.bool true) w := fun _ => by kernel_rfl
  have q1 : ∀ w : World, (binOp .eql 101 (.iface 52 (.pointer (some ⟨f, 0, none⟩))) .nilIface).run Tryz.prog w = .ok (.bool false) w := fun _ => by kernel_rfl
  cases b
  · change w.cell? ⟨d, 2, none⟩ = some .nilIface at c2
    go_enter Tryz.func73, Tryz.ntmps73
    go_wp2_with fail
    go_ret
    exact ⟨rfl, rfl⟩
  · change w.cell? ⟨d, 2, none⟩ = some (.iface 52 (.pointer (some ⟨f, 0, none⟩))) at c2
    go_enter Tryz.func73, Tryz.ntmps73
    go_wp2_with fail
    go_ret
    exact ⟨rfl, rfl⟩

set_option maxRecDepth 100000 in
set_option maxHeartbeats 1000000 in
theorem qfail_any (h : Blk w d 105 (d2Cells g f s)) :
    Calls Tryz.prog 40 #[.pointer (some ⟨d, 0, none⟩)] w fun e w' => e = .returned (.tuple #[]) ∧ Blk w' d 105 (d2Cells g f s.fail) ∧ Only (fun i => i = d) w w' := by
  have c2 : w.cell? ⟨d, 2, none⟩ = some (srcV f s.src) := h.cell 2
  have c9 : w.cell? ⟨d, 9, none⟩ = some (.int .i64 (s.left : Int)) := h.cell 9
  have cp : w.cell? ⟨d, 10, none⟩ = some (pkV s.pk) := h.cell 10
  have z2 := h.free 2
  have z9 := h.free 9
  have zp := h.free 10
  have hO := (((Only.refl (fun i => i = d) w).setCell (p := ⟨d, 2, none⟩) (.inl rfl) .nilIface).setCell (p := ⟨d, 10, none⟩) (.inl rfl) (.pointer none)).setCell (p := ⟨d, 9, none⟩) (.inl rfl) (.int .i64 0)
  have hB := ((h.put 2 .nilIface).put 10 (.pointer none)).put 9 (.int .i64 0)
  have HE := Lib.hid (And.intro (show Blk _ d 105 (d2Cells g f s.fail) from hB) hO)
  clear h hB hO
  go_enter Tryz.func40, Tryz.ntmps40
  go_wp2_with fail
  first | go_end0 | refine bodyPost_ret (results_none rfl _ _ _) rfl ?_
  exact ⟨rfl, HE.out.1, HE.out.2⟩

/-- the decoder's fields, and what its source has left -/
structure Rdr (w : World) (d g f lo : Nat) (bs : List UInt8) (q : Lq) : Prop where
  blk : Blk w d 105 (d2Cells g f q.s)
  feed : q.s.src = true → ∃ at_, Feed w f lo bs at_ ∧ q.r = bs.drop at_
  df : d < lo
  ff : lo ≤ f
  nd : q.s.nd < 256
theorem Rdr.only {S : Nat → Prop} (h : Rdr w d g f lo bs q) (hO : Only S w w') (h1 : ¬ S d) (h2 : ∀ i, S i → i < lo ∨ f < i) : Rdr w' d g f lo bs q :=
  ⟨h.blk.only hO h1, fun hs => by obtain ⟨a, hF, hr⟩ := h.feed hs; exact ⟨a, hF.only hO h2, hr⟩, h.df, h.ff, h.nd⟩
def RdrPost (w : World) (d g f lo : Nat) (bs : List UInt8) (v : Value) (q : Lq) (e : Ending) (w' : World) : Prop :=
  e = .returned v ∧ Rdr w' d g f lo bs q ∧ Only (fun i => i = d ∨ i = f) w w'
/-- a field is stored -/
theorem Rdr.put {q' : Lq} (h : Rdr w d g f lo bs q) (k : Nat) (v : Value) (hc : (d2Cells g f q.s).setIfInBounds k v = d2Cells g f q'.s) (hs : q'.s.src = q.s.src) (hr : q'.r = q.r) (hn : q'.s.nd = q.s.nd ∨ q'.s.nd ≤ 7 := by exact .inl rfl) : Rdr (w.setCell ⟨d, k, none⟩ v) d g f lo bs q' := by
  refine ⟨(by have := h.blk.put k v; rw [hc] at this; exact this), fun h1 => ?_, h.df, h.ff, by have := h.nd; omega⟩
  obtain ⟨a, hF, e⟩ := h.feed (hs ▸ h1)
  exact ⟨a, hF.only ((Only.refl (fun i => i = d) w).setCell (p := ⟨d, k, none⟩) (.inl rfl) v) (fun i hi => .inl (by have := h.df; omega)), hr.trans e⟩

theorem rdr_failed (h : Rdr w d g f lo bs q) (hB : Blk w' d 105 (d2Cells g f q.s.fail)) : Rdr w' d g f lo bs q.fail :=
  ⟨hB, (fun hs => by cases hs), h.df, h.ff, h.nd⟩

set_option maxRecDepth 100000 in
set_option maxHeartbeats 1000000 in
/-- a byte is read -/
theorem qread_any (h : Rdr w d g f lo bs q) :
    Calls Tryz.prog 72 #[.pointer (some ⟨d, 0, none⟩)] w (RdrPost w d g f lo bs (.int .u8 (q.b.toNat : Int)) q.rd) := by
  have KB := Lib.hid (qbad_any h.blk)
  cases hs : q.s.src with
  | false =>
    rw [rd_none hs, b_none hs]
    rw [hs] at KB
    have HH := Lib.hid h
    clear h hs
    go_enter Tryz.func72, Tryz.ntmps72
    go_wp2_with fail
    refine KB.out.mono ?_
    rintro e w1 ⟨rfl, rfl⟩
    clear KB
    go_wp2_with fail
    go_ret
    exact ⟨rfl, HH.out, Only.refl _ _⟩
  | true =>
    rw [hs] at KB
    have c2 : w.cell? ⟨d, 2, none⟩ = some (srcV f q.s.src) := h.blk.cell 2
    rw [hs] at c2
    change w.cell? ⟨d, 2, none⟩ = some (.iface 52 (.pointer (some ⟨f, 0, none⟩))) at c2
    obtain ⟨at_, hF, hr⟩ := h.feed hs
    have hm := feed_method
    have hdf : d < f := Nat.lt_of_lt_of_le h.df h.ff
    by_cases hlt : at_ < bs.length
    · have hd : bs.drop at_ = bs[at_] :: bs.drop (at_ + 1) := List.drop_eq_getElem_cons hlt
      have hx : bs.getD at_ 0 = bs[at_] := by simp [List.getD, hlt]
      have KN := feed_more hF hlt
      rw [hx] at KN
      rw [rd_more hs (hr.trans hd), b_more hs (hr.trans hd)]
      have KN := Lib.hid KN
      have HH := Lib.hid (And.intro h hdf)
      clear h hs hF hr hd hx hdf
      generalize bs[at_] = x at *
      go_enter Tryz.func72, Tryz.ntmps72
      go_wp2_with fail
      refine KB.out.mono ?_
      rintro e w1 ⟨rfl, rfl⟩
      clear KB
      go_wp2_with fail
      refine KN.out.mono ?_
      rintro e w1 ⟨rfl, hF1, hg1⟩
      have HF1 := Lib.hid (And.intro hF1 hg1)
      clear hF1 hg1 KN c2
      go_wp2_with fail
      go_ret
      obtain ⟨h, hdf⟩ := HH.out
      obtain ⟨hF1, hg1⟩ := HF1.out
      refine ⟨rfl, ⟨h.blk.grown hg1 (fun e => by injection e with e; omega), fun _ => ⟨_, hF1, rfl⟩, h.df, h.ff, h.nd⟩, (Only.of_grown (S := fun i => i = f) hg1 rfl).mono fun i hi => .inr hi⟩
    · have := hF.le
      obtain rfl : at_ = bs.length := by omega
      have hn : q.r = [] := by rw [hr]; simp
      rw [rd_fail hs hn, b_end hs hn]
      have KN := Lib.hid (feed_end hF)
      have HH := Lib.hid h
      clear h hs hF hr hn hdf this hlt
      go_enter Tryz.func72, Tryz.ntmps72
      go_wp2_with fail
      refine KB.out.mono ?_
      rintro e w1 ⟨rfl, rfl⟩
      clear KB
      go_wp2_with fail
      refine KN.out.mono ?_
      rintro e w1 ⟨rfl, n, rfl⟩
      have KF := Lib.hid (qfail_any (HH.out.blk.drewN n))
      clear KN c2
      go_wp2_with fail
      refine KF.out.mono ?_
      rintro e w2 ⟨rfl, hB, hO⟩
      have HE := Lib.hid (And.intro hB (Only.of_drewN hO))
      clear hB hO KF
      go_wp2_with fail
      go_ret
      exact ⟨rfl, rdr_failed HH.out HE.out.1, HE.out.2.mono fun i hi => .inl hi⟩

set_option maxRecDepth 100000 in
set_option maxHeartbeats 1000000 in
/-- a number of bytes is read -/
theorem qcount_any (h : Rdr w d g f lo bs q) :
    Calls Tryz.prog 100 #[.pointer (some ⟨d, 0, none⟩)] w (RdrPost w d g f lo bs (.int .i64 (q.count : Int)) q.two) := by
  have KR := Lib.hid (qread_any h)
  have h0 := q.b.toNat_lt
  have h1 := q.rd.b.toNat_lt
  have hc : (q.count : Int) = (q.b.toNat : Int) * 256 + (q.rd.b.toNat : Int) + 1 := by unfold Lq.count; omega
  rw [hc]
  clear h hc
  have HB := Lib.hid (And.intro h0 h1)
  go_enter Tryz.func100, Tryz.ntmps100
  go_wp2_with fail
  refine KR.out.mono ?_
  rintro e w1 ⟨rfl, hR1, hO1⟩
  have KR2 := Lib.hid (qread_any hR1)
  have HO1 := Lib.hid hO1
  have e0 : IntKind.i64.wrap (q.b.toNat : Int) = (q.b.toNat : Int) := IntWalk.i64_in _ (by omega)
  have e1 : IntKind.i64.wrap ((q.b.toNat : Int) * 256) = (q.b.toNat : Int) * 256 := IntWalk.i64_in _ (by omega)
  have e2 : IntKind.i64.wrap (q.rd.b.toNat : Int) = (q.rd.b.toNat : Int) := IntWalk.i64_in _ (by omega)
  have e3 : IntKind.i64.wrap ((q.b.toNat : Int) * 256 + (q.rd.b.toNat : Int)) = (q.b.toNat : Int) * 256 + (q.rd.b.toNat : Int) := IntWalk.i64_in _ (by omega)
  have e4 : IntKind.i64.wrap ((q.b.toNat : Int) * 256 + (q.rd.b.toNat : Int) + 1) = (q.b.toNat : Int) * 256 + (q.rd.b.toNat : Int) + 1 := IntWalk.i64_in _ (by omega)
  generalize q.b.toNat = x at *
  generalize q.rd.b.toNat = y at *
  clear hR1 hO1 KR h0 h1
  go_wp2_with fail
  refine KR2.out.mono ?_
  rintro e w2 ⟨rfl, hR2, hO2⟩
  have HE := Lib.hid (And.intro hR2 (HO1.out.trans hO2))
  clear hR2 hO2 KR2
  go_wp2_with fail
  go_ret
  exact ⟨rfl, HE.out.1, HE.out.2⟩
end
end Go.Proofs.YtiolfjhddbiglaaGreatDoor

/-
  A decoder's numbers anew; what was told stays.
-/
namespace Go.Proofs.YtiolfjhddbiglaaGreatDoor
/-- its numbers anew; what was told stays -/
def Lzs.anew (z : Lzs) (lc lp pb : Nat) : Lzs := { z with lc := lc, lp := lp, pb := pb, st := 0, r0 := 0, r1 := 0, r2 := 0, r3 := 0 }
end Go.Proofs.YtiolfjhddbiglaaGreatDoor

/-
  The program's decoder of LZMA: a length.
-/
namespace Go.Proofs.YtiolfjhddbiglaaGreatDoor
open Go.RowKit

def LenPost (K : Kon) (w : World) (Gw : Nat → Prop) (z : Lzs) (r : Nat × Pm Dc) (left : Nat) (e : Ending) (w' : World) : Prop :=
  ∃ v : Nat, MidPost K w Gw (.int .i64 (v : Int)) z r.2 left e w' ∧ v < 272 ∧ (r.2.x ≠ none → v = r.1)
theorem alive_le {t : Pm Dc} {u n : Nat} (h : u < n) : Alive t 0 u < n := by unfold Alive; split <;> omega
theorem alive_is {t : Pm Dc} {u : Nat} (h : t.x ≠ none) : Alive t 0 u = u := by unfold Alive; rw [if_neg h]

section
variable {K : Kon} {w w' : World} {Gw : Nat → Prop} {z : Lzs} {t : Pm Dc} {left : Nat}

set_option maxRecDepth 100000 in
set_option maxHeartbeats 4000000 in
theorem llen_any {A o s : Nat} {v : Int} (h : Lw K w Gw z t left) (hp : z.pb ≤ 4) (ho : z.out.length ≤ 1000000) (hA : 688 ≤ A) (hA2 : A + 514 ≤ 1847) (hoA : o = 15 + (A - 256)) (hs : s = z.out.length % 2 ^ z.pb) :
    Calls Tryz.prog 181 #[.pointer (some ⟨K.g, 0, none⟩), .pointer (some ⟨K.g, o, none⟩)] w (LenPost K w Gw z (lenP decM t A s v) left) := by
  have hs15 : s ≤ 15 := by rw [hs]; exact mod_pb hp
  have KP := lplace_mid h hp ho
  rw [← hs] at KP
  have KP := Lib.hid KP
  have hb1 := bitP_ok decM_ok (k := 0) (a := A) (w := min (v.tdiv 8) 1) (okD_any h.mch.ok) (by omega) (fun h => by cases h)
  have hdef : lenP decM t A s v = lenA decM (bitP decM t A (min (v.tdiv 8) 1)) A s v := rfl
  rw [hdef]
  have KB := Lib.hid (fun (w1 : World) (h1 : Lw K w1 Gw z t left) => (h1.drewN 1).bit (a := A) (b := K.g) (i := o) (min (v.tdiv 8) 1) (Kon.ad_rest (by omega) (by omega) hoA) (by omega))
  obtain ⟨B, hB⟩ : ∃ B, B = bitP decM t A (min (v.tdiv 8) 1) := ⟨_, rfl⟩
  rw [← hB] at KB hb1 ⊢
  have j1 : (s : Int) < 16 := by omega
  have j0 : (0 : Int) ≤ (s : Int) := by omega
  by_cases hu : B.1 = 0
  · have KT := Lib.hid (fun (w1 : World) (h1 : Lw K w1 Gw z B.2 left) => (h1.drewN 1).tree (a := A + 2 + 8 * s) (n := 3) (b := K.g) (o := o + 2 + s * 8) (len := 8) (cap := 8) v (fun m hm => Kon.ad_rest (by omega) (by have : m < 8 := hm; omega) (by omega)) (by show A + 2 + 8 * s + 8 ≤ _; omega) (by decide) (by decide))
    have hlt := (treeP_ok decM_ok (k := 0) (a := A + 2 + 8 * s) (n := 3) (v := v) (okD_any hb1.2) (by show A + 2 + 8 * s + 8 ≤ _; omega) (fun h => by cases h)).1
    have hres : lenA decM B A s v = treeP decM B.2 (A + 2 + 8 * s) 3 v := by unfold lenA; rw [if_pos hu]
    rw [hres]
    obtain ⟨T, hT⟩ : ∃ T, T = treeP decM B.2 (A + 2 + 8 * s) 3 v := ⟨_, rfl⟩
    rw [← hT] at KT hlt ⊢
    have hu2 : ((B.1 : Int) == 0) = true := by simp [hu]
    have hlt : T.1 < 8 := hlt
    have HX := Lib.hid hlt
    clear h hs hB hT hu hres hdef hb1 hA hA2 hoA hs15 hp ho hlt
    go_enter Tryz.func181, Tryz.ntmps181
    go_wp2_with fail
    refine KP.out.mono ?_
    rintro e w1 ⟨rfl, hz1, ho1⟩
    have HO1 := Lib.hid ho1
    have c5 := hz1.f.c5
    have KB := Lib.hid (KB.out w1 hz1)
    clear KP hz1 ho1
    go_wp2_with fail
    go_still_tail 7, (by kernel_rfl)
    change wpList _ _ _ _ _ w1.drew
    go_wp2_with fail
    refine KB.out.mono ?_
    rintro e w2 ⟨rfl, hz2, ho2⟩
    have HO2 := Lib.hid (HO1.out.trans (Only.of_drewN ho2))
    have e5 := hz2.f.c5
    have KC := Lib.hid (KT.out w2 hz2)
    clear hz2 ho2 KB KT c5
    go_wp2_with fail
    go_still_tail 10, (by kernel_rfl)
    change wpList _ _ _ _ _ w2.drew
    go_wp2_with fail
    refine KC.out.mono ?_
    rintro e w3 ⟨rfl, hz3, ho3⟩
    have HZ3 := Lib.hid hz3
    have HO3 := Lib.hid (HO2.out.trans (Only.of_drewN ho3))
    clear hz3 ho3 KC
    go_wp2_with fail
    go_ret
    exact ⟨Alive T.2 0 T.1, ⟨rfl, HZ3.out, HO3.out⟩, by have := alive_le (t := T.2) HX.out; omega, fun hx => alive_is hx⟩
  · have hu2 : ((B.1 : Int) == 0) = false := by simp; omega
    have KB2 := Lib.hid (fun (w1 : World) (h1 : Lw K w1 Gw z B.2 left) => (h1.drewN 1).bit (a := A + 1) (b := K.g) (i := o + 1) (min (v.tdiv 16) 1) (Kon.ad_rest (by omega) (by omega) (by omega)) (by omega))
    have hb2 := bitP_ok decM_ok (k := 0) (a := A + 1) (w := min (v.tdiv 16) 1) (okD_any hb1.2) (by omega) (fun h => by cases h)
    have hres : lenA decM B A s v = lenB decM (bitP decM B.2 (A + 1) (min (v.tdiv 16) 1)) A s v := by unfold lenA; rw [if_neg hu]
    rw [hres]
    obtain ⟨B2, hB2⟩ : ∃ B2, B2 = bitP decM B.2 (A + 1) (min (v.tdiv 16) 1) := ⟨_, rfl⟩
    rw [← hB2] at KB2 hb2 ⊢
    by_cases hv : B2.1 = 0
    · have KT := Lib.hid (fun (w1 : World) (h1 : Lw K w1 Gw z B2.2 left) => (h1.drewN 1).tree (a := A + 130 + 8 * s) (n := 3) (b := K.g) (o := o + 130 + s * 8) (len := 8) (cap := 8) (v - 8) (fun m hm => Kon.ad_rest (by omega) (by have : m < 8 := hm; omega) (by omega)) (by show A + 130 + 8 * s + 8 ≤ _; omega) (by decide) (by decide))
      have hlt := (treeP_ok decM_ok (k := 0) (a := A + 130 + 8 * s) (n := 3) (v := v - 8) (okD_any hb2.2) (by show A + 130 + 8 * s + 8 ≤ _; omega) (fun h => by cases h)).1
      have hres2 : lenB decM B2 A s v = (8 + (treeP decM B2.2 (A + 130 + 8 * s) 3 (v - 8)).1, (treeP decM B2.2 (A + 130 + 8 * s) 3 (v - 8)).2) := by unfold lenB; rw [if_pos hv]
      rw [hres2]
      obtain ⟨T, hT⟩ : ∃ T, T = treeP decM B2.2 (A + 130 + 8 * s) 3 (v - 8) := ⟨_, rfl⟩
      rw [← hT] at KT hlt ⊢
      have hv2 : ((B2.1 : Int) == 0) = true := by simp [hv]
      have hlt : T.1 < 8 := hlt
      obtain ⟨x, hx⟩ : ∃ x, x = Alive T.2 0 T.1 := ⟨_, rfl⟩
      have hx8 : x < 8 := by rw [hx]; exact alive_le hlt
      have e7 : IntKind.i64.wrap (8 + (x : Int)) = ((8 + x : Nat) : Int) := by rw [show 8 + (x : Int) = ((8 + x : Nat) : Int) by omega]; exact IntWalk.i64_in _ (by omega)
      unfold TreePost at KT
      rw [← hx] at KT
      have HX := Lib.hid (And.intro hx hx8)
      clear h hs hB hB2 hT hu hv hres hres2 hdef hb1 hb2 hA hA2 hoA hs15 hp ho hlt hx hx8
      go_enter Tryz.func181, Tryz.ntmps181
      go_wp2_with fail
      refine KP.out.mono ?_
      rintro e w1 ⟨rfl, hz1, ho1⟩
      have HO1 := Lib.hid ho1
      have c5 := hz1.f.c5
      have KB := Lib.hid (KB.out w1 hz1)
      clear KP hz1 ho1
      go_wp2_with fail
      go_still_tail 7, (by kernel_rfl)
      change wpList _ _ _ _ _ w1.drew
      go_wp2_with fail
      refine KB.out.mono ?_
      rintro e w2 ⟨rfl, hz2, ho2⟩
      have HO2 := Lib.hid (HO1.out.trans (Only.of_drewN ho2))
      have e5 := hz2.f.c5
      have KC := Lib.hid (KB2.out w2 hz2)
      clear hz2 ho2 KB KB2 c5
      go_wp2_with fail
      go_still_tail 7, (by kernel_rfl)
      change wpList _ _ _ _ _ w2.drew
      go_wp2_with fail
      refine KC.out.mono ?_
      rintro e w3 ⟨rfl, hz3, ho3⟩
      have HO3 := Lib.hid (HO2.out.trans (Only.of_drewN ho3))
      have f5 := hz3.f.c5
      have KD := Lib.hid (KT.out w3 hz3)
      clear hz3 ho3 KC KT HO2 e5
      go_wp2_with fail
      go_still_tail 10, (by kernel_rfl)
      change wpList _ _ _ _ _ w3.drew
      go_wp2_with fail
      refine KD.out.mono ?_
      rintro e w4 ⟨rfl, hz4, ho4⟩
      have HZ4 := Lib.hid hz4
      have HO4 := Lib.hid (HO3.out.trans (Only.of_drewN ho4))
      clear hz4 ho4 KD
      go_wp2_with fail
      go_ret
      exact ⟨8 + x, ⟨rfl, HZ4.out, HO4.out⟩, by have := HX.out; omega, fun hn => by have := HX.out.1; rw [alive_is hn] at this; dsimp only; omega⟩
    · have KT := Lib.hid (fun (w1 : World) (h1 : Lw K w1 Gw z B2.2 left) => (h1.drewN 1).tree (a := A + 258) (n := 8) (b := K.g) (o := o + 258) (len := 256) (cap := 256) (v - 16) (fun m hm => Kon.ad_rest (by omega) (by have : m < 256 := hm; omega) (by omega)) (by show A + 258 + 256 ≤ _; omega) (by decide) (by decide))
      have hlt := (treeP_ok decM_ok (k := 0) (a := A + 258) (n := 8) (v := v - 16) (okD_any hb2.2) (by show A + 258 + 256 ≤ _; omega) (fun h => by cases h)).1
      have hres2 : lenB decM B2 A s v = (16 + (treeP decM B2.2 (A + 258) 8 (v - 16)).1, (treeP decM B2.2 (A + 258) 8 (v - 16)).2) := by unfold lenB; rw [if_neg hv]
      rw [hres2]
      obtain ⟨T, hT⟩ : ∃ T, T = treeP decM B2.2 (A + 258) 8 (v - 16) := ⟨_, rfl⟩
      rw [← hT] at KT hlt ⊢
      have hv2 : ((B2.1 : Int) == 0) = false := by simp; omega
      have hlt : T.1 < 256 := hlt
      obtain ⟨x, hx⟩ : ∃ x, x = Alive T.2 0 T.1 := ⟨_, rfl⟩
      have hx8 : x < 256 := by rw [hx]; exact alive_le hlt
      have e7 : IntKind.i64.wrap (16 + (x : Int)) = ((16 + x : Nat) : Int) := by rw [show 16 + (x : Int) = ((16 + x : Nat) : Int) by omega]; exact IntWalk.i64_in _ (by omega)
      unfold TreePost at KT
      rw [← hx] at KT
      have HX := Lib.hid (And.intro hx hx8)
      clear h hs hB hB2 hT hu hv hres hres2 hdef hb1 hb2 hA hA2 hoA hs15 hp ho hlt hx hx8
      go_enter Tryz.func181, Tryz.ntmps181
      go_wp2_with fail
      refine KP.out.mono ?_
      rintro e w1 ⟨rfl, hz1, ho1⟩
      have HO1 := Lib.hid ho1
      have c5 := hz1.f.c5
      have KB := Lib.hid (KB.out w1 hz1)
      clear KP hz1 ho1
      go_wp2_with fail
      go_still_tail 7, (by kernel_rfl)
      change wpList _ _ _ _ _ w1.drew
      go_wp2_with fail
      refine KB.out.mono ?_
      rintro e w2 ⟨rfl, hz2, ho2⟩
      have HO2 := Lib.hid (HO1.out.trans (Only.of_drewN ho2))
      have e5 := hz2.f.c5
      have KC := Lib.hid (KB2.out w2 hz2)
      clear hz2 ho2 KB KB2 c5
      go_wp2_with fail
      go_still_tail 7, (by kernel_rfl)
      change wpList _ _ _ _ _ w2.drew
      go_wp2_with fail
      refine KC.out.mono ?_
      rintro e w3 ⟨rfl, hz3, ho3⟩
      have HO3 := Lib.hid (HO2.out.trans (Only.of_drewN ho3))
      have f5 := hz3.f.c5
      have KD := Lib.hid (KT.out w3 hz3)
      clear hz3 ho3 KC KT HO2 e5
      go_wp2_with fail
      go_still_tail 8, (by kernel_rfl)
      change wpList _ _ _ _ _ w3.drew
      go_wp2_with fail
      refine KD.out.mono ?_
      rintro e w4 ⟨rfl, hz4, ho4⟩
      have HZ4 := Lib.hid hz4
      have HO4 := Lib.hid (HO3.out.trans (Only.of_drewN ho4))
      clear hz4 ho4 KD
      go_wp2_with fail
      go_ret
      exact ⟨16 + x, ⟨rfl, HZ4.out, HO4.out⟩, by have := HX.out; omega, fun hn => by have := HX.out.1; rw [alive_is hn] at this; dsimp only; omega⟩
end
end Go.Proofs.YtiolfjhddbiglaaGreatDoor

/-
  The program's decoder of LZMA: a distance.
-/
namespace Go.Proofs.YtiolfjhddbiglaaGreatDoor
open Go.RowKit

def DistPost1 (K : Kon) (w : World) (Gw : Nat → Prop) (z : Lzs) (r : Nat × Pm Dc) (left : Nat) (e : Ending) (w' : World) : Prop :=
  ∃ v : Nat, MidPost K w Gw (.int .u32 (v : Int)) z r.2 left e w' ∧ v < 4294967296 ∧ (r.2.x ≠ none → v = r.1)

section
variable {K : Kon} {w w' : World} {Gw : Nat → Prop} {z : Lzs} {t : Pm Dc} {left : Nat}

set_option maxRecDepth 100000 in
set_option maxHeartbeats 8000000 in
theorem ldist_any {l : Nat} (v : Nat) (h : Lw K w Gw z t left) (hl : l ≤ 1000) (hv : v < 4294967296) :
    Calls Tryz.prog 182 #[.pointer (some ⟨K.g, 0, none⟩), .int .i64 (l : Int)] w (DistPost1 K w Gw z (distP decM t l v) left) := by
  obtain ⟨ml, hml⟩ : ∃ m, m = min l 3 := ⟨_, rfl⟩
  obtain ⟨a, ha⟩ : ∃ a, a = 432 + 64 * ml := ⟨_, rfl⟩
  have hT := treeP_ok decM_ok (k := 0) (n := 6) (a := a) (v := ((slotOf v : Nat) : Int)) (t := t) (okD_any h.mch.ok) (by show a + 64 ≤ _; omega) (fun h => by cases h)
  have hKT := fun n => (h.drewN n).tree (a := a) (n := 6) (b := K.g) (o := 15 + 1591 + ml * 64) (len := 64) (cap := 64) ((slotOf v : Nat) : Int) (fun m hm => Kon.ad_slot (by omega) (by have : m < 64 := hm; omega) (by omega)) (by show a + 64 ≤ _; omega) (by decide) (by decide)
  have HKS := Lib.hid (fun w => pslot_any (g := K.g) (o0 := 15) hml w)
  have hbound := (distP_ok decM_ok (k := 0) (l := l) (v := v) (L := 1847 + K.nl) (okD_any h.mch.ok) (by omega) hv).1
  have hdef : distP decM t l v = distB decM (treeP decM t a 6 ((slotOf v : Nat) : Int)) v := by rw [ha, hml]; rfl
  rw [hdef] at hbound ⊢
  obtain ⟨sl, hsl⟩ : ∃ sl, sl = treeP decM t a 6 ((slotOf v : Nat) : Int) := ⟨_, rfl⟩
  rw [← hsl] at hT hKT hbound ⊢
  have hs64 : sl.1 < 64 := hT.1
  have hp1 := hT.2
  obtain ⟨x, hx⟩ : ∃ x, x = Alive sl.2 0 sl.1 := ⟨_, rfl⟩
  have hx64 : x < 64 := by rw [hx]; exact alive_le hs64
  unfold TreePost at hKT
  rw [← hx] at hKT
  have HKT := Lib.hid hKT
  have c5 := h.f.c5
  have c5f := Lib.hid (fun (w1 : World) (h1 : Lw K w1 Gw z sl.2 left) => h1.f.c5)
  clear hT hKT hdef h hml ha hsl hl
  by_cases h4 : x < 4
  · have hres : (distB decM sl v).2 = sl.2 ∧ ((distB decM sl v).2.x ≠ none → x = (distB decM sl v).1) := by
      by_cases hd : sl.2.x = none
      · refine ⟨distB_none hd, fun h => absurd ?_ h⟩
        rw [distB_none hd]
        exact hd
      · have e : x = sl.1 := by rw [hx]; exact alive_is hd
        have : distB decM sl v = sl := by unfold distB; rw [if_pos (by omega)]
        rw [this]
        exact ⟨rfl, fun _ => e⟩
    unfold DistPost1
    rw [hres.1]
    have HR := Lib.hid (show sl.2.x ≠ none → x = (distB decM sl v).1 from fun h => hres.2 (by rw [hres.1]; exact h))
    have g4 : (x : Int) < 4 := by omega
    have e1 : IntKind.u32.wrap (x : Int) = (x : Int) := u32_of _ (by omega) (by omega)
    have HX4 := Lib.hid h4
    clear hres h4 hs64 hp1 hx hx64 hv hbound c5f
    go_enter Tryz.func182, Tryz.ntmps182
    go_wp2_with fail
    go_region_held3 (fun w' => w'.cell? ⟨K.g, 5, none⟩ = some (.pointer (some ⟨K.dg, 0, none⟩))) (first | assumption | go_keep | exact c5) (first | (go_at_call 190; refine (HKS.out _).mono ?_; rintro e w1 ⟨rfl, rfl⟩) | (go_at_call 140; refine (HKT.out _).mono ?_; rintro e w2 ⟨rfl, hz2, ho2⟩; have e5 := hz2.f.c5; have HZ2 := Lib.hid hz2; have HO2 := Lib.hid (Only.of_drewN ho2); clear hz2 ho2))
    clear HKT c5 e5
    go_wp2_with fail
    go_ret
    exact ⟨x, ⟨rfl, HZ2.out, HO2.out⟩, by have := HX4.out; omega, HR.out⟩
  · have hd : sl.2.x ≠ none := fun hd => by
      rw [hx] at h4
      unfold Alive at h4
      rw [if_pos hd] at h4
      omega
    obtain rfl : x = sl.1 := by rw [hx]; exact alive_is hd
    obtain ⟨n, hn⟩ : ∃ n, n = sl.1 / 2 - 1 := ⟨_, rfl⟩
    obtain ⟨q, hq⟩ : ∃ q, q = sl.1 / 2 := ⟨_, rfl⟩
    obtain ⟨r, hr⟩ : ∃ r, r = sl.1 % 2 := ⟨_, rfl⟩
    obtain ⟨P, hP⟩ : ∃ P, P = 2 ^ n := ⟨_, rfl⟩
    obtain ⟨base, hb⟩ : ∃ b, b = (2 + r) * P := ⟨_, rfl⟩
    have hn30 : n ≤ 30 := by omega
    have hP30 : P ≤ 2 ^ 30 := by rw [hP]; exact pow_le_of hn30
    have hb3 : base ≤ 3 * P := by rw [hb]; exact Nat.mul_le_mul_right P (by omega)
    have g4 : ¬ (sl.1 : Int) < 4 := by omega
    have e1 : (sl.1 : Int) / 2 = (q : Int) := by omega
    have e1' : (sl.1 : Int).tdiv 2 = (q : Int) := by rw [Int.tdiv_eq_ediv_of_nonneg (by omega)]; exact e1
    have e2 : IntKind.i64.wrap (q : Int) = (q : Int) := IntWalk.i64_in _ (by omega)
    have e3 : IntKind.i64.wrap ((q : Int) - 1) = (n : Int) := by rw [show (q : Int) - 1 = (n : Int) by omega]; exact IntWalk.i64_in _ (by omega)
    have e4 : (sl.1 : Int).tmod 2 = (r : Int) := by rw [Int.tmod_eq_emod_of_nonneg (by omega)]; omega
    have e5 : IntKind.i64.wrap (r : Int) = (r : Int) := IntWalk.i64_in _ (by omega)
    have e6 : IntKind.i64.wrap (2 + (r : Int)) = 2 + (r : Int) := IntWalk.i64_in _ (by omega)
    have e6' : IntKind.u32.wrap (2 + (r : Int)) = 2 + (r : Int) := u32_of _ (by omega) (by omega)
    have e7 : IntKind.u32.wrap ((2 + (r : Int)) * 2 ^ n) = (base : Int) := by
      have hc : (2 + (r : Int)) * 2 ^ n = (base : Int) := by rw [cast_pow2, ← hP, hb, Int.natCast_mul, Int.natCast_add]; rfl
      rw [hc]
      exact u32_of _ (by omega) (by omega)
    have e8 : min n 32 = n := by omega
    have e9 : (0 : Int) ≤ (n : Int) := by omega
    by_cases h14 : sl.1 < 14
    · obtain ⟨c1, c2, c3⟩ := special_in ⟨sl.1, h14⟩ (by show 4 ≤ sl.1; omega)
      dsimp only at c1 c2 c3
      rw [← hn, ← hr, ← hP, ← hb] at c1
      rw [← hn] at c3
      have hbs : sl.1 ≤ base := by
        have hlow := (show ∀ s : Fin 14, 4 ≤ s.val → s.val ≤ (2 + s.val % 2) * 2 ^ (s.val / 2 - 1) by decide) ⟨sl.1, h14⟩ (by show 4 ≤ sl.1; omega)
        dsimp only at hlow
        rw [← hn, ← hr, ← hP, ← hb] at hlow
        exact hlow
      obtain ⟨lo, hlo⟩ : ∃ lo, lo = base - sl.1 := ⟨_, rfl⟩
      obtain ⟨ad, had⟩ : ∃ ad, ad = 688 + base - sl.1 := ⟨_, rfl⟩
      obtain ⟨u, hu⟩ : ∃ u : Int, u = (v : Int) - (base : Int) := ⟨_, rfl⟩
      have hR := (revP_ok decM_ok (k := 0) (n := n) (a := ad) (v := u) (okD_any hp1) (by rw [← hP]; omega) (fun h => by cases h)).1
      rw [← hP] at hR
      have HKR := Lib.hid (fun (w1 : World) (h1 : Lw K w1 Gw z sl.2 left) => (h1.drewN 1).rev (a := ad) (n := n) (b := K.g) (o := 447 + lo) (len := 115 - lo) (cap := 115 - lo) u (fun m hm => Kon.ad_rest (by omega) (by rw [← hP] at hm; omega) (by omega)) (by rw [← hP]; omega) (by rw [← hP]; omega) (by omega))
      have hres : distB decM sl v = (base + (revP decM sl.2 ad n u).1, (revP decM sl.2 ad n u).2) := by
        unfold distB
        rw [if_neg h4, if_pos h14, ← hn, ← hr, ← hP, ← hb, ← had, ← hu]
      rw [hres] at hbound ⊢
      obtain ⟨T, hTT⟩ : ∃ T, T = revP decM sl.2 ad n u := ⟨_, rfl⟩
      rw [← hTT] at hR HKR hbound ⊢
      obtain ⟨o, ho⟩ : ∃ o, o = Alive T.2 0 T.1 := ⟨_, rfl⟩
      have ho2 : o < P := by rw [ho]; exact alive_le hR
      unfold TreePost at HKR
      rw [← ho] at HKR
      have g14 : (sl.1 : Int) < 14 := by omega
      have f0 : IntKind.i64.wrap (base : Int) = (base : Int) := IntWalk.i64_in _ (by omega)
      have f1 : IntKind.i64.wrap ((base : Int) - (sl.1 : Int)) = (lo : Int) := by rw [show (base : Int) - (sl.1 : Int) = (lo : Int) by omega]; exact IntWalk.i64_in _ (by omega)
      have f2 : (lo : Int) ≤ 115 := by omega
      have f2' : (0 : Int) ≤ (lo : Int) := by omega
      have f2'' : ¬ 115 = lo := by have := Nat.two_pow_pos n; omega
      have f3 : IntKind.u32.wrap (o : Int) = (o : Int) := u32_of _ (by omega) (by omega)
      have f4 : IntKind.u32.wrap ((base : Int) + (o : Int)) = ((base + o : Nat) : Int) := by rw [show (base : Int) + (o : Int) = ((base + o : Nat) : Int) by omega]; exact u32_of _ (by omega) (by omega)
      have HX := Lib.hid (show base + o < 4294967296 ∧ (T.2.x ≠ none → base + o = base + T.1) from ⟨by omega, fun h => by rw [ho, alive_is h]⟩)
      clear hres h4 h14 hs64 hp1 hx hx64 hv hbound hd hn hq hr hP hb hn30 hP30 hb3 c1 c2 c3 had hu hR ho ho2 hTT hbs hlo c5f
      go_enter Tryz.func182, Tryz.ntmps182
      go_wp2_with fail
      go_region_held3 (fun w' => w'.cell? ⟨K.g, 5, none⟩ = some (.pointer (some ⟨K.dg, 0, none⟩))) (first | assumption | go_keep | exact c5) (first | (go_at_call 190; refine (HKS.out _).mono ?_; rintro e w1 ⟨rfl, rfl⟩) | (go_at_call 140; refine (HKT.out _).mono ?_; rintro e w2 ⟨rfl, hz2, ho2⟩; have e5 := hz2.f.c5; have HZ2 := Lib.hid hz2; have HO2 := Lib.hid (Only.of_drewN ho2); clear hz2 ho2))
      have HR2 := Lib.hid (HKR.out w2 HZ2.out)
      have d5 := HZ2.out.f.c5
      clear HZ2 HKT HKR c5
      go_wp2_with fail
      go_region_held3 (fun w' => w'.cell? ⟨K.g, 5, none⟩ = some (.pointer (some ⟨K.dg, 0, none⟩))) (first | assumption | go_keep | exact d5) (first | (go_at_call 198; refine HR2.out.mono ?_; rintro e w3 ⟨rfl, hz3, ho3⟩; have d6 := hz3.f.c5; have HZ3 := Lib.hid hz3; have HO3 := Lib.hid (HO2.out.trans (Only.of_drewN ho3)); clear hz3 ho3))
      go_wp2_with fail
      go_ret
      exact ⟨base + o, ⟨rfl, HZ3.out, HO3.out⟩, HX.out.1, HX.out.2⟩
    · have hn5 : 6 ≤ n := by omega
      obtain ⟨rest, hrest⟩ : ∃ x, x = (v + 4294967296 - base) % 4294967296 / 16 := ⟨_, rfl⟩
      obtain ⟨n4, hn4⟩ : ∃ x, x = n - 4 := ⟨_, rfl⟩
      obtain ⟨P4, hP4⟩ : ∃ P, P = 2 ^ n4 := ⟨_, rfl⟩
      have hPP : P = 16 * P4 := by rw [hP, hP4, hn4, show (16 : Nat) = 2 ^ 4 from rfl, ← Nat.pow_add, show 4 + (n - 4) = n by omega]
      have hSt := straightD_ok (n := n4) (d := sl.2.x) hp1.x
      have HKSS := Lib.hid (fun (w1 : World) (h1 : Lw K w1 Gw z sl.2 left) => h1.straight (n := n4) (by omega))
      obtain ⟨hi, hhi⟩ : ∃ h, h = straightD n4 sl.2.x := ⟨_, rfl⟩
      rw [← hhi] at hSt HKSS
      have hh4 := hSt.2
      rw [← hP4] at hh4
      have hp2 : PmOk okD (1847 + K.nl) 0 (⟨sl.2.ps, hi.2⟩ : Pm Dc) := ⟨hp1.ps, hp1.len, hSt.1⟩
      obtain ⟨u, hu⟩ : ∃ u : Int, u = ((v % 16 : Nat) : Int) := ⟨_, rfl⟩
      have hR := (revP_ok decM_ok (k := 0) (n := 4) (a := 803) (v := u) (okD_any hp2) (by show 803 + 16 ≤ _; omega) (fun h => by cases h)).1
      have HKR := Lib.hid (fun (w1 : World) (h1 : Lw K w1 Gw z (⟨sl.2.ps, hi.2⟩ : Pm Dc) left) => (h1.drewN 1).rev (a := 803) (n := 4) (b := K.g) (o := 562) (len := 16) (cap := 16) u (fun m hm => Kon.ad_rest (by omega) (by have : m < 16 := hm; omega) (by omega)) (by show 803 + 16 ≤ _; omega) (by decide) (by decide))
      have hres : distB decM sl v = (base + 16 * hi.1 + (revP decM ⟨sl.2.ps, hi.2⟩ 803 4 u).1, (revP decM ⟨sl.2.ps, hi.2⟩ 803 4 u).2) := by
        unfold distB
        rw [if_neg h4, if_neg h14, ← hn, ← hr, ← hP, ← hb, ← hrest, ← hn4, hu, hhi]
        rfl
      rw [hres] at hbound ⊢
      obtain ⟨T, hTT⟩ : ∃ T, T = revP decM ⟨sl.2.ps, hi.2⟩ 803 4 u := ⟨_, rfl⟩
      rw [← hTT] at hR HKR hbound ⊢
      obtain ⟨o, ho⟩ : ∃ o, o = Alive T.2 0 T.1 := ⟨_, rfl⟩
      have hR : T.1 < 16 := hR
      have ho2 : o < 16 := by rw [ho]; exact alive_le hR
      unfold TreePost at HKR
      rw [← ho] at HKR
      obtain ⟨hv1, hhv⟩ : ∃ x, x = hi.1 := ⟨_, rfl⟩
      rw [← hhv] at hh4 HKSS hbound ⊢
      have g14 : ¬ (sl.1 : Int) < 14 := by omega
      have f1 : IntKind.i64.wrap ((n : Int) - 4) = (n4 : Int) := by rw [show (n : Int) - 4 = (n4 : Int) by omega]; exact IntWalk.i64_in _ (by omega)
      have f2 : IntKind.u32.wrap ((hv1 : Int) * 16) = (hv1 : Int) * 16 := u32_of _ (by omega) (by omega)
      have f3 : IntKind.u32.wrap ((base : Int) + (hv1 : Int) * 16) = (base : Int) + (hv1 : Int) * 16 := u32_of _ (by omega) (by omega)
      have f4 : IntKind.u32.wrap (o : Int) = (o : Int) := u32_of _ (by omega) (by omega)
      have f5 : IntKind.u32.wrap ((base : Int) + (hv1 : Int) * 16 + (o : Int)) = ((base + 16 * hv1 + o : Nat) : Int) := by rw [show (base : Int) + (hv1 : Int) * 16 + (o : Int) = ((base + 16 * hv1 + o : Nat) : Int) by omega]; exact u32_of _ (by omega) (by omega)
      have HX := Lib.hid (show base + 16 * hv1 + o < 4294967296 ∧ (T.2.x ≠ none → base + 16 * hv1 + o = base + 16 * hv1 + T.1) from ⟨by omega, fun h => by rw [ho, alive_is h]⟩)
      clear hres h4 h14 hs64 hp1 hp2 hx hx64 hv hbound hd hn hq hr hP hb hn30 hP30 hb3 hu hR ho ho2 hTT hn5 hrest hn4 hP4 hPP hSt hhi hhv hh4 c5f
      go_enter Tryz.func182, Tryz.ntmps182
      go_wp2_with fail
      go_region_held3 (fun w' => w'.cell? ⟨K.g, 5, none⟩ = some (.pointer (some ⟨K.dg, 0, none⟩))) (first | assumption | go_keep | exact c5) (first | (go_at_call 190; refine (HKS.out _).mono ?_; rintro e w1 ⟨rfl, rfl⟩) | (go_at_call 140; refine (HKT.out _).mono ?_; rintro e w2 ⟨rfl, hz2, ho2⟩; have e5 := hz2.f.c5; have HZ2 := Lib.hid hz2; have HO2 := Lib.hid (Only.of_drewN ho2); clear hz2 ho2))
      have HR2 := Lib.hid (HKSS.out w2 HZ2.out)
      have d5 := HZ2.out.f.c5
      clear HZ2 HKT HKSS c5
      go_wp2_with fail
      refine HR2.out.mono ?_
      rintro e w3 ⟨rfl, hz3, ho3⟩
      have HO3 := Lib.hid (HO2.out.trans ho3)
      have HR3 := Lib.hid (HKR.out w3 hz3)
      have d6 := hz3.f.c5
      clear hz3 ho3 HR2 HO2 HKR d5
      go_wp2_with fail
      go_region_held3 (fun w' => w'.cell? ⟨K.g, 5, none⟩ = some (.pointer (some ⟨K.dg, 0, none⟩))) (first | assumption | go_keep | exact d6) (first | (go_at_call 198; refine HR3.out.mono ?_; rintro e w4 ⟨rfl, hz4, ho4⟩; have d7 := hz4.f.c5; have HZ4 := Lib.hid hz4; have HO4 := Lib.hid (HO3.out.trans (Only.of_drewN ho4)); clear hz4 ho4))
      go_wp2_with fail
      go_ret
      exact ⟨base + 16 * hv1 + o, ⟨rfl, HZ4.out, HO4.out⟩, HX.out.1, HX.out.2⟩
end
end Go.Proofs.YtiolfjhddbiglaaGreatDoor
