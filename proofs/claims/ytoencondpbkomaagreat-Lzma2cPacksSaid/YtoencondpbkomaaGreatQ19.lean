/-
  CkPack, CkAwk, CkWake, CkBad, LzSet, CkRef, RqBad, LzNew: put together.
-/
import Derived.Test.YtoencondpbkomaaGreatQ18
import Derived.Maps.AppendAt
import Derived.Maps.OwnIn
import Derived.Test.YtoencondpbkomaaGreatQ13
import Derived.Test.YtoencondpbkomaaGreatQ01
import Derived.Lib.SlBytesConst
import Derived.WalkKit
import Derived.OwnWalkIn
import Derived.TacticsInMore
import Derived.RangeFuncLeaves
import Derived.Shelf.Abstract
import Derived.Test.YtoencondpbkomaaGreatQ03
import Derived.Deep.Cut
import Derived.Test.YtoencondpbkomaaGreatQ17
set_option linter.unusedVariables false
set_option linter.unusedSimpArgs false
/-
  The coder of LZMA2: Pack.
-/
namespace Go.Proofs.YtoencondpbkomaaGreat
open Go.RowKit Go.Shelf
attribute [local go_sem] Oper.semAt_some

theorem prop_has {dict r : Nat} {c : Int} (h : IsProp (dict : Int) r c) (hd : dict < 4294967296) : c = 0 := by
  rcases h with h | h
  · exact h.1
  · have := h.2.2 40 (by decide)
    have e : dictN 40 = 4294967295 := by decide
    rw [e] at this
    omega
theorem cutB_sl {w : World} {q o n p j : Nat} {b : List UInt8} (h : Sl w (some ⟨q, o, none⟩) n (bv b)) (hj : j * p < n) : Sl w (some ⟨q, o + j * p, none⟩) (min p (n - j * p)) (bv (cutB b p j)) := by
  have hl : b.length = n := by rw [← bv_length]; exact h.1
  refine ⟨by rw [bv_length, cutB_len, hl], fun h0 => ?_⟩
  obtain ⟨b', o', e, hlt, hc⟩ := h.2 (by omega)
  injection e with e
  injection e with e1 e2
  subst e1 e2
  refine ⟨q, o + j * p, rfl, hlt, fun i hi => ?_⟩
  have := hc (j * p + i) (by omega)
  rw [Nat.add_assoc, this]
  unfold cutB bv
  rw [List.getElem?_map, List.getElem?_map, List.getElem?_take_of_lt (by omega), List.getElem?_drop]

theorem many_mul {n p : Nat} : manyN n p * p ≤ n + (p - 1) := Nat.div_mul_le_self _ _
theorem many_le {n p : Nat} (hp : 1 ≤ p) : manyN n p ≤ n + (p - 1) := Nat.div_le_self _ _
/-- what holds between two rounds -/
def Kin (Q : Kq) (b : List UInt8) (p : Nat) (wL : World) (G0 : Nat → Prop) (s : Lzs × Pm En) (js : List Nat) (W : World) : Prop :=
  ∃ G, Kwn Q W (foldQ b (headB Q.lc Q.lp Q.pb) Q.dict p s js).1 (foldQ b (headB Q.lc Q.lp Q.pb) Q.dict p s js).2 0 G ∧ Stp wL G0 W G
section
variable {w : World} {A : Option Addr} {n c p : Nat} {b : List UInt8} {lc lp pb dict : Nat}
def KPackPost (w : World) (b : List UInt8) (lc lp pb dict p : Nat) (e : Ending) (w' : World) : Prop :=
  ∃ R cl r, e = .returned (.tuple #[.slice R (packN b lc lp pb dict p).length cl, .int .u8 ((r : Nat) : Int), .int .i64 0]) ∧ Sl w' R (packN b lc lp pb dict p).length (bv (packN b lc lp pb dict p)) ∧ (packN b lc lp pb dict p).length ≤ cl ∧ cl ≤ maxLen ∧ IsProp (dict : Int) r 0 ∧ Below w.heap.size w w'

set_option maxRecDepth 100000 in
set_option maxHeartbeats 16000000 in
theorem kpack_any (hset : SetOk lc lp pb dict) (h4 : lc + lp ≤ 4) (hp : 1 ≤ p) (hp2 : p ≤ 65536) (hS : Sl w A n (bv b)) (hn : n ≤ 65536) (hnc : n ≤ c) (hc : c ≤ maxLen) :
    Calls Tryz.prog 7 #[.slice A n c, .agg #[.int .i64 (lc : Int), .int .i64 (lp : Int), .int .i64 (pb : Int), .int .i64 (dict : Int)], .int .i64 (p : Int)] w (KPackPost w b lc lp pb dict p) := by
  have hm12 : may12 (lc : Int) (lp : Int) (pb : Int) (dict : Int) = true := by
    unfold may12
    rw [setOk_may hset, decide_eq_true (by omega)]
    rfl
  have KM := fun W => kmay_any (lc : Int) (lp : Int) (pb : Int) (dict : Int) W
  rw [hm12] at KM
  have KM := Lib.hid KM
  have KPR := Lib.hid (fun W => qprop_any (dict : Int) W)
  have KN := Lib.hid (fun W => cnew7_any (k := 0) hset (by omega) (Nat.zero_le _) W)
  have KC := Lib.hid (fun d W => chunk_in (A := A) (n := n) (c := c) hp d W)
  have g1 : ¬ (p : Int) < 1 := by omega
  have g2 : ¬ (p : Int) > 65536 := by omega
  have HIN := Lib.hid (And.intro hset (And.intro h4 (And.intro hp (And.intro hp2 (And.intro hS (And.intro hn (And.intro hnc hc)))))))
  have HB0 := Lib.hid (Below.refl w.heap.size w)
  clear hset h4 hp hp2 hS hn hnc hc hm12
  refine (callsIn_wide (n := 9)).1 ?_
  refine callsIn_of_wp_marks Tryz.func7 rfl trivial ?_ rfl
  simp only [Tryz.ntmps7, List.size_toArray, List.length_cons, List.length_nil, Nat.reduceAdd, Nat.reduceSub, Array.replicate_succ, Array.replicate_zero, List.push_toArray, List.append_toArray, List.nil_append, List.cons_append]
  have HBK := Lib.hid (Blk.fresh w 24 #[.int .i64 (lc : Int), .int .i64 (lp : Int), .int .i64 (pb : Int), .int .i64 (dict : Int)])
  gi_wp2_with (first
    | (refine ⟨trivial, ?_⟩; gi_at_call 5; refine (callsIn_wide.2 (KM.out _)).mono ?_; rintro e w2 ⟨rfl, hb2⟩; have hk2 := HBK.out.below hb2; have d3 : w2.cell? ⟨w.heap.size, 3, none⟩ = some (.int .i64 (dict : Int)) := hk2.cell 3; have HK2 := Lib.hid hk2; have HB2 := Lib.hid (below_gg ((Below.refl w.heap.size w).alloc (Nat.le_refl _) _) hb2 (Nat.le_refl _)); clear hb2 hk2)
    | (refine ⟨trivial, ?_⟩; gi_at_call 12; refine (callsIn_wide.2 (KPR.out _)).mono ?_; rintro e w3 ⟨r, c', rfl, hpr, hb3⟩; have hc0 := prop_has hpr HIN.out.1.2.2.2.2; subst hc0; have HPR := Lib.hid hpr; have hk3 := HK2.out.below hb3; have f0 : w3.cell? ⟨w.heap.size, 0, none⟩ = some (.int .i64 (lc : Int)) := hk3.cell 0; have f1 : w3.cell? ⟨w.heap.size, 1, none⟩ = some (.int .i64 (lp : Int)) := hk3.cell 1; have f2 : w3.cell? ⟨w.heap.size, 2, none⟩ = some (.int .i64 (pb : Int)) := hk3.cell 2; have f3 : w3.cell? ⟨w.heap.size, 3, none⟩ = some (.int .i64 (dict : Int)) := hk3.cell 3; have HK3 := Lib.hid hk3; have HB3 := Lib.hid (below_gg HB2.out hb3 (Nat.le_refl _)); clear hb3 hk3 d3 hpr HB2 HK2)
    | (refine ⟨trivial, ?_⟩; gi_at_call 13; refine (callsIn_wide.2 (KN.out _)).mono ?_; rintro e w4 ⟨K, rfl, hnl, hcw, hnew, ho4⟩; have hk4 := HK3.out.only ho4 (fun h => h); have y0 : w4.cell? ⟨w.heap.size, 0, none⟩ = some (.int .i64 (lc : Int)) := hk4.cell 0; have y1 : w4.cell? ⟨w.heap.size, 1, none⟩ = some (.int .i64 (lp : Int)) := hk4.cell 1; have y2 : w4.cell? ⟨w.heap.size, 2, none⟩ = some (.int .i64 (pb : Int)) := hk4.cell 2; have y3 : w4.cell? ⟨w.heap.size, 3, none⟩ = some (.int .i64 (dict : Int)) := hk4.cell 3; have HNW := Lib.hid (And.intro hnl (And.intro hcw hnew)); have HB4 := Lib.hid (below_gg HB3.out (ho4.below (Nat.le_refl _) (fun _ h => h.elim)) (Nat.le_refl _)); have HSZ := Lib.hid (And.intro HB3.out.size ho4.size); clear hnl hcw hnew ho4 hk4 f0 f1 f2 f3 HB3 HK3)
    | (refine ⟨trivial, ?_⟩; gi_at_call 14; refine (KC.out _ _).mono ?_; rintro e w6 ⟨rfl, rfl⟩; clear y0 y1 y2 y3)
    | fail)
  obtain ⟨hset, h4, hp, hp2, hS, hn, hnc, hc⟩ := HIN.out
  obtain ⟨hnl, hcw, hn1, hn2, hn3⟩ := HNW.out
  obtain ⟨Q, hQ⟩ : ∃ Q : Kq, Q = ⟨w4.heap.size, A, n, c, lc, lp, pb, dict⟩ := ⟨_, rfl⟩
  obtain ⟨s0, hs0⟩ : ∃ s0, s0 = freshS lc lp pb dict := ⟨_, rfl⟩
  have hbl : b.length = n := by rw [← bv_length]; exact hS.1
  have hlc : Q.lc = lc ∧ Q.lp = lp ∧ Q.pb = pb ∧ Q.dict = dict ∧ Q.A = A ∧ Q.n = n ∧ Q.c = c ∧ Q.kg = w4.heap.size := by rw [hQ]; exact ⟨rfl, rfl, rfl, rfl, rfl, rfl, rfl, rfl⟩
  obtain ⟨wL, hwL⟩ : ∃ wL, wL = (((w4.alloc (.cells #[.slice A n c, .int .i64 0, .int .i64 (lc : Int), .int .i64 (lp : Int), .int .i64 (pb : Int), .int .i64 (dict : Int), .pointer (some ⟨K.g, 0, none⟩), .int .i64 3, .slice none 0 0] 39)).alloc (.cells #[.pointer (some ⟨w4.heap.size, 0, none⟩)] 37)).alloc (.cells #[.slice A n c] 22)).alloc (.cells #[.int .i64 (p : Int)] 3) := ⟨_, rfl⟩
  have hsz : wL.heap.size = w4.heap.size + 4 := by rw [hwL]; simp
  have hoL : Only (fun _ => False) w4 wL := by rw [hwL]; exact ((((Only.refl _ w4).alloc _).alloc _).alloc _).alloc _
  have hbk : Blk wL Q.kg 39 (ckCells Q K 0 3 none 0 0) := by
    rw [hQ, hwL]
    exact ((((Blk.fresh w4 _ _).alloc _).alloc _).alloc _)
  have hbx : Blk wL (w4.heap.size + 1) 37 #[.pointer (some ⟨w4.heap.size, 0, none⟩)] := by
    rw [hwL]
    have := Blk.fresh (w4.alloc (.cells #[.slice A n c, .int .i64 0, .int .i64 (lc : Int), .int .i64 (lp : Int), .int .i64 (pb : Int), .int .i64 (dict : Int), .pointer (some ⟨K.g, 0, none⟩), .int .i64 3, .slice none 0 0] 39)) 37 #[.pointer (some ⟨w4.heap.size, 0, none⟩)]
    rw [World.size_alloc] at this
    exact (this.alloc _).alloc _
  have hb1 : Blk wL (w4.heap.size + 2) 22 #[.slice A n c] := by
    rw [hwL]
    have := Blk.fresh ((w4.alloc (.cells #[.slice A n c, .int .i64 0, .int .i64 (lc : Int), .int .i64 (lp : Int), .int .i64 (pb : Int), .int .i64 (dict : Int), .pointer (some ⟨K.g, 0, none⟩), .int .i64 3, .slice none 0 0] 39)).alloc (.cells #[.pointer (some ⟨w4.heap.size, 0, none⟩)] 37)) 22 #[.slice A n c]
    rw [World.size_alloc, World.size_alloc] at this
    exact this.alloc _
  have hb2 : Blk wL (w4.heap.size + 3) 3 #[.int .i64 (p : Int)] := by
    rw [hwL]
    have := Blk.fresh (((w4.alloc (.cells #[.slice A n c, .int .i64 0, .int .i64 (lc : Int), .int .i64 (lp : Int), .int .i64 (pb : Int), .int .i64 (dict : Int), .pointer (some ⟨K.g, 0, none⟩), .int .i64 3, .slice none 0 0] 39)).alloc (.cells #[.pointer (some ⟨w4.heap.size, 0, none⟩)] 37)).alloc (.cells #[.slice A n c] 22)) 3 #[.int .i64 (p : Int)]
    rw [World.size_alloc, World.size_alloc, World.size_alloc] at this
    exact this
  obtain ⟨o1, o2, o3, o4, o5⟩ := hcw.old
  have hst : Kst Q K wL none none 0 0 ⟨3, s0, []⟩ 0 none 0 := by
    have e : s0.2 = (⟨List.replicate (1847 + K.nl) 1024, En.new⟩ : Pm En) := by
      rw [hs0, hnl]
      rfl
    refine ⟨hbk, ?_, World.ownsRow_nil _ _ _ _, ?_, fun i hi => (nomatch hi), by rw [hnl, hlc.1, hlc.2.1]⟩
    · show Cw K wL none none 0 s0.1 0 s0.2
      rw [e, hs0]
      exact hcw.quiet hoL
    · rw [hlc.2.2.2.2.2.2.2]
      rintro ((e | e | e | e) | e)
      · omega
      · exact (nomatch e)
      · have e : w4.heap.size = K.g := e
        omega
      · have e : w4.heap.size = K.lb := e
        omega
      · rw [hs0] at e
        exact (nomatch e)
  obtain ⟨G0, hG0⟩ : ∃ G0, G0 = Kow Q K none (tb none s0.1.out.length 0) (tb none ([] : List UInt8).length 0) := ⟨_, rfl⟩
  have hg0 : ∀ i, G0 i → w.heap.size ≤ i ∧ i ≤ w4.heap.size := by
    intro i hi
    have hsz2 := HSZ.out
    rw [hG0] at hi
    rcases hi with ((e | e | e | e) | e) | e | e
    · omega
    · exact (nomatch e)
    · have e : i = K.g := e
      omega
    · have e : i = K.lb := e
      omega
    · rw [hs0] at e
      exact (nomatch e)
    · rw [hlc.2.2.2.2.2.2.2] at e
      omega
    · exact (nomatch e)
  have hkin : Kin Q b p wL G0 s0 [] wL := ⟨G0, ⟨K, none, none, 0, none, 0, hst, fun i => by rw [hG0]; exact Iff.rfl⟩, Stp.refl _ _⟩
  have hwB : Below w.heap.size w wL := HB4.out.trans (hoL.below HB4.out.size (fun _ h => h.elim))
  obtain ⟨q, o, hA⟩ : ∃ q o, 0 < n → A = some ⟨q, o, none⟩ := by
    by_cases h0 : 0 < n
    · obtain ⟨q, o, e, _⟩ := hS.2 h0
      exact ⟨q, o, fun _ => e⟩
    · exact ⟨0, 0, fun h => absurd h h0⟩
  have hbxc : wL.cell? ⟨w4.heap.size + 1, 0, none⟩ = some (.pointer (some ⟨w4.heap.size, 0, none⟩)) := hbx.cell 0
  have HKEEP := Lib.hid (And.intro hkin (And.intro hg0 (And.intro hwB (And.intro hsz (And.intro hlc (And.intro hbl (And.intro hs0 (And.intro hA hbxc))))))))
  have hstops := chunk_stops (d := 9 - 1) (B1 := w4.heap.size + 2) (B2 := w4.heap.size + 3) (q := q) (o := o) (n := n) (c := c) (p := p) (A := A) (w := wL) (by decide) hp hp2 (by omega) hA hnc hc (by omega) (by omega) (hb1.cell 0) (hb2.cell 0)
  have HX := Lib.hid hwL
  rw [← hwL]
  clear hkin hwB hbx hb1 hb2 hbk hst hG0 hg0 o1 o2 o3 o4 o5 hoL hbxc hnl hcw hn1 hn2 hn3 hQ
  refine wpIn_rangeFunc_ownG (F := Fence.wide) (n := 9) rfl (by decide) (gf := 27) (lb := #[.pointer (some ⟨w4.heap.size + 2, 0, none⟩), .pointer (some ⟨w4.heap.size + 3, 0, none⟩)]) rfl trivial (enters_of Tryz.func27 (by kernel_rfl) rfl) hstops (fun h k => ⟨k.1.trans h.1, k.2.trans h.2⟩) ?kb (Below.refl _ _) (fun _ => rfl)
    (fun pre W => Kin Q b p wL G0 s0 (pre.map (·.1)) W) (fun _ _ _ => False) ?own (fun _ _ _ _ _ hs _ _ => hs) HKEEP.out.1
    (fun x => { tmps := #[.slice A n c, .agg #[.int .i64 (lc : Int), .int .i64 (lp : Int), .int .i64 (pb : Int), .int .i64 (dict : Int)], .int .i64 (p : Int), undef, .pointer (some ⟨w.heap.size, 0, none⟩), undef, .slice none 0 0, .int .u8 0, .int .i64 0, .int .u8 (r : Int), .int .i64 0, .pointer (some ⟨K.g, 0, none⟩), .int .i64 0, .pointer (some ⟨w4.heap.size + 1, 0, none⟩), .slice (some ⟨q, o + x.1 * p, none⟩) (min p (n - x.1 * p)) (min p (n - x.1 * p)), .agg #[.int .i64 (lc : Int), .int .i64 (lp : Int), .int .i64 (pb : Int), .int .i64 (dict : Int)], .bool true, .bool false, .int .i64 (p : Int), .bool (decide ((p : Int) < 1)), .bool (decide ((p : Int) < 1)), .int .i64 (p : Int), .bool (decide (65536 < (p : Int))), .bool (decide ((p : Int) < 1) || decide (65536 < (p : Int))), .tuple #[.int .u8 (r : Int), .int .i64 0], .pointer (some ⟨w.heap.size, 3, none⟩), .int .i64 (dict : Int), .tuple #[.int .u8 (r : Int), .int .i64 0], .int .u8 (r : Int), .int .i64 0, .tuple #[.pointer (some ⟨K.g, 0, none⟩), .int .i64 0], .agg #[.int .i64 (lc : Int), .int .i64 (lp : Int), .int .i64 (pb : Int), .int .i64 (dict : Int)], .tuple #[.pointer (some ⟨K.g, 0, none⟩), .int .i64 0], .pointer (some ⟨K.g, 0, none⟩), .int .i64 0, .slice A n c, .agg #[.int .i64 (lc : Int), .int .i64 (lp : Int), .int .i64 (pb : Int), .int .i64 (dict : Int)], .pointer (some ⟨K.g, 0, none⟩), .agg #[.slice A n c, .int .i64 0, .int .i64 (lc : Int), .int .i64 (lp : Int), .int .i64 (pb : Int), .int .i64 (dict : Int), .pointer (some ⟨K.g, 0, none⟩), .int .i64 3, .slice none 0 0], .pointer (some ⟨w4.heap.size, 0, none⟩), .slice A n c, .int .i64 (p : Int), .func (.func 27) #[] #[.pointer (some ⟨w4.heap.size + 1 + 1, 0, none⟩), .pointer (some ⟨w4.heap.size + 1 + 1 + 1, 0, none⟩)], .slice (some ⟨q, o + x.1 * p, none⟩) (min p (n - x.1 * p)) (min p (n - x.1 * p)), undef, undef, undef, undef, undef, undef, undef, undef, undef, undef], defers := [] }) ?assign ?body ?done ?stop
  case kb =>
    intro W l o1 o2 hl h hc1 hc2
    have hsz := HKEEP.out.2.2.2.1
    have hO := only_grown (grownBy_putObj' W l o2)
    have hlt := (Array.getElem?_eq_some_iff.1 h).1
    exact ⟨hO.cell (p := ⟨w4.heap.size + 2, 0, none⟩) (by show w4.heap.size + 2 < _; omega) (fun e => by injection e with e; have e : l = w4.heap.size + 2 := e; omega), hO.cell (p := ⟨w4.heap.size + 3, 0, none⟩) (by show w4.heap.size + 3 < _; omega) (fun e => by injection e with e; have e : l = w4.heap.size + 3 := e; omega)⟩
  case own =>
    rintro pre W W' row ⟨G, hk, hs⟩ hg hr
    refine ⟨G, hk.grown hg (fun r e => (hr r e).2), hs.nw, hs.on.trans' (only_grown hg) (fun i hi => .inr (hr i hi).1)⟩
  case assign =>
    intro l x W K hK
    unfold encC
    gi_wp2
    exact hK
  case body =>
    rintro l pre x W ⟨G, hk, hs⟩ hlen
    obtain ⟨hkin, hg0, hwB, hsz, hlc, hbl, hs0, hA, hbxc⟩ := HKEEP.out
    obtain ⟨js, hjs⟩ : ∃ js, js = pre.map (·.1) := ⟨_, rfl⟩
    rw [← hjs] at hk
    have hjl : js.length < manyN n p := by rw [hjs, List.length_map]; exact hlen
    have hmul : manyN n p * p ≤ n + (p - 1) := many_mul
    have hml : manyN n p ≤ n + (p - 1) := many_le hp
    have hck : Ckw b Q.lc Q.lp Q.pb Q.dict p js.length (foldQ b (headB Q.lc Q.lp Q.pb) Q.dict p s0 js) := by
      rw [hs0, hlc.1, hlc.2.1, hlc.2.2.1, hlc.2.2.2.1]
      exact ckw_fold hset (by omega) js
    obtain ⟨a, ha⟩ : ∃ a, a = foldQ b (headB Q.lc Q.lp Q.pb) Q.dict p s0 js := ⟨_, rfl⟩
    rw [← ha] at hk hck
    obtain ⟨x, hx⟩ := x
    have hx2 : x * p < n := (many_lt hp).1 hx
    obtain rfl := hA (by omega)
    have hjm : js.length * p ≤ manyN n p * p := Nat.mul_le_mul_right p (by omega)
    have hout : a.2.out.length ≤ 90000000 := by
      have h1 := hck.out
      have h2 : js.length * (p + 6) = js.length * p + js.length * 6 := Nat.mul_add _ _ _
      omega
    have hat := hck.at_
    obtain ⟨ln, hln⟩ : ∃ ln, ln = min p (n - x * p) := ⟨_, rfl⟩
    have hapG : ∀ i, G i → w.heap.size ≤ i := fun i hi => by
      rcases hs.nw i hi with e | e
      · exact (hg0 i e).1
      · have := hwB.size
        omega
    have hSW : Sl W (some ⟨q, o, none⟩) n (bv b) := hS.below (hwB.trans (hs.on.below hwB.size (fun i hi => (hg0 i hi).1)))
    have hq0 : q < w.heap.size := by
      obtain ⟨b', o', e, hlt, _⟩ := hS.2 (by omega)
      injection e with e
      injection e with e
      omega
    have hap : Apt (some ⟨q, o, none⟩) G := fun q' o' e hg => by
      injection e with e
      injection e with e
      have := hapG _ hg
      omega
    have hap2 : Apt (some ⟨q, o + x * p, none⟩) G := fun q' o' e hg => by
      injection e with e
      injection e with e
      have := hapG _ hg
      omega
    have hsW : w.heap.size ≤ W.heap.size := Nat.le_trans hwB.size hs.on.size
    have hmin : min a.1 b.length = min a.1 Q.n := by rw [hbl, hlc.2.2.2.2.2.1]
    have hcmd := hck.cmd
    rw [hmin] at hcmd
    have KP := kpiece_any (c := ln) (B := some ⟨q, o + x * p, none⟩) (n := ln) (xs := cutB b p x) (b := b) (at_ := a.1) (how := a.2.how) (s := a.2.s) (out := a.2.out) (w := W) (G := G) (Q := Q) (m := 0) hk
      ⟨by rw [hlc.1, hlc.2.1, hlc.2.2.1, hlc.2.2.2.1]; exact hset, by rw [hlc.1, hlc.2.1]; exact h4, by rw [hlc.2.2.2.2.2.1]; exact hbl, by rw [hlc.2.2.2.2.2.1]; exact hn, by rw [hlc.2.2.2.2.2.1, hlc.2.2.2.2.2.2.1]; exact hnc, by rw [hlc.2.2.2.2.2.2.1]; exact hc, by omega, by omega⟩
      ⟨by omega, by omega⟩ (by omega) hck.how hcmd hck.set (by rw [hlc.2.2.2.2.1, hlc.2.2.2.2.2.1]; exact hSW) (by rw [hlc.2.2.2.2.1]; exact hap) hout (by rw [hln]; exact cutB_sl hSW hx2) hap2 (fun q' o' e => by injection e with e; injection e with e; omega)
    rw [hlc.2.2.2.2.2.2.2] at KP
    have KP := Lib.hid KP
    have hbox : ∀ i, w4.heap.size < i → i < wL.heap.size → ¬ G i := fun i h1 h2 hi => by
      rcases hs.nw i hi with e | e
      · have := (hg0 i e).2
        omega
      · omega
    have c13 : W.cell? ⟨w4.heap.size + 1, 0, none⟩ = some (.pointer (some ⟨w4.heap.size, 0, none⟩)) := (hs.on.cell (p := ⟨w4.heap.size + 1, 0, none⟩) (by show w4.heap.size + 1 < _; omega) (fun e => by have := (hg0 _ e).2; have : w4.heap.size + 1 ≤ w4.heap.size := this; omega)).trans hbxc
    have HEND := Lib.hid (show ∀ e w', OwnPost (fun w G => Kwn Q w (a.1 + ln) (pieceN b (headB Q.lc Q.lp Q.pb) Q.dict a.1 (cutB b p x) ⟨a.2.how, a.2.s, a.2.out⟩) 0 G) W G (.tuple #[]) e w' → e = .returned (.tuple #[]) ∧ KeepsFrom wL.heap.size W w' ∧ KpC (w4.heap.size + 2) (w4.heap.size + 3) W w' ∧ Kin Q b p wL G0 s0 ((pre ++ [(⟨x, hx⟩ : { j : Nat // j < manyN n p })]).map (fun y => y.1)) w' from fun e w' hp => by
      obtain ⟨rfl, G', hk', hn', ho'⟩ := hp
      have hlW := hs.on.size
      refine ⟨rfl, hk.keeps ho' _, ⟨ho'.cell (p := ⟨w4.heap.size + 2, 0, none⟩) (by show w4.heap.size + 2 < _; omega) (hbox _ (by show w4.heap.size < w4.heap.size + 2; omega) (by show w4.heap.size + 2 < _; omega)), ho'.cell (p := ⟨w4.heap.size + 3, 0, none⟩) (by show w4.heap.size + 3 < _; omega) (hbox _ (by show w4.heap.size < w4.heap.size + 3; omega) (by show w4.heap.size + 3 < _; omega))⟩, G', ?_, hs.trans ⟨hn', ho'⟩⟩
      rw [List.map_append, ← hjs, List.map_cons, List.map_nil, foldQ_snoc, ← ha]
      have hcl : (cutB b p x).length = ln := by rw [cutB_len, hbl, hln]
      unfold stepQ
      rw [hcl]
      exact hk')
    rw [← hln]
    clear hk hs hkin hg0 hwB hsz hlc hbl hs0 hA hbxc hjl hmul hml hck hx2 hjm hout hat hapG hSW hq0 hap hap2 hsW hmin hcmd hbox ha hjs hln hS hnc hc hn
    gi_wp2_with (first
      | (refine ⟨trivial, ?_⟩; gi_at_call 15; refine (CallsIn.inRound l (callsIn_wide.2 KP.out)).mono ?_; rintro e w' hp; obtain ⟨rfl, hz⟩ := HEND.out _ _ hp; have HZ := Lib.hid hz; clear hz hp)
      | fail)
    exact HZ.out
  case done =>
    rintro D ys W hD rfl ⟨G, hk, hs⟩ hK
    obtain ⟨hkin, hg0, hwB, hsz, hlc, hbl, hs0, hA, hbxc⟩ := HKEEP.out
    obtain ⟨i, hi, hz0, hz1, hz2⟩ := info_parts info_u8
    rw [ofN_val (Nat.le_refl _)] at hk
    have hml : manyN n p ≤ n + (p - 1) := many_le hp
    have hmul : manyN n p * p ≤ n + (p - 1) := many_mul
    have hck : Ckw b Q.lc Q.lp Q.pb Q.dict p (List.range (manyN n p)).length (foldQ b (headB Q.lc Q.lp Q.pb) Q.dict p s0 (List.range (manyN n p))) := by
      rw [hs0, hlc.1, hlc.2.1, hlc.2.2.1, hlc.2.2.2.1]
      exact ckw_fold hset (by omega) _
    have hpk : packN b lc lp pb dict p = (foldQ b (headB Q.lc Q.lp Q.pb) Q.dict p s0 (List.range (manyN n p))).2.out ++ [0] := by
      rw [hs0, hlc.1, hlc.2.1, hlc.2.2.1, hlc.2.2.2.1, ← hbl]
      rfl
    obtain ⟨a, ha⟩ : ∃ a, a = foldQ b (headB Q.lc Q.lp Q.pb) Q.dict p s0 (List.range (manyN n p)) := ⟨_, rfl⟩
    rw [← ha] at hk hck hpk
    obtain ⟨out, hou⟩ : ∃ out, out = a.2.out := ⟨_, rfl⟩
    have hout : out.length ≤ 90000000 := by
      have h1 := hck.out
      rw [List.length_range] at h1
      have h2 : manyN n p * (p + 6) = manyN n p * p + manyN n p * 6 := Nat.mul_add _ _ _
      rw [hou]
      omega
    have hWB : Below w.heap.size w W := hwB.trans (hs.on.below hwB.size (fun i hi => (hg0 i hi).1))
    obtain ⟨K', Ge, A1, c1, Ao, co, hkk, hG⟩ := hk
    have hown : W.ownsRow 0 5 1 (.slice Ao out.length co) out.length (bv out) := by rw [hou]; exact hkk.own
    have c8 : W.cell? ⟨w4.heap.size, 8, none⟩ = some (.slice Ao out.length co) := by
      have := hkk.blk.cell 8
      rw [hlc.2.2.2.2.2.2.2] at this
      rw [hou]
      exact this
    have c13 : W.cell? ⟨w4.heap.size + 1, 0, none⟩ = some (.pointer (some ⟨w4.heap.size, 0, none⟩)) := (hs.on.cell (p := ⟨w4.heap.size + 1, 0, none⟩) (by show w4.heap.size + 1 < _; omega) (fun e => by have := (hg0 _ e).2; have : w4.heap.size + 1 ≤ w4.heap.size := this; omega)).trans hbxc
    have hDne : (Value.slice Ao out.length co).ownBlock ≠ some D := fun e => by
      obtain ⟨o, ho, ht⟩ := own_isCells hown e
      rw [hK] at ho
      injection ho with ho
      subst ho
      exact (nomatch ht)
    have hOB : ∀ i, (Value.slice Ao out.length co).ownBlock = some i → w.heap.size ≤ i := fun i hi => by
      have hg : G i := (hG i).2 (.inr (.inr (by rw [← hou]; exact hi)))
      rcases hs.nw i hg with e | e
      · exact (hg0 i e).1
      · have := hwB.size
        omega
    have HFI := Lib.hid (And.intro hown (And.intro hDne (And.intro hOB (And.intro hWB (And.intro hout (And.intro hK hpk))))))
    have HOU := Lib.hid hou
    have HDW := Lib.hid (show w.heap.size ≤ D by have := hwB.size; omega)
    clear hs hkin hg0 hwB hsz hlc hbl hs0 hA hbxc hml hmul hck hpk ha hou hout hWB hkk hG hown hDne hOB hS hnc hc hn hD
    gi_wp2_with (first
      | (gi_at_builtin; refine wpListIn_append_own_at _ rfl (.tmp 50) (.tmp 51) 22 rfl 0 5 i _ 1 1 Tryz.underlying22 hi hz0 hz1 hz2 rfl (by decide) _ out.length (bv out) rfl (HFI.out.1.alloc _) ⟨W.heap.size, 0, none⟩ 1 1 [.int .u8 0] rfl rfl (fun j u hj => (sl_one W 5 (.int .u8 0)).news j u hj) (one_one _ _) (by have := HFI.out.2.2.2.2.1; unfold maxLen; omega) (by have := HFI.out.2.2.2.2.1; omega) (Nat.zero_le _) ?_; intro v' w9 hown' hgrow hnil hq'; obtain ⟨A9, c9, rfl, ho9⟩ := own_form hown'; have H9 := Lib.hid (And.intro ho9 hgrow); clear hown' hgrow hnil hq' ho9)
      | fail)
    obtain ⟨ho9, hgrow⟩ := H9.out
    obtain ⟨hown, hDne, hOB, hWB, hout, hKD, hpk⟩ := HFI.out
    have hDlt := (Array.getElem?_eq_some_iff.1 hKD).1
    have hK9 : w9.heap[D]? = some (.deferred (some [])) := (hgrow.block D (by simp; omega) (fun e => hDne e.symm)).trans ((Below.heap_alloc W _ D hDlt).trans hKD)
    have hB9 : Below w.heap.size w w9 := (hWB.alloc hWB.size _).grown hgrow (by have := hWB.size; simp; omega) hOB
    refine ⟨by simp, .inl ⟨_, _, rfl, run_takeDeferred hK9, ?_⟩⟩
    refine ⟨_, results_tmp3 rfl _ _ _, ?_⟩
    have hor := ownsRow_putObj ho9 (.deferred none) hK9 rfl
    have hfin : bv out ++ [Value.int .u8 0] = bv (out ++ [0]) := by rw [bv_append]; rfl
    have hpk2 : packN b lc lp pb dict p = out ++ [0] := by rw [hpk, HOU.out]
    have hlen : (packN b lc lp pb dict p).length = out.length + 1 := by rw [hpk2, List.length_append]; rfl
    rw [hfin, ← hpk2] at hor
    obtain ⟨_, hle, hcm, _⟩ := own_facts hor
    refine ⟨A9, c9, r, ?_, ?_, ?_, hcm, HPR.out, hB9.trans ((only_grown (grownBy_putObj' w9 D (.deferred none))).below (by have := hB9.size; exact this) (fun i e => by injection e with e; have := HDW.out; omega))⟩
    · rw [hlen]
      rfl
    · rw [hlen]
      exact Sl.of_own hor
    · rw [hlen]
      exact hle
  case stop =>
    rintro D c pre W hD _ h _
    exact h.elim
end
end Go.Proofs.YtoencondpbkomaaGreat

/-
  What LZMA2's coder puts, piece by piece: numbers; short pieces are plain.
-/
namespace Go.Proofs.YtoencondpbkomaaGreat
open Go.RowKit

/-- a piece's chunk -/
def chunkN (b : List UInt8) (p0 : UInt8) (dict at_ : Nat) (xs : List UInt8) (k : Ckn) : List UInt8 :=
  if (strS b dict (min at_ b.length) (min (at_ + xs.length) b.length) k.how k.s).2.x.l < xs.length then
    packedB k.how p0 xs.length (strB (strS b dict (min at_ b.length) (min (at_ + xs.length) b.length) k.how k.s))
  else plainB k.how xs
theorem piece_out (b : List UInt8) (p0 : UInt8) (dict at_ : Nat) (xs : List UInt8) (k : Ckn) : (pieceN b p0 dict at_ xs k).out = k.out ++ chunkN b p0 dict at_ xs k := by
  unfold pieceN chunkN
  split <;> rfl
section
variable {b : List UInt8} {lc lp pb dict p : Nat} {p0 : UInt8}
theorem str_five {k : Nat} {a : Nat × Ckn} (h : Ckw b lc lp pb dict p k a) (hn : b.length ≤ 1000000) (xs : List UInt8) :
    5 ≤ (strS b dict (min a.1 b.length) (min (a.1 + xs.length) b.length) a.2.how a.2.s).2.x.l :=
  (str_all (h.cmd.pre (how := a.2.how)) (T := min (a.1 + xs.length) b.length) (by omega) (by omega) hn _ rfl).2.2.2.1
theorem piece_short {k : Nat} {a : Nat × Ckn} (h : Ckw b lc lp pb dict p k a) (hn : b.length ≤ 1000000) {xs : List UInt8} (hx : xs.length ≤ 5) :
    (pieceN b p0 dict a.1 xs a.2).how = nextH a.2.how ∧ (pieceN b p0 dict a.1 xs a.2).out = a.2.out ++ plainB a.2.how xs := by
  have := str_five h hn xs
  unfold pieceN
  rw [if_neg (by omega)]
  exact ⟨rfl, rfl⟩
theorem pack_nil : packN [] lc lp pb dict 5 = [0] := rfl
theorem pack_ab : packN [97, 98] 3 0 2 4096 1 = [1, 0, 0, 97, 2, 0, 0, 98, 0] := by
  have hs : SetOk 3 0 2 4096 := ⟨by decide, by decide, by decide, by decide, by decide⟩
  have h0 := ckw_fold (b := [97, 98]) (p := 1) (p0 := headB 3 0 2) hs (by decide) []
  have h1 := ckw_fold (b := [97, 98]) (p := 1) (p0 := headB 3 0 2) hs (by decide) [0]
  obtain ⟨a1, a2⟩ := piece_short (p0 := headB 3 0 2) h0 (by decide) (xs := cutB [97, 98] 1 0) (by decide)
  obtain ⟨b1, b2⟩ := piece_short (p0 := headB 3 0 2) h1 (by decide) (xs := cutB [97, 98] 1 1) (by decide)
  have e0 : foldQ [97, 98] (headB 3 0 2) 4096 1 (freshS 3 0 2 4096) [0] = stepQ [97, 98] (headB 3 0 2) 4096 1 (foldQ [97, 98] (headB 3 0 2) 4096 1 (freshS 3 0 2 4096) []) 0 := rfl
  have f1 : (foldQ [97, 98] (headB 3 0 2) 4096 1 (freshS 3 0 2 4096) [0]).2.out = [1, 0, 0, 97] := by
    rw [e0]
    exact a2
  have f2 : (foldQ [97, 98] (headB 3 0 2) 4096 1 (freshS 3 0 2 4096) [0]).2.how = 2 := by
    rw [e0]
    exact a1
  have f3 : (foldQ [97, 98] (headB 3 0 2) 4096 1 (freshS 3 0 2 4096) [0, 1]).2.out = [1, 0, 0, 97] ++ plainB 2 [98] := by
    have : (foldQ [97, 98] (headB 3 0 2) 4096 1 (freshS 3 0 2 4096) [0, 1]).2.out = (pieceN [97, 98] (headB 3 0 2) 4096 (foldQ [97, 98] (headB 3 0 2) 4096 1 (freshS 3 0 2 4096) [0]).1 (cutB [97, 98] 1 1) (foldQ [97, 98] (headB 3 0 2) 4096 1 (freshS 3 0 2 4096) [0]).2).out := rfl
    rw [this, b2, f1, f2]
    rfl
  show (foldQ [97, 98] (headB 3 0 2) 4096 1 (freshS 3 0 2 4096) [0, 1]).2.out ++ [0] = _
  rw [f3]
  rfl

/-- what was told behind the first j pieces -/
def outN (b : List UInt8) (lc lp pb dict p j : Nat) : List UInt8 := (foldQ b (headB lc lp pb) dict p (freshS lc lp pb dict) (List.range j)).2.out
/-- the chunk of piece number j -/
def chN (b : List UInt8) (lc lp pb dict p j : Nat) : List UInt8 :=
  chunkN b (headB lc lp pb) dict (foldQ b (headB lc lp pb) dict p (freshS lc lp pb dict) (List.range j)).1 (cutB b p j) (foldQ b (headB lc lp pb) dict p (freshS lc lp pb dict) (List.range j)).2
theorem outN_succ (j : Nat) : outN b lc lp pb dict p (j + 1) = outN b lc lp pb dict p j ++ chN b lc lp pb dict p j := by
  unfold outN chN
  rw [List.range_succ, foldQ_snoc]
  exact piece_out _ _ _ _ _ _
theorem outN_pre (j : Nat) : ∀ d, ∃ rest, outN b lc lp pb dict p (j + d) = outN b lc lp pb dict p j ++ rest
  | 0 => ⟨[], by simp⟩
  | d + 1 => by
    obtain ⟨r, h⟩ := outN_pre j d
    exact ⟨r ++ chN b lc lp pb dict p (j + d), by rw [show j + (d + 1) = (j + d) + 1 by omega, outN_succ, h, List.append_assoc]⟩
/-- what a chunk is: its first bytes, its length -/
structure ChIs (ch : List UInt8) (j n : Nat) (k3 k4 : Nat) : Prop where
  count : 256 * (ch.getD 1 0).toNat + (ch.getD 2 0).toNat + 1 = n
  kind : ((ch.getD 0 0).toNat = 1 ∧ j = 0 ∧ ch.length = 3 + n) ∨ ((ch.getD 0 0).toNat = 2 ∧ j ≠ 0 ∧ ch.length = 3 + n) ∨
    (((ch.getD 0 0).toNat = 224 ∧ j = 0 ∧ ch.length = 6 + 256 * k3 + k4 + 1) ∨ ((ch.getD 0 0).toNat = 192 ∧ j ≠ 0 ∧ ch.length = 6 + 256 * k3 + k4 + 1) ∨ (((ch.getD 0 0).toNat = 128 ∨ (ch.getD 0 0).toNat = 160) ∧ j ≠ 0 ∧ ch.length = 5 + 256 * k3 + k4 + 1)) ∧ (ch.getD 3 0).toNat = k3 ∧ (ch.getD 4 0).toNat = k4
end
end Go.Proofs.YtoencondpbkomaaGreat

/-
  The laws' beginning.
-/
namespace Go.Proofs.YtoencondpbkomaaGreat
open Go.RowKit

theorem sl_mark2 (w : World) (e : TypeId) (cs : Array Value) (fr : Nat × Nat) : Sl (w.alloc (.cells cs e fr)) (some ⟨w.heap.size, 0, none⟩) cs.size cs.toList :=
  ⟨by simp, fun _ => ⟨w.heap.size, 0, rfl, by simp, fun j _ => by rw [Nat.zero_add, cell_of_row _ _ j cs e fr (heap_alloc_new w _)]; simp⟩⟩
theorem conv_two (w : World) (a b : Int) : (convert 22 22 (.slice (some ⟨w.heap.size, 0, none⟩) 2 2)).run Tryz.prog (w.alloc (.cells #[.int .u8 a, .int .u8 b] 5)) = .ok (.slice (some ⟨w.heap.size, 0, none⟩) 2 2) (w.alloc (.cells #[.int .u8 a, .int .u8 b] 5 (2, 3))) :=
  Go.Lib.run_convert_bytes_const w 22 5 #[.int .u8 a, .int .u8 b] 2 2 Tryz.underlying22 Tryz.underlying5
theorem setOk_awk : SetOk 3 0 2 4096 := ⟨by decide, by decide, by decide, by decide, by decide⟩
theorem pack_one (W : World) : Calls Tryz.prog 7 #[.slice none 0 0, .agg #[.int .i64 3, .int .i64 0, .int .i64 2, .int .i64 4096], .int .i64 5] W fun e w' =>
    ∃ (R : Option Addr) (cl r : Nat), e = .returned (.tuple #[.slice R 1 cl, .int .u8 (r : Int), .int .i64 0]) ∧ Sl w' R 1 (bv [0]) ∧ Below W.heap.size W w' := by
  refine (kpack_any (w := W) (A := none) (n := 0) (c := 0) (p := 5) (b := []) (lc := 3) (lp := 0) (pb := 2) (dict := 4096) setOk_awk (by decide) (by decide) (by decide) Sl.nil (by decide) (Nat.le_refl _) (by unfold maxLen; decide)).mono ?_
  rintro e w' ⟨R, cl, r, rfl, hS, _, _, _, hb⟩
  rw [pack_nil] at hS ⊢
  exact ⟨R, cl, r, rfl, hS, hb⟩
theorem pack_two (w : World) (W : World) (hb0 : Below (w.alloc (.cells #[.int .u8 97, .int .u8 98] 5 (2, 3))).heap.size (w.alloc (.cells #[.int .u8 97, .int .u8 98] 5 (2, 3))) W) : Calls Tryz.prog 7 #[.slice (some ⟨w.heap.size, 0, none⟩) 2 2, .agg #[.int .i64 3, .int .i64 0, .int .i64 2, .int .i64 4096], .int .i64 1] W fun e w' =>
    ∃ (R : Option Addr) (cl r : Nat), e = .returned (.tuple #[.slice R 9 cl, .int .u8 (r : Int), .int .i64 0]) ∧ Sl w' R 9 (bv [1, 0, 0, 97, 2, 0, 0, 98, 0]) ∧ Below W.heap.size W w' := by
  have hS : Sl W (some ⟨w.heap.size, 0, none⟩) 2 (bv [97, 98]) := (sl_mark2 w 5 #[.int .u8 97, .int .u8 98] (2, 3)).below hb0
  refine (kpack_any (w := W) (n := 2) (c := 2) (p := 1) (b := [97, 98]) (lc := 3) (lp := 0) (pb := 2) (dict := 4096) setOk_awk (by decide) (by decide) (by decide) hS (by decide) (Nat.le_refl _) (by unfold maxLen; decide)).mono ?_
  rintro e w' ⟨R, cl, r, rfl, hS, _, _, _, hb⟩
  rw [pack_ab] at hS ⊢
  exact ⟨R, cl, r, rfl, hS, hb⟩
set_option maxRecDepth 100000 in
set_option maxHeartbeats 8000000 in
theorem awake12_any (w : World) : Calls Tryz.prog 4 #[] w fun e w' => e = .returned (.bool true) ∧ Below w.heap.size w w' := by
  have HBK := Lib.hid (Blk.fresh w 24 #[.int .i64 3, .int .i64 0, .int .i64 2, .int .i64 4096])
  have HB1 := Lib.hid ((Below.refl w.heap.size w).alloc (Nat.le_refl _) (.cells #[.int .i64 3, .int .i64 0, .int .i64 2, .int .i64 4096] 24))
  have K1 := Lib.hid (fun W => pack_one W)
  go_enter Tryz.func4, Tryz.ntmps4
  go_wp2_with fail
  refine (K1.out _).mono ?_
  rintro x w2 ⟨R1, c1, r1, rfl, hs1, hb2⟩
  have hk2 := HBK.out.below hb2
  have HK2 := Lib.hid hk2
  have HS1 := Lib.hid hs1
  have HB2 := Lib.hid (below_gg HB1.out hb2 (Nat.le_refl _))
  clear hk2 hs1 hb2 K1 HB1 HBK
  have hcv := conv_two w2 97 98
  have hk3 := HK2.out.below ((Below.refl w2.heap.size w2).alloc (Nat.le_refl _) (.cells #[.int .u8 97, .int .u8 98] 5 (2, 3)))
  have d0 := hk3.cell 0
  have d1 := hk3.cell 1
  have d2 := hk3.cell 2
  have d3 := hk3.cell 3
  have HB3 := Lib.hid (HB2.out.alloc HB2.out.size (.cells #[.int .u8 97, .int .u8 98] 5 (2, 3)))
  have HS3 := Lib.hid (HS1.out.below ((Below.refl w2.heap.size w2).alloc (Nat.le_refl _) (.cells #[.int .u8 97, .int .u8 98] 5 (2, 3))))
  have K2 := Lib.hid (pack_two w2 _ (Below.refl _ _))
  clear hk3
  go_wp2_with fail
  refine K2.out.mono ?_
  rintro x w4 ⟨R2, c2, r2, rfl, hs2, hb4⟩
  have HS4 := Lib.hid (HS3.out.below hb4)
  have HT4 := Lib.hid hs2
  have HB4 := Lib.hid (below_gg HB3.out hb4 (Nat.le_refl _))
  clear hs2 hb4 K2 hcv d0 d1 d2 d3 HB3 HS3 HS1 HB2 HK2
  have KB1 := Lib.hid (show Calls Tryz.prog 9 #[.slice R1 1 c1, .slice (some ⟨w4.heap.size, 0, none⟩) 1 1] (w4.alloc (.cells #[.int .u8 0] 5)) (fun e w' => e = .returned (.bool true) ∧ ∃ d, (w4.alloc (.cells #[.int .u8 0] 5)).drewN d = w') from
    bytesSame_any (HS4.out.alloc _) (sl_b1 w4 0) (by decide))
  go_wp2_with fail
  refine KB1.out.mono ?_
  rintro x w5 ⟨rfl, d, rfl⟩
  have hb5 : Below w4.heap.size w4 ((w4.alloc (.cells #[.int .u8 0] 5)).drewN d) := below_drewN ((Below.refl _ w4).alloc (Nat.le_refl _) _) d
  have HT5 := Lib.hid (HT4.out.below hb5)
  have HB5 := Lib.hid (below_gg HB4.out hb5 (Nat.le_refl _))
  clear hb5 KB1 HS4 HT4 HB4
  generalize (w4.alloc (.cells #[.int .u8 0] 5)).drewN d = w6 at *
  have KB2 := Lib.hid (show Calls Tryz.prog 9 #[.slice R2 9 c2, .slice (some ⟨w6.heap.size, 0, none⟩) 9 9] (w6.alloc (.cells #[.int .u8 1, .int .u8 0, .int .u8 0, .int .u8 97, .int .u8 2, .int .u8 0, .int .u8 0, .int .u8 98, .int .u8 0] 5)) (fun e w' => e = .returned (.bool true) ∧ ∃ d, (w6.alloc (.cells #[.int .u8 1, .int .u8 0, .int .u8 0, .int .u8 97, .int .u8 2, .int .u8 0, .int .u8 0, .int .u8 98, .int .u8 0] 5)).drewN d = w') from
    bytesSame_any (HT5.out.alloc _) (sl_lit w6 5 (bv [1, 0, 0, 97, 2, 0, 0, 98, 0]).toArray (by decide)) (by decide))
  have HB6 := Lib.hid (HB5.out.alloc HB5.out.size (.cells #[.int .u8 1, .int .u8 0, .int .u8 0, .int .u8 97, .int .u8 2, .int .u8 0, .int .u8 0, .int .u8 98, .int .u8 0] 5))
  go_wp2_with fail
  refine KB2.out.mono ?_
  rintro x w7 ⟨rfl, d2, rfl⟩
  have HB7 := Lib.hid (below_drewN HB6.out d2)
  clear KB2 HB6 HB5 HT5
  go_wp2_with fail
  go_ret
  exact ⟨rfl, HB7.out⟩
end Go.Proofs.YtoencondpbkomaaGreat

/-
  The coder of LZMA2: what it refuses.
-/
namespace Go.Proofs.YtoencondpbkomaaGreat
open Go.RowKit Go.Shelf

theorem below_gq {w0 w1 w2 : World} {B : Nat} (h : Below B w0 w1) (hb : Below w1.heap.size w1 w2) (hB : B ≤ w0.heap.size) : Below B w0 w2 :=
  h.trans ⟨hb.os, hb.tape, hb.output, hb.size, fun i hi => hb.block i (by have := h.size; omega)⟩
set_option maxRecDepth 100000 in
set_option maxHeartbeats 8000000 in
theorem kpack_bad (v : Value) (a b c d pc : Int) (w : World) (h : may12 a b c d = false ∨ pc < 1 ∨ 65536 < pc) :
    Calls Tryz.prog 7 #[v, .agg #[.int .i64 a, .int .i64 b, .int .i64 c, .int .i64 d], .int .i64 pc] w fun e w' =>
      e = .returned (.tuple #[.slice none 0 0, .int .u8 0, .int .i64 (if may12 a b c d = false then 11 else 301)]) ∧ Below w.heap.size w w' := by
  have KM := fun W => kmay_any a b c d W
  have HB1 := Lib.hid ((Below.refl w.heap.size w).alloc (Nat.le_refl _) (.cells #[.int .i64 a, .int .i64 b, .int .i64 c, .int .i64 d] 24))
  obtain ⟨res, hres⟩ : ∃ r : Int, r = if may12 a b c d = false then 11 else 301 := ⟨_, rfl⟩
  rw [← hres]
  cases hm : may12 a b c d with
  | false =>
    rw [hm] at KM hres
    have KM := Lib.hid KM
    obtain rfl : res = 11 := hres
    clear hm h
    refine (callsIn_wide (n := 9)).1 ?_
    refine callsIn_of_wp_marks Tryz.func7 rfl trivial ?_ rfl
    simp only [Tryz.ntmps7, List.size_toArray, List.length_cons, List.length_nil, Nat.reduceAdd, Nat.reduceSub, Array.replicate_succ, Array.replicate_zero, List.push_toArray, List.append_toArray, List.nil_append, List.cons_append]
    gi_wp2_with (first
      | (refine ⟨trivial, ?_⟩; gi_at_call 5; refine (callsIn_wide.2 (KM.out _)).mono ?_; rintro e w2 ⟨rfl, hb2⟩; have HB2 := Lib.hid (below_gq HB1.out hb2 (Nat.le_refl _)); clear hb2)
      | fail)
    exact ⟨_, results_tmp3 rfl _ _ _, rfl, HB2.out⟩
  | true =>
    rw [hm] at KM hres h
    have KM := Lib.hid KM
    obtain rfl : res = 301 := hres
    clear hm
    have h : pc < 1 ∨ (¬ pc < 1 ∧ 65536 < pc) := by
      rcases h with h | h | h
      · exact (nomatch h)
      · exact .inl h
      · by_cases h1 : pc < 1
        · exact .inl h1
        · exact .inr ⟨h1, h⟩
    rcases h with g1 | ⟨g1, g2⟩
    · refine (callsIn_wide (n := 9)).1 ?_
      refine callsIn_of_wp_marks Tryz.func7 rfl trivial ?_ rfl
      simp only [Tryz.ntmps7, List.size_toArray, List.length_cons, List.length_nil, Nat.reduceAdd, Nat.reduceSub, Array.replicate_succ, Array.replicate_zero, List.push_toArray, List.append_toArray, List.nil_append, List.cons_append]
      gi_wp2_with (first
        | (refine ⟨trivial, ?_⟩; gi_at_call 5; refine (callsIn_wide.2 (KM.out _)).mono ?_; rintro e w2 ⟨rfl, hb2⟩; have HB2 := Lib.hid (below_gq HB1.out hb2 (Nat.le_refl _)); clear hb2)
        | fail)
      exact ⟨_, results_tmp3 rfl _ _ _, rfl, HB2.out⟩
    · refine (callsIn_wide (n := 9)).1 ?_
      refine callsIn_of_wp_marks Tryz.func7 rfl trivial ?_ rfl
      simp only [Tryz.ntmps7, List.size_toArray, List.length_cons, List.length_nil, Nat.reduceAdd, Nat.reduceSub, Array.replicate_succ, Array.replicate_zero, List.push_toArray, List.append_toArray, List.nil_append, List.cons_append]
      gi_wp2_with (first
        | (refine ⟨trivial, ?_⟩; gi_at_call 5; refine (callsIn_wide.2 (KM.out _)).mono ?_; rintro e w2 ⟨rfl, hb2⟩; have HB2 := Lib.hid (below_gq HB1.out hb2 (Nat.le_refl _)); clear hb2)
        | fail)
      exact ⟨_, results_tmp3 rfl _ _ _, rfl, HB2.out⟩
end Go.Proofs.YtoencondpbkomaaGreat

/-
  The reference of LZMA: settings.
-/
namespace Go.Proofs.YtoencondpbkomaaGreat
open Go.RowKit

set_option maxHeartbeats 4000000 in
theorem may_any (a b c d : Int) (w : World) :
    Calls Tryz.prog 11 #[.agg #[.int .i64 a, .int .i64 b, .int .i64 c, .int .i64 d]] w fun x w' => x = .returned (.bool (maySet a b c d)) ∧ Below w.heap.size w w' := by
  have HB := Lib.hid ((Below.refl w.heap.size w).alloc (Nat.le_refl _) (.cells #[.int .i64 a, .int .i64 b, .int .i64 c, .int .i64 d] 24))
  obtain ⟨v, hv⟩ : ∃ v, v = maySet a b c d := ⟨_, rfl⟩
  rw [← hv]
  unfold maySet at hv
  by_cases h0 : 0 ≤ a
  · have g0 : a ≥ 0 := h0
    by_cases h1 : a ≤ 8
    · have g1 : a ≤ 8 := h1
      by_cases h2 : 0 ≤ b
      · have g2 : b ≥ 0 := h2
        by_cases h3 : b ≤ 4
        · have g3 : b ≤ 4 := h3
          by_cases h4 : 0 ≤ c
          · have g4 : c ≥ 0 := h4
            by_cases h5 : c ≤ 4
            · have g5 : c ≤ 4 := h5
              by_cases h6 : 4096 ≤ d
              · have g6 : d ≥ 4096 := h6
                by_cases h7 : d ≤ 4294967295
                · have g7 : d ≤ 4294967295 := h7
                  obtain rfl : v = true := by rw [hv]; simp; omega
                  clear hv
                  go_enter Tryz.func11, Tryz.ntmps11
                  go_wp2_with fail
                  go_ret
                  exact ⟨rfl, HB.out⟩
                · have g7 : ¬ d ≤ 4294967295 := h7
                  obtain rfl : v = false := by rw [hv]; simp; omega
                  clear hv
                  go_enter Tryz.func11, Tryz.ntmps11
                  go_upto_region 1 with fail
                  go_step
                  iterate 39 (with_reducible refine wpList_step (fun K hK => ?_); go_simp; (first | (with_reducible refine hK _ _ ?_) | (refine Eq.mpr (if_neg ?_) ?_; (· decide); with_reducible refine hK _ _ ?_)); clear hK K)
                  go_wp2_with fail
                  go_ret
                  exact ⟨rfl, HB.out⟩
              · have g6 : ¬ d ≥ 4096 := h6
                obtain rfl : v = false := by rw [hv]; simp; omega
                clear hv
                go_enter Tryz.func11, Tryz.ntmps11
                go_upto_region 1 with fail
                go_step
                iterate 39 (with_reducible refine wpList_step (fun K hK => ?_); go_simp; (first | (with_reducible refine hK _ _ ?_) | (refine Eq.mpr (if_neg ?_) ?_; (· decide); with_reducible refine hK _ _ ?_)); clear hK K)
                go_wp2_with fail
                go_ret
                exact ⟨rfl, HB.out⟩
            · have g5 : ¬ c ≤ 4 := h5
              obtain rfl : v = false := by rw [hv]; simp; omega
              clear hv
              go_enter Tryz.func11, Tryz.ntmps11
              go_upto_region 1 with fail
              go_step
              iterate 39 (with_reducible refine wpList_step (fun K hK => ?_); go_simp; (first | (with_reducible refine hK _ _ ?_) | (refine Eq.mpr (if_neg ?_) ?_; (· decide); with_reducible refine hK _ _ ?_)); clear hK K)
              go_wp2_with fail
              go_ret
              exact ⟨rfl, HB.out⟩
          · have g4 : ¬ c ≥ 0 := h4
            obtain rfl : v = false := by rw [hv]; simp; omega
            clear hv
            go_enter Tryz.func11, Tryz.ntmps11
            go_upto_region 1 with fail
            go_step
            iterate 39 (with_reducible refine wpList_step (fun K hK => ?_); go_simp; (first | (with_reducible refine hK _ _ ?_) | (refine Eq.mpr (if_neg ?_) ?_; (· decide); with_reducible refine hK _ _ ?_)); clear hK K)
            go_wp2_with fail
            go_ret
            exact ⟨rfl, HB.out⟩
        · have g3 : ¬ b ≤ 4 := h3
          obtain rfl : v = false := by rw [hv]; simp; omega
          clear hv
          go_enter Tryz.func11, Tryz.ntmps11
          go_upto_region 1 with fail
          go_step
          iterate 39 (with_reducible refine wpList_step (fun K hK => ?_); go_simp; (first | (with_reducible refine hK _ _ ?_) | (refine Eq.mpr (if_neg ?_) ?_; (· decide); with_reducible refine hK _ _ ?_)); clear hK K)
          go_wp2_with fail
          go_ret
          exact ⟨rfl, HB.out⟩
      · have g2 : ¬ b ≥ 0 := h2
        obtain rfl : v = false := by rw [hv]; simp; omega
        clear hv
        go_enter Tryz.func11, Tryz.ntmps11
        go_upto_region 1 with fail
        go_step
        iterate 39 (with_reducible refine wpList_step (fun K hK => ?_); go_simp; (first | (with_reducible refine hK _ _ ?_) | (refine Eq.mpr (if_neg ?_) ?_; (· decide); with_reducible refine hK _ _ ?_)); clear hK K)
        go_wp2_with fail
        go_ret
        exact ⟨rfl, HB.out⟩
    · have g1 : ¬ a ≤ 8 := h1
      obtain rfl : v = false := by rw [hv]; simp; omega
      clear hv
      go_enter Tryz.func11, Tryz.ntmps11
      go_upto_region 1 with fail
      go_step
      iterate 39 (with_reducible refine wpList_step (fun K hK => ?_); go_simp; (first | (with_reducible refine hK _ _ ?_) | (refine Eq.mpr (if_neg ?_) ?_; (· decide); with_reducible refine hK _ _ ?_)); clear hK K)
      go_wp2_with fail
      go_ret
      exact ⟨rfl, HB.out⟩
  · have g0 : ¬ a ≥ 0 := h0
    obtain rfl : v = false := by rw [hv]; simp; omega
    clear hv
    go_enter Tryz.func11, Tryz.ntmps11
    go_upto_region 1 with fail
    go_step
    iterate 39 (with_reducible refine wpList_step (fun K hK => ?_); go_simp; (first | (with_reducible refine hK _ _ ?_) | (refine Eq.mpr (if_neg ?_) ?_; (· decide); with_reducible refine hK _ _ ?_)); clear hK K)
    go_wp2_with fail
    go_ret
    exact ⟨rfl, HB.out⟩
end Go.Proofs.YtoencondpbkomaaGreat

/-
  The reference of LZMA2's coder: which settings may be.
-/
namespace Go.Proofs.YtoencondpbkomaaGreat
open Go.RowKit

set_option maxRecDepth 100000 in
set_option maxHeartbeats 4000000 in
theorem rmay12_any (a b c d : Int) (w : World) : Calls Tryz.prog 6 #[.agg #[.int .i64 a, .int .i64 b, .int .i64 c, .int .i64 d]] w fun e w' => e = .returned (.bool (may12 a b c d)) ∧ Below w.heap.size w w' := by
  obtain ⟨w1, hw1⟩ : ∃ w1, w1 = w.alloc (.cells #[.int .i64 a, .int .i64 b, .int .i64 c, .int .i64 d] 24) := ⟨_, rfl⟩
  have hb1 : Below w.heap.size w w1 := by rw [hw1]; exact (Below.refl _ _).alloc (Nat.le_refl _) _
  have HBk : Blk w1 w.heap.size 24 #[.int .i64 a, .int .i64 b, .int .i64 c, .int .i64 d] := by rw [hw1]; exact Blk.fresh w _ _
  have KM := may_any a b c d w1
  have c0 : w1.cell? ⟨w.heap.size, 0, none⟩ = some (.int .i64 a) := HBk.cell 0
  have c1 : w1.cell? ⟨w.heap.size, 1, none⟩ = some (.int .i64 b) := HBk.cell 1
  have c2 : w1.cell? ⟨w.heap.size, 2, none⟩ = some (.int .i64 c) := HBk.cell 2
  have c3 : w1.cell? ⟨w.heap.size, 3, none⟩ = some (.int .i64 d) := HBk.cell 3
  have HBK := Lib.hid HBk
  have HW1 := Lib.hid hw1
  have HB1 := Lib.hid hb1
  have hbw : w.heap.size < w1.heap.size := HBk.lt
  have HLT := Lib.hid hbw
  by_cases hm : maySet a b c d = true
  · obtain ⟨m1, m2, m3, m4, m5, m6, m7, m8⟩ := may_iff.1 hm
    have e1 : IntKind.i64.wrap (a + b) = a + b := IntWalk.i64_in _ (by omega)
    have hres : may12 a b c d = decide (a + b ≤ 4) := by unfold may12; rw [hm]; rfl
    rw [hm] at KM
    rw [hres]
    have KM := Lib.hid KM
    clear hw1 hb1 HBk hres hm m1 m2 m3 m4 m5 m6 m7 m8 hbw
    go_enter Tryz.func6, Tryz.ntmps6
    go_upto_region 1 with fail
    rw [← HW1.out]
    clear HW1
    generalize hB : w.heap.size = B at *
    go_wp2_with fail
    refine KM.out.mono ?_
    rintro e w2 ⟨rfl, hb2⟩
    have hk2 := HBK.out.below hb2
    have d0 : w2.cell? ⟨B, 0, none⟩ = some (.int .i64 a) := hk2.cell 0
    have d1 : w2.cell? ⟨B, 1, none⟩ = some (.int .i64 b) := hk2.cell 1
    have HB2 := Lib.hid (show Below B w w2 from HB1.out.trans ⟨hb2.os, hb2.tape, hb2.output, hb2.size, fun i hi => hb2.block i (by have := HLT.out; omega)⟩)
    clear hb2 hk2 KM c0 c1 c2 c3 HB1 HBK
    go_wp2_with fail
    go_ret
    exact ⟨rfl, by rw [hB]; exact HB2.out⟩
  · have h0 : maySet a b c d = false := by simpa using hm
    have hres : may12 a b c d = false := by unfold may12; rw [h0]; rfl
    rw [h0] at KM
    rw [hres]
    have KM := Lib.hid KM
    clear hw1 hb1 HBk hres hm h0 hbw
    go_enter Tryz.func6, Tryz.ntmps6
    go_upto_region 1 with fail
    rw [← HW1.out]
    clear HW1
    generalize hB : w.heap.size = B at *
    go_wp2_with fail
    refine KM.out.mono ?_
    rintro e w2 ⟨rfl, hb2⟩
    have HB2 := Lib.hid (show Below B w w2 from HB1.out.trans ⟨hb2.os, hb2.tape, hb2.output, hb2.size, fun i hi => hb2.block i (by have := HLT.out; omega)⟩)
    clear hb2 KM c0 c1 c2 c3 HB1 HBK
    go_wp2_with fail
    go_ret
    exact ⟨rfl, by rw [hB]; exact HB2.out⟩
end Go.Proofs.YtoencondpbkomaaGreat

/-
  The document's coder of LZMA2: what it refuses.
-/
namespace Go.Proofs.YtoencondpbkomaaGreat
set_option linter.unusedVariables false
set_option linter.unusedSimpArgs false
open Go.RowKit

set_option maxRecDepth 100000 in
set_option maxHeartbeats 8000000 in
theorem rpack12_bad (v : Value) (a b c d pc : Int) (w : World) (h : may12 a b c d = false ∨ pc < 1 ∨ 65536 < pc) :
    Calls Tryz.prog 8 #[v, .agg #[.int .i64 a, .int .i64 b, .int .i64 c, .int .i64 d], .int .i64 pc] w fun e w' =>
      e = .returned (.tuple #[.slice none 0 0, .int .u8 0, .int .i64 (if may12 a b c d = false then 11 else 301)]) ∧ Below w.heap.size w w' := by
  have KM := fun W => rmay12_any a b c d W
  have HB1 := Lib.hid ((Below.refl w.heap.size w).alloc (Nat.le_refl _) (.cells #[.int .i64 a, .int .i64 b, .int .i64 c, .int .i64 d] 24))
  obtain ⟨res, hres⟩ : ∃ r : Int, r = if may12 a b c d = false then 11 else 301 := ⟨_, rfl⟩
  rw [← hres]
  cases hm : may12 a b c d with
  | false =>
    rw [hm] at KM hres
    have KM := Lib.hid KM
    obtain rfl : res = 11 := hres
    clear hm h
    go_enter Tryz.func8, Tryz.ntmps8
    go_wp2_with fail
    refine (KM.out _).mono ?_
    rintro e w2 ⟨rfl, hb2⟩
    have HB2 := Lib.hid (below_gg HB1.out hb2 (Nat.le_refl _))
    clear hb2
    go_wp2_with fail
    go_ret3
    exact ⟨rfl, HB2.out⟩
  | true =>
    rw [hm] at KM hres h
    have KM := Lib.hid KM
    obtain rfl : res = 301 := hres
    clear hm
    have h : pc < 1 ∨ (¬ pc < 1 ∧ 65536 < pc) := by
      rcases h with h | h | h
      · exact (nomatch h)
      · exact .inl h
      · by_cases h1 : pc < 1
        · exact .inl h1
        · exact .inr ⟨h1, h⟩
    rcases h with g1 | ⟨g1, g2⟩
    · go_enter Tryz.func8, Tryz.ntmps8
      go_wp2_with fail
      refine (KM.out _).mono ?_
      rintro e w2 ⟨rfl, hb2⟩
      have HB2 := Lib.hid (below_gg HB1.out hb2 (Nat.le_refl _))
      clear hb2
      go_wp2_with fail
      go_ret3
      exact ⟨rfl, HB2.out⟩
    · go_enter Tryz.func8, Tryz.ntmps8
      go_wp2_with fail
      refine (KM.out _).mono ?_
      rintro e w2 ⟨rfl, hb2⟩
      have HB2 := Lib.hid (below_gg HB1.out hb2 (Nat.le_refl _))
      clear hb2
      go_wp2_with fail
      go_ret3
      exact ⟨rfl, HB2.out⟩
end Go.Proofs.YtoencondpbkomaaGreat

/-
  The reference of LZMA: how many probabilities; a new one.
-/
namespace Go.Proofs.YtoencondpbkomaaGreat
open Go.RowKit

set_option maxHeartbeats 2000000 in
theorem probs_any (a b c d : Int) (w : World) :
    Calls Tryz.prog 34 #[.agg #[.int .i64 a, .int .i64 b, .int .i64 c, .int .i64 d]] w fun x w' => x = .returned (.int .i64 (probsOf a b c d)) ∧ Below w.heap.size w w' := by
  obtain ⟨w1, hw1⟩ : ∃ w1, w1 = w.alloc (.cells #[.int .i64 a, .int .i64 b, .int .i64 c, .int .i64 d] 24) := ⟨_, rfl⟩
  have hb1 : Below w.heap.size w w1 := by rw [hw1]; exact (Below.refl _ _).alloc (Nat.le_refl _) _
  have HBk : Blk w1 w.heap.size 24 #[.int .i64 a, .int .i64 b, .int .i64 c, .int .i64 d] := by rw [hw1]; exact Blk.fresh w _ _
  have K := Lib.hid (may_any a b c d w1)
  have d0 : w1.cell? ⟨w.heap.size, 0, none⟩ = some (.int .i64 a) := HBk.cell 0
  have d1 : w1.cell? ⟨w.heap.size, 1, none⟩ = some (.int .i64 b) := HBk.cell 1
  have d2 : w1.cell? ⟨w.heap.size, 2, none⟩ = some (.int .i64 c) := HBk.cell 2
  have d3 : w1.cell? ⟨w.heap.size, 3, none⟩ = some (.int .i64 d) := HBk.cell 3
  have HW1 := Lib.hid hw1
  have HB1 := Lib.hid hb1
  have HBK := Lib.hid HBk
  clear hw1 hb1 HBk
  obtain ⟨r, hr⟩ : ∃ r, r = probsOf a b c d := ⟨_, rfl⟩
  rw [← hr]
  unfold probsOf at hr
  by_cases hm : maySet a b c d = true
  · obtain ⟨m1, m2, m3, m4, _⟩ := may_iff.1 hm
    rw [if_pos hm] at hr
    rw [hm] at K
    obtain ⟨n, hn⟩ : ∃ n : Nat, (n : Int) = a + b := ⟨(a + b).toNat, by omega⟩
    rw [← hn, Int.toNat_natCast] at hr
    have hn12 : n ≤ 12 := by omega
    have eab : IntKind.i64.wrap (a + b) = (n : Int) := by rw [← hn]; exact IntWalk.i64_in _ (by omega)
    have HR := Lib.hid hr
    have HN := Lib.hid hn12
    clear hm m1 m2 m3 m4 hr hn hn12
    go_enter Tryz.func34, Tryz.ntmps34
    go_upto_region 1 with fail
    rw [← HW1.out]
    clear HW1
    go_wp2_with fail
    refine K.out.mono ?_
    rintro e w2 ⟨rfl, hb2⟩
    have HB2 := Lib.hid (HB1.out.trans ⟨hb2.os, hb2.tape, hb2.output, hb2.size, fun i hi => hb2.block i (by have := HBK.out.lt; omega)⟩)
    have hk2 : Blk w2 w.heap.size 24 #[.int .i64 a, .int .i64 b, .int .i64 c, .int .i64 d] := HBK.out.below hb2
    have o0 : w2.cell? ⟨w.heap.size, 0, none⟩ = some (.int .i64 a) := hk2.cell 0
    have o1 : w2.cell? ⟨w.heap.size, 1, none⟩ = some (.int .i64 b) := hk2.cell 1
    clear hb2 hk2 K d0 d1 d2 d3 HB1 HBK
    go_wp2_with fail
    go_loopw [3, 4] (fun m iv wr => ∃ j : Nat, j ≤ n ∧ iv = .int .i64 (j : Int) ∧ m = .int .i64 (((768 * 2 ^ j : Nat)) : Int) ∧ w2 = wr) (fun _ iv _ => n - (intOf iv).toNat)
    case atStart => exact ⟨0, Nat.zero_le _, rfl, rfl, rfl⟩
    case round =>
      obtain ⟨j, hj, rfl, rfl, hw⟩ := hrel
      subst hw
      have hp : 2 ^ j ≤ 2 ^ 12 := pow_le_of (by have := HN.out; omega)
      by_cases hlt : j < n
      · have glt : (j : Int) < (n : Int) := by omega
        have ej : IntKind.i64.wrap ((j : Int) + 1) = (j : Int) + 1 := IntWalk.i64_in _ (by have := HN.out; omega)
        obtain ⟨y, hy⟩ : ∃ y, y = 768 * 2 ^ j := ⟨_, rfl⟩
        obtain ⟨y2, hy2⟩ : ∃ y, y = 768 * 2 ^ (j + 1) := ⟨_, rfl⟩
        have hyy : y2 = y * 2 := by rw [hy2, hy, Nat.pow_succ]; omega
        rw [← hy]
        have ep : IntKind.i64.wrap ((y : Int) * 2) = (y2 : Int) := by rw [show (y : Int) * 2 = (y2 : Int) by omega]; exact IntWalk.i64_in _ (by omega)
        have HY := Lib.hid hy2
        have HLT := Lib.hid hlt
        clear hy hy2 hyy hp hlt hj
        go_wp2_with fail
        go_roundw
        case rel => exact ⟨j + 1, by have := HLT.out; omega, by go_num, by rw [HY.out], by first | trivial | rfl⟩
        case measure => have := HLT.out; simp [intOf]; omega
      · obtain rfl : j = n := by omega
        have hirr : ¬ (j : Int) < (j : Int) := by omega
        obtain ⟨y, hy⟩ : ∃ y, y = 768 * 2 ^ j := ⟨_, rfl⟩
        rw [← hy]
        have er : IntKind.i64.wrap (1847 + (y : Int)) = r := by
          rw [HR.out, hy, Int.natCast_mul]
          exact IntWalk.i64_in _ (by omega)
        clear hy hp hlt hj
        go_wp2_with fail
        go_ret
        exact ⟨rfl, HB2.out⟩
  · rw [if_neg hm] at hr
    have hf : maySet a b c d = false := by simpa using hm
    rw [hf] at K
    subst hr
    clear hm hf
    go_enter Tryz.func34, Tryz.ntmps34
    go_upto_region 1 with fail
    rw [← HW1.out]
    clear HW1
    go_wp2_with fail
    refine K.out.mono ?_
    rintro e w2 ⟨rfl, hb2⟩
    have HB2 := Lib.hid (HB1.out.trans ⟨hb2.os, hb2.tape, hb2.output, hb2.size, fun i hi => hb2.block i (by have := HBK.out.lt; omega)⟩)
    clear hb2 K d0 d1 d2 d3 HB1 HBK
    go_wp2_with fail
    go_ret
    exact ⟨rfl, HB2.out⟩
end Go.Proofs.YtoencondpbkomaaGreat
