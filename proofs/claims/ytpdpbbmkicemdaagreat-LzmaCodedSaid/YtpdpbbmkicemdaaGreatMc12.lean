/-
  LwClose, LwEnds, LwUp, LzSet, LzNew, LzAwk, BytN: put together.
-/
import Derived.Test.YtpdpbbmkicemdaaGreatMc11
import Derived.Defers
import Derived.BigQuiet
import Derived.Test.YtpdpbbmkicemdaaGreatMc04
import Derived.Test.YtpdpbbmkicemdaaGreatMc01
import Derived.Deep.Cut
import Derived.Test.YtpdpbbmkicemdaaGreatMc02
import Derived.Deep.AppendLies
import Derived.LoopTactic
set_option linter.unusedVariables false
set_option linter.unusedSimpArgs false
/-
  The program's decoder of LZMA is closed: called, or deferred.
-/
namespace Go.Proofs.YtpdpbbmkicemdaaGreat
open Go.RowKit

theorem both_of_wp {P : Program} {f : FuncId} {fn : Func} {c : Code} {args : Array Value} {w : World} {R : Ending → World → Prop}
    (hf : P.funcs[f]? = some fn) (hb : fn.body = some c)
    (h : c.wp P (bodyPost P fn R) { tmps := args ++ Array.replicate (fn.ntmps - args.size) undef, defers := [] } w) :
    Calls P f args w R ∧ ∀ u, CallsD P f args u w fun e u' w' => u' = u ∧ R e w' := ⟨calls_of_wp hf hb h, fun _ => callsD_of_wp hf hb h⟩

theorem LzAt.len {w : World} {g : Nat} {fs : List Value} {ps : List Nat} (h : LzAt w g fs ps) : fs.length = 19 := by
  obtain ⟨_, _, _, h, _⟩ := h
  exact h
/-- the fields of a closed one -/
def shutFs (fs : List Value) : List Value := (((fs.set 8 (.int .i64 0)).set 15 (.slice none 0 0)).set 4 .nilIface).set 5 (.pointer none)
def ClosePost (g wg m : Nat) (fs : List Value) (ps : List Nat) (Gw : Nat → Prop) (s : Ws) (q : Quo) (t : Tel) (room : Int) (w : World) (e : Ending) (w' : World) : Prop :=
  e = .returned (.tuple #[]) ∧ ∃ G', LzAt w' g (shutFs fs) ps ∧ Pwin w' wg G' m s.close ∧ MeterAt w' 75 m q ((if s.shut = true then t else t.doFree (s.sz : Int)).doFree room) ∧ (∀ i, G' i → Gw i ∨ w.heap.size ≤ i) ∧ Only (fun i => Gw i ∨ i = m ∨ i = g) w w'

set_option maxRecDepth 100000 in
set_option maxHeartbeats 4000000 in
theorem lclose_any {w : World} {g wg m : Nat} {fs : List Value} {ps : List Nat} {Gw : Nat → Prop} {s : Ws} {q : Quo} {t : Tel} {room : Int} (hD : LzAt w g fs ps) (h6 : fs[6]? = some (.pointer (some ⟨wg, 0, none⟩))) (h7 : fs[7]? = some (.pointer (some ⟨m, 0, none⟩))) (h8 : fs[8]? = some (.int .i64 room))
    (hr : room ≤ 9223372036854775807) (hW : Pwin w wg Gw m s) (hz : s.sz ≤ 1048576) (hM : MeterAt w 75 m q t) (hF : Fine q t) (hm : ¬ Gw m) (hg : ¬ Gw g) (hmg : m ≠ g) :
    Calls Tryz.prog 16 #[.pointer (some ⟨g, 0, none⟩)] w (ClosePost g wg m fs ps Gw s q t room w) ∧
    ∀ u, CallsD Tryz.prog 16 #[.pointer (some ⟨g, 0, none⟩)] u w fun e u' w' => u' = u ∧ ClosePost g wg m fs ps Gw s q t room w e w' := by
  have c6 : w.cell? ⟨g, 6, none⟩ = some (.pointer (some ⟨wg, 0, none⟩)) := by
    rw [show (6 : Nat) = fat 6 from rfl, hD.cell 6 (by decide)]
    simp [h6]
  have KW := Lib.hid (wclose_any hW hz hM hF hm)
  have HM0 := Lib.hid hM.lt
  have HH := Lib.hid (And.intro hD (And.intro h7 (And.intro h8 (And.intro hr (And.intro hF (And.intro hm (And.intro hg hmg)))))))
  clear hD h6 h7 h8 hr hW hz hM hF hm hg hmg
  refine both_of_wp Tryz.func16 rfl ?_
  simp only [Tryz.ntmps16, List.size_toArray, List.length_cons, List.length_nil, Nat.reduceAdd, Nat.reduceSub, Array.replicate_succ, Array.replicate_zero, List.push_toArray, List.append_toArray, List.nil_append, List.cons_append]
  go_wp2_with fail
  refine KW.out.mono ?_
  rintro e w1 ⟨rfl, G1, hW1, hM1, hG1, hO1⟩
  obtain ⟨hD, h7, h8, hr, hF, hm, hg, hmg⟩ := HH.out
  have hng : ¬ (Gw g ∨ g = m) := by
    rintro (h | h)
    · exact hg h
    · exact hmg h.symm
  have hD1 := hD.only hO1 hng
  have c7 : w1.cell? ⟨g, 7, none⟩ = some (.pointer (some ⟨m, 0, none⟩)) := by
    rw [show (7 : Nat) = fat 7 from rfl, hD1.cell 7 (by decide)]
    simp [h7]
  have c8 : w1.cell? ⟨g, 8, none⟩ = some (.int .i64 room) := by
    rw [show (8 : Nat) = fat 8 from rfl, hD1.cell 8 (by decide)]
    simp [h8]
  have hgs : g < w.heap.size := hD.lt
  have hmG1 : ¬ G1 m := fun h => by
    rcases hG1 m h with h | h
    · exact hm h
    · have := hM1.lt
      have h2 := HM0.out
      omega
  have hF1 : Fine q (if s.shut = true then t else t.doFree (s.sz : Int)) := by
    split
    · exact hF
    · exact hF.free _
  have KF := Lib.hid (free_any (w := w1.drew) (hM1.drewN 1) hF1 room hr)
  have HX := Lib.hid (And.intro hD1 (And.intro hW1 (And.intro hG1 (And.intro hO1 hmG1))))
  have hmg2 : g ≠ m := fun e => hmg e.symm
  have HS := Lib.hid (fun (W : World) (hW : Only (fun i => i = m) w1 W) => (show W.cell? ⟨g, 7, none⟩ = some (.pointer (some ⟨m, 0, none⟩)) ∧ W.cell? ⟨g, 8, none⟩ = some (.int .i64 room) from
    have hk := hD1.only hW hmg2
    ⟨by rw [show (7 : Nat) = fat 7 from rfl, hk.cell 7 (by decide)]; simp [h7], by rw [show (8 : Nat) = fat 8 from rfl, hk.cell 8 (by decide)]; simp [h8]⟩))
  clear hW1 hM1 hG1 hO1 hD h7 h8 hr hF hm hg hng hD1 hgs hmG1 hF1 KW c6 hmg hmg2
  go_wp2_with fail
  go_region_held3 (fun w' => w'.cell? ⟨g, 7, none⟩ = some (.pointer (some ⟨m, 0, none⟩)) ∧ w'.cell? ⟨g, 8, none⟩ = some (.int .i64 room))
    (first | assumption | go_keep | exact ⟨c7, c8⟩ | exact HS.out _ HO2.out)
    (first
      | (go_at_call 36; refine KF.out.mono ?_; rintro e w2 ⟨rfl, hM2, hg2⟩; have HO2 := Lib.hid (show Only (fun i => i = m) w1 w2 from ((Only.refl (fun i => i = m) w1).drew).trans (Only.of_grown hg2 rfl)); have HM2 := Lib.hid hM2; clear hM2 hg2))
  have hD2 : LzAt w2 g fs ps := HX.out.1.only HO2.out (fun e => HH.out.2.2.2.2.2.2.2 e.symm)
  have a1 := hD2.cell 8 (by decide)
  have a2 := hD2.cell 15 (by decide)
  have a3 := hD2.cell 4 (by decide)
  have a4 := hD2.cell 5 (by decide)
  obtain ⟨u8, b8⟩ : ∃ u, w2.cell? ⟨g, 8, none⟩ = some u := ⟨_, a1.trans (List.getElem?_eq_getElem (by have := hD2.len; omega))⟩
  obtain ⟨u15, b15⟩ : ∃ u, w2.cell? ⟨g, 1862, none⟩ = some u := ⟨_, a2.trans (List.getElem?_eq_getElem (by have := hD2.len; omega))⟩
  obtain ⟨u4, b4⟩ : ∃ u, w2.cell? ⟨g, 4, none⟩ = some u := ⟨_, a3.trans (List.getElem?_eq_getElem (by have := hD2.len; omega))⟩
  obtain ⟨u5, b5⟩ : ∃ u, w2.cell? ⟨g, 5, none⟩ = some u := ⟨_, a4.trans (List.getElem?_eq_getElem (by have := hD2.len; omega))⟩
  have z8 := hD2.free 8
  have z15 := hD2.free 1862
  have z4 := hD2.free 4
  have z5 := hD2.free 5
  have HD2 := Lib.hid hD2
  clear hD2 a1 a2 a3 a4 HS KF c7 c8
  go_wp2_with fail
  go_end0
  obtain ⟨hD1, hW1, hG1, hO1, hmG1⟩ := HX.out
  obtain ⟨hD, h7, h8, hr, hF, hm, hg, hmg⟩ := HH.out
  have p1 := HD2.out.put 8 (by decide) (.int .i64 0)
  have p2 := p1.put 15 (by decide) (.slice none 0 0)
  have p3 := p2.put 4 (by decide) .nilIface
  have p4 := p3.put 5 (by decide) (.pointer none)
  have hOg := (((((Only.refl (fun i => i = g) w2).setCell (p := ⟨g, 8, none⟩) (.inl rfl) (.int .i64 0)).setCell (p := ⟨g, 1862, none⟩) (.inl rfl) (.slice none 0 0)).setCell (p := ⟨g, 4, none⟩) (.inl rfl) .nilIface).setCell (p := ⟨g, 5, none⟩) (.inl rfl) (.pointer none))
  have hg1 : ∀ i, G1 i → i ≠ g := fun i hi e => by
    subst e
    rcases hG1 i hi with h | h
    · exact hg h
    · have := hD.lt; omega
  refine ⟨rfl, G1, p4, ?_, HM2.out.only hOg hmg, hG1, ?_⟩
  · exact (hW1.only HO2.out (fun i hi e => hmG1 (e ▸ hi))).only hOg hg1
  · exact ((hO1.mono fun i hi => by rcases hi with hi | hi; exact .inl hi; exact .inr (.inl hi)).trans (HO2.out.mono fun i hi => .inr (.inl hi))).trans (hOg.mono fun i hi => .inr (.inr hi))
end Go.Proofs.YtpdpbbmkicemdaaGreat

/-
  The program's decoder of LZMA: whether the stream ends.
-/
namespace Go.Proofs.YtpdpbbmkicemdaaGreat
open Go.RowKit

theorem pd_cells {w : World} {g f lo : Nat} {bs s : List UInt8} {r c : Nat} (h : Pd w g f lo bs (some (r, c, s))) : Blk w g 133 (pdCells f r c false) := by
  obtain ⟨at_, r', c', bad, hB, _, _, _, _, _, h⟩ := h
  rcases h with ⟨_, h⟩ | ⟨rfl, h⟩
  · cases h
  · injection h with h
    injection h with h1 h
    injection h with h2 h
    subst h1 h2
    exact hB
theorem pd_cells_bad {w : World} {g f lo : Nat} {bs : List UInt8} (h : Pd w g f lo bs none) : ∃ r c, Blk w g 133 (pdCells f r c true) := by
  obtain ⟨at_, r', c', bad, hB, _, _, _, _, _, h⟩ := h
  rcases h with ⟨rfl, h⟩ | ⟨rfl, h⟩
  · exact ⟨r', c', hB⟩
  · cases h
def doneX : Dc → Bool
  | none => false
  | some (_, c, _) => decide (c = 0)
theorem ldone_any {w : World} {g f lo : Nat} {bs : List UInt8} {d : Dc} (h : Pd w g f lo bs d) : Calls Tryz.prog 80 #[.pointer (some ⟨g, 0, none⟩)] w fun e w' => e = .returned (.bool (doneX d)) ∧ w = w' := by
  cases d with
  | none =>
    obtain ⟨r, c, hB⟩ := pd_cells_bad h
    exact done_any hB
  | some x => exact done_any (pd_cells h)

/-- what of a decoder must stand for it to be closed -/
def Hold (K : Kon) (w : World) (Gw : Nat → Prop) (out : List UInt8) : Prop :=
  ∃ fs ps, LzAt w K.g fs ps ∧ fs[6]? = some (.pointer (some ⟨K.wg, 0, none⟩)) ∧ fs[7]? = some (.pointer (some ⟨K.m, 0, none⟩)) ∧ fs[8]? = some (.int .i64 K.room) ∧ Pwin w K.wg Gw K.m ⟨K.sz, out, false⟩
theorem Lw.hold {K : Kon} {w : World} {Gw : Nat → Prop} {z : Lzs} {t : Pm Dc} {left : Nat} (h : Lw K w Gw z t left) : Hold K w Gw z.out :=
  ⟨_, _, h.dec, rfl, rfl, rfl, h.win⟩
theorem Hold.only {K : Kon} {w w' : World} {Gw S : Nat → Prop} {out : List UInt8} (h : Hold K w Gw out) (hO : Only S w w') (hg : ¬ S K.g) (hS : ∀ i, Gw i → ¬ S i) : Hold K w' Gw out := by
  obtain ⟨fs, ps, h1, h2, h3, h4, h5⟩ := h
  exact ⟨fs, ps, h1.only hO hg, h2, h3, h4, h5.only hO hS⟩
theorem Hold.put {K : Kon} {w : World} {Gw : Nat → Prop} {out : List UInt8} (h : Hold K w Gw out) (hg : ∀ i, Gw i → i ≠ K.g) (v : Value) : Hold K (w.setCell ⟨K.g, 1865, none⟩ v) Gw out := by
  obtain ⟨fs, ps, h1, h2, h3, h4, h5⟩ := h
  refine ⟨fs.set 18 v, ps, h1.put 18 (by decide) v, ?_, ?_, ?_, h5.only ((Only.refl (fun i => i = K.g) w).setCell (p := ⟨K.g, 1865, none⟩) (.inl rfl) v) hg⟩
  · rw [List.getElem?_set_ne (by decide)]; exact h2
  · rw [List.getElem?_set_ne (by decide)]; exact h3
  · rw [List.getElem?_set_ne (by decide)]; exact h4

section
variable {zf : Lzs} {tf : Pm Dc}
theorem fin_lit (hb : zf.bad = false) (he : zf.ended = false) (h0 : (bitP decM tf (16 * zf.st + zf.out.length % 2 ^ zf.pb) 0).1 = 0) : finD zf tf = if leftD tf.x = true then some zf.out else none := by
  have hp := (pk_first (t := tf) hb).1 h0
  have hen : (packP decM zf tf pk0).2.1.ended = false := by
    rw [hp]
    unfold packL
    split
    · exact he
    · exact he
  unfold finD endD
  rw [hen]
  simp
theorem fin_stop (hl : leftD tf.x = false) (h : (packP decM zf tf pk0).2.2.x = none ∨ (packP decM zf tf pk0).2.1.bad = true ∨ (packP decM zf tf pk0).2.1.ended = false) : finD zf tf = none := by
  unfold finD
  rw [if_neg (by rw [hl]; simp), if_pos]
  unfold endD
  rcases h with h | h | h
  · rw [h]; simp [leftD]
  · rw [h]; simp
  · rw [h]; simp
theorem fin_end {z1 : Lzs} {t1 : Pm Dc} (hl : leftD tf.x = false) (h : packP decM zf tf pk0 = (0, z1, t1)) (he : z1.ended = true) (hb : z1.bad = false) (ho : z1.out = zf.out) : finD zf tf = if leftD t1.x = true then some zf.out else none := by
  unfold finD endD
  rw [if_neg (by rw [hl]; simp), h]
  dsimp only
  rw [he, hb, ho]
  cases leftD t1.x <;> simp
theorem done_first {L k : Nat} {r : Nat} {rest : List UInt8} (h : PmOk okD L k tf) (hx : tf.x = some (r, 0, rest)) (a : Nat) (ha : a < L) : (bitP decM tf a 0).1 = 0 := by
  have hp : POk (tf.ps.getD a 0) := getD_ok h.ps (by rw [h.len]; exact ha)
  have hk : DcOk tf.x := h.x
  rw [hx] at hk
  show (bitD tf.x (tf.ps.getD a 0)).1 = 0
  rw [hx]
  unfold bitD
  have hk := hk r 0 rest rfl
  have hb := (bound_in hk.1 hk.2.1 hp).1
  dsimp only
  rw [if_pos (by omega)]
theorem fin_none (hl : tf.x = none) : finD zf tf = none := fin_stop (by rw [hl]; rfl) (.inl (packP_none hl))
end

section
variable {K : Kon} {w w' : World} {Gw : Nat → Prop} {z zf : Lzs} {t tf : Pm Dc} {left n : Nat}
def NextIs (K : Kon) (w : World) (more : Bool) (e : Ending) (w' : World) : Prop := ∃ x : Int, e = .returned (.tuple #[.int .u8 x, .bool more]) ∧ Only (fun i => i = K.f) w w'
theorem lsource_any {r c : Nat} {rest : List UInt8} (h : Lw K w Gw z t left) (hx : t.x = some (r, c, rest)) :
    Calls Tryz.prog 135 #[.pointer (some ⟨K.f, 0, none⟩)] w (NextIs K w (!decide (rest = []))) := by
  have hp := h.mch.pd
  rw [hx] at hp
  obtain ⟨at_, r', c', bad, hB, hF, hfg, h1, h2, h3, h4⟩ := hp
  have hr : rest = K.bs.drop at_ := by
    rcases h4 with ⟨_, h⟩ | ⟨_, h⟩
    · cases h
    · injection h with h; injection h with _ h; injection h with _ h
  by_cases ha : at_ < K.bs.length
  · rw [decide_eq_false (by rw [hr]; intro e; have := congrArg List.length e; simp at this; omega)]
    refine (feed_more hF ha).mono ?_
    rintro e w1 ⟨rfl, _, hg⟩
    exact ⟨_, rfl, Only.of_grown hg rfl⟩
  · obtain rfl : at_ = K.bs.length := by omega
    rw [decide_eq_true (by rw [hr]; simp)]
    refine (feed_end hF).mono ?_
    rintro e w1 ⟨rfl, d, rfl⟩
    exact ⟨0, rfl, (Only.refl _ w).drewN d⟩

def EndPost (K : Kon) (w : World) (Gw : Nat → Prop) (zf : Lzs) (tf : Pm Dc) (n : Nat) (e : Ending) (w' : World) : Prop :=
  ∃ b, e = .returned (.bool b) ∧ (n < zf.out.length → b = false) ∧ (n = zf.out.length → finD zf tf = if b = true then some zf.out else none) ∧ Hold K w' Gw (zf.cut n).out ∧ Only K.own w w'

set_option maxRecDepth 100000 in
set_option maxHeartbeats 8000000 in
theorem lends_any (h : Nx K w Gw zf tf n) (hn : n ≤ 800000) (hf : Fit K (zf.cut n)) :
    Calls Tryz.prog 45 #[.pointer (some ⟨K.g, 0, none⟩)] w (EndPost K w Gw zf tf n) := by
  have HX := Lib.hid h
  have HN := Lib.hid hn
  have KM := lmay_any h.lw
  have xe := h.lw.f.ended
  have xl := h.lw.f.left
  have x5 := h.lw.f.c5
  have x4 := h.lw.f.c4
  have hb : (zf.cut n).bad = false := h.bad
  have he : (zf.cut n).ended = false := h.ended
  rw [hb] at KM
  rw [he] at xe
  by_cases hlt : n < zf.out.length
  · rw [live_bad (h.live hlt)] at KM
    have KM := Lib.hid KM
    obtain ⟨l, hl⟩ : ∃ l, zf.out.length - n = l + 1 := ⟨zf.out.length - n - 1, by omega⟩
    rw [hl] at xl
    have q0 : decide (((l + 1 : Nat) : Int) > 0) = true := decide_eq_true (by omega)
    have q1 : ((l + 1 : Nat) : Int) > 0 := by omega
    obtain ⟨l1, hl1⟩ : ∃ l1, l1 = l + 1 := ⟨_, rfl⟩
    rw [← hl1] at q0 q1 xl
    have HL := Lib.hid (And.intro hlt h.lw.hold)
    clear hl hl1 hlt h hf hn hb he
    go_enter Tryz.func45, Tryz.ntmps45
    go_wp2_with fail
    refine KM.out.mono ?_
    rintro e w1 ⟨rfl, rfl⟩
    clear KM
    go_wp2_with fail
    go_ret
    exact ⟨false, rfl, fun _ => rfl, fun hh => absurd hh (by have := HL.out.1; omega), HL.out.2, Only.refl _ _⟩
  · obtain rfl : n = zf.out.length := by have := h.le; omega
    have hhold : Hold K w Gw (zf.cut zf.out.length).out := h.lw.hold
    have hw := h.lw
    rw [cut_all] at hf hb he hw
    rw [Nat.sub_self] at xl hw
    have q0 : decide ((0 : Int) > 0) = false := by decide
    cases hx : tf.x with
    | none =>
      rw [dead_bad hx] at KM
      have KM := Lib.hid KM
      have HH := Lib.hid (And.intro hhold (fin_none (zf := zf) hx))
      clear hlt h hf hn hb he hhold hw hx
      go_enter Tryz.func45, Tryz.ntmps45
      go_wp2_with fail
      refine KM.out.mono ?_
      rintro e w1 ⟨rfl, rfl⟩
      clear KM
      go_wp2_with fail
      go_ret
      exact ⟨false, rfl, fun _ => rfl, fun _ => HH.out.2, HH.out.1, Only.refl _ _⟩
    | some x =>
      obtain ⟨r, c, rest⟩ := x
      rw [live_bad (by rw [hx]; simp)] at KM
      have KM := Lib.hid KM
      have KD := ldone_any hw.mch.pd
      rw [hx] at KD
      have hz := h.near
      have hap := h.lw.ap
      have hlo := h.lw.mch.pd.lo
      have hKg : ¬ K.g = K.f := by have := hap.gl; omega
      have hGf : ∀ i, Gw i → ¬ i = K.f := fun i hi e => by have := (hap.wd i hi).2.2.2; omega
      by_cases hc : c = 0
      · subst hc
        have hd0 : doneX (some (r, 0, rest)) = true := rfl
        rw [hd0] at KD
        have KD := Lib.hid KD
        have KS := Lib.hid (lsource_any hw hx)
        have hfin : finD zf tf = if leftD tf.x = true then some zf.out else none := fin_lit hb he (done_first hw.mch.ok hx _ (by have := hz.st; have := hz.pb; have : zf.out.length % 2 ^ zf.pb < 2 ^ zf.pb := Nat.mod_lt _ (Nat.two_pow_pos _); have : 2 ^ zf.pb ≤ 2 ^ 4 := Nat.pow_le_pow_right (by decide) (by omega); omega))
        have hlf : leftD tf.x = decide (rest = []) := by rw [hx]; simp [leftD]
        rw [hlf] at hfin
        have HH := Lib.hid (And.intro hhold (And.intro hfin (And.intro hKg hGf)))
        have hm := method_next
        clear hlt h hf hn hb he hhold hw hx hd0 hfin hlf hz hap hlo hKg hGf
        go_enter Tryz.func45, Tryz.ntmps45
        go_wp2_with fail
        refine KM.out.mono ?_
        rintro e w1 ⟨rfl, rfl⟩
        clear KM
        go_wp2_with fail
        refine KD.out.mono ?_
        rintro e w1 ⟨rfl, rfl⟩
        go_wp2_with fail
        refine KD.out.mono ?_
        rintro e w1 ⟨rfl, rfl⟩
        clear KD
        go_wp2_with fail
        refine KS.out.mono ?_
        rintro e w2 ⟨x, rfl, hO⟩
        have HO := Lib.hid hO
        clear hO KS
        go_wp2_with fail
        go_ret
        refine ⟨_, rfl, fun hh => absurd hh (Nat.lt_irrefl _), fun _ => ?_, HH.out.1.only HO.out HH.out.2.2.1 HH.out.2.2.2, HO.out.mono fun i hi => .inl hi⟩
        rw [HH.out.2.1]
      · have hd0 : doneX (some (r, c, rest)) = false := decide_eq_false hc
        rw [hd0] at KD
        have KD := Lib.hid KD
        have hlf : leftD tf.x = false := by rw [hx]; simp [leftD, hc]
        have KS := Lib.hid (lstart_any hw hz.st hz.pb (by omega))
        have hpk := pk_first (t := tf) hb
        obtain ⟨s, hs⟩ : ∃ s, s = zf.out.length % 2 ^ zf.pb := ⟨_, rfl⟩
        have hfl := fin_lit (tf := tf) hb he
        rw [← hs] at KS hpk hfl
        obtain ⟨B, hB⟩ : ∃ B, B = bitP decM tf (16 * zf.st + s) 0 := ⟨_, rfl⟩
        rw [← hB] at KS hpk hfl
        by_cases h0 : B.1 = 0
        · rw [decide_eq_true h0] at KS
          have hfin := hfl h0
          rw [hlf] at hfin
          have HH := Lib.hid (And.intro hhold (And.intro hfin (And.intro hKg hGf)))
          clear hlt h hf hn hb he hhold hw hx hd0 hfin hlf hz hap hlo hKg hGf hpk hs hB h0 hfl
          go_enter Tryz.func45, Tryz.ntmps45
          go_wp2_with fail
          refine KM.out.mono ?_
          rintro e w1 ⟨rfl, rfl⟩
          clear KM
          go_wp2_with fail
          refine KD.out.mono ?_
          rintro e w1 ⟨rfl, rfl⟩
          clear KD
          go_wp2_with fail
          refine KS.out.mono ?_
          rintro e w1 ⟨rfl, hz1, ho1⟩
          have HZ := Lib.hid (And.intro hz1 ho1)
          clear hz1 ho1 KS
          go_wp2_with fail
          go_ret
          exact ⟨false, rfl, fun hh => absurd hh (Nat.lt_irrefl _), fun _ => HH.out.2.1, by rw [cut_all]; exact HZ.out.1.hold, HZ.out.2⟩
        · rw [decide_eq_false h0] at KS
          have hr := hpk.2 h0
          have HR := Lib.hid (And.intro hr hlf)
          have HZ := Lib.hid hz
          have HBE := Lib.hid (And.intro hb (And.intro he (And.intro hs hf)))
          have HK := Lib.hid (And.intro hKg hGf)
          have hm := method_next
          clear hlt h hf hn hb he hhold hw hx hd0 hlf hz hap hlo hKg hGf hpk hs hB h0 hfl hr
          go_enter Tryz.func45, Tryz.ntmps45
          go_wp2_with fail
          refine KM.out.mono ?_
          rintro e w1 ⟨rfl, rfl⟩
          clear KM
          go_wp2_with fail
          refine KD.out.mono ?_
          rintro e w1 ⟨rfl, rfl⟩
          clear KD
          go_wp2_with fail
          refine KS.out.mono ?_
          rintro e w1 ⟨rfl, hz1, ho1⟩
          have KC := Lib.hid (lcopies_any (s := s) hz1 HZ.out (by have := HN.out; omega) HBE.out.2.2.2 HBE.out.2.2.1 HBE.out.1 HBE.out.2.1)
          rw [← HR.out.1] at KC
          have HO1 := Lib.hid ho1
          clear hz1 ho1 KS
          go_wp2_with fail
          refine KC.out.mono ?_
          rintro e w2 ⟨z1, t1, left1, ⟨rfl, hl2, ho2⟩, hout, hdict, hnear, ht, hcase⟩
          clear KC
          have HO2 := Lib.hid (HO1.out.trans ho2)
          have hh2 : Hold K w2 Gw (zf.cut zf.out.length).out := by
            rw [cut_all, ← hout]
            exact hl2.hold
          by_cases hen : z1.ended = true
          · have y := hl2.f.ended
            rw [hen] at y
            have KD := ldone_any hl2.mch.pd
            have hy5 := hl2.f.c5
            have hy4 := hl2.f.c4
            rcases hcase with ⟨hd1, h10⟩ | ⟨_, _, _, hne, _⟩ | ⟨hd1, hb1, he1, hr1, h10⟩ | ⟨_, _, hne, _⟩
            · rw [hd1, show doneX none = false from rfl] at KD
              have KD := Lib.hid KD
              have HF := Lib.hid (And.intro (fin_stop HR.out.2 (.inl (by rw [← ht]; exact hd1))) hh2)
              clear hl2 ho2 hout hdict hnear ht hen hd1 h10 hh2
              go_wp2_with fail
              refine KD.out.mono ?_
              rintro e w1 ⟨rfl, rfl⟩
              clear KD
              go_wp2_with fail
              go_ret
              exact ⟨false, rfl, fun hh => absurd hh (Nat.lt_irrefl _), fun _ => HF.out.1, HF.out.2, HO2.out⟩
            · rw [hen] at hne; cases hne
            · cases hx1 : t1.x with
              | none => exact absurd hx1 hd1
              | some x1 =>
                obtain ⟨r1, c1, rest1⟩ := x1
                rw [hx1] at KD
                have hfe := fin_end (tf := tf) HR.out.2 hr1 he1 hb1 hout
                by_cases hc1 : c1 = 0
                · rw [show doneX (some (r1, c1, rest1)) = true from decide_eq_true hc1] at KD
                  have KD := Lib.hid KD
                  have KN := Lib.hid (lsource_any hl2 hx1)
                  have hlf1 : leftD t1.x = decide (rest1 = []) := by rw [hx1]; simp [leftD, hc1]
                  rw [hlf1] at hfe
                  have HF := Lib.hid (And.intro hfe hh2)
                  clear hl2 ho2 hout hdict hnear ht hen hd1 h10 hh2 hx1 hfe hlf1 hc1 hr1 he1 hb1
                  go_wp2_with fail
                  refine KD.out.mono ?_
                  rintro e w1 ⟨rfl, rfl⟩
                  clear KD
                  go_wp2_with fail
                  refine KN.out.mono ?_
                  rintro e w3 ⟨x, rfl, hO⟩
                  have HO := Lib.hid hO
                  clear hO KN
                  go_wp2_with fail
                  go_ret
                  refine ⟨_, rfl, fun hh => absurd hh (Nat.lt_irrefl _), fun _ => ?_, HF.out.2.only HO.out HK.out.1 HK.out.2, HO2.out.trans (HO.out.mono fun i hi => .inl hi)⟩
                  rw [HF.out.1]
                · rw [show doneX (some (r1, c1, rest1)) = false from decide_eq_false hc1] at KD
                  have KD := Lib.hid KD
                  have hlf1 : leftD t1.x = false := by rw [hx1]; simp [leftD, hc1]
                  rw [hlf1] at hfe
                  have HF := Lib.hid (And.intro hfe hh2)
                  clear hl2 ho2 hout hdict hnear ht hen hd1 h10 hh2 hx1 hfe hlf1 hc1 hr1 he1 hb1
                  go_wp2_with fail
                  refine KD.out.mono ?_
                  rintro e w1 ⟨rfl, rfl⟩
                  clear KD
                  go_wp2_with fail
                  go_ret
                  exact ⟨false, rfl, fun hh => absurd hh (Nat.lt_irrefl _), fun _ => HF.out.1, HF.out.2, HO2.out⟩
            · rw [hen] at hne; cases hne
          · have hen : z1.ended = false := by simpa using hen
            have y := hl2.f.ended
            rw [hen] at y
            have hst : (packP decM zf tf pk0).2.2.x = none ∨ (packP decM zf tf pk0).2.1.bad = true ∨ (packP decM zf tf pk0).2.1.ended = false := by
              rcases hcase with ⟨hd1, h10⟩ | ⟨_, hb1, _, _, _⟩ | ⟨hd1, hb1, he1, hr1, h10⟩ | ⟨_, _, _, hh1, _, _, hr1⟩
              · exact .inl (by rw [← ht]; exact hd1)
              · exact .inr (.inl hb1)
              · rw [hen] at he1; cases he1
              · refine .inr (.inr ?_)
                rw [hr1]
                have := (copy_cut left1 0 hh1).1
                rw [this]
                exact hen
            have HF := Lib.hid (And.intro (fin_stop HR.out.2 hst) hh2)
            clear hl2 ho2 hout hdict hnear ht hen hcase hh2 hst
            go_wp2_with fail
            go_ret
            exact ⟨false, rfl, fun hh => absurd hh (Nat.lt_irrefl _), fun _ => HF.out.1, HF.out.2, HO2.out⟩

set_option maxRecDepth 100000 in
set_option maxHeartbeats 4000000 in
theorem lfinish_any (h : Nx K w Gw zf tf n) (hn : n ≤ 800000) (hf : Fit K (zf.cut n)) :
    Calls Tryz.prog 20 #[.pointer (some ⟨K.g, 0, none⟩)] w (EndPost K w Gw zf tf n) := by
  have KE := Lib.hid (lends_any h hn hf)
  have hg : ∀ i, Gw i → i ≠ K.g := fun i hi => (h.lw.ap.wd i hi).1
  have HG := Lib.hid hg
  clear h hn hf hg
  go_enter Tryz.func20, Tryz.ntmps20
  go_wp2_with fail
  refine KE.out.mono ?_
  rintro e w1 ⟨b, rfl, h1, h2, h3, h4⟩
  have HH := Lib.hid (And.intro h1 (And.intro h2 (And.intro h3 h4)))
  obtain ⟨fs, ps, hD, _⟩ := h3
  obtain ⟨u, xb⟩ : ∃ u, w1.cell? ⟨K.g, 1865, none⟩ = some u := ⟨_, (hD.cell 18 (by decide)).trans (List.getElem?_eq_getElem (by have := hD.len; omega))⟩
  have zb := hD.free 1865
  clear hD h1 h2 h4 KE
  go_wp2_with fail
  go_ret
  exact ⟨b, rfl, HH.out.1, HH.out.2.1, HH.out.2.2.1.put HG.out _, HH.out.2.2.2.own_put 18 _⟩
end
end Go.Proofs.YtpdpbbmkicemdaaGreat

/-
  The program's Unpack: what stands between two bytes.
-/
namespace Go.Proofs.YtpdpbbmkicemdaaGreat
open Go.RowKit

/-- fuel that is enough is enough -/
theorem upG_fuel {size : Int} : ∀ (f g : Nat) (z : Lzs) (t : Pm Dc), size.toNat ≤ z.out.length + f → size.toNat ≤ z.out.length + g → upG size f z t = upG size g z t
  | f, g, z, t, hf, hg => by
    by_cases h : (z.out.length : Int) < size
    · obtain ⟨f', rfl⟩ : ∃ f', f = f' + 1 := ⟨f - 1, by omega⟩
      obtain ⟨g', rfl⟩ : ∃ g', g = g' + 1 := ⟨g - 1, by omega⟩
      by_cases hs : stopD size (packP decM z t pk0) = true
      · rw [upG_stop h hs, upG_stop h hs]
      · rw [upG_go h hs, upG_go h hs]
        have hm := pack_more (size := size) (z := z) (t := t) (by simpa using hs)
        exact upG_fuel f' g' _ _ (by omega) (by omega)
    · rw [upG_done h, upG_done h]
/-- what is to come of it -/
def resN (size : Int) (zf : Lzs) (tf : Pm Dc) : Option (List UInt8) := if size.toNat < zf.out.length then none else finU (upG size (size.toNat - zf.out.length) zf tf)
theorem resN_next {size : Int} {zf : Lzs} {tf : Pm Dc} (h : (zf.out.length : Int) < size) (hs : ¬ stopP (packP decM zf tf pk0)) : resN size zf tf = resN size (packP decM zf tf pk0).2.1 (packP decM zf tf pk0).2.2 := by
  obtain ⟨f, hf⟩ : ∃ f, size.toNat - zf.out.length = f + 1 := ⟨size.toNat - zf.out.length - 1, by omega⟩
  unfold resN
  rw [if_neg (by omega), hf]
  obtain ⟨r, hr⟩ : ∃ r, r = packP decM zf tf pk0 := ⟨_, rfl⟩
  have hx : r.2.2.x ≠ none := fun e => hs (hr ▸ .inl e)
  have hb : r.2.1.bad = false := by
    cases h : r.2.1.bad with
    | false => rfl
    | true => exact absurd (hr ▸ Or.inr (Or.inl h)) hs
  have he : r.2.1.ended = false := by
    cases h : r.2.1.ended with
    | false => rfl
    | true => exact absurd (hr ▸ Or.inr (Or.inr h)) hs
  have hst : stopD size r = decide (size < (r.2.1.out.length : Int)) := by
    unfold stopD
    rw [hb, he, live_bad hx]
    rfl
  rw [← hr]
  by_cases hl : size.toNat < r.2.1.out.length
  · rw [if_pos hl, upG_stop h (by rw [← hr, hst]; exact decide_eq_true (by omega))]
    rfl
  · have hn : ¬ stopD size r = true := by rw [hst]; simp; omega
    rw [if_neg hl, upG_go h (by rw [← hr]; exact hn)]
    rw [← hr]
    have hm := pack_more (size := size) (z := zf) (t := tf) (by rw [← hr]; simpa using hn)
    rw [← hr] at hm
    rw [upG_fuel f (size.toNat - r.2.1.out.length) _ _ (by omega) (by omega)]
theorem resN_stop {size : Int} {zf : Lzs} {tf : Pm Dc} (h : (zf.out.length : Int) < size) (hs : stopP (packP decM zf tf pk0)) : resN size zf tf = none := by
  obtain ⟨f, hf⟩ : ∃ f, size.toNat - zf.out.length = f + 1 := ⟨size.toNat - zf.out.length - 1, by omega⟩
  unfold resN
  rw [if_neg (by omega), hf, upG_stop h]
  · rfl
  · unfold stopD
    rcases hs with hs | hs | hs
    · rw [dead_bad hs]; simp
    · rw [hs]; rfl
    · rw [hs]; simp
theorem resN_end {size : Int} {zf : Lzs} {tf : Pm Dc} {n : Nat} {b : Bool} (hn : n ≤ size.toNat) (hs : ¬ (n : Int) < size) (hl : n ≤ zf.out.length) (h1 : n < zf.out.length → b = false) (h2 : n = zf.out.length → finD zf tf = if b = true then some zf.out else none) : resN size zf tf = if b = true then some (zf.out.take n) else none := by
  unfold resN
  by_cases hlt : n < zf.out.length
  · rw [h1 hlt, if_pos (by omega)]
    rfl
  · obtain rfl : n = zf.out.length := by omega
    rw [if_neg (by omega), upG_done hs, List.take_length]
    exact h2 rfl
theorem resN_start {size : Int} {lc lp pb dict : Nat} {bs : List UInt8} : unpackN bs lc lp pb dict size = resN size (Lzs.start lc lp pb dict) ⟨List.replicate (probsN lc lp) 1024, started bs⟩ := by
  unfold unpackN resN
  have h0 : (Lzs.start lc lp pb dict).out.length = 0 := rfl
  rw [h0, if_neg (Nat.not_lt_zero _), Nat.sub_zero]

section
variable {K : Kon} {w w' : World} {Gw S : Nat → Prop} {zf : Lzs} {tf : Pm Dc} {n : Nat}
theorem Nx.only (h : Nx K w Gw zf tf n) (hO : Only S w w') (h1 : ∀ i, S i → K.dg < i) (h2 : ∀ i, Gw i → ¬ S i) : Nx K w' Gw zf tf n := by
  have hlo := h.lw.mch.pd.lo
  have hap := h.lw.ap
  refine ⟨⟨⟨h.lw.mch.pd.only hO (fun i hi => .inr (h1 i hi)), (K.prb _ hap.gn).only h.lw.mch.row hO (fun i hi hs => ?_), h.lw.mch.ok⟩, h.lw.win.only hO h2, hap⟩, h.le, h.far, h.near, h.live, h.bad, h.ended, h.tell⟩
  have := h1 i hs
  have a1 := hap.gl
  have a2 := hap.ll
  rcases hi with rfl | rfl
  · omega
  · omega
theorem Apart.meter (h : Apart K Gw) (hp : K.lo ≤ K.f ∧ K.f < K.dg) : ¬ K.all Gw K.m := by
  rintro ((e | e | e | e) | e)
  · have := h.ml; omega
  · have := h.ml; omega
  · exact h.mg e
  · exact h.mb e
  · exact (h.wd _ e).2.2.1 rfl

/-- what stands between two bytes: n of them are in the row that v is -/
structure Inv (K : Kon) (B : Nat) (w : World) (size : Int) (dict : Nat) (res : Option (List UInt8)) (q : Quo) (t : Tel) (v : Value) (wr : World) (n : Nat) (zf : Lzs) (tf : Pm Dc) (Gw : Nat → Prop) : Prop where
  nx : Nx K wr Gw zf tf n
  own : wr.ownsRow B 5 1 v n (bv (zf.out.take n))
  far : ∀ b, v.ownBlock = some b → ¬ Gw b
  le : n ≤ size.toNat
  res : res = resN size zf tf
  fit : zf.dict = dict
  mt : MeterAt wr 75 K.m q t
  only : Only (fun i => i = K.m) w wr
  gm : ∀ i, Gw i → w.heap.size ≤ i
  low : w.heap.size ≤ K.g ∧ w.heap.size ≤ K.lb ∧ w.heap.size ≤ K.lo ∧ K.dg < B
  bot : B ≤ wr.heap.size

/-- a byte has been told, it isn't put yet -/
structure Mid (K : Kon) (B : Nat) (w : World) (size : Int) (dict : Nat) (res : Option (List UInt8)) (q : Quo) (t : Tel) (v : Value) (wr : World) (n : Nat) (zf : Lzs) (tf : Pm Dc) (Gw : Nat → Prop) : Prop where
  nx : Nx K wr Gw zf tf (n + 1)
  own : wr.ownsRow B 5 1 v n (bv (zf.out.take n))
  far : ∀ b, v.ownBlock = some b → ¬ Gw b
  le : n + 1 ≤ size.toNat
  res : res = resN size zf tf
  fit : zf.dict = dict
  mt : MeterAt wr 75 K.m q t
  only : Only (fun i => i = K.m) w wr
  gm : ∀ i, Gw i → w.heap.size ≤ i
  low : w.heap.size ≤ K.g ∧ w.heap.size ≤ K.lb ∧ w.heap.size ≤ K.lo ∧ K.dg < B
  bot : B ≤ wr.heap.size
end

theorem own_at {w : World} {base : Nat} {e : TypeId} {v : Value} {n : Nat} {xs : List Value} (h : w.ownsRow base e 1 v n xs) {b : Nat} (hb : v.ownBlock = some b) : base ≤ b ∧ b < w.heap.size := by
  rcases h.2 with ⟨rfl, _⟩ | ⟨g, cap, cur, rfl, h1, h2, _⟩
  · cases hb
  · injection hb with hb
    subst hb
    exact ⟨h1, (Array.getElem?_eq_some_iff.1 h2).1⟩
theorem own_onlyV {w w' : World} {S : Nat → Prop} {base : Nat} {e : TypeId} {v : Value} {n : Nat} {xs : List Value} (h : w.ownsRow base e 1 v n xs) (hO : Only S w w') (hS : ∀ b, v.ownBlock = some b → ¬ S b) : w'.ownsRow base e 1 v n xs := by
  refine ⟨h.1, ?_⟩
  rcases h.2 with hn | ⟨g, cap, cur, rfl, hb, hgg, rest⟩
  · exact .inl hn
  · refine .inr ⟨g, cap, cur, rfl, hb, ?_, rest⟩
    rw [hO.block g (Array.getElem?_eq_some_iff.1 hgg).1 (hS g rfl)]
    exact hgg

section
variable {K : Kon} {w wr w6 w7 : World} {Gw Gw' : Nat → Prop} {zf zf' : Lzs} {tf tf' : Pm Dc} {n B dict : Nat} {size : Int} {res : Option (List UInt8)} {q : Quo} {t : Tel} {v v' : Value} {o : Obj}
theorem Inv.told (h : Inv K B w size dict res q t v wr n zf tf Gw) (hlt : (n : Int) < size) (hN : Nx K w6 Gw' zf' tf' (n + 1)) (hd : zf'.dict = zf.dict) (ht : zf'.out.take n = zf.out.take n)
    (hc : (n < zf.out.length ∧ zf' = zf ∧ tf' = tf) ∨ (n = zf.out.length ∧ ¬ stopP (packP decM zf tf pk0) ∧ zf' = (packP decM zf tf pk0).2.1 ∧ tf' = (packP decM zf tf pk0).2.2))
    (hG : ∀ i, Gw' i → Gw i ∨ wr.heap.size ≤ i) (hO : Only (K.all Gw) wr w6) : Mid K B w size dict res q t v w6 n zf' tf' Gw' := by
  have hlo := h.nx.lw.mch.pd.lo
  have hap := h.nx.lw.ap
  obtain ⟨l1, l2, l3, l4⟩ := h.low
  have hsz := h.only.size
  have hall : ∀ b, v.ownBlock = some b → ¬ K.all Gw b := by
    intro b hb hk
    have h1 := (own_at h.own hb).1
    have a1 := hap.gl
    have a2 := hap.ll
    rcases hk with (e | e | e | e) | e
    · omega
    · omega
    · omega
    · omega
    · exact h.far b hb e
  refine ⟨hN, by rw [ht]; exact own_onlyV h.own hO hall, fun b hb hg => ?_, by omega, ?_, hd.trans h.fit, h.mt.only hO (hap.meter hlo), h.only.trans' hO (fun i hi => .inr ?_), fun i hi => ?_, h.low, Nat.le_trans h.bot hO.size⟩
  · rcases hG b hg with h1 | h1
    · exact h.far b hb h1
    · have := (own_at h.own hb).2
      omega
  · rcases hc with ⟨_, rfl, rfl⟩ | ⟨rfl, hs, rfl, rfl⟩
    · exact h.res
    · rw [h.res]
      exact resN_next hlt hs
  · rcases hi with (e | e | e | e) | e
    · omega
    · omega
    · omega
    · omega
    · exact h.gm i e
  · rcases hG i hi with h1 | h1
    · exact h.gm i h1
    · omega
theorem Mid.put (h : Mid K B w size dict res q t v w6 n zf tf Gw) (ho : w7.ownsRow B 5 1 v' (n + 1) (bv (zf.out.take n) ++ [.int .u8 ((zf.out.getD n 0).toNat : Int)])) (hg : (w6.alloc o).grownBy w7 v.ownBlock) (hv : v'.ownBlock = v.ownBlock ∨ v'.ownBlock = some (w6.alloc o).heap.size) :
    Inv K B w size dict res q t v' w7 (n + 1) zf tf Gw := by
  have hlo := h.nx.lw.mch.pd.lo
  have hap := h.nx.lw.ap
  obtain ⟨l1, l2, l3, l4⟩ := h.low
  have hle := h.nx.le
  have hsz := h.only.size
  have hO : Only (fun i => v.ownBlock = some i) w6 w7 := by
    have h1 : Only (fun i => v.ownBlock = some i) w6 (w6.alloc o) := (Only.refl _ w6).alloc _
    refine h1.trans ⟨hg.os, hg.tape, hg.output, hg.size, fun i hi hn => hg.block i hi (fun e => hn e.symm)⟩
  have hB : ∀ i, v.ownBlock = some i → B ≤ i := fun i hi => (own_at h.own hi).1
  refine ⟨h.nx.only hO (fun i hi => by have := hB i hi; omega) (fun i hi hs => h.far i hs hi), ?_, fun b hb hgw => ?_, h.le, h.res, h.fit, h.mt.only hO (fun e => ?_), h.only.trans' hO (fun i hi => .inr ?_), h.gm, h.low, Nat.le_trans h.bot hO.size⟩
  · rw [take_snoc8 _ _ (by omega), bv_append]
    exact ho
  · rcases hv with e | e
    · exact h.far b (e ▸ hb) hgw
    · rw [e] at hb
      injection hb with hb
      have h1 := h.nx.lw.win.old hgw
      have h2 : (w6.alloc o).heap.size = w6.heap.size + 1 := by simp
      omega
  · have h1 := hB _ e
    have := hap.ml
    omega
  · have := hB i hi
    omega
end
end Go.Proofs.YtpdpbbmkicemdaaGreat

/-
  The reference of LZMA: settings.
-/
namespace Go.Proofs.YtpdpbbmkicemdaaGreat
open Go.RowKit

set_option maxHeartbeats 4000000 in
theorem may_any (a b c d : Int) (w : World) :
    Calls Tryz.prog 12 #[.agg #[.int .i64 a, .int .i64 b, .int .i64 c, .int .i64 d]] w fun x w' => x = .returned (.bool (maySet a b c d)) ∧ Below w.heap.size w w' := by
  have HB := Lib.hid ((Below.refl w.heap.size w).alloc (Nat.le_refl _) (.cells #[.int .i64 a, .int .i64 b, .int .i64 c, .int .i64 d] 24))
  obtain ⟨v, hv⟩ : ∃ v, v = maySet a b c d := ⟨_, rfl⟩
  rw [← hv]
  unfold maySet at hv
  by_cases h0 : 0 ≤ a
  · have g0 : a ≥ 0 := h0
    by_cases h1 : a ≤ 8
    · have g1 : a ≤ 8 := h1
      by_cases h2 : 0 ≤ b
      · have g2 : b ≥ 0 := h2
        by_cases h3 : b ≤ 4
        · have g3 : b ≤ 4 := h3
          by_cases h4 : 0 ≤ c
          · have g4 : c ≥ 0 := h4
            by_cases h5 : c ≤ 4
            · have g5 : c ≤ 4 := h5
              by_cases h6 : 4096 ≤ d
              · have g6 : d ≥ 4096 := h6
                by_cases h7 : d ≤ 4294967295
                · have g7 : d ≤ 4294967295 := h7
                  obtain rfl : v = true := by rw [hv]; simp; omega
                  clear hv
                  go_enter Tryz.func12, Tryz.ntmps12
                  go_wp2_with fail
                  go_ret
                  exact ⟨rfl, HB.out⟩
                · have g7 : ¬ d ≤ 4294967295 := h7
                  obtain rfl : v = false := by rw [hv]; simp; omega
                  clear hv
                  go_enter Tryz.func12, Tryz.ntmps12
                  go_upto_region 1 with fail
                  go_step
                  iterate 39 (with_reducible refine wpList_step (fun K hK => ?_); go_simp; (first | (with_reducible refine hK _ _ ?_) | (refine Eq.mpr (if_neg ?_) ?_; (· decide); with_reducible refine hK _ _ ?_)); clear hK K)
                  go_wp2_with fail
                  go_ret
                  exact ⟨rfl, HB.out⟩
              · have g6 : ¬ d ≥ 4096 := h6
                obtain rfl : v = false := by rw [hv]; simp; omega
                clear hv
                go_enter Tryz.func12, Tryz.ntmps12
                go_upto_region 1 with fail
                go_step
                iterate 39 (with_reducible refine wpList_step (fun K hK => ?_); go_simp; (first | (with_reducible refine hK _ _ ?_) | (refine Eq.mpr (if_neg ?_) ?_; (· decide); with_reducible refine hK _ _ ?_)); clear hK K)
                go_wp2_with fail
                go_ret
                exact ⟨rfl, HB.out⟩
            · have g5 : ¬ c ≤ 4 := h5
              obtain rfl : v = false := by rw [hv]; simp; omega
              clear hv
              go_enter Tryz.func12, Tryz.ntmps12
              go_upto_region 1 with fail
              go_step
              iterate 39 (with_reducible refine wpList_step (fun K hK => ?_); go_simp; (first | (with_reducible refine hK _ _ ?_) | (refine Eq.mpr (if_neg ?_) ?_; (· decide); with_reducible refine hK _ _ ?_)); clear hK K)
              go_wp2_with fail
              go_ret
              exact ⟨rfl, HB.out⟩
          · have g4 : ¬ c ≥ 0 := h4
            obtain rfl : v = false := by rw [hv]; simp; omega
            clear hv
            go_enter Tryz.func12, Tryz.ntmps12
            go_upto_region 1 with fail
            go_step
            iterate 39 (with_reducible refine wpList_step (fun K hK => ?_); go_simp; (first | (with_reducible refine hK _ _ ?_) | (refine Eq.mpr (if_neg ?_) ?_; (· decide); with_reducible refine hK _ _ ?_)); clear hK K)
            go_wp2_with fail
            go_ret
            exact ⟨rfl, HB.out⟩
        · have g3 : ¬ b ≤ 4 := h3
          obtain rfl : v = false := by rw [hv]; simp; omega
          clear hv
          go_enter Tryz.func12, Tryz.ntmps12
          go_upto_region 1 with fail
          go_step
          iterate 39 (with_reducible refine wpList_step (fun K hK => ?_); go_simp; (first | (with_reducible refine hK _ _ ?_) | (refine Eq.mpr (if_neg ?_) ?_; (· decide); with_reducible refine hK _ _ ?_)); clear hK K)
          go_wp2_with fail
          go_ret
          exact ⟨rfl, HB.out⟩
      · have g2 : ¬ b ≥ 0 := h2
        obtain rfl : v = false := by rw [hv]; simp; omega
        clear hv
        go_enter Tryz.func12, Tryz.ntmps12
        go_upto_region 1 with fail
        go_step
        iterate 39 (with_reducible refine wpList_step (fun K hK => ?_); go_simp; (first | (with_reducible refine hK _ _ ?_) | (refine Eq.mpr (if_neg ?_) ?_; (· decide); with_reducible refine hK _ _ ?_)); clear hK K)
        go_wp2_with fail
        go_ret
        exact ⟨rfl, HB.out⟩
    · have g1 : ¬ a ≤ 8 := h1
      obtain rfl : v = false := by rw [hv]; simp; omega
      clear hv
      go_enter Tryz.func12, Tryz.ntmps12
      go_upto_region 1 with fail
      go_step
      iterate 39 (with_reducible refine wpList_step (fun K hK => ?_); go_simp; (first | (with_reducible refine hK _ _ ?_) | (refine Eq.mpr (if_neg ?_) ?_; (· decide); with_reducible refine hK _ _ ?_)); clear hK K)
      go_wp2_with fail
      go_ret
      exact ⟨rfl, HB.out⟩
  · have g0 : ¬ a ≥ 0 := h0
    obtain rfl : v = false := by rw [hv]; simp; omega
    clear hv
    go_enter Tryz.func12, Tryz.ntmps12
    go_upto_region 1 with fail
    go_step
    iterate 39 (with_reducible refine wpList_step (fun K hK => ?_); go_simp; (first | (with_reducible refine hK _ _ ?_) | (refine Eq.mpr (if_neg ?_) ?_; (· decide); with_reducible refine hK _ _ ?_)); clear hK K)
    go_wp2_with fail
    go_ret
    exact ⟨rfl, HB.out⟩
end Go.Proofs.YtpdpbbmkicemdaaGreat

/-
  The reference of LZMA: how many probabilities; a new one.
-/
namespace Go.Proofs.YtpdpbbmkicemdaaGreat
open Go.RowKit

set_option maxHeartbeats 2000000 in
theorem probs_any (a b c d : Int) (w : World) :
    Calls Tryz.prog 47 #[.agg #[.int .i64 a, .int .i64 b, .int .i64 c, .int .i64 d]] w fun x w' => x = .returned (.int .i64 (probsOf a b c d)) ∧ Below w.heap.size w w' := by
  obtain ⟨w1, hw1⟩ : ∃ w1, w1 = w.alloc (.cells #[.int .i64 a, .int .i64 b, .int .i64 c, .int .i64 d] 24) := ⟨_, rfl⟩
  have hb1 : Below w.heap.size w w1 := by rw [hw1]; exact (Below.refl _ _).alloc (Nat.le_refl _) _
  have HBk : Blk w1 w.heap.size 24 #[.int .i64 a, .int .i64 b, .int .i64 c, .int .i64 d] := by rw [hw1]; exact Blk.fresh w _ _
  have K := Lib.hid (may_any a b c d w1)
  have d0 : w1.cell? ⟨w.heap.size, 0, none⟩ = some (.int .i64 a) := HBk.cell 0
  have d1 : w1.cell? ⟨w.heap.size, 1, none⟩ = some (.int .i64 b) := HBk.cell 1
  have d2 : w1.cell? ⟨w.heap.size, 2, none⟩ = some (.int .i64 c) := HBk.cell 2
  have d3 : w1.cell? ⟨w.heap.size, 3, none⟩ = some (.int .i64 d) := HBk.cell 3
  have HW1 := Lib.hid hw1
  have HB1 := Lib.hid hb1
  have HBK := Lib.hid HBk
  clear hw1 hb1 HBk
  obtain ⟨r, hr⟩ : ∃ r, r = probsOf a b c d := ⟨_, rfl⟩
  rw [← hr]
  unfold probsOf at hr
  by_cases hm : maySet a b c d = true
  · obtain ⟨m1, m2, m3, m4, _⟩ := may_iff.1 hm
    rw [if_pos hm] at hr
    rw [hm] at K
    obtain ⟨n, hn⟩ : ∃ n : Nat, (n : Int) = a + b := ⟨(a + b).toNat, by omega⟩
    rw [← hn, Int.toNat_natCast] at hr
    have hn12 : n ≤ 12 := by omega
    have eab : IntKind.i64.wrap (a + b) = (n : Int) := by rw [← hn]; exact IntWalk.i64_in _ (by omega)
    have HR := Lib.hid hr
    have HN := Lib.hid hn12
    clear hm m1 m2 m3 m4 hr hn hn12
    go_enter Tryz.func47, Tryz.ntmps47
    go_upto_region 1 with fail
    rw [← HW1.out]
    clear HW1
    go_wp2_with fail
    refine K.out.mono ?_
    rintro e w2 ⟨rfl, hb2⟩
    have HB2 := Lib.hid (HB1.out.trans ⟨hb2.os, hb2.tape, hb2.output, hb2.size, fun i hi => hb2.block i (by have := HBK.out.lt; omega)⟩)
    have hk2 : Blk w2 w.heap.size 24 #[.int .i64 a, .int .i64 b, .int .i64 c, .int .i64 d] := HBK.out.below hb2
    have o0 : w2.cell? ⟨w.heap.size, 0, none⟩ = some (.int .i64 a) := hk2.cell 0
    have o1 : w2.cell? ⟨w.heap.size, 1, none⟩ = some (.int .i64 b) := hk2.cell 1
    clear hb2 hk2 K d0 d1 d2 d3 HB1 HBK
    go_wp2_with fail
    go_loopw [3, 4] (fun m iv wr => ∃ j : Nat, j ≤ n ∧ iv = .int .i64 (j : Int) ∧ m = .int .i64 (((768 * 2 ^ j : Nat)) : Int) ∧ w2 = wr) (fun _ iv _ => n - (intOf iv).toNat)
    case atStart => exact ⟨0, Nat.zero_le _, rfl, rfl, rfl⟩
    case round =>
      obtain ⟨j, hj, rfl, rfl, hw⟩ := hrel
      subst hw
      have hp : 2 ^ j ≤ 2 ^ 12 := pow_le_of (by have := HN.out; omega)
      by_cases hlt : j < n
      · have glt : (j : Int) < (n : Int) := by omega
        have ej : IntKind.i64.wrap ((j : Int) + 1) = (j : Int) + 1 := IntWalk.i64_in _ (by have := HN.out; omega)
        obtain ⟨y, hy⟩ : ∃ y, y = 768 * 2 ^ j := ⟨_, rfl⟩
        obtain ⟨y2, hy2⟩ : ∃ y, y = 768 * 2 ^ (j + 1) := ⟨_, rfl⟩
        have hyy : y2 = y * 2 := by rw [hy2, hy, Nat.pow_succ]; omega
        rw [← hy]
        have ep : IntKind.i64.wrap ((y : Int) * 2) = (y2 : Int) := by rw [show (y : Int) * 2 = (y2 : Int) by omega]; exact IntWalk.i64_in _ (by omega)
        have HY := Lib.hid hy2
        have HLT := Lib.hid hlt
        clear hy hy2 hyy hp hlt hj
        go_wp2_with fail
        go_roundw
        case rel => exact ⟨j + 1, by have := HLT.out; omega, by go_num, by rw [HY.out], by first | trivial | rfl⟩
        case measure => have := HLT.out; simp [intOf]; omega
      · obtain rfl : j = n := by omega
        have hirr : ¬ (j : Int) < (j : Int) := by omega
        obtain ⟨y, hy⟩ : ∃ y, y = 768 * 2 ^ j := ⟨_, rfl⟩
        rw [← hy]
        have er : IntKind.i64.wrap (1847 + (y : Int)) = r := by
          rw [HR.out, hy, Int.natCast_mul]
          exact IntWalk.i64_in _ (by omega)
        clear hy hp hlt hj
        go_wp2_with fail
        go_ret
        exact ⟨rfl, HB2.out⟩
  · rw [if_neg hm] at hr
    have hf : maySet a b c d = false := by simpa using hm
    rw [hf] at K
    subst hr
    clear hm hf
    go_enter Tryz.func47, Tryz.ntmps47
    go_upto_region 1 with fail
    rw [← HW1.out]
    clear HW1
    go_wp2_with fail
    refine K.out.mono ?_
    rintro e w2 ⟨rfl, hb2⟩
    have HB2 := Lib.hid (HB1.out.trans ⟨hb2.os, hb2.tape, hb2.output, hb2.size, fun i hi => hb2.block i (by have := HBK.out.lt; omega)⟩)
    clear hb2 K d0 d1 d2 d3 HB1 HBK
    go_wp2_with fail
    go_ret
    exact ⟨rfl, HB2.out⟩
end Go.Proofs.YtpdpbbmkicemdaaGreat

/-
  The laws' beginning of stage 8, as numbers.
-/
namespace Go.Proofs.YtpdpbbmkicemdaaGreat
set_option maxRecDepth 1000000 in
theorem awk_six : unpackN [0, 0, 0, 0, 0, 0] 3 0 2 4096 1 = some [0] := by decide +kernel
set_option maxRecDepth 1000000 in
theorem awk_five : unpackN [0, 0, 0, 0, 0] 3 0 2 4096 1 = none := by decide +kernel
end Go.Proofs.YtpdpbbmkicemdaaGreat

/-
  A row of bytes of the call's own, its block named; rows compared.
-/
namespace Go.Proofs.YtpdpbbmkicemdaaGreat
open Go.RowKit

/-- Block q holds the bytes bs. -/
def Byt (w : World) (q c : Nat) (bs : List UInt8) : Prop := w.ownsRow 0 5 1 (.slice (some ⟨q, 0, none⟩) bs.length c) bs.length (bv bs)

theorem bv_set (bs : List UInt8) (i : Nat) (y : UInt8) : (bv bs).set i (.int .u8 (y.toNat : Int)) = bv (bs.set i y) := by
  simp [bv, List.map_set]

section
variable {w w' : World} {q c : Nat} {bs : List UInt8}
theorem Byt.cell (h : Byt w q c bs) {i : Nat} (hi : i < bs.length) : w.cell? ⟨q, i, none⟩ = some (.int .u8 ((bs.getD i 0).toNat : Int)) := by
  rw [World.ownsRow.cellAt h i (by omega), bv_get bs i hi]
theorem Byt.free (h : Byt w q c bs) (i : Nat) : w.frozen? ⟨q, i, none⟩ = false := World.ownsRow.frozenAt h i
theorem Byt.put (h : Byt w q c bs) (i : Nat) (y : UInt8) : Byt (w.setCell ⟨q, i, none⟩ (.int .u8 (y.toNat : Int))) q c (bs.set i y) := by
  have := (World.ownsRow.stored h i (.int .u8 (y.toNat : Int))).1
  rw [bv_set] at this
  unfold Byt
  rw [List.length_set]
  exact this
theorem Byt.drewN (h : Byt w q c bs) (n : Nat) : Byt (w.drewN n) q c bs := h
theorem Byt.only {S : Nat → Prop} (h : Byt w q c bs) (hb : Only S w w') (hS : ¬ S q) : Byt w' q c bs := own_only h hb hS
theorem Byt.lt (h : Byt w q c bs) : q < w.heap.size := (World.ownsRow.lt h q rfl).2
theorem Byt.own (h : Byt w q c bs) : w.ownsRow 0 5 1 (.slice (some ⟨q, 0, none⟩) bs.length c) bs.length (bv bs) := h
theorem Byt.sl (h : Byt w q c bs) : Sl w (some ⟨q, 0, none⟩) bs.length (bv bs) := (own_facts h).1
theorem Byt.cap (h : Byt w q c bs) : bs.length ≤ c ∧ c ≤ maxLen := by
  obtain ⟨_, h2, h3, _⟩ := own_facts h
  exact ⟨h2, h3⟩
end

/-- a byte in the midst is another one -/
theorem be_set : ∀ (cs : List UInt8) (k : Nat) (z : UInt8), k < cs.length → be (cs.set k z) + (cs.getD k 0).toNat * 256 ^ (cs.length - 1 - k) = be cs + z.toNat * 256 ^ (cs.length - 1 - k) := by
  intro cs k z hk
  have e1 : cs = cs.take k ++ (cs[k] :: cs.drop (k + 1)) := by rw [← List.drop_eq_getElem_cons hk, List.take_append_drop]
  have e2 : cs.set k z = cs.take k ++ (z :: cs.drop (k + 1)) := by
    have := List.set_eq_take_append_cons_drop (l := cs) (i := k) (a := z)
    rw [this, if_pos hk]
  have e3 : cs.getD k 0 = cs[k] := by simp [List.getD, hk]
  have hl : (cs.drop (k + 1)).length = cs.length - 1 - k := by rw [List.length_drop]; omega
  have one : ∀ y : UInt8, be (cs.take k ++ (y :: cs.drop (k + 1))) = be (cs.take k) * 256 ^ (cs.length - 1 - k + 1) + (y.toNat * 256 ^ (cs.length - 1 - k) + be (cs.drop (k + 1))) := by
    intro y
    have hc : y :: cs.drop (k + 1) = [y] ++ cs.drop (k + 1) := rfl
    rw [be_append, hc, be_append, List.length_append, hl]
    simp only [List.length_singleton]
    rw [show be [y] = y.toNat by simp [be], Nat.add_comm 1]
  have f1 : be (cs.set k z) = be (cs.take k) * 256 ^ (cs.length - 1 - k + 1) + (z.toNat * 256 ^ (cs.length - 1 - k) + be (cs.drop (k + 1))) := by rw [e2]; exact one z
  have f2 : be cs = be (cs.take k) * 256 ^ (cs.length - 1 - k + 1) + ((cs[k]).toNat * 256 ^ (cs.length - 1 - k) + be (cs.drop (k + 1))) := by
    have := one cs[k]
    rwa [← e1] at this
  rw [f1, f2, e3]
  omega

set_option maxHeartbeats 1000000 in
theorem bytesSame_any {A B : Option Addr} {n ca cb : Nat} {bs : List UInt8} {w : World} (hA : Sl w A n (bv bs)) (hB : Sl w B n (bv bs)) (hn : n ≤ 1000000000) :
    Calls Tryz.prog 10 #[.slice A n ca, .slice B n cb] w fun e w' => e = .returned (.bool true) ∧ ∃ d, w.drewN d = w' := by
  have HA := Lib.hid hA
  have HB := Lib.hid hB
  have hl : bs.length = n := by rw [← bv_length]; exact hA.1
  have HL := Lib.hid hl
  clear hA hB hl
  go_enter Tryz.func10, Tryz.ntmps10
  go_wp2_with fail
  go_loopw [5] (fun i wr => ∃ j k : Nat, j ≤ n ∧ i = .int .i64 (j : Int) ∧ wr = w.drewN k) (fun i _ => n - (intOf i).toNat)
  case atStart => exact ⟨0, 0, Nat.zero_le _, rfl, rfl⟩
  case round =>
    obtain ⟨j, k, hj, rfl, rfl⟩ := hrel
    by_cases hlt : j < n
    · obtain ⟨ba, oa, rfl, hba, hca⟩ := HA.out.2 (by omega)
      obtain ⟨bb, ob, rfl, hbb, hcb⟩ := HB.out.2 (by omega)
      have c1 : w.cell? ⟨ba, oa + j, none⟩ = some (.int .u8 ((bs.getD j 0).toNat : Int)) := by rw [hca j hlt, bv_get bs j (by have := HL.out; omega)]
      have c2 : w.cell? ⟨bb, ob + j, none⟩ = some (.int .u8 ((bs.getD j 0).toNat : Int)) := by rw [hcb j hlt, bv_get bs j (by have := HL.out; omega)]
      generalize bs.getD j 0 = x at *
      have i0 : (0 : Int) ≤ (j : Int) := by omega
      have i1 : (j : Int) < (n : Int) := by omega
      clear hca hcb
      go_wp2_with fail
      go_quiet (fail)
      go_wp2_with fail
      go_roundw
      case rel => exact ⟨j + 1, k + nq, by omega, by go_num, rfl⟩
      case measure => simp [intOf]; omega
    · obtain rfl : j = n := by omega
      go_wp2_with fail
      go_ret
      exact ⟨rfl, _, rfl⟩
end Go.Proofs.YtpdpbbmkicemdaaGreat
