/-
  LwClose, LwEnds: put together.
-/
import Derived.Test.YtjgdjobhhdhfjaaFa23
import Derived.Defers
import Derived.BigQuiet
set_option linter.unusedVariables false
set_option linter.unusedSimpArgs false
/-
  The program's decoder of LZMA is closed: called, or deferred.
-/
namespace Go.Proofs.Ytjgdjobhhdhfjaa
open Go.RowKit

theorem both_of_wp {P : Program} {f : FuncId} {fn : Func} {c : Code} {args : Array Value} {w : World} {R : Ending → World → Prop}
    (hf : P.funcs[f]? = some fn) (hb : fn.body = some c)
    (h : c.wp P (bodyPost P fn R) { tmps := args ++ Array.replicate (fn.ntmps - args.size) undef, defers := [] } w) :
    Calls P f args w R ∧ ∀ u, CallsD P f args u w fun e u' w' => u' = u ∧ R e w' := ⟨calls_of_wp hf hb h, fun _ => callsD_of_wp hf hb h⟩

theorem LzAt.len {w : World} {g : Nat} {fs : List Value} {ps : List Nat} (h : LzAt w g fs ps) : fs.length = 19 := by
  obtain ⟨_, _, _, h, _⟩ := h
  exact h
/-- the fields of a closed one -/
def shutFs (fs : List Value) : List Value := (((fs.set 8 (.int .i64 0)).set 15 (.slice none 0 0)).set 4 .nilIface).set 5 (.pointer none)
def ClosePost (g wg m : Nat) (fs : List Value) (ps : List Nat) (Gw : Nat → Prop) (s : Ws) (q : Quo) (t : Tel) (room : Int) (w : World) (e : Ending) (w' : World) : Prop :=
  e = .returned (.tuple #[]) ∧ ∃ G', LzAt w' g (shutFs fs) ps ∧ Pwin w' wg G' m s.close ∧ MeterAt w' 105 m q ((if s.shut = true then t else t.doFree (s.sz : Int)).doFree room) ∧ (∀ i, G' i → Gw i ∨ w.heap.size ≤ i) ∧ Only (fun i => Gw i ∨ i = m ∨ i = g) w w'

set_option maxRecDepth 100000 in
set_option maxHeartbeats 4000000 in
theorem lclose_any {w : World} {g wg m : Nat} {fs : List Value} {ps : List Nat} {Gw : Nat → Prop} {s : Ws} {q : Quo} {t : Tel} {room : Int} (hD : LzAt w g fs ps) (h6 : fs[6]? = some (.pointer (some ⟨wg, 0, none⟩))) (h7 : fs[7]? = some (.pointer (some ⟨m, 0, none⟩))) (h8 : fs[8]? = some (.int .i64 room))
    (hr : room ≤ 9223372036854775807) (hW : Pwin w wg Gw m s) (hz : s.sz ≤ 1048576) (hM : MeterAt w 105 m q t) (hF : Fine q t) (hm : ¬ Gw m) (hg : ¬ Gw g) (hmg : m ≠ g) :
    Calls Try.prog 25 #[.pointer (some ⟨g, 0, none⟩)] w (ClosePost g wg m fs ps Gw s q t room w) ∧
    ∀ u, CallsD Try.prog 25 #[.pointer (some ⟨g, 0, none⟩)] u w fun e u' w' => u' = u ∧ ClosePost g wg m fs ps Gw s q t room w e w' := by
  have c6 : w.cell? ⟨g, 6, none⟩ = some (.pointer (some ⟨wg, 0, none⟩)) := by
    rw [show (6 : Nat) = fat 6 from rfl, hD.cell 6 (by decide)]
    simp [h6]
  have KW := Lib.hid (wclose_any hW hz hM hF hm)
  have HM0 := Lib.hid hM.lt
  have HH := Lib.hid (And.intro hD (And.intro h7 (And.intro h8 (And.intro hr (And.intro hF (And.intro hm (And.intro hg hmg)))))))
  clear hD h6 h7 h8 hr hW hz hM hF hm hg hmg
  refine both_of_wp Try.func25 rfl ?_
  simp only [Try.ntmps25, List.size_toArray, List.length_cons, List.length_nil, Nat.reduceAdd, Nat.reduceSub, Array.replicate_succ, Array.replicate_zero, List.push_toArray, List.append_toArray, List.nil_append, List.cons_append]
  go_wp2_with fail
  refine KW.out.mono ?_
  rintro e w1 ⟨rfl, G1, hW1, hM1, hG1, hO1⟩
  obtain ⟨hD, h7, h8, hr, hF, hm, hg, hmg⟩ := HH.out
  have hng : ¬ (Gw g ∨ g = m) := by
    rintro (h | h)
    · exact hg h
    · exact hmg h.symm
  have hD1 := hD.only hO1 hng
  have c7 : w1.cell? ⟨g, 7, none⟩ = some (.pointer (some ⟨m, 0, none⟩)) := by
    rw [show (7 : Nat) = fat 7 from rfl, hD1.cell 7 (by decide)]
    simp [h7]
  have c8 : w1.cell? ⟨g, 8, none⟩ = some (.int .i64 room) := by
    rw [show (8 : Nat) = fat 8 from rfl, hD1.cell 8 (by decide)]
    simp [h8]
  have hgs : g < w.heap.size := hD.lt
  have hmG1 : ¬ G1 m := fun h => by
    rcases hG1 m h with h | h
    · exact hm h
    · have := hM1.lt
      have h2 := HM0.out
      omega
  have hF1 : Fine q (if s.shut = true then t else t.doFree (s.sz : Int)) := by
    split
    · exact hF
    · exact hF.free _
  have KF := Lib.hid (free_any (w := w1.drew) (hM1.drewN 1) hF1 room hr)
  have HX := Lib.hid (And.intro hD1 (And.intro hW1 (And.intro hG1 (And.intro hO1 hmG1))))
  have hmg2 : g ≠ m := fun e => hmg e.symm
  have HS := Lib.hid (fun (W : World) (hW : Only (fun i => i = m) w1 W) => (show W.cell? ⟨g, 7, none⟩ = some (.pointer (some ⟨m, 0, none⟩)) ∧ W.cell? ⟨g, 8, none⟩ = some (.int .i64 room) from
    have hk := hD1.only hW hmg2
    ⟨by rw [show (7 : Nat) = fat 7 from rfl, hk.cell 7 (by decide)]; simp [h7], by rw [show (8 : Nat) = fat 8 from rfl, hk.cell 8 (by decide)]; simp [h8]⟩))
  clear hW1 hM1 hG1 hO1 hD h7 h8 hr hF hm hg hng hD1 hgs hmG1 hF1 KW c6 hmg hmg2
  go_wp2_with fail
  go_region_held3 (fun w' => w'.cell? ⟨g, 7, none⟩ = some (.pointer (some ⟨m, 0, none⟩)) ∧ w'.cell? ⟨g, 8, none⟩ = some (.int .i64 room))
    (first | assumption | go_keep | exact ⟨c7, c8⟩ | exact HS.out _ HO2.out)
    (first
      | (go_at_call 53; refine KF.out.mono ?_; rintro e w2 ⟨rfl, hM2, hg2⟩; have HO2 := Lib.hid (show Only (fun i => i = m) w1 w2 from ((Only.refl (fun i => i = m) w1).drew).trans (Only.of_grown hg2 rfl)); have HM2 := Lib.hid hM2; clear hM2 hg2))
  have hD2 : LzAt w2 g fs ps := HX.out.1.only HO2.out (fun e => HH.out.2.2.2.2.2.2.2 e.symm)
  have a1 := hD2.cell 8 (by decide)
  have a2 := hD2.cell 15 (by decide)
  have a3 := hD2.cell 4 (by decide)
  have a4 := hD2.cell 5 (by decide)
  obtain ⟨u8, b8⟩ : ∃ u, w2.cell? ⟨g, 8, none⟩ = some u := ⟨_, a1.trans (List.getElem?_eq_getElem (by have := hD2.len; omega))⟩
  obtain ⟨u15, b15⟩ : ∃ u, w2.cell? ⟨g, 1862, none⟩ = some u := ⟨_, a2.trans (List.getElem?_eq_getElem (by have := hD2.len; omega))⟩
  obtain ⟨u4, b4⟩ : ∃ u, w2.cell? ⟨g, 4, none⟩ = some u := ⟨_, a3.trans (List.getElem?_eq_getElem (by have := hD2.len; omega))⟩
  obtain ⟨u5, b5⟩ : ∃ u, w2.cell? ⟨g, 5, none⟩ = some u := ⟨_, a4.trans (List.getElem?_eq_getElem (by have := hD2.len; omega))⟩
  have z8 := hD2.free 8
  have z15 := hD2.free 1862
  have z4 := hD2.free 4
  have z5 := hD2.free 5
  have HD2 := Lib.hid hD2
  clear hD2 a1 a2 a3 a4 HS KF c7 c8
  go_wp2_with fail
  go_end0
  obtain ⟨hD1, hW1, hG1, hO1, hmG1⟩ := HX.out
  obtain ⟨hD, h7, h8, hr, hF, hm, hg, hmg⟩ := HH.out
  have p1 := HD2.out.put 8 (by decide) (.int .i64 0)
  have p2 := p1.put 15 (by decide) (.slice none 0 0)
  have p3 := p2.put 4 (by decide) .nilIface
  have p4 := p3.put 5 (by decide) (.pointer none)
  have hOg := (((((Only.refl (fun i => i = g) w2).setCell (p := ⟨g, 8, none⟩) (.inl rfl) (.int .i64 0)).setCell (p := ⟨g, 1862, none⟩) (.inl rfl) (.slice none 0 0)).setCell (p := ⟨g, 4, none⟩) (.inl rfl) .nilIface).setCell (p := ⟨g, 5, none⟩) (.inl rfl) (.pointer none))
  have hg1 : ∀ i, G1 i → i ≠ g := fun i hi e => by
    subst e
    rcases hG1 i hi with h | h
    · exact hg h
    · have := hD.lt; omega
  refine ⟨rfl, G1, p4, ?_, HM2.out.only hOg hmg, hG1, ?_⟩
  · exact (hW1.only HO2.out (fun i hi e => hmG1 (e ▸ hi))).only hOg hg1
  · exact ((hO1.mono fun i hi => by rcases hi with hi | hi; exact .inl hi; exact .inr (.inl hi)).trans (HO2.out.mono fun i hi => .inr (.inl hi))).trans (hOg.mono fun i hi => .inr (.inr hi))
end Go.Proofs.Ytjgdjobhhdhfjaa

/-
  The program's decoder of LZMA: whether the stream ends.
-/
namespace Go.Proofs.Ytjgdjobhhdhfjaa
open Go.RowKit

theorem pd_cells {w : World} {g f lo : Nat} {bs s : List UInt8} {r c : Nat} (h : Pd w g f lo bs (some (r, c, s))) : Blk w g 128 (pdCells f r c false) := by
  obtain ⟨at_, r', c', bad, hB, _, _, _, _, _, h⟩ := h
  rcases h with ⟨_, h⟩ | ⟨rfl, h⟩
  · cases h
  · injection h with h
    injection h with h1 h
    injection h with h2 h
    subst h1 h2
    exact hB
theorem pd_cells_bad {w : World} {g f lo : Nat} {bs : List UInt8} (h : Pd w g f lo bs none) : ∃ r c, Blk w g 128 (pdCells f r c true) := by
  obtain ⟨at_, r', c', bad, hB, _, _, _, _, _, h⟩ := h
  rcases h with ⟨rfl, h⟩ | ⟨rfl, h⟩
  · exact ⟨r', c', hB⟩
  · cases h
def doneX : Dc → Bool
  | none => false
  | some (_, c, _) => decide (c = 0)
theorem ldone_any {w : World} {g f lo : Nat} {bs : List UInt8} {d : Dc} (h : Pd w g f lo bs d) : Calls Try.prog 54 #[.pointer (some ⟨g, 0, none⟩)] w fun e w' => e = .returned (.bool (doneX d)) ∧ w = w' := by
  cases d with
  | none =>
    obtain ⟨r, c, hB⟩ := pd_cells_bad h
    exact done_any hB
  | some x => exact done_any (pd_cells h)

/-- what of a decoder must stand for it to be closed -/
def Hold (K : Kon) (w : World) (Gw : Nat → Prop) (out : List UInt8) : Prop :=
  ∃ fs ps, LzAt w K.g fs ps ∧ fs[6]? = some (.pointer (some ⟨K.wg, 0, none⟩)) ∧ fs[7]? = some (.pointer (some ⟨K.m, 0, none⟩)) ∧ fs[8]? = some (.int .i64 K.room) ∧ Pwin w K.wg Gw K.m ⟨K.sz, out, false⟩
theorem Lw.hold {K : Kon} {w : World} {Gw : Nat → Prop} {z : Lzs} {t : Pm Dc} {left : Nat} (h : Lw K w Gw z t left) : Hold K w Gw z.out :=
  ⟨_, _, h.dec, rfl, rfl, rfl, h.win⟩
theorem Hold.only {K : Kon} {w w' : World} {Gw S : Nat → Prop} {out : List UInt8} (h : Hold K w Gw out) (hO : Only S w w') (hg : ¬ S K.g) (hS : ∀ i, Gw i → ¬ S i) : Hold K w' Gw out := by
  obtain ⟨fs, ps, h1, h2, h3, h4, h5⟩ := h
  exact ⟨fs, ps, h1.only hO hg, h2, h3, h4, h5.only hO hS⟩
theorem Hold.put {K : Kon} {w : World} {Gw : Nat → Prop} {out : List UInt8} (h : Hold K w Gw out) (hg : ∀ i, Gw i → i ≠ K.g) (v : Value) : Hold K (w.setCell ⟨K.g, 1865, none⟩ v) Gw out := by
  obtain ⟨fs, ps, h1, h2, h3, h4, h5⟩ := h
  refine ⟨fs.set 18 v, ps, h1.put 18 (by decide) v, ?_, ?_, ?_, h5.only ((Only.refl (fun i => i = K.g) w).setCell (p := ⟨K.g, 1865, none⟩) (.inl rfl) v) hg⟩
  · rw [List.getElem?_set_ne (by decide)]; exact h2
  · rw [List.getElem?_set_ne (by decide)]; exact h3
  · rw [List.getElem?_set_ne (by decide)]; exact h4

section
variable {zf : Lzs} {tf : Pm Dc}
theorem fin_lit (hb : zf.bad = false) (he : zf.ended = false) (h0 : (bitP decM tf (16 * zf.st + zf.out.length % 2 ^ zf.pb) 0).1 = 0) : finD zf tf = if leftD tf.x = true then some zf.out else none := by
  have hp := (pk_first (t := tf) hb).1 h0
  have hen : (packP decM zf tf pk0).2.1.ended = false := by
    rw [hp]
    unfold packL
    split
    · exact he
    · exact he
  unfold finD endD
  rw [hen]
  simp
theorem fin_stop (hl : leftD tf.x = false) (h : (packP decM zf tf pk0).2.2.x = none ∨ (packP decM zf tf pk0).2.1.bad = true ∨ (packP decM zf tf pk0).2.1.ended = false) : finD zf tf = none := by
  unfold finD
  rw [if_neg (by rw [hl]; simp), if_pos]
  unfold endD
  rcases h with h | h | h
  · rw [h]; simp [leftD]
  · rw [h]; simp
  · rw [h]; simp
theorem fin_end {z1 : Lzs} {t1 : Pm Dc} (hl : leftD tf.x = false) (h : packP decM zf tf pk0 = (0, z1, t1)) (he : z1.ended = true) (hb : z1.bad = false) (ho : z1.out = zf.out) : finD zf tf = if leftD t1.x = true then some zf.out else none := by
  unfold finD endD
  rw [if_neg (by rw [hl]; simp), h]
  dsimp only
  rw [he, hb, ho]
  cases leftD t1.x <;> simp
theorem done_first {L k : Nat} {r : Nat} {rest : List UInt8} (h : PmOk okD L k tf) (hx : tf.x = some (r, 0, rest)) (a : Nat) (ha : a < L) : (bitP decM tf a 0).1 = 0 := by
  have hp : POk (tf.ps.getD a 0) := getD_ok h.ps (by rw [h.len]; exact ha)
  have hk : DcOk tf.x := h.x
  rw [hx] at hk
  show (bitD tf.x (tf.ps.getD a 0)).1 = 0
  rw [hx]
  unfold bitD
  have hk := hk r 0 rest rfl
  have hb := (bound_in hk.1 hk.2.1 hp).1
  dsimp only
  rw [if_pos (by omega)]
theorem fin_none (hl : tf.x = none) : finD zf tf = none := fin_stop (by rw [hl]; rfl) (.inl (packP_none hl))
end

section
variable {K : Kon} {w w' : World} {Gw : Nat → Prop} {z zf : Lzs} {t tf : Pm Dc} {left n : Nat}
def NextIs (K : Kon) (w : World) (more : Bool) (e : Ending) (w' : World) : Prop := ∃ x : Int, e = .returned (.tuple #[.int .u8 x, .bool more]) ∧ Only (fun i => i = K.f) w w'
theorem lsource_any {r c : Nat} {rest : List UInt8} (h : Lw K w Gw z t left) (hx : t.x = some (r, c, rest)) :
    Calls Try.prog 154 #[.pointer (some ⟨K.f, 0, none⟩)] w (NextIs K w (!decide (rest = []))) := by
  have hp := h.mch.pd
  rw [hx] at hp
  obtain ⟨at_, r', c', bad, hB, hF, hfg, h1, h2, h3, h4⟩ := hp
  have hr : rest = K.bs.drop at_ := by
    rcases h4 with ⟨_, h⟩ | ⟨_, h⟩
    · cases h
    · injection h with h; injection h with _ h; injection h with _ h
  by_cases ha : at_ < K.bs.length
  · rw [decide_eq_false (by rw [hr]; intro e; have := congrArg List.length e; simp at this; omega)]
    refine (feed_more hF ha).mono ?_
    rintro e w1 ⟨rfl, _, hg⟩
    exact ⟨_, rfl, Only.of_grown hg rfl⟩
  · obtain rfl : at_ = K.bs.length := by omega
    rw [decide_eq_true (by rw [hr]; simp)]
    refine (feed_end hF).mono ?_
    rintro e w1 ⟨rfl, d, rfl⟩
    exact ⟨0, rfl, (Only.refl _ w).drewN d⟩

def EndPost (K : Kon) (w : World) (Gw : Nat → Prop) (zf : Lzs) (tf : Pm Dc) (n : Nat) (e : Ending) (w' : World) : Prop :=
  ∃ b, e = .returned (.bool b) ∧ (n < zf.out.length → b = false) ∧ (n = zf.out.length → finD zf tf = if b = true then some zf.out else none) ∧ Hold K w' Gw (zf.cut n).out ∧ Only K.own w w'

set_option maxRecDepth 100000 in
set_option maxHeartbeats 8000000 in
theorem lends_any (h : Nx K w Gw zf tf n) (hn : n ≤ 800000) (hf : Fit K (zf.cut n)) :
    Calls Try.prog 55 #[.pointer (some ⟨K.g, 0, none⟩)] w (EndPost K w Gw zf tf n) := by
  have HX := Lib.hid h
  have HN := Lib.hid hn
  have KM := lmay_any h.lw
  have xe := h.lw.f.ended
  have xl := h.lw.f.left
  have x5 := h.lw.f.c5
  have x4 := h.lw.f.c4
  have hb : (zf.cut n).bad = false := h.bad
  have he : (zf.cut n).ended = false := h.ended
  rw [hb] at KM
  rw [he] at xe
  by_cases hlt : n < zf.out.length
  · rw [live_bad (h.live hlt)] at KM
    have KM := Lib.hid KM
    obtain ⟨l, hl⟩ : ∃ l, zf.out.length - n = l + 1 := ⟨zf.out.length - n - 1, by omega⟩
    rw [hl] at xl
    have q0 : decide (((l + 1 : Nat) : Int) > 0) = true := decide_eq_true (by omega)
    have q1 : ((l + 1 : Nat) : Int) > 0 := by omega
    obtain ⟨l1, hl1⟩ : ∃ l1, l1 = l + 1 := ⟨_, rfl⟩
    rw [← hl1] at q0 q1 xl
    have HL := Lib.hid (And.intro hlt h.lw.hold)
    clear hl hl1 hlt h hf hn hb he
    go_enter Try.func55, Try.ntmps55
    go_wp2_with fail
    refine KM.out.mono ?_
    rintro e w1 ⟨rfl, rfl⟩
    clear KM
    go_wp2_with fail
    go_ret
    exact ⟨false, rfl, fun _ => rfl, fun hh => absurd hh (by have := HL.out.1; omega), HL.out.2, Only.refl _ _⟩
  · obtain rfl : n = zf.out.length := by have := h.le; omega
    have hhold : Hold K w Gw (zf.cut zf.out.length).out := h.lw.hold
    have hw := h.lw
    rw [cut_all] at hf hb he hw
    rw [Nat.sub_self] at xl hw
    have q0 : decide ((0 : Int) > 0) = false := by decide
    cases hx : tf.x with
    | none =>
      rw [dead_bad hx] at KM
      have KM := Lib.hid KM
      have HH := Lib.hid (And.intro hhold (fin_none (zf := zf) hx))
      clear hlt h hf hn hb he hhold hw hx
      go_enter Try.func55, Try.ntmps55
      go_wp2_with fail
      refine KM.out.mono ?_
      rintro e w1 ⟨rfl, rfl⟩
      clear KM
      go_wp2_with fail
      go_ret
      exact ⟨false, rfl, fun _ => rfl, fun _ => HH.out.2, HH.out.1, Only.refl _ _⟩
    | some x =>
      obtain ⟨r, c, rest⟩ := x
      rw [live_bad (by rw [hx]; simp)] at KM
      have KM := Lib.hid KM
      have KD := ldone_any hw.mch.pd
      rw [hx] at KD
      have hz := h.near
      have hap := h.lw.ap
      have hlo := h.lw.mch.pd.lo
      have hKg : ¬ K.g = K.f := by have := hap.gl; omega
      have hGf : ∀ i, Gw i → ¬ i = K.f := fun i hi e => by have := (hap.wd i hi).2.2.2; omega
      by_cases hc : c = 0
      · subst hc
        have hd0 : doneX (some (r, 0, rest)) = true := rfl
        rw [hd0] at KD
        have KD := Lib.hid KD
        have KS := Lib.hid (lsource_any hw hx)
        have hfin : finD zf tf = if leftD tf.x = true then some zf.out else none := fin_lit hb he (done_first hw.mch.ok hx _ (by have := hz.st; have := hz.pb; have : zf.out.length % 2 ^ zf.pb < 2 ^ zf.pb := Nat.mod_lt _ (Nat.two_pow_pos _); have : 2 ^ zf.pb ≤ 2 ^ 4 := Nat.pow_le_pow_right (by decide) (by omega); omega))
        have hlf : leftD tf.x = decide (rest = []) := by rw [hx]; simp [leftD]
        rw [hlf] at hfin
        have HH := Lib.hid (And.intro hhold (And.intro hfin (And.intro hKg hGf)))
        have hm := method_next
        clear hlt h hf hn hb he hhold hw hx hd0 hfin hlf hz hap hlo hKg hGf
        go_enter Try.func55, Try.ntmps55
        go_wp2_with fail
        refine KM.out.mono ?_
        rintro e w1 ⟨rfl, rfl⟩
        clear KM
        go_wp2_with fail
        refine KD.out.mono ?_
        rintro e w1 ⟨rfl, rfl⟩
        go_wp2_with fail
        refine KD.out.mono ?_
        rintro e w1 ⟨rfl, rfl⟩
        clear KD
        go_wp2_with fail
        refine KS.out.mono ?_
        rintro e w2 ⟨x, rfl, hO⟩
        have HO := Lib.hid hO
        clear hO KS
        go_wp2_with fail
        go_ret
        refine ⟨_, rfl, fun hh => absurd hh (Nat.lt_irrefl _), fun _ => ?_, HH.out.1.only HO.out HH.out.2.2.1 HH.out.2.2.2, HO.out.mono fun i hi => .inl hi⟩
        rw [HH.out.2.1]
      · have hd0 : doneX (some (r, c, rest)) = false := decide_eq_false hc
        rw [hd0] at KD
        have KD := Lib.hid KD
        have hlf : leftD tf.x = false := by rw [hx]; simp [leftD, hc]
        have KS := Lib.hid (lstart_any hw hz.st hz.pb (by omega))
        have hpk := pk_first (t := tf) hb
        obtain ⟨s, hs⟩ : ∃ s, s = zf.out.length % 2 ^ zf.pb := ⟨_, rfl⟩
        have hfl := fin_lit (tf := tf) hb he
        rw [← hs] at KS hpk hfl
        obtain ⟨B, hB⟩ : ∃ B, B = bitP decM tf (16 * zf.st + s) 0 := ⟨_, rfl⟩
        rw [← hB] at KS hpk hfl
        by_cases h0 : B.1 = 0
        · rw [decide_eq_true h0] at KS
          have hfin := hfl h0
          rw [hlf] at hfin
          have HH := Lib.hid (And.intro hhold (And.intro hfin (And.intro hKg hGf)))
          clear hlt h hf hn hb he hhold hw hx hd0 hfin hlf hz hap hlo hKg hGf hpk hs hB h0 hfl
          go_enter Try.func55, Try.ntmps55
          go_wp2_with fail
          refine KM.out.mono ?_
          rintro e w1 ⟨rfl, rfl⟩
          clear KM
          go_wp2_with fail
          refine KD.out.mono ?_
          rintro e w1 ⟨rfl, rfl⟩
          clear KD
          go_wp2_with fail
          refine KS.out.mono ?_
          rintro e w1 ⟨rfl, hz1, ho1⟩
          have HZ := Lib.hid (And.intro hz1 ho1)
          clear hz1 ho1 KS
          go_wp2_with fail
          go_ret
          exact ⟨false, rfl, fun hh => absurd hh (Nat.lt_irrefl _), fun _ => HH.out.2.1, by rw [cut_all]; exact HZ.out.1.hold, HZ.out.2⟩
        · rw [decide_eq_false h0] at KS
          have hr := hpk.2 h0
          have HR := Lib.hid (And.intro hr hlf)
          have HZ := Lib.hid hz
          have HBE := Lib.hid (And.intro hb (And.intro he (And.intro hs hf)))
          have HK := Lib.hid (And.intro hKg hGf)
          have hm := method_next
          clear hlt h hf hn hb he hhold hw hx hd0 hlf hz hap hlo hKg hGf hpk hs hB h0 hfl hr
          go_enter Try.func55, Try.ntmps55
          go_wp2_with fail
          refine KM.out.mono ?_
          rintro e w1 ⟨rfl, rfl⟩
          clear KM
          go_wp2_with fail
          refine KD.out.mono ?_
          rintro e w1 ⟨rfl, rfl⟩
          clear KD
          go_wp2_with fail
          refine KS.out.mono ?_
          rintro e w1 ⟨rfl, hz1, ho1⟩
          have KC := Lib.hid (lcopies_any (s := s) hz1 HZ.out (by have := HN.out; omega) HBE.out.2.2.2 HBE.out.2.2.1 HBE.out.1 HBE.out.2.1)
          rw [← HR.out.1] at KC
          have HO1 := Lib.hid ho1
          clear hz1 ho1 KS
          go_wp2_with fail
          refine KC.out.mono ?_
          rintro e w2 ⟨z1, t1, left1, ⟨rfl, hl2, ho2⟩, hout, hdict, hnear, ht, hcase⟩
          clear KC
          have HO2 := Lib.hid (HO1.out.trans ho2)
          have hh2 : Hold K w2 Gw (zf.cut zf.out.length).out := by
            rw [cut_all, ← hout]
            exact hl2.hold
          by_cases hen : z1.ended = true
          · have y := hl2.f.ended
            rw [hen] at y
            have KD := ldone_any hl2.mch.pd
            have hy5 := hl2.f.c5
            have hy4 := hl2.f.c4
            rcases hcase with ⟨hd1, h10⟩ | ⟨_, _, _, hne, _⟩ | ⟨hd1, hb1, he1, hr1, h10⟩ | ⟨_, _, hne, _⟩
            · rw [hd1, show doneX none = false from rfl] at KD
              have KD := Lib.hid KD
              have HF := Lib.hid (And.intro (fin_stop HR.out.2 (.inl (by rw [← ht]; exact hd1))) hh2)
              clear hl2 ho2 hout hdict hnear ht hen hd1 h10 hh2
              go_wp2_with fail
              refine KD.out.mono ?_
              rintro e w1 ⟨rfl, rfl⟩
              clear KD
              go_wp2_with fail
              go_ret
              exact ⟨false, rfl, fun hh => absurd hh (Nat.lt_irrefl _), fun _ => HF.out.1, HF.out.2, HO2.out⟩
            · rw [hen] at hne; cases hne
            · cases hx1 : t1.x with
              | none => exact absurd hx1 hd1
              | some x1 =>
                obtain ⟨r1, c1, rest1⟩ := x1
                rw [hx1] at KD
                have hfe := fin_end (tf := tf) HR.out.2 hr1 he1 hb1 hout
                by_cases hc1 : c1 = 0
                · rw [show doneX (some (r1, c1, rest1)) = true from decide_eq_true hc1] at KD
                  have KD := Lib.hid KD
                  have KN := Lib.hid (lsource_any hl2 hx1)
                  have hlf1 : leftD t1.x = decide (rest1 = []) := by rw [hx1]; simp [leftD, hc1]
                  rw [hlf1] at hfe
                  have HF := Lib.hid (And.intro hfe hh2)
                  clear hl2 ho2 hout hdict hnear ht hen hd1 h10 hh2 hx1 hfe hlf1 hc1 hr1 he1 hb1
                  go_wp2_with fail
                  refine KD.out.mono ?_
                  rintro e w1 ⟨rfl, rfl⟩
                  clear KD
                  go_wp2_with fail
                  refine KN.out.mono ?_
                  rintro e w3 ⟨x, rfl, hO⟩
                  have HO := Lib.hid hO
                  clear hO KN
                  go_wp2_with fail
                  go_ret
                  refine ⟨_, rfl, fun hh => absurd hh (Nat.lt_irrefl _), fun _ => ?_, HF.out.2.only HO.out HK.out.1 HK.out.2, HO2.out.trans (HO.out.mono fun i hi => .inl hi)⟩
                  rw [HF.out.1]
                · rw [show doneX (some (r1, c1, rest1)) = false from decide_eq_false hc1] at KD
                  have KD := Lib.hid KD
                  have hlf1 : leftD t1.x = false := by rw [hx1]; simp [leftD, hc1]
                  rw [hlf1] at hfe
                  have HF := Lib.hid (And.intro hfe hh2)
                  clear hl2 ho2 hout hdict hnear ht hen hd1 h10 hh2 hx1 hfe hlf1 hc1 hr1 he1 hb1
                  go_wp2_with fail
                  refine KD.out.mono ?_
                  rintro e w1 ⟨rfl, rfl⟩
                  clear KD
                  go_wp2_with fail
                  go_ret
                  exact ⟨false, rfl, fun hh => absurd hh (Nat.lt_irrefl _), fun _ => HF.out.1, HF.out.2, HO2.out⟩
            · rw [hen] at hne; cases hne
          · have hen : z1.ended = false := by simpa using hen
            have y := hl2.f.ended
            rw [hen] at y
            have hst : (packP decM zf tf pk0).2.2.x = none ∨ (packP decM zf tf pk0).2.1.bad = true ∨ (packP decM zf tf pk0).2.1.ended = false := by
              rcases hcase with ⟨hd1, h10⟩ | ⟨_, hb1, _, _, _⟩ | ⟨hd1, hb1, he1, hr1, h10⟩ | ⟨_, _, _, hh1, _, _, hr1⟩
              · exact .inl (by rw [← ht]; exact hd1)
              · exact .inr (.inl hb1)
              · rw [hen] at he1; cases he1
              · refine .inr (.inr ?_)
                rw [hr1]
                have := (copy_cut left1 0 hh1).1
                rw [this]
                exact hen
            have HF := Lib.hid (And.intro (fin_stop HR.out.2 hst) hh2)
            clear hl2 ho2 hout hdict hnear ht hen hcase hh2 hst
            go_wp2_with fail
            go_ret
            exact ⟨false, rfl, fun hh => absurd hh (Nat.lt_irrefl _), fun _ => HF.out.1, HF.out.2, HO2.out⟩

set_option maxRecDepth 100000 in
set_option maxHeartbeats 4000000 in
theorem lfinish_any (h : Nx K w Gw zf tf n) (hn : n ≤ 800000) (hf : Fit K (zf.cut n)) :
    Calls Try.prog 27 #[.pointer (some ⟨K.g, 0, none⟩)] w (EndPost K w Gw zf tf n) := by
  have KE := Lib.hid (lends_any h hn hf)
  have hg : ∀ i, Gw i → i ≠ K.g := fun i hi => (h.lw.ap.wd i hi).1
  have HG := Lib.hid hg
  clear h hn hf hg
  go_enter Try.func27, Try.ntmps27
  go_wp2_with fail
  refine KE.out.mono ?_
  rintro e w1 ⟨b, rfl, h1, h2, h3, h4⟩
  have HH := Lib.hid (And.intro h1 (And.intro h2 (And.intro h3 h4)))
  obtain ⟨fs, ps, hD, _⟩ := h3
  obtain ⟨u, xb⟩ : ∃ u, w1.cell? ⟨K.g, 1865, none⟩ = some u := ⟨_, (hD.cell 18 (by decide)).trans (List.getElem?_eq_getElem (by have := hD.len; omega))⟩
  have zb := hD.free 1865
  clear hD h1 h2 h4 KE
  go_wp2_with fail
  go_ret
  exact ⟨b, rfl, HH.out.1, HH.out.2.1, HH.out.2.2.1.put HG.out _, HH.out.2.2.2.own_put 18 _⟩
end
end Go.Proofs.Ytjgdjobhhdhfjaa
