/-
  LwClose, LqClose, ZqUp, ZqUp2: put together.
-/
import Derived.Test.YtoencondpbkomaaGreatDoorT32
import Derived.Defers
import Derived.BigQuiet
import Derived.Test.YtoencondpbkomaaGreatDoorT31
set_option linter.unusedVariables false
set_option linter.unusedSimpArgs false
/-
  The program's decoder of LZMA is closed: called, or deferred.
-/
namespace Go.Proofs.YtoencondpbkomaaGreatDoor
open Go.RowKit

theorem both_of_wp {P : Program} {f : FuncId} {fn : Func} {c : Code} {args : Array Value} {w : World} {R : Ending → World → Prop}
    (hf : P.funcs[f]? = some fn) (hb : fn.body = some c)
    (h : c.wp P (bodyPost P fn R) { tmps := args ++ Array.replicate (fn.ntmps - args.size) undef, defers := [] } w) :
    Calls P f args w R ∧ ∀ u, CallsD P f args u w fun e u' w' => u' = u ∧ R e w' := ⟨calls_of_wp hf hb h, fun _ => callsD_of_wp hf hb h⟩

theorem LzAt.len {w : World} {g : Nat} {fs : List Value} {ps : List Nat} (h : LzAt w g fs ps) : fs.length = 19 := by
  obtain ⟨_, _, _, h, _⟩ := h
  exact h
/-- the fields of a closed one -/
def shutFs (fs : List Value) : List Value := (((fs.set 8 (.int .i64 0)).set 15 (.slice none 0 0)).set 4 .nilIface).set 5 (.pointer none)
def ClosePost (g wg m : Nat) (fs : List Value) (ps : List Nat) (Gw : Nat → Prop) (s : Ws) (q : Quo) (t : Tel) (room : Int) (w : World) (e : Ending) (w' : World) : Prop :=
  e = .returned (.tuple #[]) ∧ ∃ G', LzAt w' g (shutFs fs) ps ∧ Pwin w' wg G' m s.close ∧ MeterAt w' 83 m q ((if s.shut = true then t else t.doFree (s.sz : Int)).doFree room) ∧ (∀ i, G' i → Gw i ∨ w.heap.size ≤ i) ∧ Only (fun i => Gw i ∨ i = m ∨ i = g) w w'

set_option maxRecDepth 100000 in
set_option maxHeartbeats 4000000 in
theorem lclose_any {w : World} {g wg m : Nat} {fs : List Value} {ps : List Nat} {Gw : Nat → Prop} {s : Ws} {q : Quo} {t : Tel} {room : Int} (hD : LzAt w g fs ps) (h6 : fs[6]? = some (.pointer (some ⟨wg, 0, none⟩))) (h7 : fs[7]? = some (.pointer (some ⟨m, 0, none⟩))) (h8 : fs[8]? = some (.int .i64 room))
    (hr : room ≤ 9223372036854775807) (hW : Pwin w wg Gw m s) (hz : s.sz ≤ 1048576) (hM : MeterAt w 83 m q t) (hF : Fine q t) (hm : ¬ Gw m) (hg : ¬ Gw g) (hmg : m ≠ g) :
    Calls Tryz.prog 39 #[.pointer (some ⟨g, 0, none⟩)] w (ClosePost g wg m fs ps Gw s q t room w) ∧
    ∀ u, CallsD Tryz.prog 39 #[.pointer (some ⟨g, 0, none⟩)] u w fun e u' w' => u' = u ∧ ClosePost g wg m fs ps Gw s q t room w e w' := by
  have c6 : w.cell? ⟨g, 6, none⟩ = some (.pointer (some ⟨wg, 0, none⟩)) := by
    rw [show (6 : Nat) = fat 6 from rfl, hD.cell 6 (by decide)]
    simp [h6]
  have KW := Lib.hid (wclose_any hW hz hM hF hm)
  have HM0 := Lib.hid hM.lt
  have HH := Lib.hid (And.intro hD (And.intro h7 (And.intro h8 (And.intro hr (And.intro hF (And.intro hm (And.intro hg hmg)))))))
  clear hD h6 h7 h8 hr hW hz hM hF hm hg hmg
  refine both_of_wp Tryz.func39 rfl ?_
  simp only [Tryz.ntmps39, List.size_toArray, List.length_cons, List.length_nil, Nat.reduceAdd, Nat.reduceSub, Array.replicate_succ, Array.replicate_zero, List.push_toArray, List.append_toArray, List.nil_append, List.cons_append]
  go_wp2_with fail
  refine KW.out.mono ?_
  rintro e w1 ⟨rfl, G1, hW1, hM1, hG1, hO1⟩
  obtain ⟨hD, h7, h8, hr, hF, hm, hg, hmg⟩ := HH.out
  have hng : ¬ (Gw g ∨ g = m) := by
    rintro (h | h)
    · exact hg h
    · exact hmg h.symm
  have hD1 := hD.only hO1 hng
  have c7 : w1.cell? ⟨g, 7, none⟩ = some (.pointer (some ⟨m, 0, none⟩)) := by
    rw [show (7 : Nat) = fat 7 from rfl, hD1.cell 7 (by decide)]
    simp [h7]
  have c8 : w1.cell? ⟨g, 8, none⟩ = some (.int .i64 room) := by
    rw [show (8 : Nat) = fat 8 from rfl, hD1.cell 8 (by decide)]
    simp [h8]
  have hgs : g < w.heap.size := hD.lt
  have hmG1 : ¬ G1 m := fun h => by
    rcases hG1 m h with h | h
    · exact hm h
    · have := hM1.lt
      have h2 := HM0.out
      omega
  have hF1 : Fine q (if s.shut = true then t else t.doFree (s.sz : Int)) := by
    split
    · exact hF
    · exact hF.free _
  have KF := Lib.hid (free_any (w := w1.drew) (hM1.drewN 1) hF1 room hr)
  have HX := Lib.hid (And.intro hD1 (And.intro hW1 (And.intro hG1 (And.intro hO1 hmG1))))
  have hmg2 : g ≠ m := fun e => hmg e.symm
  have HS := Lib.hid (fun (W : World) (hW : Only (fun i => i = m) w1 W) => (show W.cell? ⟨g, 7, none⟩ = some (.pointer (some ⟨m, 0, none⟩)) ∧ W.cell? ⟨g, 8, none⟩ = some (.int .i64 room) from
    have hk := hD1.only hW hmg2
    ⟨by rw [show (7 : Nat) = fat 7 from rfl, hk.cell 7 (by decide)]; simp [h7], by rw [show (8 : Nat) = fat 8 from rfl, hk.cell 8 (by decide)]; simp [h8]⟩))
  clear hW1 hM1 hG1 hO1 hD h7 h8 hr hF hm hg hng hD1 hgs hmG1 hF1 KW c6 hmg hmg2
  go_wp2_with fail
  go_region_held3 (fun w' => w'.cell? ⟨g, 7, none⟩ = some (.pointer (some ⟨m, 0, none⟩)) ∧ w'.cell? ⟨g, 8, none⟩ = some (.int .i64 room))
    (first | assumption | go_keep | exact ⟨c7, c8⟩ | exact HS.out _ HO2.out)
    (first
      | (go_at_call 71; refine KF.out.mono ?_; rintro e w2 ⟨rfl, hM2, hg2⟩; have HO2 := Lib.hid (show Only (fun i => i = m) w1 w2 from ((Only.refl (fun i => i = m) w1).drew).trans (Only.of_grown hg2 rfl)); have HM2 := Lib.hid hM2; clear hM2 hg2))
  have hD2 : LzAt w2 g fs ps := HX.out.1.only HO2.out (fun e => HH.out.2.2.2.2.2.2.2 e.symm)
  have a1 := hD2.cell 8 (by decide)
  have a2 := hD2.cell 15 (by decide)
  have a3 := hD2.cell 4 (by decide)
  have a4 := hD2.cell 5 (by decide)
  obtain ⟨u8, b8⟩ : ∃ u, w2.cell? ⟨g, 8, none⟩ = some u := ⟨_, a1.trans (List.getElem?_eq_getElem (by have := hD2.len; omega))⟩
  obtain ⟨u15, b15⟩ : ∃ u, w2.cell? ⟨g, 1862, none⟩ = some u := ⟨_, a2.trans (List.getElem?_eq_getElem (by have := hD2.len; omega))⟩
  obtain ⟨u4, b4⟩ : ∃ u, w2.cell? ⟨g, 4, none⟩ = some u := ⟨_, a3.trans (List.getElem?_eq_getElem (by have := hD2.len; omega))⟩
  obtain ⟨u5, b5⟩ : ∃ u, w2.cell? ⟨g, 5, none⟩ = some u := ⟨_, a4.trans (List.getElem?_eq_getElem (by have := hD2.len; omega))⟩
  have z8 := hD2.free 8
  have z15 := hD2.free 1862
  have z4 := hD2.free 4
  have z5 := hD2.free 5
  have HD2 := Lib.hid hD2
  clear hD2 a1 a2 a3 a4 HS KF c7 c8
  go_wp2_with fail
  go_end0
  obtain ⟨hD1, hW1, hG1, hO1, hmG1⟩ := HX.out
  obtain ⟨hD, h7, h8, hr, hF, hm, hg, hmg⟩ := HH.out
  have p1 := HD2.out.put 8 (by decide) (.int .i64 0)
  have p2 := p1.put 15 (by decide) (.slice none 0 0)
  have p3 := p2.put 4 (by decide) .nilIface
  have p4 := p3.put 5 (by decide) (.pointer none)
  have hOg := (((((Only.refl (fun i => i = g) w2).setCell (p := ⟨g, 8, none⟩) (.inl rfl) (.int .i64 0)).setCell (p := ⟨g, 1862, none⟩) (.inl rfl) (.slice none 0 0)).setCell (p := ⟨g, 4, none⟩) (.inl rfl) .nilIface).setCell (p := ⟨g, 5, none⟩) (.inl rfl) (.pointer none))
  have hg1 : ∀ i, G1 i → i ≠ g := fun i hi e => by
    subst e
    rcases hG1 i hi with h | h
    · exact hg h
    · have := hD.lt; omega
  refine ⟨rfl, G1, p4, ?_, HM2.out.only hOg hmg, hG1, ?_⟩
  · exact (hW1.only HO2.out (fun i hi e => hmG1 (e ▸ hi))).only hOg hg1
  · exact ((hO1.mono fun i hi => by rcases hi with hi | hi; exact .inl hi; exact .inr (.inl hi)).trans (HO2.out.mono fun i hi => .inr (.inl hi))).trans (hOg.mono fun i hi => .inr (.inr hi))
end Go.Proofs.YtoencondpbkomaaGreatDoor

/-
  The decoder of LZMA2 is closed; a new one.
-/
namespace Go.Proofs.YtoencondpbkomaaGreatDoor
open Go.RowKit

theorem Un.only {K : Kon} {w w' : World} {Gw S : Nat → Prop} {lc lp pb dict : Nat} (h : Un K w Gw lc lp pb dict) (hO : Only S w w') (h1 : ¬ S K.g) (h2 : ¬ S K.lb) (h3 : ∀ i, Gw i → ¬ S i) : Un K w' Gw lc lp pb dict :=
  ⟨(K.prb _ h.gn).only h.row hO (fun i hi => by rcases hi with rfl | rfl; exact h1; exact h2), h.win.only hO h3, h.gn, h.mg, h.mb, fun i hi => ⟨(h.wd i hi).1, (h.wd i hi).2.1, (h.wd i hi).2.2.1, Nat.lt_of_lt_of_le (h.wd i hi).2.2.2 hO.size⟩, h.nc, h.sd⟩


def QClose (d g f wg m : Nat) (sd : Ds) (fs : List Value) (ps : List Nat) (Gw : Nat → Prop) (s : Ws) (q : Quo) (t : Tel) (room : Int) (w : World) (e : Ending) (w' : World) : Prop :=
  e = .returned (.tuple #[]) ∧ ∃ G', LzAt w' g (shutFs fs) ps ∧ Pwin w' wg G' m s.close ∧ MeterAt w' 83 m q ((if s.shut = true then t else t.doFree (s.sz : Int)).doFree room) ∧ Blk w' d 105 (d2Cells g f { sd.fail with closed := true }) ∧ (∀ i, G' i → Gw i ∨ w.heap.size ≤ i) ∧ Only (fun i => Gw i ∨ i = m ∨ i = g ∨ i = d) w w'

set_option maxRecDepth 100000 in
set_option maxHeartbeats 4000000 in
theorem qclose_any {w : World} {d g f wg m : Nat} {sd : Ds} {fs : List Value} {ps : List Nat} {Gw : Nat → Prop} {s : Ws} {q : Quo} {t : Tel} {room : Int} (hB : Blk w d 105 (d2Cells g f sd)) (hD : LzAt w g fs ps) (h6 : fs[6]? = some (.pointer (some ⟨wg, 0, none⟩))) (h7 : fs[7]? = some (.pointer (some ⟨m, 0, none⟩))) (h8 : fs[8]? = some (.int .i64 room))
    (hr : room ≤ 9223372036854775807) (hW : Pwin w wg Gw m s) (hz : s.sz ≤ 1048576) (hM : MeterAt w 83 m q t) (hF : Fine q t) (hm : ¬ Gw m) (hg : ¬ Gw g) (hmg : m ≠ g) (hdg : d ≠ g) (hdm : d ≠ m) (hGd : ¬ Gw d) :
    Calls Tryz.prog 18 #[.pointer (some ⟨d, 0, none⟩)] w (QClose d g f wg m sd fs ps Gw s q t room w) ∧
    ∀ u, CallsD Tryz.prog 18 #[.pointer (some ⟨d, 0, none⟩)] u w fun e u' w' => u' = u ∧ QClose d g f wg m sd fs ps Gw s q t room w e w' := by
  have c0 : w.cell? ⟨d, 0, none⟩ = some (.pointer (some ⟨g, 0, none⟩)) := hB.cell 0
  have KC := Lib.hid (lclose_any hD h6 h7 h8 hr hW hz hM hF hm hg hmg).1
  have HH := Lib.hid (And.intro hB (And.intro hdg (And.intro hdm hGd)))
  have HGM := Lib.hid (And.intro hW hM.lt)
  have HGs := Lib.hid (And.intro hD.lt hmg)
  clear hB hD h6 h7 h8 hr hW hz hM hF hm hg hmg hdg hdm hGd
  refine both_of_wp Tryz.func18 rfl ?_
  simp only [Tryz.ntmps18, List.size_toArray, List.length_cons, List.length_nil, Nat.reduceAdd, Nat.reduceSub, Array.replicate_succ, Array.replicate_zero, List.push_toArray, List.append_toArray, List.nil_append, List.cons_append]
  go_wp2_with fail
  refine KC.out.mono ?_
  rintro e w1 ⟨rfl, G1, hD1, hW1, hM1, hG1, hO1⟩
  obtain ⟨hB, hdg, hdm, hGd⟩ := HH.out
  have hB1 := hB.only hO1 (by rintro (h | h | h); exact hGd h; exact hdm h; exact hdg h)
  have c1 : w1.cell? ⟨d, 1, none⟩ = some (.bool sd.closed) := hB1.cell 1
  have z1 := hB1.free 1
  have hB2 := hB1.put 1 (.bool true)
  have hO2 := (Only.refl (fun i => i = d) w1).setCell (p := ⟨d, 1, none⟩) (.inl rfl) (.bool true)
  have KF := Lib.hid (qfail_any (s := { sd with closed := true }) (f := f) (g := g) hB2)
  have HE := Lib.hid (And.intro hD1 (And.intro hW1 (And.intro hM1 (And.intro hG1 (And.intro hO1 hO2)))))
  have hds : d < w.heap.size := hB.lt
  have HDS := Lib.hid hds
  clear hD1 hW1 hM1 hG1 hO1 hO2 hB hB1 hB2 hdg hdm hGd KC c0 hds
  go_wp2_with fail
  refine KF.out.mono ?_
  rintro e w2 ⟨rfl, hB3, hO3⟩
  have HF := Lib.hid (And.intro hB3 hO3)
  clear hB3 hO3 KF
  go_wp2_with fail
  first | go_end0 | refine bodyPost_ret (results_none rfl _ _ _) rfl ?_
  obtain ⟨hD1, hW1, hM1, hG1, hO1, hO2⟩ := HE.out
  obtain ⟨hB, hdg, hdm, hGd⟩ := HH.out
  have hO23 := hO2.trans HF.out.2
  have hgd : ¬ (g = d) := fun e => hdg e.symm
  have hmd : ¬ (m = d) := fun e => hdm e.symm
  refine ⟨rfl, G1, hD1.only hO23 hgd, hW1.only hO23 (fun i hi e => ?_), hM1.only hO23 hmd, HF.out.1, hG1, (hO1.mono fun i hi => ?_).trans (hO23.mono fun i hi => .inr (.inr (.inr hi)))⟩
  · rcases hG1 i hi with h | h
    · exact hGd (e ▸ h)
    · have := HDS.out
      omega
  · rcases hi with h | h | h
    · exact .inl h
    · exact .inr (.inl h)
    · exact .inr (.inr (.inl h))

/-- the fields of a new one -/
def ds0 : Ds := ⟨false, false, false, 0, 0, 0, 0, 0, 0, none⟩
def QNew (w : World) (m : Nat) (q : Quo) (t : Tel) (dict : Nat) (size : Int) (e : Ending) (w' : World) : Prop :=
  ∃ (K : Kon) (Gw : Nat → Prop) (d : Nat), K.m = m ∧ K.room = 2 * (probsN 4 0 : Int) ∧ K.sz = (max (min (dict : Int) size) 1).toNat ∧ K.nl = 768 * 2 ^ 4 ∧ e = .returned (.tuple #[.pointer (some ⟨d, 0, none⟩), .int .i64 0]) ∧
    Blk w' d 105 (d2Cells K.g 0 ds0) ∧ Un K w' Gw 4 0 0 dict ∧ MeterAt w' 83 m q ((t.doMem q (max (min (dict : Int) size) 1)).doMem q (2 * (probsN 4 0 : Int))) ∧ (w.heap.size ≤ K.g ∧ w.heap.size ≤ K.lb ∧ ∀ i, Gw i → w.heap.size ≤ i) ∧ (w.heap.size ≤ d ∧ K.g < d ∧ K.lb < d ∧ ∀ i, Gw i → i < d) ∧ Only (fun i => i = m) w w'

set_option maxRecDepth 100000 in
set_option maxHeartbeats 4000000 in
theorem qnew_any {w : World} {m p : Nat} {q : Quo} {t : Tel} {size : Int} (hp : p ≤ 40) (hM : MeterAt w 83 m q t) (hF : Fine q t) (h0 : -9223372036854775808 ≤ size) (h1 : size ≤ 1048576)
    (hf1 : fits t.code t.mem q.mem (max (min (dictN p : Int) size) 1)) (hf2 : fits (t.doMem q (max (min (dictN p : Int) size) 1)).code (t.doMem q (max (min (dictN p : Int) size) 1)).mem q.mem (2 * (probsN 4 0 : Int))) :
    Calls Tryz.prog 17 #[.int .u8 (p : Int), .int .i64 size, .pointer (some ⟨m, 0, none⟩)] w (QNew w m q t (dictN p) size) := by
  have KD := qdict_any (p := p) (by omega) w
  have hdc : dictC p = 0 := by unfold dictC; rw [if_neg (by omega)]
  rw [hdc] at KD
  have hd := dict_le hp
  have KN := lnew_any (lc := 4) (lp := 0) (pb := 0) (dict := dictN p) (size := size) ⟨by omega, by omega, by omega, hd.1, hd.2⟩ (by omega) hM hF h0 h1 hf1 hf2
  generalize dictN p = dict at *
  have KN := Lib.hid KN
  have KD := Lib.hid KD
  have HML := Lib.hid hM.lt
  clear hM hF h0 h1 hf1 hf2 hdc hd hp
  go_enter Tryz.func17, Tryz.ntmps17
  go_wp2_with fail
  refine KD.out.mono ?_
  rintro e w1 ⟨rfl, rfl⟩
  clear KD
  go_wp2_with fail
  refine KN.out.mono ?_
  rintro e w2 ⟨K, Gw, hKm, hroom, hsz, hnl, rfl, hUn, hM2, hnew, hO2⟩
  have HE := Lib.hid (And.intro hKm (And.intro hroom (And.intro hsz (And.intro hnl (And.intro hUn (And.intro hM2 (And.intro hnew hO2)))))))
  clear hKm hroom hsz hnl hUn hM2 hnew hO2 KN
  go_wp2_with fail
  go_ret2
  obtain ⟨hKm, hroom, hsz, hnl, hUn, hM2, hnew, hO2⟩ := HE.out
  refine ⟨K, Gw, w2.heap.size, hKm, hroom, hsz, hnl, rfl, ?_, hUn.only ((Only.refl (fun _ => False) w2).alloc _) (fun h => h) (fun h => h) (fun _ _ h => h), hM2.alloc _, hnew, ⟨hO2.size, hUn.row.1.lt, hUn.row.2.1.lt, fun i hi => (hUn.wd i hi).2.2.2⟩, hO2.alloc _⟩
  exact Blk.fresh w2 _ _
end Go.Proofs.YtoencondpbkomaaGreatDoor

/-
  The program's Unpack of LZMA2: what stands between two bytes.
-/
namespace Go.Proofs.YtoencondpbkomaaGreatDoor
open Go.RowKit
set_option linter.unusedVariables false

theorem plainC_pos {nd n : Nat} {z : Lzs} {ps : List Nat} {r xs : List UInt8} {q' : Rs} (hn : 1 ≤ n) (h : plainC nd z ps r n = some (xs, q')) : 1 ≤ xs.length := by
  unfold plainC at h
  split at h
  · cases h
  · rename_i hc
    injection h with h
    injection h with h1 h2
    rw [← h1, List.length_take]
    omega
theorem packC_pos {n N : Nat} {rest xs : List UInt8} {z : Lzs} {t : Pm Dc} {q' : Rs} (hn : 1 ≤ n) (hN : n ≤ N) (h : packC n rest z t N = some (xs, q')) : 1 ≤ xs.length := by
  rw [packC_xs h]
  omega
theorem bodyC_pos {q : Rs} {how n k : Nat} {s : Nat × Nat × Nat} {r xs : List UInt8} {q' : Rs} (hn : 1 ≤ n) (h : bodyC q how n k s r = some (xs, q')) : 1 ≤ xs.length := by
  unfold bodyC at h
  split at h
  · cases h
  · exact packC_pos hn (Nat.le_add_left _ _) h
theorem packedC_pos {q : Rs} {c : Nat} {r xs : List UInt8} {q' : Rs} (h : packedC q c r = some (xs, q')) : 1 ≤ xs.length := by
  unfold packedC at h
  split at h
  · split at h
    · cases h
    · split at h
      · split at h
        · cases h
        · split at h
          · cases h
          · exact bodyC_pos (Nat.le_add_left _ _) h
      · exact bodyC_pos (Nat.le_add_left _ _) h
  · cases h
theorem chunkN_pos {q : Rs} {xs : List UInt8} {q' : Rs} (h : chunkN q = some (xs, q')) : 1 ≤ xs.length := by
  unfold chunkN at h
  split at h
  · cases h
  · split at h
    · split at h
      · split at h
        · exact plainC_pos (Nat.le_add_left _ _) h
        · exact plainC_pos (Nat.le_add_left _ _) h
      · cases h
    · split at h
      · exact packedC_pos h
      · cases h
theorem tells0_none {q : Rs} (h : q.r ≠ [0]) : q.tells 0 = none := by
  cases hc : chunkN q with
  | none => exact tells_none h hc
  | some p =>
    obtain ⟨xs, q'⟩ := p
    exact tells_less h hc (chunkN_pos hc)
section
variable {K0 K : Kon} {d f lo D : Nat} {all r : List UInt8} {w w' w1 : World} {Gw ex S : Nat → Prop} {s : Ds} {st : St2}
theorem q2_rests (h : Q2 K0 d f lo all D w Gw ex st) : Rests K0 w Gw := by
  cases st with
  | bad => obtain ⟨s, r, z, ps, ⟨_, K, v4, v5, v16, v17, v18, hk, hr⟩, _⟩ := h; exact ⟨K, z, ps, v4, v5, v16, v17, v18, hk, hr⟩
  | fin r => obtain ⟨s, z, ps, ⟨_, K, v4, v5, v16, v17, v18, hk, hr⟩, _⟩ := h; exact ⟨K, z, ps, v4, v5, v16, v17, v18, hk, hr⟩
  | rest q => obtain ⟨s, ⟨_, K, v4, v5, v16, v17, v18, hk, hr⟩, _⟩ := h; exact ⟨K, _, _, v4, v5, v16, v17, v18, hk, hr⟩
  | plain q l => obtain ⟨s, ⟨_, K, v4, v5, v16, v17, v18, hk, hr⟩, _⟩ := h; exact ⟨K, _, _, v4, v5, v16, v17, v18, hk, hr⟩
  | pack zf tf n l full r => obtain ⟨K, s, p, a, m, hk, hB, hs1, hs2, hs3, hs4, hs5, hl1, hl2, ha, hS, hbs, hfull, hr, hN, hD, h4, hep, hed, hfp⟩ := h; exact nx_rests hN hk
theorem q2_rdr (hx : Q2x K0 d f lo w Gw ex) (h : Q2 K0 d f lo all D w Gw ex st) : ∃ s r, Rdr w d K0.g f lo all ⟨s, r, []⟩ ∧ (⟨s, r, []⟩ : Lq).ends = decide (st.tells 0 = some []) := by
  cases st with
  | bad =>
    obtain ⟨s, r, z, ps, hi, hs1, hs3⟩ := h
    refine ⟨s, r, hi.rd, ?_⟩
    have e : (⟨s, r, []⟩ : Lq).at_.s.src = false := by
      unfold Lq.at_
      split
      · exact hs1
      · exact lq_off hs1
    rw [ends_bad e]
    exact (decide_eq_false (fun e => by cases e)).symm
  | fin r =>
    obtain ⟨s, z, ps, hi, hs1, hs2, hs3⟩ := h
    refine ⟨s, r, hi.rd, ?_⟩
    rw [ends_is hs3 (by rw [at_on hs2]; exact hs1) (last_on hs2), at_on hs2]
    show r.isEmpty = decide ((if 0 = 0 ∧ r = [] then some ([] : List UInt8) else none) = some [])
    cases r with
    | nil => rfl
    | cons x r => rw [if_neg (fun e => by cases e.2)]; rfl
  | rest q =>
    obtain ⟨s, hi, hs1, hs2, hs3, hset, hq⟩ := h
    refine ⟨s, q.r, hi.rd, ?_⟩
    show _ = decide (q.tells 0 = some [])
    cases hr : q.r with
    | nil =>
      have e : (⟨s, [], []⟩ : Lq).at_.s.src = false := by rw [at_off hs2, lq_dry hs1]; rfl
      rw [ends_bad e, tells0_none (by rw [hr]; decide)]
      rfl
    | cons x r =>
      by_cases hx0 : x = 0
      · subst hx0
        rw [ends_is hs3 (by rw [at_off hs2, lq_rd hs1]; exact hs1) (by rw [last_off hs2, lq_b hs1]), at_off hs2, lq_rd hs1]
        have e := tells_zero hr 0
        have e : q.tells 0 = (St2.fin r).tells 0 := e
        rw [e]
        show r.isEmpty = decide ((if 0 = 0 ∧ r = [] then some ([] : List UInt8) else none) = some [])
        cases r with
        | nil => rfl
        | cons x r => rw [if_neg (fun e => by cases e.2)]; rfl
      · rw [ends_last (by rw [last_off hs2, lq_b hs1]; exact hx0), tells0_none (by rw [hr]; intro e; injection e with e1 e2; exact hx0 e1)]
        rfl
  | plain q l =>
    obtain ⟨s, hi, hs1, hs2, hs3, hs4, h1, h2, hnd, hset, hq⟩ := h
    refine ⟨s, q.r, hi.rd, ?_⟩
    rw [ends_left (by show s.left ≠ 0; omega), plain_zero h1]
    rfl
  | pack zf tf n l full r =>
    obtain ⟨K, s, p, a, m, hk, hB, hs1, hs2, hs3, hs4, hs5, hl1, hl2, ha, hS, hbs, hfull, hr, hN, hD, h4, hep, hed, hfp⟩ := h
    have hpd := hN.lw.mch.pd
    rw [hS] at hpd
    obtain ⟨k, lf, hP, hpB, hk1, hk2, htx⟩ := pd_at hpd
    refine ⟨s, all.drop (a + k), ⟨hB, fun _ => ⟨a + k, hP.feed, rfl⟩, hx.dl.2, hx.lf, by show s.nd < 256; omega⟩, ?_⟩
    rw [ends_left (by show s.left ≠ 0; omega), pack_zero hl1]
    rfl
end
end Go.Proofs.YtoencondpbkomaaGreatDoor

/-
  The program's Unpack of LZMA2: what stands between two bytes, memory.
-/
namespace Go.Proofs.YtoencondpbkomaaGreatDoor
open Go.RowKit
set_option linter.unusedVariables false

/-- a new stream: all must be brought -/
def rs0 (L dict : Nat) (bs : List UInt8) : Rs := ⟨7, Lzs.start 4 0 0 dict, List.replicate L 1024, bs⟩
theorem rs0_ok {L dict : Nat} {bs : List UInt8} (hL : L = 1847 + 768 * 2 ^ (4 + 0)) (hd : dict < 4294967296) : Rok dict (rs0 L dict bs) := by
  have h1 : ZNear (Lzs.start 4 0 0 dict) L 0 := ⟨show 4 ≤ 8 by decide, show 0 ≤ 4 by decide, show 0 ≤ 4 by decide, hd, Nat.le_refl _, show 0 ≤ 11 by decide, show 0 < 4294967296 by decide, show 0 < 4294967296 by decide, show 0 < 4294967296 by decide, show 0 < 4294967296 by decide, hL⟩
  refine ⟨.inr (.inr rfl), ?_, fun p hp => ?_, rfl, rfl, rfl, show 4 + 0 ≤ 4 by decide⟩
  · show ZNear (Lzs.start 4 0 0 dict) (List.replicate L 1024).length 0
    rw [List.length_replicate]
    exact h1
  · rw [List.eq_of_mem_replicate hp]
    exact ⟨by decide, by decide⟩
/-- what stands between two bytes: out are in the row that v is, pre were told -/
structure Inv3 (K : Kon) (d f lo : Nat) (bs : List UInt8) (D : Nat) (B : Nat) (w : World) (size : Int) (res : Option (List UInt8)) (t : Tel) (v : Value) (wr : World) (out pre : List UInt8) (st : St2) (Gw ex : Nat → Prop) : Prop where
  q2 : Q2 K d f lo bs D wr Gw ex st
  qx : Q2x K d f lo wr Gw ex
  wl : st.wl ≤ pre.length
  own : wr.ownsRow B 5 1 v out.length (bv out)
  far : ∀ b, v.ownBlock = some b → ¬ (Gw b ∨ ex b)
  le : pre.length ≤ size.toNat
  res : res = (st.tells (size.toNat - pre.length)).map (pre ++ ·)
  mt : MeterAt wr 83 K.m muchQ t
  only : Only (fun i => i = K.m) w wr
  gm : ∀ i, Gw i ∨ ex i → w.heap.size ≤ i
  low : w.heap.size ≤ K.g ∧ w.heap.size ≤ K.lb ∧ w.heap.size ≤ d ∧ w.heap.size ≤ lo
  up : K.g < B ∧ K.lb < B ∧ d < B ∧ f < B ∧ K.m < w.heap.size
  bot : B ≤ wr.heap.size

section
variable {K : Kon} {d f lo B D : Nat} {bs : List UInt8} {w wr w6 w7 : World} {size : Int} {res : Option (List UInt8)} {t : Tel} {v v' : Value} {out pre : List UInt8} {st st' : St2} {Gw ex G1 ex1 : Nat → Prop} {x : UInt8} {o : Obj}
theorem Inv3.new' (h : Inv3 K d f lo bs D B w size res t v wr out pre st Gw ex) : ∀ i, own2 K d f Gw ex i → w.heap.size ≤ i := by
  intro i hk
  obtain ⟨u1, u2, u3, u4⟩ := h.low
  have := h.qx.lf
  rcases hk with e | e | e | e | e | e
  · omega
  · omega
  · omega
  · omega
  · exact h.gm i (.inl e)
  · exact h.gm i (.inr e)
theorem Inv3.meter (h : Inv3 K d f lo bs D B w size res t v wr out pre st Gw ex) : ¬ own2 K d f Gw ex K.m := fun e => by
  have := h.new' _ e
  have := h.up.2.2.2.2
  omega
theorem Inv3.far' (h : Inv3 K d f lo bs D B w size res t v wr out pre st Gw ex) : ∀ b, v.ownBlock = some b → ¬ own2 K d f Gw ex b := by
  intro b hb hk
  have h1 := (own_at h.own hb).1
  obtain ⟨u1, u2, u3, u4, u5⟩ := h.up
  rcases hk with e | e | e | e | e | e
  · omega
  · omega
  · omega
  · omega
  · exact h.far b hb (.inl e)
  · exact h.far b hb (.inr e)
theorem Inv3.told (h : Inv3 K d f lo bs D B w size res t v wr out out st Gw ex) (hlt : (out.length : Int) < size) (hq : Q2 K d f lo bs D w6 G1 ex1 st') (hx : Q2x K d f lo w6 G1 ex1) (hG : ∀ i, G1 i ∨ ex1 i → (Gw i ∨ ex i) ∨ wr.heap.size ≤ i) (hO : Only (own2 K d f Gw ex) wr w6)
    (ht : ∀ k, st.tells (k + 1) = (st'.tells k).map (x :: ·)) (hw : st'.wl ≤ st.wl + 1) : Inv3 K d f lo bs D B w size res t v w6 out (out ++ [x]) st' G1 ex1 := by
  obtain ⟨n, hnn⟩ : ∃ n, size.toNat - out.length = n + 1 := ⟨size.toNat - out.length - 1, by omega⟩
  have hn1 : size.toNat - (out ++ [x]).length = n := by simp; omega
  have hsz := h.only.size
  refine ⟨hq, hx, ?_, own_onlyV h.own hO h.far', fun b hb hg => ?_, by simp; omega, ?_, h.mt.only hO h.meter, h.only.trans' hO (fun i hi => .inr (h.new' i hi)), fun i hi => ?_, h.low, h.up, Nat.le_trans h.bot hO.size⟩
  · have := h.wl
    simp
    omega
  · rcases hG b hg with h1 | h1
    · exact h.far b hb h1
    · have := (own_at h.own hb).2
      omega
  · rw [h.res, hnn, hn1, ht n]
    cases st'.tells n <;> simp
  · rcases hG i hi with h1 | h1
    · exact h.gm i h1
    · omega
/-- a decoder wherever it stands, where blocks beyond all its own have turned -/
theorem Q2.apart {S : Nat → Prop} {w w' : World} (hx : Q2x K d f lo w Gw ex) (h : Q2 K d f lo bs D w Gw ex st) (hO : Only S w w') (hS : ∀ i, S i → i ≠ d ∧ i ≠ K.g ∧ i ≠ K.lb ∧ (i < lo ∨ f < i) ∧ ¬ Gw i ∧ ¬ ex i) : Q2 K d f lo bs D w' Gw ex st := by
  have hrd : ∀ {s : Ds} {r : List UInt8}, Rdr w d K.g f lo bs ⟨s, r, []⟩ → Rdr w' d K.g f lo bs ⟨s, r, []⟩ := fun h => h.only hO (fun e => (hS _ e).1 rfl) (fun i hi => (hS i hi).2.2.2.1)
  have hid : ∀ {s : Ds} {r : List UInt8} {z : Lzs} {ps : List Nat}, Idl K d f lo bs w Gw s r z ps → Idl K d f lo bs w' Gw s r z ps := fun h => by
    obtain ⟨K1, v4, v5, v16, v17, v18, hk, hr⟩ := h.rs
    exact ⟨hrd h.rd, K1, v4, v5, v16, v17, v18, hk, hr.only hO (by rw [hk.g]; exact fun e => (hS _ e).2.1 rfl) (by rw [hk.lb]; exact fun e => (hS _ e).2.2.1 rfl) (fun i hi e => (hS i e).2.2.2.2.1 hi)⟩
  cases st with
  | bad => obtain ⟨s, r, z, ps, hi, h2⟩ := h; exact ⟨s, r, z, ps, hid hi, h2⟩
  | fin r => obtain ⟨s, z, ps, hi, h2⟩ := h; exact ⟨s, z, ps, hid hi, h2⟩
  | rest q => obtain ⟨s, hi, h2⟩ := h; exact ⟨s, hid hi, h2⟩
  | plain q l => obtain ⟨s, hi, h2⟩ := h; exact ⟨s, hid hi, h2⟩
  | pack zf tf n l full r =>
    obtain ⟨K1, s, p, a, m, hk, hB, hs1, hs2, hs3, hs4, hs5, hl1, hl2, ha, hPS, hbs, hfull, hr, hN, hD, h4, hep, hed, hfp⟩ := h
    refine ⟨K1, s, p, a, m, hk, hB.only hO (fun e => (hS _ e).1 rfl), hs1, hs2, hs3, hs4, hs5, hl1, hl2, ha, hPS, hbs, hfull, hr, hN.apart hO (fun i hi => ?_) (fun i hi e => (hS i e).2.2.2.2.1 hi), hD, h4, hep, hed, hfp⟩
    have h1 := hS i hi
    refine ⟨fun e => ?_, fun e => h1.2.2.2.2.2 (e ▸ hed), fun e => h1.2.1 (e.trans hk.g), fun e => h1.2.2.1 (e.trans hk.lb)⟩
    rw [hPS] at e
    rcases e with e | e
    · exact h1.2.2.2.2.2 (e ▸ hep)
    · have := h1.2.2.2.1
      omega
theorem Inv3.put (h : Inv3 K d f lo bs D B w size res t v w6 out (out ++ [x]) st Gw ex) (ho : w7.ownsRow B 5 1 v' (out.length + 1) (bv out ++ [.int .u8 (x.toNat : Int)])) (hg : (w6.alloc o).grownBy w7 v.ownBlock) (hv : v'.ownBlock = v.ownBlock ∨ v'.ownBlock = some (w6.alloc o).heap.size)
    (hB0 : 1 ≤ B) : Inv3 K d f lo bs D B w size res t v' w7 (out ++ [x]) (out ++ [x]) st Gw ex := by
  have hsz := h.only.size
  have hO : Only (fun i => v.ownBlock = some i) w6 w7 := by
    have h1 : Only (fun i => v.ownBlock = some i) w6 (w6.alloc o) := (Only.refl _ w6).alloc _
    refine h1.trans ⟨hg.os, hg.tape, hg.output, hg.size, fun i hi hn => hg.block i hi (fun e => hn e.symm)⟩
  have hB : ∀ i, v.ownBlock = some i → B ≤ i := fun i hi => (own_at h.own hi).1
  obtain ⟨u1, u2, u3, u4, u5⟩ := h.up
  obtain ⟨l1, l2, l3, l4⟩ := h.low
  refine ⟨h.q2.apart h.qx hO (fun i hi => ⟨?_, ?_, ?_, ?_, fun e => h.far i hi (.inl e), fun e => h.far i hi (.inr e)⟩), h.qx.only hO (fun e => by have := hB _ e; omega), h.wl, ?_, fun b hb hgw => ?_, h.le, h.res, h.mt.only hO (fun e => ?_), h.only.trans' hO (fun i hi => .inr ?_), h.gm, h.low, h.up, Nat.le_trans h.bot hO.size⟩
  · have := hB i hi; omega
  · have := hB i hi; omega
  · have := hB i hi; omega
  · have := hB i hi; exact .inr (by omega)
  · rw [bv_append, List.length_append]
    exact ho
  · rcases hv with e | e
    · exact h.far b (e ▸ hb) hgw
    · rw [e] at hb
      injection hb with hb
      have h2 : (w6.alloc o).heap.size = w6.heap.size + 1 := by simp
      rcases hgw with hh | hh
      · obtain ⟨K1, z, ps, v4, v5, v16, v17, v18, hk, hr⟩ := q2_rests h.q2
        have h1 := hr.win.old hh
        omega
      · have h1 := (h.qx.ex b hh).2
        omega
  · have h1 := hB _ e
    omega
  · have := hB i hi
    omega
/-- Close, deferred -/
theorem zdoor {s : Ds} (hx : Q2x K d f lo wr Gw ex) (hr : Rests K wr Gw) (hB : Blk wr d 105 (d2Cells K.g f s)) (hM : MeterAt wr 83 K.m muchQ t) (hF : Fine muchQ t) (hroom : K.room ≤ 9223372036854775807) (hm : ¬ Gw K.m) (u : FrameMode) :
    CallsD Tryz.prog 18 #[.pointer (some ⟨d, 0, none⟩)] u wr fun e u' w' => u' = u ∧ e = .returned (.tuple #[]) ∧ MeterAt w' 83 K.m muchQ ((t.doFree (K.sz : Int)).doFree K.room) ∧ Only (fun i => Gw i ∨ i = K.m ∨ i = K.g ∨ i = d) wr w' := by
  obtain ⟨K1, z, ps, v4, v5, v16, v17, v18, hk, hr⟩ := hr
  have hD := hr.row.1
  have hW := hr.win
  rw [hk.g] at hD
  rw [hk.wg, hk.m, hk.sz] at hW
  have h1 := hr.wd
  rw [hk.g] at h1
  have hmg := hr.mg
  rw [hk.g, hk.m] at hmg
  refine ((qclose_any hB hD (by show some (Value.pointer (some ⟨K1.wg, 0, none⟩)) = _; rw [hk.wg]) (by show some (Value.pointer (some ⟨K1.m, 0, none⟩)) = _; rw [hk.m]) (by show some (Value.int .i64 K1.room) = _; rw [hk.room]) hroom hW hx.sz hM hF hm (fun hh => (h1 _ hh).1 rfl) hmg hx.dg.1 hx.dg.2.2 (fun hh => (hx.wd _ hh).2.1 rfl)).2 u).mono ?_
  rintro e u' w' ⟨rfl, rfl, G', _, _, k3, _, _, k5⟩
  exact ⟨rfl, rfl, k3, k5⟩
end
end Go.Proofs.YtoencondpbkomaaGreatDoor
