/-
  ZqNx, LqEnds, LqProp, LqRp, LqDict: put together.
-/
import Derived.Test.YtoencondpbkomaaGreatDoorT30
import Derived.Test.YtoencondpbkomaaGreatDoorT29
import Derived.Test.YtoencondpbkomaaGreatDoorT01
import Derived.Test.YtoencondpbkomaaGreatDoorT02
import Derived.Test.YtoencondpbkomaaGreatDoorT24
import Derived.Test.YtoencondpbkomaaGreatDoorRows
import Derived.Tactics
import Derived.Tactics2
import Derived.LoopTactic
set_option linter.unusedVariables false
set_option linter.unusedSimpArgs false
/-
  The decoder of LZMA2: Next, wherever it stands.
-/
namespace Go.Proofs.YtoencondpbkomaaGreatDoor
open Go.RowKit
set_option linter.unusedVariables false

section
variable {K0 K : Kon} {d f lo D : Nat} {all r : List UInt8} {w w' w1 : World} {Gw ex S : Nat → Prop} {s : Ds} {z zf : Lzs} {ps : List Nat} {tf : Pm Dc} {n : Nat}
set_option maxRecDepth 100000 in
set_option maxHeartbeats 4000000 in
/-- a bad one reads no chunk -/
theorem chunk_off (h : Rdr w d K0.g f lo all ⟨s, r, []⟩) (hs : s.src = false) :
    Calls Tryz.prog 42 #[.pointer (some ⟨d, 0, none⟩)] w (fun e w' => e = .returned (.tuple #[]) ∧ Rdr w' d K0.g f lo all ⟨s, r, []⟩ ∧ Only (fun i => i = d ∨ i = f) w w') := by
  have KR := qread_any h
  rw [rd_none (q := ⟨s, r, []⟩) hs] at KR
  have KR := Lib.hid KR
  have HS := Lib.hid hs
  generalize (⟨s, r, []⟩ : Lq).b.toNat = x at KR
  clear h hs
  go_enter Tryz.func42, Tryz.ntmps42
  go_wp2_with fail
  refine KR.out.mono ?_
  rintro e w1 ⟨rfl, hR1, hO1⟩
  have KB := qbad_any hR1.blk
  rw [show (⟨s, r, []⟩ : Lq).s.src = false from HS.out] at KB
  have KB := Lib.hid KB
  have HR := Lib.hid (And.intro hR1 hO1)
  clear hR1 hO1 KR
  go_wp2_with fail
  refine KB.out.mono ?_
  rintro e w2 ⟨rfl, rfl⟩
  clear KB
  go_wp2_with fail
  first | go_end0 | refine bodyPost_ret (results_none rfl _ _ _) rfl ?_
  exact ⟨rfl, HR.out.1, HR.out.2⟩
theorem fin_next (r : List UInt8) (k : Nat) : (St2.fin r).tells (k + 1) = none := by
  show (if k + 1 = 0 ∧ r = [] then some [] else none) = none
  rw [if_neg (fun e => Nat.succ_ne_zero _ e.1)]
/-- between Next's two halves -/
def NMid (K0 : Kon) (d f lo : Nat) (all : List UInt8) (D : Nat) (w : World) (Gw ex : Nat → Prop) (st : St2) (wx : World) : Prop :=
  ∃ st1 G1 ex1, Q2 K0 d f lo all D wx G1 ex1 st1 ∧ Q2x K0 d f lo wx G1 ex1 ∧ (∀ i, G1 i ∨ ex1 i → (Gw i ∨ ex i) ∨ w.heap.size ≤ i) ∧ Only (own2 K0 d f Gw ex) w wx ∧ (∀ k, st.tells k = st1.tells k) ∧ st1.wl ≤ st.wl ∧ st1.Gone
theorem npost_trans {st st1 : St2} {G1 ex1 : Nat → Prop} {e : Ending} (hG : ∀ i, G1 i ∨ ex1 i → (Gw i ∨ ex i) ∨ w.heap.size ≤ i) (hO : Only (own2 K0 d f Gw ex) w w1) (ht : ∀ k, st.tells k = st1.tells k) (hw : st1.wl ≤ st.wl) (h : NPost K0 d f lo all D w1 G1 ex1 st1 e w') : NPost K0 d f lo all D w Gw ex st e w' := by
  obtain ⟨st2, v, hq, hc⟩ := h
  refine ⟨st2, v, Q2Post.trans hG hO hq, ?_⟩
  rcases hc with ⟨b, e1, e2, e3⟩ | ⟨e1, e2, e3⟩
  · exact .inl ⟨b, e1, fun k => (ht _).trans (e2 k), by omega⟩
  · exact .inr ⟨e1, fun k => (ht _).trans (e2 k), e3.trans (ht 0).symm⟩

set_option maxRecDepth 100000 in
set_option maxHeartbeats 16000000 in
theorem znext_any {st : St2} (hx : Q2x K0 d f lo w Gw ex) (h : Q2 K0 d f lo all D w Gw ex st) (hw : st.wl ≤ 700000) (hfit : 1 ≤ K0.sz ∧ (D = K0.sz ∨ (st.wl ≤ K0.sz ∧ K0.sz ≤ D))) :
    Calls Tryz.prog 21 #[.pointer (some ⟨d, 0, none⟩)] w (NPost K0 d f lo all D w Gw ex st) := by
  have HW := Lib.hid (And.intro hw hfit)
  cases st with
  | fin r =>
    have H1 := Lib.hid (And.intro hx (And.intro (show ∀ i, Gw i ∨ ex i → (Gw i ∨ ex i) ∨ w.heap.size ≤ i from fun i hi => .inl hi) (And.intro (Only.refl (own2 K0 d f Gw ex) w) (And.intro (show ∀ k, (St2.fin r).tells k = (St2.fin r).tells k from fun _ => rfl) (Nat.le_refl (St2.fin r).wl)))))
    have hq1 := h
    clear hx h hw hfit
    go_enter Tryz.func21, Tryz.ntmps21
    have HQ := Lib.hid hq1
    obtain ⟨s, z, ps, hi, hs1, hs2, hs3⟩ := hq1
    have c9 : w.cell? ⟨d, 9, none⟩ = some (.int .i64 0) := by have := hi.rd.blk.cell 9; exact this.trans (by show some (Value.int .i64 (s.left : Int)) = _; rw [hs3]; rfl)
    have c3 : w.cell? ⟨d, 3, none⟩ = some (.bool true) := by have := hi.rd.blk.cell 3; exact this.trans (by show some (Value.bool s.ended) = _; rw [hs2])
    clear hi hs1 hs2 hs3
    go_wp2_with fail
    go_ret2
    obtain ⟨hx1, hG1, hO1, ht1, hw1⟩ := H1.out
    exact ⟨.fin r, _, ⟨rfl, _, _, HQ.out, hx1, fun i hi => .inl hi, Only.refl _ _⟩, .inr ⟨rfl, fun k => fin_next r k, rfl⟩⟩
  | plain q l =>
    have H1 := Lib.hid (And.intro hx (And.intro (show ∀ i, Gw i ∨ ex i → (Gw i ∨ ex i) ∨ w.heap.size ≤ i from fun i hi => .inl hi) (And.intro (Only.refl (own2 K0 d f Gw ex) w) (And.intro (show ∀ k, (St2.plain q l).tells k = (St2.plain q l).tells k from fun _ => rfl) (Nat.le_refl (St2.plain q l).wl)))))
    have hq1 := h
    clear hx h hw hfit
    go_enter Tryz.func21, Tryz.ntmps21
    obtain ⟨s, hi, hs1, hs2, hs3, hs4, h1, h2, hnd, hset, hq⟩ := hq1
    have c9 : w.cell? ⟨d, 9, none⟩ = some (.int .i64 (l : Int)) := by have := hi.rd.blk.cell 9; exact this.trans (by show some (Value.int .i64 (s.left : Int)) = _; rw [hs3])
    have c10 : w.cell? ⟨d, 10, none⟩ = some (.pointer none) := by have := hi.rd.blk.cell 10; exact this.trans (by show some (pkV s.pk) = _; rw [hs4]; rfl)
    have hl0 : ((l : Int) == 0) = false := by simp; omega
    have KP := Lib.hid (zplain_any H1.out.1 hi hs1 hs2 hs3 hs4 h1 h2 hnd hset hq (Nat.le_trans H1.out.2.2.2.2 HW.out.1))

    clear hi hs1 hs2 hs3 hs4 h1 h2 hnd hset hq
    go_wp2_with fail
    refine KP.out.mono ?_
    rintro e w3 hp
    obtain ⟨st2, v2, ⟨rfl, hq2⟩, hc2⟩ := hp
    have H2 := Lib.hid (And.intro hq2 hc2)
    have hv2 : ∃ a b, v2 = .tuple #[a, b] := by
      rcases hc2 with ⟨b, e1, _⟩ | ⟨e1, _⟩
      · exact ⟨_, _, e1⟩
      · exact ⟨_, _, e1⟩
    obtain ⟨va, vb, rfl⟩ := hv2
    clear hq2 hc2 KP c9 c10
    go_wp2_with fail
    go_ret2
    obtain ⟨hx1, hG1, hO1, ht1, hw1⟩ := H1.out
    exact ⟨st2, _, ⟨rfl, H2.out.1⟩, H2.out.2⟩
  | pack zf tf n l full r =>
    have H1 := Lib.hid (And.intro hx (And.intro (show ∀ i, Gw i ∨ ex i → (Gw i ∨ ex i) ∨ w.heap.size ≤ i from fun i hi => .inl hi) (And.intro (Only.refl (own2 K0 d f Gw ex) w) (And.intro (show ∀ k, (St2.pack zf tf n l full r).tells k = (St2.pack zf tf n l full r).tells k from fun _ => rfl) (Nat.le_refl (St2.pack zf tf n l full r).wl)))))
    have hq1 := h
    clear hx h hw hfit
    go_enter Tryz.func21, Tryz.ntmps21
    have KP := Lib.hid (zpby_any H1.out.1 hq1 (Nat.le_trans H1.out.2.2.2.2 HW.out.1) ⟨HW.out.2.1, HW.out.2.2.imp id (fun e => ⟨Nat.le_trans H1.out.2.2.2.2 e.1, e.2⟩)⟩)
    obtain ⟨K, s, p, a, m, hk, hB, hs1, hs2, hs3, hs4, hs5, hl1, hl2, ha, hS, hbs, hfull, hr, hN, hD, h4, hep, hed, hfp⟩ := hq1
    have c9 : w.cell? ⟨d, 9, none⟩ = some (.int .i64 (l : Int)) := by have := hB.cell 9; exact this.trans (by show some (Value.int .i64 (s.left : Int)) = _; rw [hs4])
    have c10 : w.cell? ⟨d, 10, none⟩ = some (.pointer (some ⟨p, 0, none⟩)) := by have := hB.cell 10; exact this.trans (by show some (pkV s.pk) = _; rw [hs5]; rfl)
    have hl0 : ((l : Int) == 0) = false := by simp; omega

    clear hk hB hs1 hs2 hs3 hs4 hs5 hl1 hl2 ha hS hbs hfull hr hN hD h4 hep hed hfp
    go_wp2_with fail
    refine KP.out.mono ?_
    rintro e w3 hp
    obtain ⟨st2, v2, ⟨rfl, hq2⟩, hc2⟩ := hp
    have H2 := Lib.hid (And.intro hq2 hc2)
    have hv2 : ∃ a b, v2 = .tuple #[a, b] := by
      rcases hc2 with ⟨b, e1, _⟩ | ⟨e1, _⟩
      · exact ⟨_, _, e1⟩
      · exact ⟨_, _, e1⟩
    obtain ⟨va, vb, rfl⟩ := hv2
    clear hq2 hc2 KP c9 c10
    go_wp2_with fail
    go_ret2
    obtain ⟨hx1, hG1, hO1, ht1, hw1⟩ := H1.out
    exact ⟨st2, _, ⟨rfl, H2.out.1⟩, H2.out.2⟩
  | bad =>
    have H1 := Lib.hid (And.intro hx (And.intro (show ∀ i, Gw i ∨ ex i → (Gw i ∨ ex i) ∨ w.heap.size ≤ i from fun i hi => .inl hi) (And.intro (Only.refl (own2 K0 d f Gw ex) w) (And.intro (show ∀ k, (St2.bad).tells k = (St2.bad).tells k from fun _ => rfl) (Nat.le_refl (St2.bad).wl)))))
    have HQ := Lib.hid h
    obtain ⟨s, r, z, ps, hi, hs1, hs3⟩ := h
    have c9 : w.cell? ⟨d, 9, none⟩ = some (.int .i64 0) := by have := hi.rd.blk.cell 9; exact this.trans (by show some (Value.int .i64 (s.left : Int)) = _; rw [hs3]; rfl)
    have c3 : w.cell? ⟨d, 3, none⟩ = some (.bool s.ended) := hi.rd.blk.cell 3
    have KC := Lib.hid (chunk_off hi.rd hs1)
    have HI := Lib.hid (And.intro hi (And.intro hs1 hs3))
    clear hx hw hfit hi hs1 hs3
    cases he : s.ended with
    | true =>
      rw [he] at c3
      clear he KC
      go_enter Tryz.func21, Tryz.ntmps21
      go_wp2_with fail
      go_ret2
      obtain ⟨hx1, hG1, hO1, ht1, hw1⟩ := H1.out
      exact ⟨.bad, _, ⟨rfl, Gw, ex, HQ.out, hx1, fun i hi => .inl hi, Only.refl _ _⟩, .inr ⟨rfl, fun _ => rfl, rfl⟩⟩
    | false =>
      rw [he] at c3
      clear he
      go_enter Tryz.func21, Tryz.ntmps21
      go_wp2_with fail
      refine KC.out.mono ?_
      rintro e w1 ⟨rfl, hR1, hO1⟩
      have HR := Lib.hid (And.intro hR1 hO1)
      have c9 : w1.cell? ⟨d, 9, none⟩ = some (.int .i64 0) := by have := hR1.blk.cell 9; exact this.trans (by show some (Value.int .i64 (s.left : Int)) = _; rw [HI.out.2.2]; rfl)
      clear hR1 hO1 KC
      go_wp2_with fail
      go_ret2
      obtain ⟨hx1, _⟩ := H1.out
      exact ⟨.bad, _, ⟨rfl, Gw, fun _ => False, ⟨s, r, z, ps, HI.out.1.read hx1 HR.out.1 HR.out.2, HI.out.2.1, HI.out.2.2⟩, hx1.turn (fun i hi => .inl hi) (fun i hi => hi.elim) HR.out.2 (df0 hx1), fun i hi => .inl (hi.elim .inl (fun e => e.elim)), HR.out.2.mono (own_df K0 d f Gw ex)⟩, .inr ⟨rfl, fun _ => rfl, rfl⟩⟩
  | rest q =>
    obtain ⟨s, hi, hs1, hs2, hs3, hset, hq⟩ := h
    have c9 : w.cell? ⟨d, 9, none⟩ = some (.int .i64 0) := by have := hi.rd.blk.cell 9; exact this.trans (by show some (Value.int .i64 (s.left : Int)) = _; rw [hs3]; rfl)
    have c3 : w.cell? ⟨d, 3, none⟩ = some (.bool false) := by have := hi.rd.blk.cell 3; exact this.trans (by show some (Value.bool s.ended) = _; rw [hs2])
    have KC := Lib.hid (zchunk_any hx hi hs1 hs2 hs3 hset hq hw)
    clear hx hw hfit hi hs1 hs2 hs3 hset hq
    go_enter Tryz.func21, Tryz.ntmps21
    go_wp2_with fail
    refine KC.out.mono ?_
    rintro e w2 ⟨st1, ⟨rfl, G1, ex1, hq1, hx1, hG1, hO1⟩, ht1, hw1, hg1⟩
    have H1 := Lib.hid (And.intro hx1 (And.intro hG1 (And.intro hO1 (And.intro ht1 hw1))))
    clear hx1 hG1 hO1 ht1 hw1 KC c9 c3
    cases st1 with
    | rest q => exact hg1.elim
    | bad =>
      clear hg1
      have HQ := Lib.hid hq1
      obtain ⟨s, r, z, ps, hi, hs1, hs3⟩ := hq1
      have c9 : w2.cell? ⟨d, 9, none⟩ = some (.int .i64 0) := by have := hi.rd.blk.cell 9; exact this.trans (by show some (Value.int .i64 (s.left : Int)) = _; rw [hs3]; rfl)
      clear hi hs1 hs3
      go_wp2_with fail
      go_ret2
      obtain ⟨hx1, hG1, hO1, ht1, hw1⟩ := H1.out
      exact npost_trans hG1 hO1 ht1 hw1 ⟨.bad, _, ⟨rfl, _, _, HQ.out, hx1, fun i hi => .inl hi, Only.refl _ _⟩, .inr ⟨rfl, fun _ => rfl, rfl⟩⟩
    | fin r =>
      clear hg1
      have HQ := Lib.hid hq1
      obtain ⟨s, z, ps, hi, hs1, hs2, hs3⟩ := hq1
      have c9 : w2.cell? ⟨d, 9, none⟩ = some (.int .i64 0) := by have := hi.rd.blk.cell 9; exact this.trans (by show some (Value.int .i64 (s.left : Int)) = _; rw [hs3]; rfl)
      have c3 : w2.cell? ⟨d, 3, none⟩ = some (.bool true) := by have := hi.rd.blk.cell 3; exact this.trans (by show some (Value.bool s.ended) = _; rw [hs2])
      clear hi hs1 hs2 hs3
      go_wp2_with fail
      go_ret2
      obtain ⟨hx1, hG1, hO1, ht1, hw1⟩ := H1.out
      exact npost_trans hG1 hO1 ht1 hw1 ⟨.fin r, _, ⟨rfl, _, _, HQ.out, hx1, fun i hi => .inl hi, Only.refl _ _⟩, .inr ⟨rfl, fun k => fin_next r k, rfl⟩⟩
    | plain q l =>
      clear hg1
      obtain ⟨s, hi, hs1, hs2, hs3, hs4, h1, h2, hnd, hset, hq⟩ := hq1
      have c9 : w2.cell? ⟨d, 9, none⟩ = some (.int .i64 (l : Int)) := by have := hi.rd.blk.cell 9; exact this.trans (by show some (Value.int .i64 (s.left : Int)) = _; rw [hs3])
      have c10 : w2.cell? ⟨d, 10, none⟩ = some (.pointer none) := by have := hi.rd.blk.cell 10; exact this.trans (by show some (pkV s.pk) = _; rw [hs4]; rfl)
      have hl0 : ((l : Int) == 0) = false := by simp; omega
      have KP := Lib.hid (zplain_any H1.out.1 hi hs1 hs2 hs3 hs4 h1 h2 hnd hset hq (Nat.le_trans H1.out.2.2.2.2 HW.out.1))

      clear hi hs1 hs2 hs3 hs4 h1 h2 hnd hset hq
      go_wp2_with fail
      refine KP.out.mono ?_
      rintro e w3 hp
      obtain ⟨st2, v2, ⟨rfl, hq2⟩, hc2⟩ := hp
      have H2 := Lib.hid (And.intro hq2 hc2)
      have hv2 : ∃ a b, v2 = .tuple #[a, b] := by
        rcases hc2 with ⟨b, e1, _⟩ | ⟨e1, _⟩
        · exact ⟨_, _, e1⟩
        · exact ⟨_, _, e1⟩
      obtain ⟨va, vb, rfl⟩ := hv2
      clear hq2 hc2 KP c9 c10
      go_wp2_with fail
      go_ret2
      obtain ⟨hx1, hG1, hO1, ht1, hw1⟩ := H1.out
      exact npost_trans hG1 hO1 ht1 hw1 ⟨st2, _, ⟨rfl, H2.out.1⟩, H2.out.2⟩
    | pack zf tf n l full r =>
      clear hg1
      have KP := Lib.hid (zpby_any H1.out.1 hq1 (Nat.le_trans H1.out.2.2.2.2 HW.out.1) ⟨HW.out.2.1, HW.out.2.2.imp id (fun e => ⟨Nat.le_trans H1.out.2.2.2.2 e.1, e.2⟩)⟩)
      obtain ⟨K, s, p, a, m, hk, hB, hs1, hs2, hs3, hs4, hs5, hl1, hl2, ha, hS, hbs, hfull, hr, hN, hD, h4, hep, hed, hfp⟩ := hq1
      have c9 : w2.cell? ⟨d, 9, none⟩ = some (.int .i64 (l : Int)) := by have := hB.cell 9; exact this.trans (by show some (Value.int .i64 (s.left : Int)) = _; rw [hs4])
      have c10 : w2.cell? ⟨d, 10, none⟩ = some (.pointer (some ⟨p, 0, none⟩)) := by have := hB.cell 10; exact this.trans (by show some (pkV s.pk) = _; rw [hs5]; rfl)
      have hl0 : ((l : Int) == 0) = false := by simp; omega

      clear hk hB hs1 hs2 hs3 hs4 hs5 hl1 hl2 ha hS hbs hfull hr hN hD h4 hep hed hfp
      go_wp2_with fail
      refine KP.out.mono ?_
      rintro e w3 hp
      obtain ⟨st2, v2, ⟨rfl, hq2⟩, hc2⟩ := hp
      have H2 := Lib.hid (And.intro hq2 hc2)
      have hv2 : ∃ a b, v2 = .tuple #[a, b] := by
        rcases hc2 with ⟨b, e1, _⟩ | ⟨e1, _⟩
        · exact ⟨_, _, e1⟩
        · exact ⟨_, _, e1⟩
      obtain ⟨va, vb, rfl⟩ := hv2
      clear hq2 hc2 KP c9 c10
      go_wp2_with fail
      go_ret2
      obtain ⟨hx1, hG1, hO1, ht1, hw1⟩ := H1.out
      exact npost_trans hG1 hO1 ht1 hw1 ⟨st2, _, ⟨rfl, H2.out.1⟩, H2.out.2⟩
end
end Go.Proofs.YtoencondpbkomaaGreatDoor

/-
  The decoder of LZMA2: Next, Finish, Begin.
-/
namespace Go.Proofs.YtoencondpbkomaaGreatDoor
open Go.RowKit

section
variable {K : Kon} {d g f lo : Nat} {bs : List UInt8} {fs : List Value} {ps : List Nat} {w w' w1 : World} {Gw G1 : Nat → Prop} {q q' : Lq} {v : Value} {e : Ending}

/-- behind Finish: no source, nothing left -/
structure Dead2 (q q' : Lq) : Prop where
  o : q'.o = q.o
  src : q'.s.src = false
  left : q'.s.left = 0
  pk : q'.s.pk = none
  closed : q'.s.closed = q.s.closed
def EndPost (w : World) (d g f lo : Nat) (bs : List UInt8) (q : Lq) (b : Bool) (e : Ending) (w' : World) : Prop :=
  e = .returned (.bool b) ∧ ∃ q', Rdr w' d g f lo bs q' ∧ q'.o = q.o ∧ q'.s.closed = q.s.closed ∧ Only (fun i => i = d ∨ i = f) w w'
theorem rd_closed (q : Lq) : q.rd.s.closed = q.s.closed := by
  unfold Lq.rd
  split
  · split <;> rfl
  · rfl

/-- the source has more, or not -/
def MorePost (w : World) (d g f lo : Nat) (bs : List UInt8) (q : Lq) (e : Ending) (w' : World) : Prop :=
  ∃ b : UInt8, e = .returned (.tuple #[.int .u8 (b.toNat : Int), .bool (!q.r.isEmpty)]) ∧ ∃ q', Rdr w' d g f lo bs q' ∧ q'.o = q.o ∧ q'.s.closed = q.s.closed ∧ Only (fun i => i = d ∨ i = f) w w'
theorem qmore_any (h : Rdr w d g f lo bs q) (hs : q.s.src = true) : Calls Tryz.prog 222 #[.pointer (some ⟨f, 0, none⟩)] w (MorePost w d g f lo bs q) := by
  obtain ⟨at_, hF, hr⟩ := h.feed hs
  have hdf : d < f := Nat.lt_of_lt_of_le h.df h.ff
  by_cases hlt : at_ < bs.length
  · refine (feed_more hF hlt).mono ?_
    rintro e w1 ⟨rfl, hF1, hg1⟩
    have hne : q.r.isEmpty = false := by rw [hr]; simp; omega
    refine ⟨bs.getD at_ 0, by rw [hne]; rfl, { q with r := bs.drop (at_ + 1) }, ⟨h.blk.grown hg1 (fun e => by injection e with e; omega), fun _ => ⟨_, hF1, rfl⟩, h.df, h.ff, h.nd⟩, rfl, rfl, (Only.of_grown (S := fun i => i = f) hg1 rfl).mono fun i hi => .inr hi⟩
  · have := hF.le
    obtain rfl : at_ = bs.length := by omega
    refine (feed_end hF).mono ?_
    rintro e w1 ⟨rfl, n, rfl⟩
    have hne : q.r.isEmpty = true := by rw [hr]; simp
    exact ⟨0, by rw [hne]; rfl, q, h.only ((Only.refl (fun _ => False) w).drewN n) (fun hh => hh) (fun i hi => hi.elim), rfl, rfl, (Only.refl _ w).drewN n⟩

theorem ends_left {q : Lq} (h : q.s.left ≠ 0) : q.ends = false := by unfold Lq.ends; simp [h]
theorem ends_bad {q : Lq} (h : q.at_.s.src = false) : q.ends = false := by unfold Lq.ends; simp [h]
theorem ends_last {q : Lq} (h : q.last ≠ 0) : q.ends = false := by unfold Lq.ends; simp [h]
theorem ends_is {q : Lq} (h : q.s.left = 0) (hs : q.at_.s.src = true) (hl : q.last = 0) : q.ends = q.at_.r.isEmpty := by unfold Lq.ends; simp [h, hs, hl]
theorem at_off {q : Lq} (he : q.s.ended = false) : q.at_ = q.rd := by unfold Lq.at_; rw [if_neg (by simp [he])]
theorem at_on {q : Lq} (he : q.s.ended = true) : q.at_ = q := by unfold Lq.at_; rw [if_pos he]
theorem last_off {q : Lq} (he : q.s.ended = false) : q.last = q.b := by unfold Lq.last; rw [if_neg (by simp [he])]
theorem last_on {q : Lq} (he : q.s.ended = true) : q.last = 0 := by unfold Lq.last; rw [if_pos he]

set_option maxRecDepth 100000 in
set_option maxHeartbeats 4000000 in
/-- whether the stream ends -/
theorem qends_any (h : Rdr w d g f lo bs q) :
    Calls Tryz.prog 45 #[.pointer (some ⟨d, 0, none⟩)] w (EndPost w d g f lo bs q q.ends) := by
  have c9 : w.cell? ⟨d, 9, none⟩ = some (.int .i64 (q.s.left : Int)) := h.blk.cell 9
  have c3 : w.cell? ⟨d, 3, none⟩ = some (.bool q.s.ended) := h.blk.cell 3
  by_cases h0 : q.s.left = 0
  · have hgt : ¬ ((q.s.left : Int) > 0) := by omega
    rw [h0] at c9
    change w.cell? ⟨d, 9, none⟩ = some (.int .i64 0) at c9
    have HZ := Lib.hid h0
    cases he : q.s.ended with
    | true =>
      rw [he] at c3
      have KB := Lib.hid (qbad_any h.blk)
      have HE := Lib.hid (And.intro (at_on he) (last_on he))
      have HH := Lib.hid h
      clear he hgt h0
      cases hs : q.s.src with
      | false =>
        rw [hs] at KB
        have hend := ends_bad (q := q) (by rw [HE.out.1]; exact hs)
        rw [hend]
        clear hend hs h
        go_enter Tryz.func45, Tryz.ntmps45
        go_wp2_with fail
        refine KB.out.mono ?_
        rintro e w1 ⟨rfl, rfl⟩
        clear KB
        go_wp2_with fail
        go_ret
        exact ⟨rfl, q, HH.out, rfl, rfl, Only.refl _ _⟩
      | true =>
        rw [hs] at KB
        have hend := ends_is HZ.out (by rw [HE.out.1]; exact hs) HE.out.2
        rw [HE.out.1] at hend
        have KM := Lib.hid (qmore_any h hs)
        have c2 : w.cell? ⟨d, 2, none⟩ = some (srcV f q.s.src) := h.blk.cell 2
        rw [hs] at c2
        change w.cell? ⟨d, 2, none⟩ = some (.iface 52 (.pointer (some ⟨f, 0, none⟩))) at c2
        have hm := feed_method
        have HEND := Lib.hid hend
        clear hend hs h
        go_enter Tryz.func45, Tryz.ntmps45
        go_wp2_with fail
        refine KB.out.mono ?_
        rintro e w1 ⟨rfl, rfl⟩
        clear KB
        cases hy : q.r.isEmpty with
        | false =>
          go_wp2_with fail
          refine KM.out.mono ?_
          rintro e w3 ⟨b, he, q3, hR3, ho3, hc3, hO3⟩
          rw [hy] at he
          subst he
          have HR3 := Lib.hid (And.intro hR3 (And.intro ho3 (And.intro hc3 hO3)))
          clear hR3 ho3 hc3 hO3 KM
          go_wp2_with fail
          go_ret
          rw [HEND.out, hy]
          exact ⟨rfl, q3, HR3.out.1, HR3.out.2.1, HR3.out.2.2.1, HR3.out.2.2.2⟩
        | true =>
          go_wp2_with fail
          refine KM.out.mono ?_
          rintro e w3 ⟨b, he, q3, hR3, ho3, hc3, hO3⟩
          rw [hy] at he
          subst he
          have HR3 := Lib.hid (And.intro hR3 (And.intro ho3 (And.intro hc3 hO3)))
          clear hR3 ho3 hc3 hO3 KM
          go_wp2_with fail
          go_ret
          rw [HEND.out, hy]
          exact ⟨rfl, q3, HR3.out.1, HR3.out.2.1, HR3.out.2.2.1, HR3.out.2.2.2⟩
    | false =>
      rw [he] at c3
      have KR := Lib.hid (qread_any h)
      have HE := Lib.hid (And.intro (at_off he) (last_off he))
      clear he hgt h0 h
      go_enter Tryz.func45, Tryz.ntmps45
      go_wp2_with fail
      refine KR.out.mono ?_
      rintro e w1 ⟨rfl, hR1, hO1⟩
      have KB := qbad_any hR1.blk
      have HR := Lib.hid (And.intro hR1 hO1)
      have hqo : q.rd.o = q.o := rd_o q
      have hqc : q.rd.s.closed = q.s.closed := rd_closed q
      obtain ⟨q1, hq1⟩ : ∃ q1, q1 = q.rd := ⟨_, rfl⟩
      obtain ⟨x, hx⟩ : ∃ x, x = q.b := ⟨_, rfl⟩
      have HQ := Lib.hid (And.intro hq1 (And.intro hx (And.intro (hq1 ▸ hqo) (hq1 ▸ hqc))))
      rw [← hq1] at KB HR
      rw [← hx]
      have KB := Lib.hid KB
      clear hR1 hO1 KR hq1 hx hqo hqc c3 c9
      go_wp2_with fail
      refine KB.out.mono ?_
      rintro e w2 ⟨rfl, rfl⟩
      clear KB
      cases hs : q1.s.src with
      | false =>
        have HEND := Lib.hid (ends_bad (q := q) (by rw [HE.out.1, ← HQ.out.1]; exact hs))
        go_wp2_with fail
        go_ret
        rw [HEND.out]
        exact ⟨rfl, q1, HR.out.1, HQ.out.2.2.1, HQ.out.2.2.2, HR.out.2⟩
      | true =>
        by_cases h0 : x = 0
        · have HEND := Lib.hid (show q.ends = q1.r.isEmpty by rw [ends_is HZ.out (by rw [HE.out.1, ← HQ.out.1]; exact hs) (by rw [HE.out.2, ← HQ.out.2.1]; exact h0), HE.out.1, ← HQ.out.1])
          have KM := Lib.hid (qmore_any HR.out.1 hs)
          have c2 : w1.cell? ⟨d, 2, none⟩ = some (srcV f q1.s.src) := HR.out.1.blk.cell 2
          rw [hs] at c2
          change w1.cell? ⟨d, 2, none⟩ = some (.iface 52 (.pointer (some ⟨f, 0, none⟩))) at c2
          have hm := feed_method
          subst h0
          cases hy : q1.r.isEmpty with
          | false =>
            go_wp2_with fail
            refine KM.out.mono ?_
            rintro e w3 ⟨b, he, q3, hR3, ho3, hc3, hO3⟩
            rw [hy] at he
            subst he
            have HR3 := Lib.hid (And.intro hR3 (And.intro ho3 (And.intro hc3 hO3)))
            clear hR3 ho3 hc3 hO3 KM
            go_wp2_with fail
            go_ret
            rw [HEND.out, hy]
            exact ⟨rfl, q3, HR3.out.1, HR3.out.2.1.trans HQ.out.2.2.1, HR3.out.2.2.1.trans HQ.out.2.2.2, HR.out.2.trans HR3.out.2.2.2⟩
          | true =>
            go_wp2_with fail
            refine KM.out.mono ?_
            rintro e w3 ⟨b, he, q3, hR3, ho3, hc3, hO3⟩
            rw [hy] at he
            subst he
            have HR3 := Lib.hid (And.intro hR3 (And.intro ho3 (And.intro hc3 hO3)))
            clear hR3 ho3 hc3 hO3 KM
            go_wp2_with fail
            go_ret
            rw [HEND.out, hy]
            exact ⟨rfl, q3, HR3.out.1, HR3.out.2.1.trans HQ.out.2.2.1, HR3.out.2.2.1.trans HQ.out.2.2.2, HR.out.2.trans HR3.out.2.2.2⟩
        · have HEND := Lib.hid (ends_last (q := q) (by rw [HE.out.2, ← HQ.out.2.1]; exact h0))
          have hx0 : ((x.toNat : Int) != 0) = true := by
            have : x.toNat ≠ 0 := fun e => h0 (UInt8.toNat_inj.1 (by simpa using e))
            simp; omega
          clear h0
          go_wp2_with fail
          go_ret
          rw [HEND.out]
          exact ⟨rfl, q1, HR.out.1, HQ.out.2.2.1, HQ.out.2.2.2, HR.out.2⟩
  · have hgt : (q.s.left : Int) > 0 := by omega
    rw [ends_left h0]
    have HH := Lib.hid h
    clear h h0
    go_enter Tryz.func45, Tryz.ntmps45
    go_wp2_with fail
    go_ret
    exact ⟨rfl, q, HH.out, rfl, rfl, Only.refl _ _⟩

def FinPost (w : World) (d g f lo : Nat) (bs : List UInt8) (q : Lq) (e : Ending) (w' : World) : Prop :=
  e = .returned (.bool q.ends) ∧ ∃ q', Rdr w' d g f lo bs q' ∧ Dead2 q q' ∧ Only (fun i => i = d ∨ i = f) w w'
set_option maxRecDepth 100000 in
set_option maxHeartbeats 1000000 in
theorem qfinish_any (h : Rdr w d g f lo bs q) :
    Calls Tryz.prog 22 #[.pointer (some ⟨d, 0, none⟩)] w (FinPost w d g f lo bs q) := by
  have KE := Lib.hid (qends_any h)
  clear h
  go_enter Tryz.func22, Tryz.ntmps22
  go_wp2_with fail
  refine KE.out.mono ?_
  rintro e w1 ⟨rfl, q1, hR1, ho1, hc1, hO1⟩
  have KF := Lib.hid (qfail_any hR1.blk)
  have HR := Lib.hid (And.intro hR1 (And.intro ho1 (And.intro hc1 hO1)))
  clear hR1 ho1 hc1 hO1 KE
  go_wp2_with fail
  refine KF.out.mono ?_
  rintro e w2 ⟨rfl, hB2, hO2⟩
  have HF := Lib.hid (And.intro (rdr_failed HR.out.1 hB2) (HR.out.2.2.2.trans (hO2.mono fun i hi => .inl hi)))
  clear hB2 hO2 KF
  go_wp2_with fail
  go_ret
  exact ⟨rfl, q1.fail, HF.out.1, ⟨HR.out.2.1, rfl, rfl, rfl, HR.out.2.2.1⟩, HF.out.2⟩
/-- a new stream begins -/
def Lq.begun (q : Lq) (b : List UInt8) : Lq := { q with s := { q.s with src := true, ended := false, nd := 7, left := 0 }, r := b }
set_option maxRecDepth 100000 in
set_option maxHeartbeats 1000000 in
theorem qbegin_any {s : Ds} {o : List UInt8} (hB : Blk w d 105 (d2Cells g f s)) (hF : Feed w f lo bs 0) (hc : s.closed = false) (hd : d < lo) :
    Calls Tryz.prog 19 #[.pointer (some ⟨d, 0, none⟩), .iface 52 (.pointer (some ⟨f, 0, none⟩))] w fun e w' => e = .returned (.tuple #[]) ∧ Rdr w' d g f lo bs ((⟨s, [], o⟩ : Lq).begun bs) ∧ Only (fun i => i = d) w w' := by
  have c1 : w.cell? ⟨d, 1, none⟩ = some (.bool s.closed) := hB.cell 1
  have c2 : w.cell? ⟨d, 2, none⟩ = some (srcV f s.src) := hB.cell 2
  have c3 : w.cell? ⟨d, 3, none⟩ = some (.bool s.ended) := hB.cell 3
  have c4 : w.cell? ⟨d, 4, none⟩ = some (.int .u8 (s.nd : Int)) := hB.cell 4
  have c9 : w.cell? ⟨d, 9, none⟩ = some (.int .i64 (s.left : Int)) := hB.cell 9
  rw [hc] at c1
  have z2 := hB.free 2
  have z3 := hB.free 3
  have z4 := hB.free 4
  have z9 := hB.free 9
  have hO := ((((Only.refl (fun i => i = d) w).setCell (p := ⟨d, 2, none⟩) (.inl rfl) (.iface 52 (.pointer (some ⟨f, 0, none⟩)))).setCell (p := ⟨d, 3, none⟩) (.inl rfl) (.bool false)).setCell (p := ⟨d, 4, none⟩) (.inl rfl) (.int .u8 7)).setCell (p := ⟨d, 9, none⟩) (.inl rfl) (.int .i64 0)
  have hB4 := (((hB.put 2 (.iface 52 (.pointer (some ⟨f, 0, none⟩)))).put 3 (.bool false)).put 4 (.int .u8 7)).put 9 (.int .i64 0)
  have hF4 := hF.only hO (fun i hi => .inl (by omega))
  have HE := Lib.hid (And.intro (show Rdr _ d g f lo bs ((⟨s, [], o⟩ : Lq).begun bs) from ⟨hB4, fun _ => ⟨0, hF4, rfl⟩, hd, hF.lo, (by show 7 < 256; omega)⟩) hO)
  clear hB hF hd hO hB4 hF4 hc
  go_enter Tryz.func19, Tryz.ntmps19
  go_wp2_with fail
  first | go_end0 | refine bodyPost_ret (results_none rfl _ _ _) rfl ?_
  exact ⟨rfl, HE.out.1, HE.out.2⟩
end
end Go.Proofs.YtoencondpbkomaaGreatDoor

/-
  The property of LZMA2.
-/
namespace Go.Proofs.YtoencondpbkomaaGreatDoor
open Go.RowKit

def dictN (p : Nat) : Nat := if p > 40 then 0 else if p = 40 then 4294967295 else (2 + p % 2) * 2 ^ (p / 2 + 11)
def dictC (p : Nat) : Int := if p > 40 then 11 else 0
theorem dict_all : ∀ p : Fin 41, 4096 ≤ dictN p.val ∧ dictN p.val < 4294967296 ∧ (p.val < 40 → dictN (p.val) < dictN (p.val + 1)) := by decide +kernel
theorem dict_le {p : Nat} (h : p ≤ 40) : 4096 ≤ dictN p ∧ dictN p < 4294967296 := ⟨(dict_all ⟨p, by omega⟩).1, (dict_all ⟨p, by omega⟩).2.1⟩

set_option maxRecDepth 100000 in
set_option maxHeartbeats 1000000 in
theorem qdict_any {p : Nat} (hp : p < 256) (w : World) :
    Calls Tryz.prog 37 #[.int .u8 (p : Int)] w fun e w' => e = .returned (.tuple #[.int .i64 (dictN p : Int), .int .i64 (dictC p)]) ∧ w = w' := by
  unfold dictN dictC
  by_cases h1 : p > 40
  · have c1 : (p : Int) > 40 := by omega
    rw [if_pos h1, if_pos h1]
    clear h1
    go_enter Tryz.func37, Tryz.ntmps37
    go_wp2_with fail
    go_ret2
    exact ⟨rfl, rfl⟩
  · have c1 : ¬ (p : Int) > 40 := by omega
    rw [if_neg h1, if_neg h1]
    by_cases h2 : p = 40
    · subst h2
      rw [if_pos rfl]
      clear h1 c1
      go_enter Tryz.func37, Tryz.ntmps37
      go_wp2_with fail
      go_ret2
      exact ⟨rfl, rfl⟩
    · rw [if_neg h2]
      have c2 : ((p : Int) == 40) = false := by simp; omega
      have hb : (2 : Nat) ^ (p / 2 + 11) ≤ 2 ^ 31 := Nat.pow_le_pow_right (by decide) (by omega)
      have hc : ((2 : Int) ^ (p / 2 + 11)) = ((2 ^ (p / 2 + 11) : Nat) : Int) := by simp
      have hx : (2 + (p : Int) % 2) * 2 ^ (p / 2 + 11) = (((2 + p % 2) * 2 ^ (p / 2 + 11) : Nat) : Int) := by rw [hc]; simp
      have hs : (2 + p % 2) * 2 ^ (p / 2 + 11) ≤ 3 * 2 ^ 31 := Nat.mul_le_mul (by omega) hb
      have e1 : wrap64 ((2 + (p : Int) % 2) * 2 ^ (p / 2 + 11)) = (2 + (p : Int) % 2) * 2 ^ (p / 2 + 11) := by
        refine IntWalk.wrap64_in _ ?_
        rw [hx]
        omega
      clear hx hs hb hc
      go_enter Tryz.func37, Tryz.ntmps37
      go_wp2_with fail
      go_ret2
      exact ⟨by simp, rfl⟩

/-- the least property whose dictionary is great enough, or none -/
def IsProp (dict : Int) (r : Nat) (c : Int) : Prop := (c = 0 ∧ r ≤ 40 ∧ dict ≤ (dictN r : Int) ∧ ∀ j, j < r → (dictN j : Int) < dict) ∨ (c = 11 ∧ r = 0 ∧ ∀ j, j ≤ 40 → (dictN j : Int) < dict)
def PropPost (dict : Int) (w : World) (e : Ending) (w' : World) : Prop := ∃ r c, e = .returned (.tuple #[.int .u8 ((r : Nat) : Int), .int .i64 c]) ∧ IsProp dict r c ∧ Below w.heap.size w w'

end Go.Proofs.YtoencondpbkomaaGreatDoor

/-
  The property of LZMA2: the reference.
-/
namespace Go.Proofs.YtoencondpbkomaaGreatDoor
open Go.RowKit

end Go.Proofs.YtoencondpbkomaaGreatDoor


