/-
  LqNext: put together.
-/
import Derived.Test.YtdhhibfppcpieaaGreatDoorR17
set_option linter.unusedVariables false
set_option linter.unusedSimpArgs false
/-
  The decoder of LZMA2: the next byte, where no packed chunk comes.
-/
namespace Go.Proofs.YtdhhibfppcpieaaGreatDoor
open Go.RowKit

/-- The decoder, whole: its own fields and source, the decoder of packets with its window. -/
structure L2 (K : Kon) (d f lo : Nat) (bs : List UInt8) (fs : List Value) (ps : List Nat) (w : World) (Gw : Nat → Prop) (q : Lq) : Prop where
  rd : Rdr w d K.g f lo bs q
  rz : Rz K w Gw q.o fs ps
  gl : K.g < lo
  ll : K.lb < lo
  ml : K.m < lo
  dg : d ≠ K.g ∧ d ≠ K.lb ∧ d ≠ K.m
  wd : ∀ i, Gw i → i ≠ d ∧ (i < lo ∨ f < i)
  fo : f < w.heap.size ∨ ∀ i, Gw i → i < lo
/-- what Next answers -/
def toldV : Option UInt8 → Value
  | none => .tuple #[.int .u8 0, .bool false]
  | some b => .tuple #[.int .u8 (b.toNat : Int), .bool true]
def qOwn (K : Kon) (d f : Nat) (Gw : Nat → Prop) : Nat → Prop := fun i => i = d ∨ i = f ∨ i = K.g ∨ Gw i
def QPost (K : Kon) (d f lo : Nat) (bs : List UInt8) (fs : List Value) (ps : List Nat) (w : World) (Gw : Nat → Prop) (v : Value) (q : Lq) (e : Ending) (w' : World) : Prop :=
  e = .returned v ∧ ∃ Gw', L2 K d f lo bs fs ps w' Gw' q ∧ (∀ i, Gw' i → Gw i ∨ w.heap.size ≤ i) ∧ Only (qOwn K d f Gw) w w'

section
variable {K : Kon} {d g f lo : Nat} {bs : List UInt8} {fs : List Value} {ps : List Nat} {w w' w1 : World} {Gw G1 : Nat → Prop} {q q' : Lq} {v : Value} {e : Ending}

/-- a call that turns the decoder's own fields and its source -/
theorem L2.read (h : L2 K d f lo bs fs ps w Gw q) (hR : Rdr w' d K.g f lo bs q') (hO : Only (fun i => i = d ∨ i = f) w w') (ho : q'.o = q.o) : L2 K d f lo bs fs ps w' Gw q' := by
  have hlo := h.rd.ff
  have hdl := h.rd.df
  refine ⟨hR, ?_, h.gl, h.ll, h.ml, h.dg, h.wd, h.fo.imp (fun hh => Nat.lt_of_lt_of_le hh hO.size) id⟩
  rw [ho]
  refine h.rz.only hO ?_ ?_ (fun i hi => ?_)
  · have := h.gl; have := h.dg.1
    rintro (e | e) <;> omega
  · have := h.ll; have := h.dg.2.1
    rintro (e | e) <;> omega
  · have := h.wd i hi
    rintro (e | e) <;> omega
theorem L2.fall (h : L2 K d f lo bs fs ps w Gw q) (hR : Rdr w' d K.g f lo bs q') (hO : Only (fun i => i = d ∨ i = f) w w') (ho : q'.o = q.o) (v : Value) : QPost K d f lo bs fs ps w Gw v q' (.returned v) w' :=
  ⟨rfl, Gw, h.read hR hO ho, fun i hi => .inl hi, hO.mono fun i hi => hi.elim .inl (fun hh => .inr (.inl hh))⟩
/-- a call of the decoder of packets -/
theorem L2.turn (h : L2 K d f lo bs fs ps w Gw q) {o : List UInt8} (hp : RzPost K w Gw o fs ps e w') (hfo : f < w.heap.size) : e = .returned (.tuple #[]) ∧ ∃ Gw', L2 K d f lo bs fs ps w' Gw' { q with o := o } ∧ (∀ i, Gw' i → Gw i ∨ w.heap.size ≤ i) ∧ Only (qOwn K d f Gw) w w' := by
  obtain ⟨he, G1, hz, hG, hO⟩ := hp
  have hlo := h.rd.ff
  have hdl := h.rd.df
  have hds : d < w.heap.size := h.rd.blk.lt
  have hns : ∀ i, (i = K.g ∨ Gw i) → i < lo ∨ f < i := by
    rintro i (rfl | hi)
    · exact .inl h.gl
    · exact (h.wd i hi).2
  refine ⟨he, G1, ⟨(show Rdr w d K.g f lo bs { q with o := o } from ⟨h.rd.blk, h.rd.feed, hdl, hlo, h.rd.nd⟩).only hO ?_ hns, hz, h.gl, h.ll, h.ml, h.dg, fun i hi => ?_, .inl (Nat.lt_of_lt_of_le hfo hO.size)⟩, hG, hO.mono fun i hi => .inr (.inr hi)⟩
  · rintro (e | e)
    · exact h.dg.1 e
    · exact (h.wd _ e).1 rfl
  · rcases hG i hi with hh | hh
    · exact h.wd i hh
    · exact ⟨by omega, .inr (by omega)⟩
theorem QPost.trans (hG : ∀ i, G1 i → Gw i ∨ w.heap.size ≤ i) (hO : Only (qOwn K d f Gw) w w1) (hp : QPost K d f lo bs fs ps w1 G1 v q e w') : QPost K d f lo bs fs ps w Gw v q e w' := by
  obtain ⟨he, G2, hL, hG2, hO2⟩ := hp
  have hs : w.heap.size ≤ w1.heap.size := hO.size
  refine ⟨he, G2, hL, fun i hi => ?_, hO.trans' hO2 (fun i hi => ?_)⟩
  · rcases hG2 i hi with h | h
    · exact hG i h
    · exact .inr (by omega)
  · rcases hi with hi | hi | hi | hi
    · exact .inl (.inl hi)
    · exact .inl (.inr (.inl hi))
    · exact .inl (.inr (.inr (.inl hi)))
    · rcases hG i hi with h | h
      · exact .inl (.inr (.inr (.inr h)))
      · exact .inr h

set_option maxRecDepth 100000 in
set_option maxHeartbeats 1000000 in
/-- a plain chunk begins -/
theorem qplain_any (h : Rdr w d g f lo bs q) :
    Calls Tryz.prog 72 #[.pointer (some ⟨d, 0, none⟩)] w (RdrPost w d g f lo bs (.tuple #[]) q.plain) := by
  have KC := Lib.hid (qcount_any h)
  clear h
  go_enter Tryz.func72, Tryz.ntmps72
  go_wp2_with fail
  refine KC.out.mono ?_
  rintro e w1 ⟨rfl, hR1, hO1⟩
  have KB := Lib.hid (qbad_any hR1.blk)
  have HR := Lib.hid (And.intro hR1 hO1)
  obtain ⟨q2, hq2⟩ : ∃ q2, q2 = q.two := ⟨_, rfl⟩
  obtain ⟨n, hn⟩ : ∃ n, n = q.count := ⟨_, rfl⟩
  have HQ := Lib.hid (show q.plain = q2.start n by rw [hq2, hn]; rfl)
  rw [← hq2] at HR KB
  rw [← hn]
  clear hR1 hO1 KC hq2 hn
  go_wp2_with fail
  refine KB.out.mono ?_
  rintro e w2 ⟨rfl, rfl⟩
  clear KB
  cases hs : q2.s.src with
  | false =>
    go_wp2_with fail
    first | go_end0 | refine bodyPost_ret (results_none rfl _ _ _) rfl ?_
    rw [HQ.out, start_off hs]
    exact ⟨rfl, HR.out.1, HR.out.2⟩
  | true =>
    have c9 : w1.cell? ⟨d, 9, none⟩ = some (.int .i64 (q2.s.left : Int)) := HR.out.1.blk.cell 9
    have cp : w1.cell? ⟨d, 10, none⟩ = some (pkV q2.s.pk) := HR.out.1.blk.cell 10
    have z9 := HR.out.1.blk.free 9
    have zp := HR.out.1.blk.free 10
    go_wp2_with fail
    first | go_end0 | refine bodyPost_ret (results_none rfl _ _ _) rfl ?_
    rw [HQ.out, start_on hs]
    exact ⟨rfl, (HR.out.1.put (q' := { q2 with s := { q2.s with left := n } }) 9 (.int .i64 (n : Int)) rfl rfl rfl).put 10 (.pointer none) rfl rfl rfl, (HR.out.2.setCell (p := ⟨d, 9, none⟩) (.inl (.inl rfl)) _).setCell (p := ⟨d, 10, none⟩) (.inl (.inl rfl)) _⟩

theorem rd_src {q : Lq} (h : q.rd.s.src = true) : q.s.src = true := by
  cases hs : q.s.src with
  | true => rfl
  | false => rw [rd_none hs, hs] at h; cases h
theorem plain_o (q : Lq) : q.plain.o = q.o := by
  unfold Lq.plain Lq.start Lq.two
  split
  · exact (rd_o _).trans (rd_o _)
  · exact (rd_o _).trans (rd_o _)

theorem u8_one (n : Nat) (hn : n < 256) : bits .and .u8 (n : Int) 1 = ((n % 2 : Nat) : Int) := by
  have h := u8_and_nat n 1 hn (by omega)
  rw [Nat.and_one_is_mod] at h
  exact h
set_option maxRecDepth 100000 in
set_option maxHeartbeats 4000000 in
/-- what stands ahead of a chunk's bytes, of no packed one -/
theorem qchunk_any (h : L2 K d f lo bs fs ps w Gw q) (hx : q.b.toNat < 128) (hfo : q.s.src = true → f < w.heap.size) :
    Calls Tryz.prog 40 #[.pointer (some ⟨d, 0, none⟩)] w (QPost K d f lo bs fs ps w Gw (.tuple #[]) q.chunk) := by
  have KR := Lib.hid (qread_any h.rd)
  have HH := Lib.hid h
  have HFO := Lib.hid hfo
  have hlen := hx
  clear h hfo hx
  go_enter Tryz.func40, Tryz.ntmps40
  go_wp2_with fail
  refine KR.out.mono ?_
  rintro e w1 ⟨rfl, hR1, hO1⟩
  have KB := Lib.hid (qbad_any hR1.blk)
  have HR := Lib.hid (And.intro hR1 hO1)
  have hL1 := HH.out.read hR1 hO1 (rd_o q)
  have HL1 := Lib.hid hL1
  have HF1 := Lib.hid (show q.rd.s.src = true → f < w1.heap.size from fun hs => Nat.lt_of_lt_of_le (HFO.out (rd_src hs)) hO1.size)
  obtain ⟨q1, hq1⟩ : ∃ q1, q1 = q.rd := ⟨_, rfl⟩
  obtain ⟨x, hx⟩ : ∃ x, x = q.b := ⟨_, rfl⟩
  have HO := Lib.hid (show q1.o = q.o from hq1 ▸ rd_o q)
  have HQ := Lib.hid (And.intro hq1 hx)
  rw [← hq1] at HR HL1 HF1 KB
  rw [← hx] at hlen ⊢
  clear hR1 hO1 hL1 KR hq1 hx HFO
  go_wp2_with fail
  refine KB.out.mono ?_
  rintro e w2 ⟨rfl, rfl⟩
  clear KB
  cases hs : q1.s.src with
  | false =>
    go_wp2_with fail
    first | go_end0 | refine bodyPost_ret (results_none rfl _ _ _) rfl ?_
    rw [chunk_src (by rw [← HQ.out.1]; exact hs), ← HQ.out.1]
    exact HH.out.fall HR.out.1 HR.out.2 HO.out _
  | true =>
    have hfo := HF1.out hs
    have HFO := Lib.hid hfo
    have HS := Lib.hid (show q.rd.s.src = true by rw [← HQ.out.1]; exact hs)
    clear hfo HF1
    by_cases h0 : x = 0
    · subst h0
      have c3 : w1.cell? ⟨d, 3, none⟩ = some (.bool q1.s.ended) := HR.out.1.blk.cell 3
      have z3 := HR.out.1.blk.free 3
      go_wp2_with fail
      first | go_end0 | refine bodyPost_ret (results_none rfl _ _ _) rfl ?_
      rw [chunk_zero HS.out HQ.out.2.symm, ← HQ.out.1]
      exact HH.out.fall (HR.out.1.put (q' := q1.end_) 3 (.bool true) rfl rfl rfl) (HR.out.2.setCell (p := ⟨d, 3, none⟩) (.inl (.inl rfl)) _) HO.out _
    · have hx0 : ((x.toNat : Int) == 0) = false := by
        have : x.toNat ≠ 0 := fun e => h0 (UInt8.toNat_inj.1 (by simpa using e))
        simp; omega
      by_cases h1 : x = 1
      · subst h1
        have KE := Lib.hid (zempty_one HL1.out.rz)
        have c0 : w1.cell? ⟨d, 0, none⟩ = some (.pointer (some ⟨K.g, 0, none⟩)) := HR.out.1.blk.cell 0
        clear h0 hx0
        go_wp2_with fail
        refine KE.out.mono ?_
        rintro e w2 hp
        obtain ⟨rfl, G1, hL2, hG1, hO2⟩ := HL1.out.turn hp HFO.out
        have hOq := (HR.out.2.mono (S' := qOwn K d f Gw) (fun i hi => hi.elim .inl (fun hh => .inr (.inl hh)))).trans hO2
        have c4 : w2.cell? ⟨d, 4, none⟩ = some (.int .u8 (q1.s.nd : Int)) := hL2.rd.blk.cell 4
        have z4 := hL2.rd.blk.free 4
        have hR3 := hL2.rd.put (q' := q1.anew) 4 (.int .u8 6) rfl rfl rfl (.inr (by show 6 ≤ 7; omega))
        have hL3 := hL2.read hR3 ((Only.refl (fun i => i = d ∨ i = f) w2).setCell (p := ⟨d, 4, none⟩) (.inl (.inl rfl)) _) rfl
        have hO3 : Only (qOwn K d f Gw) w (w2.setCell ⟨d, 4, none⟩ (.int .u8 6)) := hOq.setCell (p := ⟨d, 4, none⟩) (.inl (.inl rfl)) _
        have hG3 : ∀ i, G1 i → Gw i ∨ w.heap.size ≤ i := fun i hi => (hG1 i hi).imp id (fun hh => Nat.le_trans HR.out.2.size hh)
        have KP := Lib.hid (qplain_any hR3)
        have HL3 := Lib.hid (And.intro hL3 (And.intro hO3 hG3))
        clear hL2 hG1 hO2 hOq hR3 hL3 hO3 hG3 hp KE c0 HL1
        go_wp2_with fail
        refine KP.out.mono ?_
        rintro e w4 ⟨rfl, hR4, hO4⟩
        have HL4 := Lib.hid (HL3.out.1.fall hR4 hO4 (plain_o _) (.tuple #[]))
        clear hR4 hO4 KP
        go_wp2_with fail
        first | go_end0 | refine bodyPost_ret (results_none rfl _ _ _) rfl ?_
        rw [chunk_anew HS.out HQ.out.2.symm, ← HQ.out.1]
        exact HL4.out.trans HL3.out.2.2 HL3.out.2.1
      · have hx1 : ((x.toNat : Int) == 1) = false := by
          have : x.toNat ≠ 1 := fun e => h1 (UInt8.toNat_inj.1 (by simpa using e))
          simp; omega
        have hge : ((x.toNat : Int) ≥ 128) = False := by simp; omega
        have c4 : w1.cell? ⟨d, 4, none⟩ = some (.int .u8 (q1.s.nd : Int)) := HR.out.1.blk.cell 4
        have hand : bits .and .u8 (q1.s.nd : Int) 1 = ((q1.s.nd % 2 : Nat) : Int) := u8_one _ HR.out.1.nd
        by_cases h2 : x = 2
        · subst h2
          clear h0 hx0 h1 hx1 hge
          by_cases hn : q1.s.nd % 2 = 0
          · have KP := Lib.hid (qplain_any HR.out.1)
            have hn0 : (((q1.s.nd % 2 : Nat) : Int) == 0) = true := by rw [hn]; rfl
            go_wp2_with fail
            refine KP.out.mono ?_
            rintro e w4 ⟨rfl, hR4, hO4⟩
            have HL4 := Lib.hid (HL1.out.fall hR4 hO4 (plain_o _) (.tuple #[]))
            clear hR4 hO4 KP
            go_wp2_with fail
            first | go_end0 | refine bodyPost_ret (results_none rfl _ _ _) rfl ?_
            rw [chunk_plain HS.out HQ.out.2.symm (by rw [← HQ.out.1]; exact hn), ← HQ.out.1]
            exact HL4.out.trans (fun i hi => .inl hi) (HR.out.2.mono (fun i hi => hi.elim .inl (fun hh => .inr (.inl hh))))
          · have KF := Lib.hid (qfail_any HR.out.1.blk)
            have hn0 : (((q1.s.nd % 2 : Nat) : Int) == 0) = false := by simp; omega
            go_wp2_with fail
            refine KF.out.mono ?_
            rintro e w4 ⟨rfl, hB4, hO4⟩
            have HL4 := Lib.hid (And.intro (rdr_failed HR.out.1 hB4) (HR.out.2.trans (hO4.mono fun i hi => .inl hi)))
            clear hB4 hO4 KF
            go_wp2_with fail
            first | go_end0 | refine bodyPost_ret (results_none rfl _ _ _) rfl ?_
            rw [chunk_bad HS.out (by rw [← HQ.out.2]; decide) (by rw [← HQ.out.2]; decide) (by rw [← HQ.out.1]; exact fun hh => hn hh.2), ← HQ.out.1]
            exact HH.out.fall HL4.out.1 HL4.out.2 HO.out _
        · have hx2 : ((x.toNat : Int) == 2) = false := by
            have : x.toNat ≠ 2 := fun e => h2 (UInt8.toNat_inj.1 (by simpa using e))
            simp; omega
          have KF := Lib.hid (qfail_any HR.out.1.blk)
          have HX := Lib.hid (And.intro h0 (And.intro h1 h2))
          clear h0 h1 h2
          go_wp2_with fail
          refine KF.out.mono ?_
          rintro e w4 ⟨rfl, hB4, hO4⟩
          have HL4 := Lib.hid (And.intro (rdr_failed HR.out.1 hB4) (HR.out.2.trans (hO4.mono fun i hi => .inl hi)))
          clear hB4 hO4 KF
          go_wp2_with fail
          first | go_end0 | refine bodyPost_ret (results_none rfl _ _ _) rfl ?_
          obtain ⟨h0, h1, h2⟩ := HX.out
          rw [HQ.out.2] at h0 h1 h2
          rw [chunk_bad HS.out h0 h1 (fun hh => h2 hh.1), ← HQ.out.1]
          exact HH.out.fall HL4.out.1 HL4.out.2 HO.out _

set_option maxRecDepth 100000 in
set_option maxHeartbeats 4000000 in
/-- a plain chunk's next byte -/
theorem qbyte_any (h : L2 K d f lo bs fs ps w Gw q) (hl : 0 < q.s.left) (hm : q.s.left ≤ 1000000000) (ho : q.o.length ≤ 1000000) (hfo : q.s.src = true → f < w.heap.size) :
    Calls Tryz.prog 41 #[.pointer (some ⟨d, 0, none⟩)] w (QPost K d f lo bs fs ps w Gw (toldV q.byte.1) q.byte.2) := by
  have KR := Lib.hid (qread_any h.rd)
  have HH := Lib.hid (And.intro h (And.intro hl (And.intro hm (And.intro ho hfo))))
  clear h hl hm ho hfo
  go_enter Tryz.func41, Tryz.ntmps41
  go_wp2_with fail
  refine KR.out.mono ?_
  rintro e w1 ⟨rfl, hR1, hO1⟩
  have KB := Lib.hid (qbad_any hR1.blk)
  have HR := Lib.hid (And.intro hR1 hO1)
  obtain ⟨q1, hq1⟩ : ∃ q1, q1 = q.rd := ⟨_, rfl⟩
  obtain ⟨x, hx⟩ : ∃ x, x = q.b := ⟨_, rfl⟩
  have HQ := Lib.hid (And.intro hq1 hx)
  rw [← hq1] at HR KB
  rw [← hx]
  clear hR1 hO1 KR hq1 hx
  go_wp2_with fail
  refine KB.out.mono ?_
  rintro e w2 ⟨rfl, rfl⟩
  clear KB
  cases hs : q1.s.src with
  | false =>
    go_wp2_with fail
    go_ret2
    have hb : q.byte = (none, q1) := by unfold Lq.byte; rw [← HQ.out.1, if_pos hs]
    rw [hb]
    exact HH.out.1.fall HR.out.1 HR.out.2 (by rw [HQ.out.1]; exact rd_o q) _
  | true =>
    obtain ⟨h, hl, hm, ho, hfo⟩ := HH.out
    have ho1 : q1.o = q.o := by rw [HQ.out.1]; exact rd_o q
    have hL1 := h.read HR.out.1 HR.out.2 ho1
    have hs0 : q.s.src = true := rd_src (by rw [← HQ.out.1]; exact hs)
    have hf1 : f < w1.heap.size := Nat.lt_of_lt_of_le (hfo hs0) HR.out.2.size
    have hle : q1.s.left = q.s.left := by
      rw [HQ.out.1]
      unfold Lq.rd
      rw [if_pos hs0]
      split
      · rename_i hr
        have : q.rd.s.src = false := by rw [rd_fail hs0 hr]; rfl
        rw [← HQ.out.1, hs] at this
        cases this
      · rfl
    have c0 : w1.cell? ⟨d, 0, none⟩ = some (.pointer (some ⟨K.g, 0, none⟩)) := HR.out.1.blk.cell 0
    have KP := Lib.hid (zput_one (b := x) hL1.rz (by rw [ho1]; exact ho))
    have HL1 := Lib.hid (And.intro hL1 (And.intro hf1 (And.intro hle ho1)))
    have hb : q.byte = (some x, q1.told x) := by unfold Lq.byte; rw [← HQ.out.1, ← HQ.out.2, if_neg (by simp [hs])]
    have HBY := Lib.hid hb
    have HLL := Lib.hid (And.intro hl hm)
    clear h hl hm ho hfo hL1 hf1 hle ho1 hs0 hb
    go_wp2_with fail
    refine KP.out.mono ?_
    rintro e w2 hp
    obtain ⟨rfl, G1, hL2, hG1, hO2⟩ := HL1.out.1.turn hp HL1.out.2.1
    have hOq := (HR.out.2.mono (S' := qOwn K d f Gw) (fun i hi => hi.elim .inl (fun hh => .inr (.inl hh)))).trans hO2
    have c9 : w2.cell? ⟨d, 9, none⟩ = some (.int .i64 (q1.s.left : Int)) := hL2.rd.blk.cell 9
    have z9 := hL2.rd.blk.free 9
    have hl1 : (q1.s.left : Int) - 1 = ((q1.s.left - 1 : Nat) : Int) := by have := HL1.out.2.2.1; have := HLL.out.1; omega
    have e1 : IntKind.i64.wrap ((q1.s.left : Int) - 1) = ((q1.s.left - 1 : Nat) : Int) := by rw [hl1]; exact IntWalk.i64_in _ (by have := HL1.out.2.2.1; have := HLL.out.2; omega)
    have hR3 := hL2.rd.put (q' := q1.told x) 9 (.int .i64 ((q1.s.left - 1 : Nat) : Int)) rfl rfl rfl
    have hL3 := hL2.read hR3 ((Only.refl (fun i => i = d ∨ i = f) w2).setCell (p := ⟨d, 9, none⟩) (.inl (.inl rfl)) _) rfl
    have hO3 : Only (qOwn K d f Gw) w (w2.setCell ⟨d, 9, none⟩ (.int .i64 ((q1.s.left - 1 : Nat) : Int))) := hOq.setCell (p := ⟨d, 9, none⟩) (.inl (.inl rfl)) _
    have hG3 : ∀ i, G1 i → Gw i ∨ w.heap.size ≤ i := fun i hi => (hG1 i hi).imp id (fun hh => Nat.le_trans HR.out.2.size hh)
    have HL3 := Lib.hid (And.intro hL3 (And.intro hO3 hG3))
    generalize hm1 : q1.s.left - 1 = m1 at *
    clear hL2 hG1 hO2 hOq hR3 hL3 hO3 hG3 hp KP c0 hl1
    go_wp2_with fail
    go_ret2
    rw [HBY.out]
    exact ⟨rfl, G1, HL3.out.1, HL3.out.2.2, HL3.out.2.1⟩
end
end Go.Proofs.YtdhhibfppcpieaaGreatDoor
