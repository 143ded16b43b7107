/-
  LqNext, ZqChunk, ZqChk, ZqByte: put together.
-/
import Derived.Test.YtoencondpbkomaaGreatDoorT15
import Derived.Test.YtoencondpbkomaaGreatDoorT28
set_option linter.unusedVariables false
set_option linter.unusedSimpArgs false
/-
  The decoder of LZMA2: the next byte, where no packed chunk comes.
-/
namespace Go.Proofs.YtoencondpbkomaaGreatDoor
open Go.RowKit

/-- The decoder, whole: its own fields and source, the decoder of packets with its window. -/
structure L2 (K : Kon) (d f lo : Nat) (bs : List UInt8) (fs : List Value) (ps : List Nat) (w : World) (Gw : Nat → Prop) (q : Lq) : Prop where
  rd : Rdr w d K.g f lo bs q
  rz : Rz K w Gw q.o fs ps
  gl : K.g < lo
  ll : K.lb < lo
  ml : K.m < lo
  dg : d ≠ K.g ∧ d ≠ K.lb ∧ d ≠ K.m
  wd : ∀ i, Gw i → i ≠ d ∧ (i < lo ∨ f < i)
  fo : f < w.heap.size ∨ ∀ i, Gw i → i < lo
/-- what Next answers -/
def toldV : Option UInt8 → Value
  | none => .tuple #[.int .u8 0, .bool false]
  | some b => .tuple #[.int .u8 (b.toNat : Int), .bool true]
def qOwn (K : Kon) (d f : Nat) (Gw : Nat → Prop) : Nat → Prop := fun i => i = d ∨ i = f ∨ i = K.g ∨ Gw i
def QPost (K : Kon) (d f lo : Nat) (bs : List UInt8) (fs : List Value) (ps : List Nat) (w : World) (Gw : Nat → Prop) (v : Value) (q : Lq) (e : Ending) (w' : World) : Prop :=
  e = .returned v ∧ ∃ Gw', L2 K d f lo bs fs ps w' Gw' q ∧ (∀ i, Gw' i → Gw i ∨ w.heap.size ≤ i) ∧ Only (qOwn K d f Gw) w w'

section
variable {K : Kon} {d g f lo : Nat} {bs : List UInt8} {fs : List Value} {ps : List Nat} {w w' w1 : World} {Gw G1 : Nat → Prop} {q q' : Lq} {v : Value} {e : Ending}

/-- a call that turns the decoder's own fields and its source -/
theorem L2.read (h : L2 K d f lo bs fs ps w Gw q) (hR : Rdr w' d K.g f lo bs q') (hO : Only (fun i => i = d ∨ i = f) w w') (ho : q'.o = q.o) : L2 K d f lo bs fs ps w' Gw q' := by
  have hlo := h.rd.ff
  have hdl := h.rd.df
  refine ⟨hR, ?_, h.gl, h.ll, h.ml, h.dg, h.wd, h.fo.imp (fun hh => Nat.lt_of_lt_of_le hh hO.size) id⟩
  rw [ho]
  refine h.rz.only hO ?_ ?_ (fun i hi => ?_)
  · have := h.gl; have := h.dg.1
    rintro (e | e) <;> omega
  · have := h.ll; have := h.dg.2.1
    rintro (e | e) <;> omega
  · have := h.wd i hi
    rintro (e | e) <;> omega
/-- a call of the decoder of packets -/
theorem L2.turn (h : L2 K d f lo bs fs ps w Gw q) {o : List UInt8} (hp : RzPost K w Gw o fs ps e w') (hfo : f < w.heap.size) : e = .returned (.tuple #[]) ∧ ∃ Gw', L2 K d f lo bs fs ps w' Gw' { q with o := o } ∧ (∀ i, Gw' i → Gw i ∨ w.heap.size ≤ i) ∧ Only (qOwn K d f Gw) w w' := by
  obtain ⟨he, G1, hz, hG, hO⟩ := hp
  have hlo := h.rd.ff
  have hdl := h.rd.df
  have hds : d < w.heap.size := h.rd.blk.lt
  have hns : ∀ i, (i = K.g ∨ Gw i) → i < lo ∨ f < i := by
    rintro i (rfl | hi)
    · exact .inl h.gl
    · exact (h.wd i hi).2
  refine ⟨he, G1, ⟨(show Rdr w d K.g f lo bs { q with o := o } from ⟨h.rd.blk, h.rd.feed, hdl, hlo, h.rd.nd⟩).only hO ?_ hns, hz, h.gl, h.ll, h.ml, h.dg, fun i hi => ?_, .inl (Nat.lt_of_lt_of_le hfo hO.size)⟩, hG, hO.mono fun i hi => .inr (.inr hi)⟩
  · rintro (e | e)
    · exact h.dg.1 e
    · exact (h.wd _ e).1 rfl
  · rcases hG i hi with hh | hh
    · exact h.wd i hh
    · exact ⟨by omega, .inr (by omega)⟩
theorem QPost.trans (hG : ∀ i, G1 i → Gw i ∨ w.heap.size ≤ i) (hO : Only (qOwn K d f Gw) w w1) (hp : QPost K d f lo bs fs ps w1 G1 v q e w') : QPost K d f lo bs fs ps w Gw v q e w' := by
  obtain ⟨he, G2, hL, hG2, hO2⟩ := hp
  have hs : w.heap.size ≤ w1.heap.size := hO.size
  refine ⟨he, G2, hL, fun i hi => ?_, hO.trans' hO2 (fun i hi => ?_)⟩
  · rcases hG2 i hi with h | h
    · exact hG i h
    · exact .inr (by omega)
  · rcases hi with hi | hi | hi | hi
    · exact .inl (.inl hi)
    · exact .inl (.inr (.inl hi))
    · exact .inl (.inr (.inr (.inl hi)))
    · rcases hG i hi with h | h
      · exact .inl (.inr (.inr (.inr h)))
      · exact .inr h

set_option maxRecDepth 100000 in
set_option maxHeartbeats 1000000 in
/-- a plain chunk begins -/
theorem qplain_any (h : Rdr w d g f lo bs q) :
    Calls Tryz.prog 75 #[.pointer (some ⟨d, 0, none⟩)] w (RdrPost w d g f lo bs (.tuple #[]) q.plain) := by
  have KC := Lib.hid (qcount_any h)
  clear h
  go_enter Tryz.func75, Tryz.ntmps75
  go_wp2_with fail
  refine KC.out.mono ?_
  rintro e w1 ⟨rfl, hR1, hO1⟩
  have KB := Lib.hid (qbad_any hR1.blk)
  have HR := Lib.hid (And.intro hR1 hO1)
  obtain ⟨q2, hq2⟩ : ∃ q2, q2 = q.two := ⟨_, rfl⟩
  obtain ⟨n, hn⟩ : ∃ n, n = q.count := ⟨_, rfl⟩
  have HQ := Lib.hid (show q.plain = q2.start n by rw [hq2, hn]; rfl)
  rw [← hq2] at HR KB
  rw [← hn]
  clear hR1 hO1 KC hq2 hn
  go_wp2_with fail
  refine KB.out.mono ?_
  rintro e w2 ⟨rfl, rfl⟩
  clear KB
  cases hs : q2.s.src with
  | false =>
    go_wp2_with fail
    first | go_end0 | refine bodyPost_ret (results_none rfl _ _ _) rfl ?_
    rw [HQ.out, start_off hs]
    exact ⟨rfl, HR.out.1, HR.out.2⟩
  | true =>
    have c9 : w1.cell? ⟨d, 9, none⟩ = some (.int .i64 (q2.s.left : Int)) := HR.out.1.blk.cell 9
    have cp : w1.cell? ⟨d, 10, none⟩ = some (pkV q2.s.pk) := HR.out.1.blk.cell 10
    have z9 := HR.out.1.blk.free 9
    have zp := HR.out.1.blk.free 10
    go_wp2_with fail
    first | go_end0 | refine bodyPost_ret (results_none rfl _ _ _) rfl ?_
    rw [HQ.out, start_on hs]
    exact ⟨rfl, (HR.out.1.put (q' := { q2 with s := { q2.s with left := n } }) 9 (.int .i64 (n : Int)) rfl rfl rfl).put 10 (.pointer none) rfl rfl rfl, (HR.out.2.setCell (p := ⟨d, 9, none⟩) (.inl (.inl rfl)) _).setCell (p := ⟨d, 10, none⟩) (.inl (.inl rfl)) _⟩

theorem u8_one (n : Nat) (hn : n < 256) : bits .and .u8 (n : Int) 1 = ((n % 2 : Nat) : Int) := by
  have h := u8_and_nat n 1 hn (by omega)
  rw [Nat.and_one_is_mod] at h
  exact h
end
end Go.Proofs.YtoencondpbkomaaGreatDoor

/-
  The decoder of LZMA2: what stands ahead of a chunk's bytes.
-/
namespace Go.Proofs.YtoencondpbkomaaGreatDoor
open Go.RowKit
set_option linter.unusedVariables false

/-- a plain chunk behind its first byte -/
def plainSt (nd : Nat) (z : Lzs) (ps : List Nat) : List UInt8 → St2
  | x :: y :: r2 => .plain ⟨nd, z, ps, r2⟩ (256 * x.toNat + y.toNat + 1)
  | _ => .bad
section
variable {K0 : Kon} {d f lo D : Nat} {all r : List UInt8} {w w' w1 : World} {Gw ex : Nat → Prop} {s : Ds} {z : Lzs} {ps : List Nat} {nd : Nat}
theorem tells_plain {q : Rs} {c : UInt8} (hr : q.r = c :: r) (h : (c.toNat = 1 ∧ nd = 6 ∧ z = { q.z with out := [] }) ∨ (c.toNat = 2 ∧ nd = q.nd ∧ z = q.z)) (k : Nat) : (St2.rest q).tells k = (plainSt nd z q.ps r).tells k := by
  have hne : q.r ≠ [0] := head_ne hr (by omega)
  have hc : c.toNat = 1 ∨ c.toNat = 2 := by omega
  match r, hr with
  | [], hr =>
    have e : chunkN q = none := by
      unfold chunkN
      rw [hr]
      show (if c.toNat = 1 ∨ c.toNat = 2 then none else _) = _
      rw [if_pos hc]
    exact rest_bad hne e
  | [x], hr =>
    have e : chunkN q = none := by
      unfold chunkN
      rw [hr]
      show (if c.toNat = 1 ∨ c.toNat = 2 then none else _) = _
      rw [if_pos hc]
    exact rest_bad hne e
  | x :: y :: r2, hr =>
    have e : chunkN q = plainC nd z q.ps r2 (256 * x.toNat + y.toNat + 1) := by
      unfold chunkN
      rw [hr]
      show (if c.toNat = 1 ∨ c.toNat = 2 then (if c.toNat = 1 then plainC 6 { q.z with out := [] } q.ps r2 (256 * x.toNat + y.toNat + 1) else plainC q.nd q.z q.ps r2 (256 * x.toNat + y.toNat + 1)) else _) = _
      rw [if_pos hc]
      rcases h with ⟨h1, rfl, rfl⟩ | ⟨h1, rfl, rfl⟩
      · rw [if_pos h1]
      · rw [if_neg (by omega)]
    show q.tells k = _
    rw [tells_chunk hne, e]
    rfl
/-- how it stands: no chunk begins now -/
def St2.Gone : St2 → Prop
  | .rest _ => False
  | _ => True
theorem plain_gone : ∀ (r : List UInt8), (plainSt nd z ps r).Gone ∧ (plainSt nd z ps r).wl ≤ z.out.length
  | [] => ⟨trivial, Nat.zero_le _⟩
  | [_] => ⟨trivial, Nat.zero_le _⟩
  | _ :: _ :: _ => ⟨trivial, Nat.le_refl _⟩
theorem Rok.with_r {q : Rs} (h : Rok D q) (r : List UInt8) : Rok D ⟨q.nd, q.z, q.ps, r⟩ := ⟨h.nd, h.near, h.ps, h.bad, h.ended, h.dict, h.four⟩
theorem plain_mem (hx : Q2x K0 d f lo w Gw ex) (h : Idl K0 d f lo all w Gw s r z ps) (hs1 : s.src = true) (hs2 : s.ended = false) (hs3 : s.left = 0) (hset : setAt ⟨nd, z, ps, r⟩ s) (hn : nd % 2 = 0) (hq : Rok D ⟨nd, z, ps, r⟩)
    (hR : Rdr w' d K0.g f lo all (⟨s, r, []⟩ : Lq).plain) (hO : Only (fun i => i = d ∨ i = f) w w') : Q2Post K0 d f lo all D w Gw ex (.tuple #[]) (plainSt nd z ps r) (.returned (.tuple #[])) w' := by
  have hx' : Q2x K0 d f lo w' Gw (fun _ => False) := hx.turn (fun i hi => .inl hi) (fun i hi => hi.elim) hO (df0 hx)
  refine ⟨rfl, Gw, fun _ => False, ?_, hx', fun i hi => .inl (hi.elim .inl (fun e => e.elim)), hO.mono (own_df K0 d f Gw ex)⟩
  have hshort : r.length < 2 → (⟨s, r, []⟩ : Lq).plain = ⟨s.fail, [], []⟩ := fun hl => by
    rcases two_cases (r := r) (o := []) hs1 with ⟨x, y, r2, rfl, _, _⟩ | ⟨_, e⟩
    · simp at hl; omega
    · unfold Lq.plain
      rw [e, start_off rfl]
  match r, h, hset, hq, hR, hshort with
  | [], h, hset, hq, hR, hshort =>
    rw [hshort (by decide)] at hR
    exact ⟨s.fail, [], z, ps, h.read hx hR hO, rfl, rfl⟩
  | [x], h, hset, hq, hR, hshort =>
    rw [hshort (show 1 < 2 by decide)] at hR
    exact ⟨s.fail, [], z, ps, h.read hx hR hO, rfl, rfl⟩
  | x :: y :: r2, h, hset, hq, hR, hshort =>
    have e : (⟨s, x :: y :: r2, []⟩ : Lq).plain = ⟨{ s with left := 256 * x.toNat + y.toNat + 1, pk := none }, r2, []⟩ := by
      rcases two_cases (r := x :: y :: r2) (o := []) hs1 with ⟨x', y', r2', e0, e1, e2⟩ | ⟨hl, _⟩
      · injection e0 with e3 e4
        injection e4 with e4 e5
        subst e3 e4 e5
        unfold Lq.plain
        rw [e1, e2, start_on hs1]
      · simp at hl; omega
    rw [e] at hR
    have h1 := x.toNat_lt
    have h2 := y.toNat_lt
    exact ⟨_, h.read hx hR hO, hs1, hs2, rfl, rfl, Nat.le_add_left _ _, by show 256 * x.toNat + y.toNat + 1 ≤ 65536; omega, hn, hset, hq.with_r r2⟩

def ChPost (K0 : Kon) (d f lo : Nat) (all : List UInt8) (D : Nat) (w : World) (Gw ex : Nat → Prop) (q : Rs) (e : Ending) (w' : World) : Prop :=
  ∃ st, Q2Post K0 d f lo all D w Gw ex (.tuple #[]) st e w' ∧ (∀ k, (St2.rest q).tells k = st.tells k) ∧ st.wl ≤ q.z.out.length ∧ st.Gone
/-- it is bad, for the chunk tells nothing -/
theorem ch_bad {q : Rs} {ds : Ds} {r2 : List UInt8} (hx : Q2x K0 d f lo w Gw ex) (h : Idl K0 d f lo all w Gw s r z ps) (hn : ∀ k, (St2.rest q).tells k = none)
    (hR : Rdr w' d K0.g f lo all ⟨ds, r2, []⟩) (hO : Only (fun i => i = d ∨ i = f) w w') (h1 : ds.src = false) (h2 : ds.left = 0) : ChPost K0 d f lo all D w Gw ex q (.returned (.tuple #[])) w' :=
  ⟨.bad, ⟨rfl, Gw, fun _ => False, ⟨ds, r2, z, ps, h.read hx hR hO, h1, h2⟩, hx.turn (fun i hi => .inl hi) (fun i hi => hi.elim) hO (df0 hx), fun i hi => .inl (hi.elim .inl (fun e => e.elim)), hO.mono (own_df K0 d f Gw ex)⟩, fun k => hn k, Nat.zero_le _, trivial⟩
theorem tells_dry {q : Rs} (h : q.r = []) (k : Nat) : (St2.rest q).tells k = none := by
  refine tells_none (by rw [h]; decide) ?_
  unfold chunkN
  rw [h]
theorem tells_zero {q : Rs} (h : q.r = 0 :: r) (k : Nat) : (St2.rest q).tells k = (St2.fin r).tells k := by
  show q.tells k = if k = 0 ∧ r = [] then some [] else none
  by_cases hr : r = []
  · subst hr
    rw [tells_end h]
    by_cases hk : k = 0
    · rw [if_pos hk, if_pos ⟨hk, rfl⟩]
    · rw [if_neg hk, if_neg (fun e => hk e.1)]
  · rw [if_neg (fun e => hr e.2)]
    refine tells_none (by rw [h]; intro e; injection e with e1 e2; exact hr e2) ?_
    unfold chunkN
    rw [h]
    show (if (0 : UInt8).toNat = 1 ∨ (0 : UInt8).toNat = 2 then _ else if 128 ≤ (0 : UInt8).toNat then _ else none) = none
    rw [if_neg (by decide), if_neg (by decide)]
theorem tells_odd {q : Rs} {c : UInt8} (h : q.r = c :: r) (h0 : c.toNat ≠ 0) (h1 : c.toNat ≠ 1) (h2 : c.toNat = 2 → q.nd % 2 = 1) (h3 : c.toNat < 128) (k : Nat) : (St2.rest q).tells k = none := by
  refine tells_none (head_ne h (by omega)) ?_
  unfold chunkN
  rw [h]
  show (if c.toNat = 1 ∨ c.toNat = 2 then _ else if 128 ≤ c.toNat then _ else none) = none
  by_cases hc : c.toNat = 2
  · rw [if_pos (.inr hc)]
    split
    · rw [if_neg h1]
      unfold plainC
      rw [if_pos (.inl (h2 hc))]
    · rfl
  · rw [if_neg (by omega), if_neg (by omega)]
end
end Go.Proofs.YtoencondpbkomaaGreatDoor

/-
  The decoder of LZMA2: chunk, walked.
-/
namespace Go.Proofs.YtoencondpbkomaaGreatDoor
open Go.RowKit
set_option linter.unusedVariables false

section
variable {K0 : Kon} {d f lo D : Nat} {all r : List UInt8} {w w' w1 : World} {Gw ex : Nat → Prop} {s : Ds} {z : Lzs} {ps : List Nat}
theorem near_empty {z : Lzs} {L : Nat} (h : ZNear z L z.out.length) : ZNear { z with out := [] } L ({ z with out := [] } : Lzs).out.length := ⟨h.lc, h.lp, h.pb, h.dict, Nat.le_refl _, h.st, h.r0, h.r1, h.r2, h.r3, h.len⟩
set_option maxRecDepth 100000 in
set_option maxHeartbeats 8000000 in
theorem zchunk_any {q : Rs} (hx : Q2x K0 d f lo w Gw ex) (h : Idl K0 d f lo all w Gw s q.r q.z q.ps) (hs1 : s.src = true) (hs2 : s.ended = false) (hs3 : s.left = 0) (hset : setAt q s) (hq : Rok D q) (ho : q.z.out.length ≤ 700000) :
    Calls Tryz.prog 42 #[.pointer (some ⟨d, 0, none⟩)] w (ChPost K0 d f lo all D w Gw ex q) := by
  have KR := Lib.hid (qread_any h.rd)
  have HH := Lib.hid (And.intro hx (And.intro h (And.intro hs1 (And.intro hs2 (And.intro hs3 (And.intro hset (And.intro hq ho)))))))
  have hfs := hx.fs
  have HFS := Lib.hid hfs
  cases hr : q.r with
  | nil =>
    have e1 : (⟨s, q.r, []⟩ : Lq).rd = ⟨s.fail, [], []⟩ := by rw [hr]; exact lq_dry hs1
    have e2 : (⟨s, q.r, []⟩ : Lq).b = 0 := by rw [hr]; exact b_end hs1 rfl
    rw [e1, e2] at KR
    have HR0 := Lib.hid hr
    clear hx h hs1 hs2 hs3 hset hq ho hfs hr e1 e2
    go_enter Tryz.func42, Tryz.ntmps42
    go_wp2_with fail
    refine KR.out.mono ?_
    rintro e w1 ⟨rfl, hR1, hO1⟩
    have KB := qbad_any hR1.blk
    rw [show (⟨s.fail, [], []⟩ : Lq).s.src = false from rfl] at KB
    have KB := Lib.hid KB
    have HR := Lib.hid (And.intro hR1 hO1)
    clear hR1 hO1 KR
    go_wp2_with fail
    refine KB.out.mono ?_
    rintro e w2 ⟨rfl, rfl⟩
    clear KB
    go_wp2_with fail
    first | go_end0 | refine bodyPost_ret (results_none rfl _ _ _) rfl ?_
    obtain ⟨hx, h, hs1, hs2, hs3, hset, hq, ho⟩ := HH.out
    exact ch_bad hx h (tells_dry HR0.out) HR.out.1 HR.out.2 rfl rfl
  | cons x r =>
    have e1 : (⟨s, q.r, []⟩ : Lq).rd = ⟨s, r, []⟩ := by rw [hr]; exact lq_rd hs1
    have e2 : (⟨s, q.r, []⟩ : Lq).b = x := by rw [hr]; exact lq_b hs1
    rw [e1, e2] at KR
    have HR0 := Lib.hid hr
    clear hx h hs1 hs2 hs3 hset hq ho hfs hr e1 e2
    go_enter Tryz.func42, Tryz.ntmps42
    go_wp2_with fail
    refine KR.out.mono ?_
    rintro e w1 ⟨rfl, hR1, hO1⟩
    have KB := qbad_any hR1.blk
    rw [show (⟨s, r, []⟩ : Lq).s.src = true from HH.out.2.2.1] at KB
    have KB := Lib.hid KB
    have HR := Lib.hid (And.intro hR1 hO1)
    have hi1 : Idl K0 d f lo all w1 Gw s r q.z q.ps := HH.out.2.1.read HH.out.1 hR1 hO1
    have hx1 : Q2x K0 d f lo w1 Gw ex := HH.out.1.only hO1 (df0 HH.out.1)
    have HI1 := Lib.hid (And.intro hx1 hi1)
    have HOD := Lib.hid (show Only (own2 K0 d f Gw ex) w w1 from hO1.mono (own_df K0 d f Gw ex))
    clear hR1 hO1 hi1 hx1 KR
    go_wp2_with fail
    refine KB.out.mono ?_
    rintro e w2 ⟨rfl, rfl⟩
    clear KB
    by_cases h0 : x = 0
    · subst h0
      have c3 : w1.cell? ⟨d, 3, none⟩ = some (.bool s.ended) := HR.out.1.blk.cell 3
      have z3 := HR.out.1.blk.free 3
      go_wp2_with fail
      first | go_end0 | refine bodyPost_ret (results_none rfl _ _ _) rfl ?_
      obtain ⟨hx, h, hs1, hs2, hs3, hset, hq, ho⟩ := HH.out
      obtain ⟨hx1, hi1⟩ := HI1.out
      have hO := (Only.refl (fun i => i = d ∨ i = f) w1).setCell (p := ⟨d, 3, none⟩) (.inl (.inl rfl)) (.bool true)
      have hi2 : Idl K0 d f lo all _ Gw { s with ended := true } r q.z q.ps := hi1.read hx1 (hi1.rd.put (q' := ⟨{ s with ended := true }, r, []⟩) 3 (.bool true) rfl rfl rfl) hO
      exact ⟨.fin r, ⟨rfl, Gw, fun _ => False, ⟨_, q.z, q.ps, hi2, hs1, rfl, hs3⟩, hx1.turn (fun i hi => .inl hi) (fun i hi => hi.elim) hO (df0 hx1), fun i hi => .inl (hi.elim .inl (fun e => e.elim)), HOD.out.trans (hO.mono (own_df K0 d f Gw ex))⟩, fun k => tells_zero HR0.out k, Nat.zero_le _, trivial⟩
    · have hx0 : ((x.toNat : Int) == 0) = false := by
        have : x.toNat ≠ 0 := fun e => h0 (UInt8.toNat_inj.1 (by simpa using e))
        simp; omega
      have HN0 := Lib.hid (show x.toNat ≠ 0 from fun e => h0 (UInt8.toNat_inj.1 (by simpa using e)))
      by_cases h1 : x = 1
      · subst h1
        have KE := Lib.hid (idl_empty HI1.out.1 HI1.out.2)
        have c0 : w1.cell? ⟨d, 0, none⟩ = some (.pointer (some ⟨K0.g, 0, none⟩)) := HR.out.1.blk.cell 0
        clear h0 hx0
        go_wp2_with fail
        refine KE.out.mono ?_
        rintro e w2 ⟨rfl, G1, hi2, hx2, hg2, ho2⟩
        have c4 : w2.cell? ⟨d, 4, none⟩ = some (.int .u8 (s.nd : Int)) := hi2.rd.blk.cell 4
        have z4 := hi2.rd.blk.free 4
        have hO := (Only.refl (fun i => i = d ∨ i = f) w2).setCell (p := ⟨d, 4, none⟩) (.inl (.inl rfl)) (.int .u8 6)
        have hi3 := put_nd hx2 hi2 6 (by decide)
        have hx3 : Q2x K0 d f lo _ G1 (fun _ => False) := hx2.only hO (df0 hx2)
        have KP := Lib.hid (qplain_any hi3.rd)
        have H3 := Lib.hid (And.intro hx3 (And.intro hi3 (And.intro hg2 (ho2.trans (hO.mono (fun i hi => own_df K0 d f Gw ex i hi))))))
        clear hi2 hx2 hg2 ho2 hO hi3 hx3 KE c0
        rw [show ((6 : Nat) : Int) = 6 from rfl] at H3 KP
        go_wp2_with fail
        refine KP.out.mono ?_
        rintro e w4 ⟨rfl, hR4, hO4⟩
        have H4 := Lib.hid (And.intro hR4 hO4)
        clear hR4 hO4 KP
        go_wp2_with fail
        first | go_end0 | refine bodyPost_ret (results_none rfl _ _ _) rfl ?_
        obtain ⟨hx, h, hs1, hs2, hs3, hset, hq, ho⟩ := HH.out
        obtain ⟨hx3, hi3, hg3, ho3⟩ := H3.out
        have hp := plain_mem (D := D) (nd := 6) hx3 hi3 hs1 hs2 hs3 ⟨rfl, fun e => by cases e⟩ rfl ⟨.inr (.inl rfl), near_empty hq.near, hq.ps, hq.bad, hq.ended, hq.dict, hq.four⟩ H4.out.1 H4.out.2
        have hz1 := HOD.out.size
        refine ⟨_, Q2Post.trans (fun i hi => ?_) (HOD.out.trans ho3) hp, fun k => tells_plain HR0.out (.inl ⟨rfl, rfl, rfl⟩) k, Nat.le_trans (plain_gone r).2 (Nat.zero_le _), (plain_gone r).1⟩
        rcases hi with hi | hi
        · rcases hg3 i hi with e | e
          · exact .inl (.inl e)
          · exact .inr (by omega)
        · exact hi.elim
      · have hx1 : ((x.toNat : Int) == 1) = false := by
          have : x.toNat ≠ 1 := fun e => h1 (UInt8.toNat_inj.1 (by simpa using e))
          simp; omega
        have HN1 := Lib.hid (show x.toNat ≠ 1 from fun e => h1 (UInt8.toNat_inj.1 (by simpa using e)))
        have c4 : w1.cell? ⟨d, 4, none⟩ = some (.int .u8 (s.nd : Int)) := HR.out.1.blk.cell 4
        have hand : bits .and .u8 (s.nd : Int) 1 = ((s.nd % 2 : Nat) : Int) := u8_one _ HR.out.1.nd
        by_cases h2 : x = 2
        · subst h2
          have hge : ¬ ((2 : UInt8).toNat : Int) ≥ 128 := by decide
          clear h0 hx0 h1 hx1 hge
          by_cases hn : s.nd % 2 = 0
          · have KP := Lib.hid (qplain_any HR.out.1)
            have hn0 : (((s.nd % 2 : Nat) : Int) == 0) = true := by rw [hn]; rfl
            have HNN := Lib.hid hn
            clear hn
            go_wp2_with fail
            refine KP.out.mono ?_
            rintro e w4 ⟨rfl, hR4, hO4⟩
            have H4 := Lib.hid (And.intro hR4 hO4)
            clear hR4 hO4 KP
            go_wp2_with fail
            first | go_end0 | refine bodyPost_ret (results_none rfl _ _ _) rfl ?_
            obtain ⟨hx, h, hs1, hs2, hs3, hset, hq, ho⟩ := HH.out
            obtain ⟨hx1, hi1⟩ := HI1.out
            have hp := plain_mem (D := D) (nd := q.nd) hx1 hi1 hs1 hs2 hs3 ⟨hset.1, hset.2⟩ (by rw [← hset.1]; exact HNN.out) (hq.with_r r) H4.out.1 H4.out.2
            have hz1 := HOD.out.size
            exact ⟨_, Q2Post.trans (fun i hi => .inl hi) HOD.out hp, fun k => tells_plain HR0.out (.inr ⟨rfl, rfl, rfl⟩) k, (plain_gone r).2, (plain_gone r).1⟩
          · have KF := Lib.hid (qfail_any HR.out.1.blk)
            have hn0 : (((s.nd % 2 : Nat) : Int) == 0) = false := by simp; omega
            have HNN := Lib.hid (show s.nd % 2 = 1 by omega)
            clear hn
            go_wp2_with fail
            refine KF.out.mono ?_
            rintro e w4 ⟨rfl, hB4, hO4⟩
            have HL4 := Lib.hid (And.intro (rdr_failed HR.out.1 hB4) (HR.out.2.trans (hO4.mono (S' := fun i => i = d ∨ i = f) fun i hi => .inl hi)))
            clear hB4 hO4 KF
            go_wp2_with fail
            first | go_end0 | refine bodyPost_ret (results_none rfl _ _ _) rfl ?_
            obtain ⟨hx, h, hs1, hs2, hs3, hset, hq, ho⟩ := HH.out
            exact ch_bad hx h (tells_odd HR0.out (by decide) (by decide) (fun _ => by rw [← hset.1]; exact HNN.out) (by decide)) HL4.out.1 HL4.out.2 rfl rfl
        · have hx2 : ((x.toNat : Int) == 2) = false := by
            have : x.toNat ≠ 2 := fun e => h2 (UInt8.toNat_inj.1 (by simpa using e))
            simp; omega
          have HN2 := Lib.hid (show x.toNat ≠ 2 from fun e => h2 (UInt8.toNat_inj.1 (by simpa using e)))
          clear h0 h1 h2
          by_cases h8 : x.toNat < 128
          · have hge : ((x.toNat : Int) ≥ 128) = False := by simp; omega
            have KF := Lib.hid (qfail_any HR.out.1.blk)
            have HN8 := Lib.hid h8
            clear h8
            go_wp2_with fail
            refine KF.out.mono ?_
            rintro e w4 ⟨rfl, hB4, hO4⟩
            have HL4 := Lib.hid (And.intro (rdr_failed HR.out.1 hB4) (HR.out.2.trans (hO4.mono (S' := fun i => i = d ∨ i = f) fun i hi => .inl hi)))
            clear hB4 hO4 KF
            go_wp2_with fail
            first | go_end0 | refine bodyPost_ret (results_none rfl _ _ _) rfl ?_
            obtain ⟨hx, h, hs1, hs2, hs3, hset, hq, ho⟩ := HH.out
            exact ch_bad hx h (tells_odd HR0.out HN0.out HN1.out (fun e => absurd e HN2.out) HN8.out) HL4.out.1 HL4.out.2 rfl rfl
          · have hge : ((x.toNat : Int) ≥ 128) = True := by simp; omega
            have KP := Lib.hid (qpacked_any HI1.out.1 HI1.out.2 HH.out.2.2.1 HH.out.2.2.2.1 HH.out.2.2.2.2.1 HH.out.2.2.2.2.2.1 HH.out.2.2.2.2.2.2.1 HR0.out (by omega) HH.out.2.2.2.2.2.2.2)
            clear h8
            go_wp2_with fail
            refine KP.out.mono ?_
            rintro e w4 ⟨st, hq4, ht4, hw4, hg4⟩
            have he4 := hq4.1
            subst he4
            have H4 := Lib.hid (And.intro hq4 (And.intro ht4 (And.intro hw4 hg4)))
            clear hq4 ht4 hw4 hg4 KP
            go_wp2_with fail
            first | go_end0 | refine bodyPost_ret (results_none rfl _ _ _) rfl ?_
            obtain ⟨hq4, ht4, hw4, hg4⟩ := H4.out
            refine ⟨st, Q2Post.trans (fun i hi => .inl hi) HOD.out hq4, ht4, hw4, ?_⟩
            rcases hg4 with rfl | ⟨_, _, _, _, _, _, rfl⟩
            · trivial
            · trivial
end
end Go.Proofs.YtoencondpbkomaaGreatDoor

/-
  The decoder of LZMA2: a chunk's next byte.
-/
namespace Go.Proofs.YtoencondpbkomaaGreatDoor
open Go.RowKit
set_option linter.unusedVariables false

/-- what Next answers where it stands at st0 -/
def NPost (K0 : Kon) (d f lo : Nat) (all : List UInt8) (D : Nat) (w : World) (Gw ex : Nat → Prop) (st0 : St2) (e : Ending) (w' : World) : Prop :=
  ∃ st v, Q2Post K0 d f lo all D w Gw ex v st e w' ∧ ((∃ b : UInt8, v = .tuple #[.int .u8 (b.toNat : Int), .bool true] ∧ (∀ k, st0.tells (k + 1) = (st.tells k).map (b :: ·)) ∧ st.wl ≤ st0.wl + 1) ∨
    (v = .tuple #[.int .u8 0, .bool false] ∧ (∀ k, st0.tells (k + 1) = none) ∧ st.tells 0 = st0.tells 0))
section
variable {K0 : Kon} {d f lo D : Nat} {all r : List UInt8} {w w' w1 : World} {Gw ex : Nat → Prop} {s : Ds} {z : Lzs} {ps : List Nat}
theorem byte_i64 {l : Nat} (h1 : 1 ≤ l) (h2 : l ≤ 2097152) : IntKind.i64.wrap ((l : Int) - 1) = ((l - 1 : Nat) : Int) := by rw [IntWalk.i64_in _ (by omega)]; omega
theorem near_push {z : Lzs} {L : Nat} (h : ZNear z L z.out.length) (x : UInt8) : ZNear { z with out := z.out ++ [x] } L ({ z with out := z.out ++ [x] } : Lzs).out.length := ⟨h.lc, h.lp, h.pb, h.dict, Nat.le_refl _, h.st, h.r0, h.r1, h.r2, h.r3, h.len⟩

set_option maxRecDepth 100000 in
set_option maxHeartbeats 8000000 in
theorem zplain_any {q : Rs} {l : Nat} (hx : Q2x K0 d f lo w Gw ex) (h : Idl K0 d f lo all w Gw s q.r q.z q.ps) (hs1 : s.src = true) (hs2 : s.ended = false) (hs3 : s.left = l) (hs4 : s.pk = none) (h1 : 1 ≤ l) (h2 : l ≤ 65536) (hnd : q.nd % 2 = 0) (hset : setAt q s) (hq : Rok D q) (ho : q.z.out.length ≤ 700000) :
    Calls Tryz.prog 43 #[.pointer (some ⟨d, 0, none⟩)] w (NPost K0 d f lo all D w Gw ex (.plain q l)) := by
  have KR := Lib.hid (qread_any h.rd)
  have HH := Lib.hid (And.intro hx (And.intro h (And.intro hs1 (And.intro hs2 (And.intro hs3 (And.intro h1 (And.intro h2 (And.intro hnd (And.intro hset (And.intro hq (And.intro ho hs4)))))))))))
  cases hr : q.r with
  | nil =>
    have e1 : (⟨s, q.r, []⟩ : Lq).rd = ⟨s.fail, [], []⟩ := by rw [hr]; exact lq_dry hs1
    have e2 : (⟨s, q.r, []⟩ : Lq).b = 0 := by rw [hr]; exact b_end hs1 rfl
    rw [e1, e2] at KR
    have HR0 := Lib.hid hr
    clear hx h hs1 hs2 hs3 hs4 h1 h2 hnd hset hq ho hr e1 e2
    go_enter Tryz.func43, Tryz.ntmps43
    go_wp2_with fail
    refine KR.out.mono ?_
    rintro e w1 ⟨rfl, hR1, hO1⟩
    have KB := qbad_any hR1.blk
    rw [show (⟨s.fail, [], []⟩ : Lq).s.src = false from rfl] at KB
    have KB := Lib.hid KB
    have HR := Lib.hid (And.intro hR1 hO1)
    clear hR1 hO1 KR
    go_wp2_with fail
    refine KB.out.mono ?_
    rintro e w2 ⟨rfl, rfl⟩
    clear KB
    go_wp2_with fail
    go_ret2
    obtain ⟨hx, h, hs1, hs2, hs3, h1, h2, hnd, hset, hq, ho, hs4⟩ := HH.out
    exact ⟨.bad, _, ⟨rfl, Gw, fun _ => False, ⟨s.fail, [], q.z, q.ps, h.read hx HR.out.1 HR.out.2, rfl, rfl⟩, hx.turn (fun i hi => .inl hi) (fun i hi => hi.elim) HR.out.2 (df0 hx), fun i hi => .inl (hi.elim .inl (fun e => e.elim)), HR.out.2.mono (own_df K0 d f Gw ex)⟩,
      .inr ⟨rfl, fun k => plain_dry h1 HR0.out, (plain_zero h1).symm⟩⟩
  | cons x r =>
    have e1 : (⟨s, q.r, []⟩ : Lq).rd = ⟨s, r, []⟩ := by rw [hr]; exact lq_rd hs1
    have e2 : (⟨s, q.r, []⟩ : Lq).b = x := by rw [hr]; exact lq_b hs1
    rw [e1, e2] at KR
    have HR0 := Lib.hid hr
    clear hx h hs1 hs2 hs3 hs4 h1 h2 hnd hset hq ho hr e1 e2
    go_enter Tryz.func43, Tryz.ntmps43
    go_wp2_with fail
    refine KR.out.mono ?_
    rintro e w1 ⟨rfl, hR1, hO1⟩
    have KB := qbad_any hR1.blk
    rw [show (⟨s, r, []⟩ : Lq).s.src = true from HH.out.2.2.1] at KB
    have KB := Lib.hid KB
    have hi1 : Idl K0 d f lo all w1 Gw s r q.z q.ps := HH.out.2.1.read HH.out.1 hR1 hO1
    have hx1 : Q2x K0 d f lo w1 Gw ex := HH.out.1.only hO1 (df0 HH.out.1)
    have KP := Lib.hid (idl_put hx1 hi1 x (Nat.le_trans HH.out.2.2.2.2.2.2.2.2.2.2.1 (by decide)))
    have HOD := Lib.hid (show Only (own2 K0 d f Gw ex) w w1 from hO1.mono (own_df K0 d f Gw ex))
    have c0 : w1.cell? ⟨d, 0, none⟩ = some (.pointer (some ⟨K0.g, 0, none⟩)) := hi1.rd.blk.cell 0
    clear hR1 hO1 hi1 hx1 KR
    go_wp2_with fail
    refine KB.out.mono ?_
    rintro e w2 ⟨rfl, rfl⟩
    clear KB
    go_wp2_with fail
    refine KP.out.mono ?_
    rintro e w3 ⟨rfl, G1, hi3, hx3, hg3, ho3⟩
    have hl3 : s.left = l := HH.out.2.2.2.2.1
    have c9 : w3.cell? ⟨d, 9, none⟩ = some (.int .i64 (l : Int)) := by have := hi3.rd.blk.cell 9; exact this.trans (by rw [← hl3]; rfl)
    have z9 := hi3.rd.blk.free 9
    have b1 : IntKind.i64.wrap ((l : Int) - 1) = ((l - 1 : Nat) : Int) := byte_i64 HH.out.2.2.2.2.2.1 (Nat.le_trans HH.out.2.2.2.2.2.2.1 (by decide))
    have hO := (Only.refl (fun i => i = d ∨ i = f) w3).setCell (p := ⟨d, 9, none⟩) (.inl (.inl rfl)) (.int .i64 ((l - 1 : Nat) : Int))
    have hi4 : Idl K0 d f lo all _ G1 { s with left := l - 1 } r { q.z with out := q.z.out ++ [x] } q.ps := hi3.read hx3 (hi3.rd.put (q' := ⟨{ s with left := l - 1 }, r, []⟩) 9 (.int .i64 ((l - 1 : Nat) : Int)) rfl rfl rfl) hO
    have hx4 : Q2x K0 d f lo _ G1 (fun _ => False) := hx3.only hO (df0 hx3)
    have hz1 := HOD.out.size
    have H4 := Lib.hid (And.intro hi4 (And.intro hx4 (And.intro (show ∀ i, G1 i → Gw i ∨ w.heap.size ≤ i from fun i hi => (hg3 i hi).imp id (fun e => by omega)) (HOD.out.trans (ho3.trans (hO.mono (own_df K0 d f Gw ex)))))))
    generalize hm : l - 1 = m at *
    have HM := Lib.hid hm
    clear hi3 hx3 hg3 ho3 hl3 hO hi4 hx4 KP c0 hm hz1 HOD
    go_wp2_with fail
    go_ret2
    obtain ⟨hx, h, hs1, hs2, hs3, h1, h2, hnd, hset, hq, ho, hs4⟩ := HH.out
    obtain ⟨hi4, hx4, hg4, ho4⟩ := H4.out
    have hq' : Rok D ⟨q.nd, { q.z with out := q.z.out ++ [x] }, q.ps, r⟩ := ⟨hq.nd, near_push hq.near x, hq.ps, hq.bad, hq.ended, hq.dict, hq.four⟩
    have hset' : setAt ⟨q.nd, { q.z with out := q.z.out ++ [x] }, q.ps, r⟩ { s with left := m } := hset
    have hwl : (q.z.out ++ [x]).length ≤ q.z.out.length + 1 := by rw [List.length_append]; exact Nat.le_refl _
    refine ⟨plainNext q l x r, _, ⟨rfl, G1, fun _ => False, ?_, hx4, fun i hi => (hi.elim (fun e => (hg4 i e).imp .inl id) (fun e => e.elim)), ho4⟩, .inl ⟨x, rfl, fun k => plain_next hnd h1 HR0.out, ?_⟩⟩
    · unfold plainNext
      by_cases hl : l = 1
      · rw [if_pos hl]
        exact ⟨_, hi4, hs1, hs2, by show m = 0; have := HM.out; omega, hset', hq'⟩
      · rw [if_neg hl]
        exact ⟨_, hi4, hs1, hs2, by show m = l - 1; exact HM.out.symm, hs4, by omega, by omega, hnd, hset', hq'⟩
    · unfold plainNext
      split
      · exact hwl
      · exact hwl
end
end Go.Proofs.YtoencondpbkomaaGreatDoor
