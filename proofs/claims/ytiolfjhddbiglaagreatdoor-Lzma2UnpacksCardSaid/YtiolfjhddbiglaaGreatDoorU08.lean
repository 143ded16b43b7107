/-
  ZqBegin, LqNext, ZqChunk, ZqChk, ZqByte, ZqPby, ZqPb2, ZqNx, LqEnds: put together.
-/
import Derived.Test.YtiolfjhddbiglaaGreatDoorU07
import Derived.Deep.RegionHeld3
import Derived.Deep.CutRange
import Derived.Deep.CutBlock
import Derived.Test.YtiolfjhddbiglaaGreatDoorU04
set_option linter.unusedVariables false
set_option linter.unusedSimpArgs false
/-
  The decoder of LZMA2: a packed chunk begins.
-/
namespace Go.Proofs.YtiolfjhddbiglaaGreatDoor
open Go.RowKit
set_option linter.unusedVariables false

section
variable {K0 : Kon} {d f lo D : Nat} {all r : List UInt8} {w w' : World} {Gw ex : Nat → Prop} {s : Ds} {z : Lzs} {ps : List Nat}

theorem beg_a0 {c : Nat} (h : c < 256) : wrap64 (c : Int) = (c : Int) := IntWalk.wrap64_in _ (by omega)
theorem beg_a1 {c cm : Nat} (h : c < 256) (h2 : 128 ≤ c) (hm : cm = c - 128) : IntKind.u8.wrap ((c : Int) - 128) = (cm : Int) := by
  show ((c : Int) - 128) % 256 = _
  omega
theorem beg_a2 {a b : Nat} (h : b = a * 65536) (ha : a ≤ 31) : wrap64 ((a : Int) * 65536) = (b : Int) := by rw [IntWalk.wrap64_in _ (by omega)]; omega
theorem beg_a3 {a b n : Nat} (h : n = a + b) (ha : a ≤ 2031616) (hb : b ≤ 65536) : wrap64 ((a : Int) + (b : Int)) = (n : Int) := by rw [IntWalk.wrap64_in _ (by omega)]; omega
theorem beg_ne {v : Nat} (h : ¬ v = 0) : ((v : Int) != 0) = true := by simp; omega
theorem beg_eq {v : Nat} (h : v = 0) : ((v : Int) != 0) = false := by simp; omega
theorem and31 (n : Nat) (h : n < 256) : bits .and .i64 (n : Int) 31 = ((n % 32 : Nat) : Int) := by
  have hx : n &&& 31 < 2 ^ 63 := Nat.and_lt_two_pow _ (by decide)
  have hm : n &&& 31 = n % 32 := Nat.and_two_pow_sub_one_eq_mod n 5
  have h1 : (BitVec.ofInt 64 (n : Int)).toNat = n := by simp; omega
  have h2 : (BitVec.ofInt 64 (31 : Int)).toNat = 31 := by decide
  show IntKind.i64.wrap ((BitVec.ofInt 64 (n : Int) &&& BitVec.ofInt 64 (31 : Int)).toNat : Int) = _
  rw [BitVec.toNat_and, h1, h2, hm, IntKind.wrap_i64]
  omega
/-- all that a packed chunk's head says: the bytes behind it, how many are told, how many are packed, the setting -/
def BegPost (K0 : Kon) (d f lo : Nat) (all : List UInt8) (D : Nat) (w : World) (Gw ex : Nat → Prop) (q : Rs) (e : Ending) (w' : World) : Prop :=
  ∃ st, Q2Post K0 d f lo all D w Gw ex (.tuple #[]) st e w' ∧ (∀ k, (St2.rest q).tells k = st.tells k) ∧ st.wl ≤ q.z.out.length ∧ (st = .bad ∨ ∃ zf tf n l full r2, st = .pack zf tf n l full r2)
/-- it is bad, for none of it is told -/
theorem beg_bad {q : Rs} {c : UInt8} {ds : Ds} {r2 : List UInt8} (hx : Q2x K0 d f lo w Gw ex) (h : Idl K0 d f lo all w Gw s r z ps) (hr : q.r = c :: r) (hc : 128 ≤ c.toNat) (hn : packedC q c.toNat r = none)
    (hR : Rdr w' d K0.g f lo all ⟨ds, r2, []⟩) (hO : Only (fun i => i = d ∨ i = f) w w') (h1 : ds.src = false) (h2 : ds.left = 0) : BegPost K0 d f lo all D w Gw ex q (.returned (.tuple #[])) w' := by
  refine ⟨.bad, ⟨rfl, Gw, fun _ => False, ⟨ds, r2, z, ps, h.read hx hR hO, h1, h2⟩, hx.turn (fun i hi => .inl hi) (fun i hi => hi.elim) hO (df0 hx), fun i hi => .inl (hi.elim .inl (fun e => e.elim)), hO.mono (own_df K0 d f Gw ex)⟩, fun k => ?_, Nat.zero_le _, .inl rfl⟩
  exact rest_bad (head_ne hr (by omega)) ((chunk_packed hr hc).trans hn)

/-- the head is read: it is bad, and nothing of the chunk is told; or what is behind the head -/
def BegMid (K0 : Kon) (d f lo : Nat) (all : List UInt8) (w : World) (q : Rs) (c how nn n2 : Nat) (r : List UInt8) (wx : World) : Prop :=
  ∃ ds r3, Rdr wx d K0.g f lo all ⟨ds, r3, []⟩ ∧ Only (fun i => i = d ∨ i = f) w wx ∧ ds.left = 0 ∧ ((ds.src = false ∧ packedC q c r = none) ∨
    (ds.src = true ∧ ds.ended = false ∧ ∃ lc lp pb : Nat, (ds.a0 = (lc : Int) ∧ ds.a1 = (lp : Int) ∧ ds.a2 = (pb : Int)) ∧ lc + lp ≤ 4 ∧ pb ≤ 4 ∧ packedC q c r = bodyC q how nn n2 (lc, lp, pb) r3 ∧ (how = 0 → lc = q.z.lc ∧ lp = q.z.lp ∧ pb = q.z.pb)))
theorem mid_keep {q : Rs} {c how nn n1 n2 ab2 : Nat} {q1 q2 : Lq} (hq1 : q1 = (⟨s, r, []⟩ : Lq).two) (hq2 : q2 = q1.two) (hn1 : n1 = (⟨s, r, []⟩ : Lq).count) (hn2 : n2 = q1.count) (hnn : nn = ab2 + n1) (hab : ab2 = c % 32 * 65536)
    (hhow : how = c / 32 - 4) (hb : bringsN q.nd (c / 32 - 4) = true) (hv : how < 2) (hs1 : s.src = true) (hs2 : s.ended = false) (hs3 : s.left = 0) (hset : setAt q s) (hq : Rok D q) (hR : Rdr w' d K0.g f lo all q2) (hO : Only (fun i => i = d ∨ i = f) w w') :
    BegMid K0 d f lo all w q c how nn n2 r w' := by
  have hnd : q.nd = 0 := by
    unfold bringsN at hb
    rcases of_decide_eq_true hb with h | h | h
    · exact h
    · omega
    · omega
  rcases four_cases (s := s) (r := r) hs1 with ⟨x, y, x2, y2, r2, rfl, e1, e2, e3⟩ | ⟨e1, e2⟩
  · rw [← hq1, ← hq2] at e1
    rw [← hn1] at e2
    rw [← hq1, ← hn2] at e3
    rw [e1] at hR
    refine ⟨s, r2, hR, hO, hs3, .inr ⟨hs1, hs2, q.z.lc, q.z.lp, q.z.pb, hset.2 hnd, hq.four, hq.near.pb, ?_, fun _ => ⟨rfl, rfl, rfl⟩⟩⟩
    have e5 : c % 32 * 65536 + 256 * x.toNat + y.toNat + 1 = nn := by rw [hnn, hab, e2, ← Nat.add_assoc, ← Nat.add_assoc]
    rw [packedC_keep hb (by omega), ← hhow, e3, e5]
  · rw [← hq1, ← hq2] at e2
    rw [e2] at hR
    exact ⟨s.fail, [], hR, hO, rfl, .inl ⟨rfl, packedC_short e1⟩⟩
theorem setN_ok {x : UInt8} {st : Nat × Nat × Nat} (h : setN x = some st) : st.1 + st.2.1 ≤ 4 ∧ st.2.2 ≤ 4 := by
  unfold setN at h
  split at h
  · rename_i hc
    injection h with h
    rw [← h]
    exact ⟨hc.2, by show x.toNat / 45 ≤ 4; omega⟩
  · cases h
theorem mid_set {q : Rs} {c how nn n1 n2 ab2 : Nat} {q1 q2 : Lq} {a0 a1 a2 a3 : Int} {w3 w4 : World} (hq1 : q1 = (⟨s, r, []⟩ : Lq).two) (hq2 : q2 = q1.two) (hn1 : n1 = (⟨s, r, []⟩ : Lq).count) (hn2 : n2 = q1.count) (hnn : nn = ab2 + n1) (hab : ab2 = c % 32 * 65536)
    (hhow : how = c / 32 - 4) (hb : bringsN q.nd (c / 32 - 4) = true) (hv : ¬ how < 2) (hs1 : s.src = true) (hs2 : s.ended = false) (hs3 : s.left = 0)
    (hR : (∃ st, setN q2.b = some st ∧ a0 = (st.1 : Int) ∧ a1 = (st.2.1 : Int) ∧ a2 = (st.2.2 : Int) ∧ Rdr w3 d K0.g f lo all q2.rd) ∨ (setN q2.b = none ∧ Rdr w3 d K0.g f lo all q2.rd.fail))
    (hw : w4 = (((w3.setCell ⟨d, 5, none⟩ (.int .i64 a0)).setCell ⟨d, 6, none⟩ (.int .i64 a1)).setCell ⟨d, 7, none⟩ (.int .i64 a2)).setCell ⟨d, 8, none⟩ (.int .i64 a3)) (hO : Only (fun i => i = d ∨ i = f) w w4) :
    BegMid K0 d f lo all w q c how nn n2 r w4 := by
  have hput : ∀ {ds : Ds} {r3 : List UInt8}, Rdr w3 d K0.g f lo all ⟨ds, r3, []⟩ → Rdr w4 d K0.g f lo all ⟨{ ds with a0 := a0, a1 := a1, a2 := a2, a3 := a3 }, r3, []⟩ := by
    intro ds r3 h
    rw [hw]
    exact (((h.put (q' := ⟨{ ds with a0 := a0 }, r3, []⟩) 5 (.int .i64 a0) rfl rfl rfl).put (q' := ⟨{ ds with a0 := a0, a1 := a1 }, r3, []⟩) 6 (.int .i64 a1) rfl rfl rfl).put (q' := ⟨{ ds with a0 := a0, a1 := a1, a2 := a2 }, r3, []⟩) 7 (.int .i64 a2) rfl rfl rfl).put (q' := ⟨{ ds with a0 := a0, a1 := a1, a2 := a2, a3 := a3 }, r3, []⟩) 8 (.int .i64 a3) rfl rfl rfl
  have h0 : setN 0 = some (0, 0, 0) := by decide
  rcases four_cases (s := s) (r := r) hs1 with ⟨x, y, x2, y2, r2, rfl, e1, e2, e3⟩ | ⟨e1, e2⟩
  · rw [← hq1, ← hq2] at e1
    rw [← hn1] at e2
    rw [← hq1, ← hn2] at e3
    rw [e1] at hR
    match r2, hR with
    | [], hR =>
      rw [b_end (q := ⟨s, [], []⟩) hs1 rfl, h0, lq_dry hs1] at hR
      rcases hR with ⟨st, _, _, _, _, hR⟩ | ⟨hR, _⟩
      · exact ⟨_, [], hput hR, hO, rfl, .inl ⟨rfl, packedC_dry (by omega)⟩⟩
      · cases hR
    | v :: r3, hR =>
      rw [lq_b hs1, lq_rd hs1] at hR
      rcases hR with ⟨st, hst, ha0, ha1, ha2, hR⟩ | ⟨hst, hR⟩
      · obtain ⟨k1, k2⟩ := setN_ok hst
        refine ⟨_, r3, hput hR, hO, hs3, .inr ⟨hs1, hs2, st.1, st.2.1, st.2.2, ⟨ha0, ha1, ha2⟩, k1, k2, ?_, fun h => by omega⟩⟩
        have e5 : c % 32 * 65536 + 256 * x.toNat + y.toNat + 1 = nn := by rw [hnn, hab, e2, ← Nat.add_assoc, ← Nat.add_assoc]
        rw [packedC_set hb (by omega), hst, ← hhow, e3, e5]
      · refine ⟨_, r3, hput (ds := s.fail) hR, hO, rfl, .inl ⟨rfl, ?_⟩⟩
        rw [packedC_set hb (by omega), hst]
  · rw [← hq1, ← hq2] at e2
    rw [e2] at hR
    rw [b_none (q := ⟨s.fail, [], []⟩) rfl, h0, rd_none (q := ⟨s.fail, [], []⟩) rfl] at hR
    rcases hR with ⟨st, _, _, _, _, hR⟩ | ⟨hR, _⟩
    · exact ⟨_, [], hput hR, hO, rfl, .inl ⟨rfl, packedC_short e1⟩⟩
    · cases hR

set_option maxRecDepth 100000 in
set_option maxHeartbeats 16000000 in
theorem qpacked_any {q : Rs} {c : UInt8} (hx : Q2x K0 d f lo w Gw ex) (h : Idl K0 d f lo all w Gw s r q.z q.ps) (hs1 : s.src = true) (hs2 : s.ended = false) (hs3 : s.left = 0) (hset : setAt q s) (hq : Rok D q) (hr : q.r = c :: r) (hc : 128 ≤ c.toNat)
    (ho : q.z.out.length ≤ 700000) :
    Calls Tryz.prog 76 #[.pointer (some ⟨d, 0, none⟩), .int .u8 (c.toNat : Int)] w
      (BegPost K0 d f lo all D w Gw ex q) := by
  obtain ⟨how, hhow⟩ : ∃ how, how = c.toNat / 32 - 4 := ⟨_, rfl⟩
  have hh4 : how < 4 := by have := c.toNat_lt; omega
  obtain ⟨cm, hcm⟩ : ∃ cm, cm = c.toNat - 128 := ⟨_, rfl⟩
  have e1 : IntKind.u8.wrap ((c.toNat : Int) - 128) = (cm : Int) := beg_a1 c.toNat_lt hc hcm
  have hcm32 : cm / 32 = how := by omega
  have c4 : w.cell? ⟨d, 4, none⟩ = some (.int .u8 (s.nd : Int)) := h.rd.blk.cell 4
  have t0 : w.cell? ⟨0, cm / 32, none⟩ = some (.int .u8 (bringN how : Int)) := by rw [hcm32]; exact hx.tab how hh4
  have i0 : (0 : Int) ≤ (cm : Int) / 32 := by omega
  have i1 : (cm : Int) / 32 < 4 := by omega
  obtain ⟨v, hv, hv0⟩ := needs_bits (nd := s.nd) (how := how) (by rw [hset.1]; exact hq.nd) hh4
  obtain ⟨br, hbr⟩ : ∃ br, br = bringN how := ⟨_, rfl⟩
  rw [← hbr] at t0 hv
  have HH := Lib.hid (And.intro hx (And.intro h (And.intro hs1 (And.intro hs2 (And.intro hs3 (And.intro hset (And.intro hq (And.intro hr (And.intro hc ho)))))))))
  have HN := Lib.hid (And.intro hhow (And.intro hh4 (And.intro hv0 hbr)))
  have a0 : wrap64 (c.toNat : Int) = (c.toNat : Int) := beg_a0 c.toNat_lt
  obtain ⟨ab, hab⟩ : ∃ ab, ab = c.toNat % 32 := ⟨_, rfl⟩
  have hab31 : ab ≤ 31 := by rw [hab]; exact Nat.le_of_lt_succ (Nat.mod_lt _ (by decide))
  have a1 : bits .and .i64 (c.toNat : Int) 31 = (ab : Int) := by rw [hab]; exact and31 _ c.toNat_lt
  obtain ⟨ab2, hab2⟩ : ∃ ab2, ab2 = ab * 65536 := ⟨_, rfl⟩
  have a2 : wrap64 ((ab : Int) * 65536) = (ab2 : Int) := beg_a2 hab2 hab31
  have HAB := Lib.hid (show ab2 = c.toNat % 32 * 65536 ∧ ab2 ≤ 2031616 from ⟨by rw [hab2, hab], by rw [hab2]; exact Nat.mul_le_mul_right 65536 hab31⟩)
  have KF := Lib.hid (qfail_any h.rd.blk)
  have KC := Lib.hid (qcount_any h.rd)
  have HRD := Lib.hid h.rd
  clear hx h hs1 hs2 hs3 hset hq hr hc ho hhow hcm hcm32 hh4 hv0 hbr hab hab2 hab31
  by_cases hb : v = 0
  case neg =>
    have b1 : ((v : Int) != 0) = true := beg_ne hb
    have HNB := Lib.hid (show packedC q c.toNat r = none from by
      obtain ⟨hx, h, hs1, hs2, hs3, hset, hq, hr, hc, ho⟩ := HH.out
      obtain ⟨n1, n2, n3, n4⟩ := HN.out
      refine packedC_needs ?_
      rw [← n1, ← hset.1]
      cases e : bringsN s.nd how with
      | false => rfl
      | true => exact absurd (n3.2 e) hb)
    clear hb KC a0 a1 a2
    go_enter Tryz.func76, Tryz.ntmps76
    go_wp2_with fail
    refine KF.out.mono ?_
    rintro e w1 ⟨rfl, hB1, hO1⟩
    have H1 := Lib.hid (And.intro hB1 hO1)
    clear hB1 hO1 KF
    go_wp2_with fail
    first | go_end0 | refine bodyPost_ret (results_none rfl _ _ _) rfl ?_
    obtain ⟨hx, h, hs1, hs2, hs3, hset, hq, hr, hc, ho⟩ := HH.out
    exact beg_bad hx h hr hc HNB.out (rdr_failed HRD.out H1.out.1) (H1.out.2.mono (fun i hi => .inl hi)) rfl rfl
  case pos =>
  have b1 : ((v : Int) != 0) = false := beg_eq hb
  have HB := Lib.hid (show bringsN q.nd (c.toNat / 32 - 4) = true from by
    obtain ⟨hx, h, hs1, hs2, hs3, hset, hq, hr, hc, ho⟩ := HH.out
    obtain ⟨n1, n2, n3, n4⟩ := HN.out
    rw [← n1, ← hset.1]
    exact n3.1 hb)
  clear hb KF
  go_enter Tryz.func76, Tryz.ntmps76
  go_wp2_with fail
  refine KC.out.mono ?_
  rintro e w1 ⟨rfl, hR1, hO1⟩
  obtain ⟨n1, hn1⟩ : ∃ n1, n1 = (⟨s, r, []⟩ : Lq).count := ⟨_, rfl⟩
  obtain ⟨q1, hq1⟩ : ∃ q1, q1 = (⟨s, r, []⟩ : Lq).two := ⟨_, rfl⟩
  have hn1l : n1 ≤ 65536 := by rw [hn1]; exact count_small _
  rw [← hq1] at hR1
  rw [← hn1]
  have HC1 := Lib.hid (And.intro hn1 (And.intro hq1 hn1l))
  obtain ⟨nn, hnn⟩ : ∃ nn, nn = ab2 + n1 := ⟨_, rfl⟩
  have a3 : wrap64 ((ab2 : Int) + (n1 : Int)) = (nn : Int) := beg_a3 hnn HAB.out.2 hn1l
  have HNN := Lib.hid (show nn = ab2 + n1 ∧ nn ≤ 2097152 from ⟨hnn, by rw [hnn]; exact Nat.add_le_add HAB.out.2 hn1l⟩)
  have KC2 := Lib.hid (qcount_any hR1)
  have HO1 := Lib.hid hO1
  clear hR1 hO1 hn1 hq1 hn1l hnn KC
  go_wp2_with fail
  refine KC2.out.mono ?_
  rintro e w2 ⟨rfl, hR2, hO2⟩
  obtain ⟨n2, hn2⟩ : ∃ n2, n2 = q1.count := ⟨_, rfl⟩
  obtain ⟨q2, hq2⟩ : ∃ q2, q2 = q1.two := ⟨_, rfl⟩
  have hn2l : n2 ≤ 65536 := by rw [hn2]; exact count_small _
  rw [← hq2] at hR2
  rw [← hn2]
  have HC2 := Lib.hid (And.intro hn2 (And.intro hq2 hn2l))
  have H2 := Lib.hid (And.intro hR2 (HO1.out.trans hO2))
  clear hR2 hO2 hn2 hq2 hn2l KC2 a0 a1 a2 a3
  obtain ⟨v2, hv2, hv20⟩ := set_bits (how := how) HN.out.2.1
  rw [← HN.out.2.2.2] at hv2
  have HV2 := Lib.hid hv20
  clear hv20
  go_upto_if 34 with fail
  go_cut [] from 33 to 39 (fun wx => BegMid K0 d f lo all w q c.toNat how nn n2 r wx)
  case first =>
    obtain ⟨hx, h, hs1, hs2, hs3, hset, hq, hr, hc, ho⟩ := HH.out
    have hhow := HN.out.1
    obtain ⟨u1, u2, u3⟩ := HC1.out
    obtain ⟨u4, u5, u6⟩ := HC2.out
    by_cases hv : how < 2
    · have b2 : ((v2 : Int) != 0) = false := beg_eq (HV2.out.2 hv)
      have HM := Lib.hid (mid_keep (D := D) u2 u5 u1 u4 HNN.out.1 HAB.out.1 hhow HB.out hv hs1 hs2 hs3 hset hq H2.out.1 H2.out.2)
      clear hx h hs1 hs2 hs3 hset hq hr hc ho hhow u1 u2 u3 u4 u5 u6 hv
      go_wp2_with fail
      go_meet
      exact HM.out
    · have b2 : ((v2 : Int) != 0) = true := beg_ne (fun e => hv (HV2.out.1 e))
      have KS := Lib.hid (qset_any H2.out.1 (Nat.lt_of_lt_of_le hx.fs H2.out.2.size))
      have HM := Lib.hid (fun (w3 w4 : World) (a0 a1 a2 a3 : Int) hR hw hO => mid_set (K0 := K0) (d := d) (f := f) (lo := lo) (all := all) (w := w) (w3 := w3) (w4 := w4) (a0 := a0) (a1 := a1) (a2 := a2) (a3 := a3) u2 u5 u1 u4 HNN.out.1 HAB.out.1 hhow HB.out hv hs1 hs2 hs3 hR hw hO)
      clear hx h hs1 hs2 hs3 hset hq hr hc ho hhow u1 u2 u3 u4 u5 u6 hv
      go_wp2_with fail
      refine KS.out.mono ?_
      rintro e w3 ⟨a0, a1, a2, a3, rfl, hO3, hR3⟩
      have hB3 : ∃ ds, Blk w3 d 105 (d2Cells K0.g f ds) := by
        rcases hR3 with ⟨_, _, _, _, _, hR⟩ | ⟨_, hR⟩
        · exact ⟨_, hR.blk⟩
        · exact ⟨_, hR.blk⟩
      obtain ⟨ds, hB3⟩ := hB3
      have d5 : w3.cell? ⟨d, 5, none⟩ = some (.int .i64 ds.a0) := hB3.cell 5
      have d6 : w3.cell? ⟨d, 6, none⟩ = some (.int .i64 ds.a1) := hB3.cell 6
      have d7 : w3.cell? ⟨d, 7, none⟩ = some (.int .i64 ds.a2) := hB3.cell 7
      have d8 : w3.cell? ⟨d, 8, none⟩ = some (.int .i64 ds.a3) := hB3.cell 8
      have y5 := hB3.free 5
      have y6 := hB3.free 6
      have y7 := hB3.free 7
      have y8 := hB3.free 8
      have hO4 := (((((H2.out.2.trans hO3)).setCell (p := ⟨d, 5, none⟩) (.inl (.inl rfl)) (.int .i64 a0)).setCell (p := ⟨d, 6, none⟩) (.inl (.inl rfl)) (.int .i64 a1)).setCell (p := ⟨d, 7, none⟩) (.inl (.inl rfl)) (.int .i64 a2)).setCell (p := ⟨d, 8, none⟩) (.inl (.inl rfl)) (.int .i64 a3)
      have HM3 := Lib.hid (HM.out w3 _ a0 a1 a2 a3 hR3 rfl hO4)
      clear hB3 hO3 hR3 hO4 KS HM
      go_wp2_with fail
      go_meet
      exact HM3.out
  case rest =>
  generalize wc = w5 at *
  obtain ⟨ds, r3, hR5, hO5, hl5, hcase⟩ := hcut
  have KB := Lib.hid (qbad_any hR5.blk)
  have H5 := Lib.hid (And.intro hR5 (And.intro hO5 hl5))
  clear hR5 hO5 hl5
  rcases hcase with ⟨hsf, hnone⟩ | ⟨hst, hen, lc, lp, pb, hab3, h4, hpb, hbody, hkeep⟩
  · replace KB := KB.out
    rw [hsf] at KB
    have KB := Lib.hid KB
    have HF := Lib.hid (And.intro hsf hnone)
    clear hsf hnone
    go_wp2_with fail
    refine KB.out.mono ?_
    rintro e w6 ⟨rfl, rfl⟩
    clear KB
    go_wp2_with fail
    first | go_end0 | refine bodyPost_ret (results_none rfl _ _ _) rfl ?_
    obtain ⟨hx, h, hs1, hs2, hs3, hset, hq, hr, hc, ho⟩ := HH.out
    exact beg_bad hx h hr hc HF.out.2 H5.out.1 H5.out.2.1 HF.out.1 H5.out.2.2
  · replace KB := KB.out
    rw [hst] at KB
    have KB := Lib.hid KB
    obtain ⟨hx, h, hs1, hs2, hs3, hset, hq, hr, hc, ho⟩ := HH.out
    have hi5 : Idl K0 d f lo all w5 Gw ds r3 q.z q.ps := h.read hx H5.out.1 H5.out.2.1
    have hx5 : Q2x K0 d f lo w5 Gw (fun _ => False) := hx.turn (fun i hi => .inl hi) (fun i hi => hi.elim) H5.out.2.1 (df0 hx)
    have KN := zrenew_any hx5 hi5 (how := how) (fun _ => hab3) h4 hpb (Nat.le_of_lt_succ HN.out.2.1)
    rw [← HN.out.2.2.2] at KN
    have KN := Lib.hid KN
    have HBR := Lib.hid (brought_near (n := 0) hq.near h4 hpb hq.ps hq.bad hq.ended hkeep)
    have HF := Lib.hid (And.intro hst (And.intro hen (And.intro hab3 (And.intro h4 hbody))))
    have HCK := Lib.hid (show chunkN q = bodyC q how nn n2 (lc, lp, pb) r3 from (chunk_packed hr hc).trans hbody)
    have HNE := Lib.hid (head_ne hr (by omega))
    have HD := Lib.hid hq.dict
    have HL5 := Lib.hid (show Only (own2 K0 d f Gw ex) w w5 from H5.out.2.1.mono (own_df K0 d f Gw ex))
    clear hx h hs1 hs2 hs3 hset hq hr hc ho hi5 hx5 hst hen hab3 h4 hpb hbody hkeep
    go_wp2_with fail
    refine KB.out.mono ?_
    rintro e w6 ⟨rfl, rfl⟩
    clear KB
    go_wp2_with fail
    refine KN.out.mono ?_
    rintro e w7 ⟨rfl, G1, hi7, hx7, hg7, ho7⟩
    obtain ⟨z1, hz1⟩ : ∃ z1, z1 = q.z.brought how (lc, lp, pb) := ⟨_, rfl⟩
    obtain ⟨ps1, hps1⟩ : ∃ ps1, ps1 = psN q.ps how (lc, lp, pb) := ⟨_, rfl⟩
    rw [← hz1, ← hps1] at hi7 HBR
    have HZ1 := Lib.hid (And.intro hz1 hps1)
    have c2 : w7.cell? ⟨d, 2, none⟩ = some (.iface 52 (.pointer (some ⟨f, 0, none⟩))) := by
      have := hi7.rd.blk.cell 2
      exact this.trans (by show some (srcV f ds.src) = _; rw [HF.out.1]; rfl)
    have c9 : w7.cell? ⟨d, 9, none⟩ = some (.int .i64 (ds.left : Int)) := hi7.rd.blk.cell 9
    have y9 := hi7.rd.blk.free 9
    have c10 : w7.cell? ⟨d, 10, none⟩ = some (pkV ds.pk) := hi7.rd.blk.cell 10
    have y10 := hi7.rd.blk.free 10
    have a3 : wrap64 ((ab2 : Int) + (n1 : Int)) = (nn : Int) := beg_a3 HNN.out.1 HAB.out.2 HC1.out.2.2
    have H7 := Lib.hid (And.intro hi7 (And.intro hx7 (And.intro hg7 ho7)))
    clear hi7 hx7 hg7 ho7 KN hz1 hps1
    have hbA : Blk (w7.alloc (.cells #[.iface 52 (.pointer (some ⟨f, 0, none⟩)), .int .i64 (n2 : Int)] 178)) d 105 (d2Cells K0.g f { ds with nd := 0 }) := H7.out.1.rd.blk.below ((Below.refl _ _).alloc (Nat.le_refl _) _)
    have A9 : (w7.alloc (.cells #[.iface 52 (.pointer (some ⟨f, 0, none⟩)), .int .i64 (n2 : Int)] 178)).cell? ⟨d, 9, none⟩ = some (.int .i64 (ds.left : Int)) := hbA.cell 9
    have B9 := hbA.free 9
    have A10 : (w7.alloc (.cells #[.iface 52 (.pointer (some ⟨f, 0, none⟩)), .int .i64 (n2 : Int)] 178)).cell? ⟨d, 10, none⟩ = some (pkV ds.pk) := hbA.cell 10
    have B10 := hbA.free 10
    clear hbA
    go_upto_region 11 with fail
    obtain ⟨hi7, hx7, hg7, ho7⟩ := H7.out
    obtain ⟨p, hp⟩ : ∃ p, p = w7.heap.size := ⟨_, rfl⟩
    have hf7 : f < p := by rw [hp]; exact hx7.fs
    have hd7 : d < p := by rw [hp]; exact hi7.rd.blk.lt
    have hal : Below w7.heap.size w7 (w7.alloc (.cells #[.iface 52 (.pointer (some ⟨f, 0, none⟩)), .int .i64 (n2 : Int)] 178)) := (Below.refl _ _).alloc (Nat.le_refl _) _
    have hpB : Blk (w7.alloc (.cells #[.iface 52 (.pointer (some ⟨f, 0, none⟩)), .int .i64 (n2 : Int)] 178)) p 178 #[.iface 52 (.pointer (some ⟨f, 0, none⟩)), .int .i64 (n2 : Int)] := by rw [hp]; exact Blk.fresh w7 _ _
    have hiA := hi7.quiet hal
    have hxA : Q2x K0 d f lo _ G1 (fun _ => False) := hx7.only (Only.of_below (S := fun _ => False) hal) (fun e => e)
    have hsz : p < (w7.alloc (.cells #[.iface 52 (.pointer (some ⟨f, 0, none⟩)), .int .i64 (n2 : Int)] 178)).heap.size := hpB.lt
    rw [← hp]
    have HP := Lib.hid (And.intro hf7 (And.intro hd7 hp))
    have HG7 := Lib.hid (And.intro hg7 (ho7.trans ((Only.of_below (S := own2 K0 d f Gw (fun _ => False)) hal))))
    have HGP := Lib.hid (show ∀ i, G1 i → i ≠ p from fun i hi e => by
      obtain ⟨K, v4, v5, v16, v17, v18, hk, hrr⟩ := hi7.rs
      have := hrr.win.old hi
      omega)
    clear hal hi7 hx7 hg7 ho7 c2 c9 y9 c10 y10 hf7 hd7 hp a3 A9 B9 A10 B10
    generalize w7.alloc (.cells #[.iface 52 (.pointer (some ⟨f, 0, none⟩)), .int .i64 (n2 : Int)] 178) = wA at *
    have hO9 := (((Only.refl (fun i => i = d ∨ i = f) wA).setCell (p := ⟨d, 9, none⟩) (.inl (.inl rfl)) (.int .i64 (nn : Int))).setCell (p := ⟨d, 10, none⟩) (.inl (.inl rfl)) (.pointer (some ⟨p, 0, none⟩)))
    have hi9 : Idl K0 d f lo all _ G1 { ds with nd := 0, left := nn, pk := some p } r3 z1 ps1 := hiA.read hxA ((hiA.rd.put (q' := ⟨{ ds with nd := 0, left := nn }, r3, []⟩) 9 (.int .i64 (nn : Int)) rfl rfl rfl).put (q' := ⟨{ ds with nd := 0, left := nn, pk := some p }, r3, []⟩) 10 (.pointer (some ⟨p, 0, none⟩)) rfl rfl rfl) hO9
    have hx9 : Q2x K0 d f lo _ G1 (fun _ => False) := hxA.only hO9 (df0 hxA)
    have hp9 : Blk ((wA.setCell ⟨d, 9, none⟩ (.int .i64 (nn : Int))).setCell ⟨d, 10, none⟩ (.pointer (some ⟨p, 0, none⟩))) p 178 #[.iface 52 (.pointer (some ⟨f, 0, none⟩)), .int .i64 (n2 : Int)] := hpB.only hO9 (by have := HP.out; omega)
    have hs9 : p < ((wA.setCell ⟨d, 9, none⟩ (.int .i64 (nn : Int))).setCell ⟨d, 10, none⟩ (.pointer (some ⟨p, 0, none⟩))).heap.size := hp9.lt
    have HOW := Lib.hid (show Only (own2 K0 d f Gw (fun _ => False)) w5 _ from HG7.out.2.trans (hO9.mono (own_df K0 d f Gw (fun _ => False))))
    generalize (wA.setCell ⟨d, 9, none⟩ (.int .i64 (nn : Int))).setCell ⟨d, 10, none⟩ (.pointer (some ⟨p, 0, none⟩)) = w9 at *
    obtain ⟨a, hF9, hra⟩ := hi9.rd.feed HF.out.1
    have hal := hF9.le
    have hra : r3 = all.drop a := hra
    have HRA := Lib.hid (And.intro hra hal)
    have hPk : PkAt p f lo all a n2 w9 ((all.drop a).take n2) 0 := ⟨rfl, Nat.zero_le _, ⟨n2, hp9, fun _ => rfl, Nat.le_refl _⟩, hF9, Nat.le_trans HC2.out.2.2 (by decide), ⟨hx9.lf, HP.out.1⟩⟩
    have KG := Lib.hid (fun k => zq_begin (D := D) (l := nn) (hx9.drawn k) (hi9.drawn k) HF.out.1 HF.out.2.1 rfl rfl rfl ⟨by have := HNN.out.1; have := HC1.out.1; unfold Lq.count at this; omega, HNN.out.2⟩
      (by obtain ⟨e1, e2, e3⟩ := HF.out.2.2.1; obtain ⟨g1, g2, g3⟩ := HBR.out.2.2.2.2.2.1; rw [g1, g2, g3]; exact ⟨e1, e2, e3⟩)
      ((pk_ok hx9.lf).only (S := pkSc p f lo all a n2) hPk ((Only.refl (fun _ => False) w9).drewN k) (fun _ e => e.elim)) ⟨HP.out.1, hs9⟩ HGP.out
      HBR.out.1 HBR.out.2.1 HBR.out.2.2.1 HBR.out.2.2.2.1 (HBR.out.2.2.2.2.1.trans HD.out) (by obtain ⟨g1, g2, g3⟩ := HBR.out.2.2.2.2.2.1; rw [g1, g2]; exact HF.out.2.2.2.1))
    have d0 : w9.cell? ⟨d, 0, none⟩ = some (.pointer (some ⟨K0.g, 0, none⟩)) := hi9.rd.blk.cell 0
    have d10 : w9.cell? ⟨d, 10, none⟩ = some (.pointer (some ⟨p, 0, none⟩)) := hi9.rd.blk.cell 10
    clear hi9 hx9 hp9 hs9 hO9 hPk hF9 hra hal hiA hxA hpB hsz
    go_region_held3 (fun W => W.cell? ⟨d, 0, none⟩ = some (.pointer (some ⟨K0.g, 0, none⟩)) ∧ W.cell? ⟨d, 10, none⟩ = some (.pointer (some ⟨p, 0, none⟩))) (first | assumption | go_keep | exact HB8.out) (first | (go_at_call 103; refine (KG.out _).mono ?_; rintro e w8 ⟨hq8, hb8⟩; have he8 := hq8.1; subst he8; have HB8 := Lib.hid (show w8.cell? ⟨d, 0, none⟩ = some (.pointer (some ⟨K0.g, 0, none⟩)) ∧ w8.cell? ⟨d, 10, none⟩ = some (.pointer (some ⟨p, 0, none⟩)) from ⟨hb8.cell 0, hb8.cell 10⟩); have HQ8 := Lib.hid hq8; clear hq8 hb8))
    go_wp2_with fail
    first | go_end0 | refine bodyPost_ret (results_none rfl _ _ _) rfl ?_
    refine ⟨_, Q2Post.trans (fun i hi => ?_) (HL5.out.trans' (HOW.out.drewN _) (fun i hi => ?_)) HQ8.out, fun k => ?_, HBR.out.2.2.2.2.2.2, .inr ⟨_, _, _, _, _, _, rfl⟩⟩
    · have g1 := HL5.out.size
      rcases hi with hi | hi
      · rcases HG7.out.1 i hi with e | e
        · exact .inl (.inl e)
        · exact .inr (by omega)
      · have g2 := H7.out.2.2.2.size
        have g3 := HP.out.2.2
        exact .inr (by omega)
    · rcases hi with e | e | e | e | e | e
      · exact .inl (.inl e)
      · exact .inl (.inr (.inl e))
      · exact .inl (.inr (.inr (.inl e)))
      · exact .inl (.inr (.inr (.inr (.inl e))))
      · exact .inl (.inr (.inr (.inr (.inr (.inl e)))))
      · exact e.elim
    · have h1 : 1 ≤ nn := by have := HNN.out.1; have := HC1.out.1; unfold Lq.count at this; omega
      have h2 := bodyC_pack (k := k) h1 HNE.out HCK.out
      rw [← HZ1.out.1, ← HZ1.out.2, HRA.out.1, List.drop_drop, List.length_drop] at h2
      rw [h2, show decide (n2 ≤ all.length - a) = decide (a + n2 ≤ all.length) from by have := HRA.out.2; congr 1; apply propext; omega]
end
end Go.Proofs.YtiolfjhddbiglaaGreatDoor

/-
  The decoder of LZMA2: the next byte, where no packed chunk comes.
-/
namespace Go.Proofs.YtiolfjhddbiglaaGreatDoor
open Go.RowKit

/-- The decoder, whole: its own fields and source, the decoder of packets with its window. -/
structure L2 (K : Kon) (d f lo : Nat) (bs : List UInt8) (fs : List Value) (ps : List Nat) (w : World) (Gw : Nat → Prop) (q : Lq) : Prop where
  rd : Rdr w d K.g f lo bs q
  rz : Rz K w Gw q.o fs ps
  gl : K.g < lo
  ll : K.lb < lo
  ml : K.m < lo
  dg : d ≠ K.g ∧ d ≠ K.lb ∧ d ≠ K.m
  wd : ∀ i, Gw i → i ≠ d ∧ (i < lo ∨ f < i)
  fo : f < w.heap.size ∨ ∀ i, Gw i → i < lo
/-- what Next answers -/
def toldV : Option UInt8 → Value
  | none => .tuple #[.int .u8 0, .bool false]
  | some b => .tuple #[.int .u8 (b.toNat : Int), .bool true]
def qOwn (K : Kon) (d f : Nat) (Gw : Nat → Prop) : Nat → Prop := fun i => i = d ∨ i = f ∨ i = K.g ∨ Gw i
def QPost (K : Kon) (d f lo : Nat) (bs : List UInt8) (fs : List Value) (ps : List Nat) (w : World) (Gw : Nat → Prop) (v : Value) (q : Lq) (e : Ending) (w' : World) : Prop :=
  e = .returned v ∧ ∃ Gw', L2 K d f lo bs fs ps w' Gw' q ∧ (∀ i, Gw' i → Gw i ∨ w.heap.size ≤ i) ∧ Only (qOwn K d f Gw) w w'

section
variable {K : Kon} {d g f lo : Nat} {bs : List UInt8} {fs : List Value} {ps : List Nat} {w w' w1 : World} {Gw G1 : Nat → Prop} {q q' : Lq} {v : Value} {e : Ending}

/-- a call that turns the decoder's own fields and its source -/
theorem L2.read (h : L2 K d f lo bs fs ps w Gw q) (hR : Rdr w' d K.g f lo bs q') (hO : Only (fun i => i = d ∨ i = f) w w') (ho : q'.o = q.o) : L2 K d f lo bs fs ps w' Gw q' := by
  have hlo := h.rd.ff
  have hdl := h.rd.df
  refine ⟨hR, ?_, h.gl, h.ll, h.ml, h.dg, h.wd, h.fo.imp (fun hh => Nat.lt_of_lt_of_le hh hO.size) id⟩
  rw [ho]
  refine h.rz.only hO ?_ ?_ (fun i hi => ?_)
  · have := h.gl; have := h.dg.1
    rintro (e | e) <;> omega
  · have := h.ll; have := h.dg.2.1
    rintro (e | e) <;> omega
  · have := h.wd i hi
    rintro (e | e) <;> omega
/-- a call of the decoder of packets -/
theorem L2.turn (h : L2 K d f lo bs fs ps w Gw q) {o : List UInt8} (hp : RzPost K w Gw o fs ps e w') (hfo : f < w.heap.size) : e = .returned (.tuple #[]) ∧ ∃ Gw', L2 K d f lo bs fs ps w' Gw' { q with o := o } ∧ (∀ i, Gw' i → Gw i ∨ w.heap.size ≤ i) ∧ Only (qOwn K d f Gw) w w' := by
  obtain ⟨he, G1, hz, hG, hO⟩ := hp
  have hlo := h.rd.ff
  have hdl := h.rd.df
  have hds : d < w.heap.size := h.rd.blk.lt
  have hns : ∀ i, (i = K.g ∨ Gw i) → i < lo ∨ f < i := by
    rintro i (rfl | hi)
    · exact .inl h.gl
    · exact (h.wd i hi).2
  refine ⟨he, G1, ⟨(show Rdr w d K.g f lo bs { q with o := o } from ⟨h.rd.blk, h.rd.feed, hdl, hlo, h.rd.nd⟩).only hO ?_ hns, hz, h.gl, h.ll, h.ml, h.dg, fun i hi => ?_, .inl (Nat.lt_of_lt_of_le hfo hO.size)⟩, hG, hO.mono fun i hi => .inr (.inr hi)⟩
  · rintro (e | e)
    · exact h.dg.1 e
    · exact (h.wd _ e).1 rfl
  · rcases hG i hi with hh | hh
    · exact h.wd i hh
    · exact ⟨by omega, .inr (by omega)⟩
theorem QPost.trans (hG : ∀ i, G1 i → Gw i ∨ w.heap.size ≤ i) (hO : Only (qOwn K d f Gw) w w1) (hp : QPost K d f lo bs fs ps w1 G1 v q e w') : QPost K d f lo bs fs ps w Gw v q e w' := by
  obtain ⟨he, G2, hL, hG2, hO2⟩ := hp
  have hs : w.heap.size ≤ w1.heap.size := hO.size
  refine ⟨he, G2, hL, fun i hi => ?_, hO.trans' hO2 (fun i hi => ?_)⟩
  · rcases hG2 i hi with h | h
    · exact hG i h
    · exact .inr (by omega)
  · rcases hi with hi | hi | hi | hi
    · exact .inl (.inl hi)
    · exact .inl (.inr (.inl hi))
    · exact .inl (.inr (.inr (.inl hi)))
    · rcases hG i hi with h | h
      · exact .inl (.inr (.inr (.inr h)))
      · exact .inr h

set_option maxRecDepth 100000 in
set_option maxHeartbeats 1000000 in
/-- a plain chunk begins -/
theorem qplain_any (h : Rdr w d g f lo bs q) :
    Calls Tryz.prog 75 #[.pointer (some ⟨d, 0, none⟩)] w (RdrPost w d g f lo bs (.tuple #[]) q.plain) := by
  have KC := Lib.hid (qcount_any h)
  clear h
  go_enter Tryz.func75, Tryz.ntmps75
  go_wp2_with fail
  refine KC.out.mono ?_
  rintro e w1 ⟨rfl, hR1, hO1⟩
  have KB := Lib.hid (qbad_any hR1.blk)
  have HR := Lib.hid (And.intro hR1 hO1)
  obtain ⟨q2, hq2⟩ : ∃ q2, q2 = q.two := ⟨_, rfl⟩
  obtain ⟨n, hn⟩ : ∃ n, n = q.count := ⟨_, rfl⟩
  have HQ := Lib.hid (show q.plain = q2.start n by rw [hq2, hn]; rfl)
  rw [← hq2] at HR KB
  rw [← hn]
  clear hR1 hO1 KC hq2 hn
  go_wp2_with fail
  refine KB.out.mono ?_
  rintro e w2 ⟨rfl, rfl⟩
  clear KB
  cases hs : q2.s.src with
  | false =>
    go_wp2_with fail
    first | go_end0 | refine bodyPost_ret (results_none rfl _ _ _) rfl ?_
    rw [HQ.out, start_off hs]
    exact ⟨rfl, HR.out.1, HR.out.2⟩
  | true =>
    have c9 : w1.cell? ⟨d, 9, none⟩ = some (.int .i64 (q2.s.left : Int)) := HR.out.1.blk.cell 9
    have cp : w1.cell? ⟨d, 10, none⟩ = some (pkV q2.s.pk) := HR.out.1.blk.cell 10
    have z9 := HR.out.1.blk.free 9
    have zp := HR.out.1.blk.free 10
    go_wp2_with fail
    first | go_end0 | refine bodyPost_ret (results_none rfl _ _ _) rfl ?_
    rw [HQ.out, start_on hs]
    exact ⟨rfl, (HR.out.1.put (q' := { q2 with s := { q2.s with left := n } }) 9 (.int .i64 (n : Int)) rfl rfl rfl).put 10 (.pointer none) rfl rfl rfl, (HR.out.2.setCell (p := ⟨d, 9, none⟩) (.inl (.inl rfl)) _).setCell (p := ⟨d, 10, none⟩) (.inl (.inl rfl)) _⟩

theorem u8_one (n : Nat) (hn : n < 256) : bits .and .u8 (n : Int) 1 = ((n % 2 : Nat) : Int) := by
  have h := u8_and_nat n 1 hn (by omega)
  rw [Nat.and_one_is_mod] at h
  exact h
end
end Go.Proofs.YtiolfjhddbiglaaGreatDoor

/-
  The decoder of LZMA2: what stands ahead of a chunk's bytes.
-/
namespace Go.Proofs.YtiolfjhddbiglaaGreatDoor
open Go.RowKit
set_option linter.unusedVariables false

/-- a plain chunk behind its first byte -/
def plainSt (nd : Nat) (z : Lzs) (ps : List Nat) : List UInt8 → St2
  | x :: y :: r2 => .plain ⟨nd, z, ps, r2⟩ (256 * x.toNat + y.toNat + 1)
  | _ => .bad
section
variable {K0 : Kon} {d f lo D : Nat} {all r : List UInt8} {w w' w1 : World} {Gw ex : Nat → Prop} {s : Ds} {z : Lzs} {ps : List Nat} {nd : Nat}
theorem tells_plain {q : Rs} {c : UInt8} (hr : q.r = c :: r) (h : (c.toNat = 1 ∧ nd = 6 ∧ z = { q.z with out := [] }) ∨ (c.toNat = 2 ∧ nd = q.nd ∧ z = q.z)) (k : Nat) : (St2.rest q).tells k = (plainSt nd z q.ps r).tells k := by
  have hne : q.r ≠ [0] := head_ne hr (by omega)
  have hc : c.toNat = 1 ∨ c.toNat = 2 := by omega
  match r, hr with
  | [], hr =>
    have e : chunkN q = none := by
      unfold chunkN
      rw [hr]
      show (if c.toNat = 1 ∨ c.toNat = 2 then none else _) = _
      rw [if_pos hc]
    exact rest_bad hne e
  | [x], hr =>
    have e : chunkN q = none := by
      unfold chunkN
      rw [hr]
      show (if c.toNat = 1 ∨ c.toNat = 2 then none else _) = _
      rw [if_pos hc]
    exact rest_bad hne e
  | x :: y :: r2, hr =>
    have e : chunkN q = plainC nd z q.ps r2 (256 * x.toNat + y.toNat + 1) := by
      unfold chunkN
      rw [hr]
      show (if c.toNat = 1 ∨ c.toNat = 2 then (if c.toNat = 1 then plainC 6 { q.z with out := [] } q.ps r2 (256 * x.toNat + y.toNat + 1) else plainC q.nd q.z q.ps r2 (256 * x.toNat + y.toNat + 1)) else _) = _
      rw [if_pos hc]
      rcases h with ⟨h1, rfl, rfl⟩ | ⟨h1, rfl, rfl⟩
      · rw [if_pos h1]
      · rw [if_neg (by omega)]
    show q.tells k = _
    rw [tells_chunk hne, e]
    rfl
/-- how it stands: no chunk begins now -/
def St2.Gone : St2 → Prop
  | .rest _ => False
  | _ => True
theorem plain_gone : ∀ (r : List UInt8), (plainSt nd z ps r).Gone ∧ (plainSt nd z ps r).wl ≤ z.out.length
  | [] => ⟨trivial, Nat.zero_le _⟩
  | [_] => ⟨trivial, Nat.zero_le _⟩
  | _ :: _ :: _ => ⟨trivial, Nat.le_refl _⟩
theorem Rok.with_r {q : Rs} (h : Rok D q) (r : List UInt8) : Rok D ⟨q.nd, q.z, q.ps, r⟩ := ⟨h.nd, h.near, h.ps, h.bad, h.ended, h.dict, h.four⟩
theorem plain_mem (hx : Q2x K0 d f lo w Gw ex) (h : Idl K0 d f lo all w Gw s r z ps) (hs1 : s.src = true) (hs2 : s.ended = false) (hs3 : s.left = 0) (hset : setAt ⟨nd, z, ps, r⟩ s) (hn : nd % 2 = 0) (hq : Rok D ⟨nd, z, ps, r⟩)
    (hR : Rdr w' d K0.g f lo all (⟨s, r, []⟩ : Lq).plain) (hO : Only (fun i => i = d ∨ i = f) w w') : Q2Post K0 d f lo all D w Gw ex (.tuple #[]) (plainSt nd z ps r) (.returned (.tuple #[])) w' := by
  have hx' : Q2x K0 d f lo w' Gw (fun _ => False) := hx.turn (fun i hi => .inl hi) (fun i hi => hi.elim) hO (df0 hx)
  refine ⟨rfl, Gw, fun _ => False, ?_, hx', fun i hi => .inl (hi.elim .inl (fun e => e.elim)), hO.mono (own_df K0 d f Gw ex)⟩
  have hshort : r.length < 2 → (⟨s, r, []⟩ : Lq).plain = ⟨s.fail, [], []⟩ := fun hl => by
    rcases two_cases (r := r) (o := []) hs1 with ⟨x, y, r2, rfl, _, _⟩ | ⟨_, e⟩
    · simp at hl; omega
    · unfold Lq.plain
      rw [e, start_off rfl]
  match r, h, hset, hq, hR, hshort with
  | [], h, hset, hq, hR, hshort =>
    rw [hshort (by decide)] at hR
    exact ⟨s.fail, [], z, ps, h.read hx hR hO, rfl, rfl⟩
  | [x], h, hset, hq, hR, hshort =>
    rw [hshort (show 1 < 2 by decide)] at hR
    exact ⟨s.fail, [], z, ps, h.read hx hR hO, rfl, rfl⟩
  | x :: y :: r2, h, hset, hq, hR, hshort =>
    have e : (⟨s, x :: y :: r2, []⟩ : Lq).plain = ⟨{ s with left := 256 * x.toNat + y.toNat + 1, pk := none }, r2, []⟩ := by
      rcases two_cases (r := x :: y :: r2) (o := []) hs1 with ⟨x', y', r2', e0, e1, e2⟩ | ⟨hl, _⟩
      · injection e0 with e3 e4
        injection e4 with e4 e5
        subst e3 e4 e5
        unfold Lq.plain
        rw [e1, e2, start_on hs1]
      · simp at hl; omega
    rw [e] at hR
    have h1 := x.toNat_lt
    have h2 := y.toNat_lt
    exact ⟨_, h.read hx hR hO, hs1, hs2, rfl, rfl, Nat.le_add_left _ _, by show 256 * x.toNat + y.toNat + 1 ≤ 65536; omega, hn, hset, hq.with_r r2⟩

def ChPost (K0 : Kon) (d f lo : Nat) (all : List UInt8) (D : Nat) (w : World) (Gw ex : Nat → Prop) (q : Rs) (e : Ending) (w' : World) : Prop :=
  ∃ st, Q2Post K0 d f lo all D w Gw ex (.tuple #[]) st e w' ∧ (∀ k, (St2.rest q).tells k = st.tells k) ∧ st.wl ≤ q.z.out.length ∧ st.Gone
/-- it is bad, for the chunk tells nothing -/
theorem ch_bad {q : Rs} {ds : Ds} {r2 : List UInt8} (hx : Q2x K0 d f lo w Gw ex) (h : Idl K0 d f lo all w Gw s r z ps) (hn : ∀ k, (St2.rest q).tells k = none)
    (hR : Rdr w' d K0.g f lo all ⟨ds, r2, []⟩) (hO : Only (fun i => i = d ∨ i = f) w w') (h1 : ds.src = false) (h2 : ds.left = 0) : ChPost K0 d f lo all D w Gw ex q (.returned (.tuple #[])) w' :=
  ⟨.bad, ⟨rfl, Gw, fun _ => False, ⟨ds, r2, z, ps, h.read hx hR hO, h1, h2⟩, hx.turn (fun i hi => .inl hi) (fun i hi => hi.elim) hO (df0 hx), fun i hi => .inl (hi.elim .inl (fun e => e.elim)), hO.mono (own_df K0 d f Gw ex)⟩, fun k => hn k, Nat.zero_le _, trivial⟩
theorem tells_dry {q : Rs} (h : q.r = []) (k : Nat) : (St2.rest q).tells k = none := by
  refine tells_none (by rw [h]; decide) ?_
  unfold chunkN
  rw [h]
theorem tells_zero {q : Rs} (h : q.r = 0 :: r) (k : Nat) : (St2.rest q).tells k = (St2.fin r).tells k := by
  show q.tells k = if k = 0 ∧ r = [] then some [] else none
  by_cases hr : r = []
  · subst hr
    rw [tells_end h]
    by_cases hk : k = 0
    · rw [if_pos hk, if_pos ⟨hk, rfl⟩]
    · rw [if_neg hk, if_neg (fun e => hk e.1)]
  · rw [if_neg (fun e => hr e.2)]
    refine tells_none (by rw [h]; intro e; injection e with e1 e2; exact hr e2) ?_
    unfold chunkN
    rw [h]
    show (if (0 : UInt8).toNat = 1 ∨ (0 : UInt8).toNat = 2 then _ else if 128 ≤ (0 : UInt8).toNat then _ else none) = none
    rw [if_neg (by decide), if_neg (by decide)]
theorem tells_odd {q : Rs} {c : UInt8} (h : q.r = c :: r) (h0 : c.toNat ≠ 0) (h1 : c.toNat ≠ 1) (h2 : c.toNat = 2 → q.nd % 2 = 1) (h3 : c.toNat < 128) (k : Nat) : (St2.rest q).tells k = none := by
  refine tells_none (head_ne h (by omega)) ?_
  unfold chunkN
  rw [h]
  show (if c.toNat = 1 ∨ c.toNat = 2 then _ else if 128 ≤ c.toNat then _ else none) = none
  by_cases hc : c.toNat = 2
  · rw [if_pos (.inr hc)]
    split
    · rw [if_neg h1]
      unfold plainC
      rw [if_pos (.inl (h2 hc))]
    · rfl
  · rw [if_neg (by omega), if_neg (by omega)]
end
end Go.Proofs.YtiolfjhddbiglaaGreatDoor

/-
  The decoder of LZMA2: chunk, walked.
-/
namespace Go.Proofs.YtiolfjhddbiglaaGreatDoor
open Go.RowKit
set_option linter.unusedVariables false

section
variable {K0 : Kon} {d f lo D : Nat} {all r : List UInt8} {w w' w1 : World} {Gw ex : Nat → Prop} {s : Ds} {z : Lzs} {ps : List Nat}
theorem near_empty {z : Lzs} {L : Nat} (h : ZNear z L z.out.length) : ZNear { z with out := [] } L ({ z with out := [] } : Lzs).out.length := ⟨h.lc, h.lp, h.pb, h.dict, Nat.le_refl _, h.st, h.r0, h.r1, h.r2, h.r3, h.len⟩
set_option maxRecDepth 100000 in
set_option maxHeartbeats 8000000 in
theorem zchunk_any {q : Rs} (hx : Q2x K0 d f lo w Gw ex) (h : Idl K0 d f lo all w Gw s q.r q.z q.ps) (hs1 : s.src = true) (hs2 : s.ended = false) (hs3 : s.left = 0) (hset : setAt q s) (hq : Rok D q) (ho : q.z.out.length ≤ 700000) :
    Calls Tryz.prog 42 #[.pointer (some ⟨d, 0, none⟩)] w (ChPost K0 d f lo all D w Gw ex q) := by
  have KR := Lib.hid (qread_any h.rd)
  have HH := Lib.hid (And.intro hx (And.intro h (And.intro hs1 (And.intro hs2 (And.intro hs3 (And.intro hset (And.intro hq ho)))))))
  have hfs := hx.fs
  have HFS := Lib.hid hfs
  cases hr : q.r with
  | nil =>
    have e1 : (⟨s, q.r, []⟩ : Lq).rd = ⟨s.fail, [], []⟩ := by rw [hr]; exact lq_dry hs1
    have e2 : (⟨s, q.r, []⟩ : Lq).b = 0 := by rw [hr]; exact b_end hs1 rfl
    rw [e1, e2] at KR
    have HR0 := Lib.hid hr
    clear hx h hs1 hs2 hs3 hset hq ho hfs hr e1 e2
    go_enter Tryz.func42, Tryz.ntmps42
    go_wp2_with fail
    refine KR.out.mono ?_
    rintro e w1 ⟨rfl, hR1, hO1⟩
    have KB := qbad_any hR1.blk
    rw [show (⟨s.fail, [], []⟩ : Lq).s.src = false from rfl] at KB
    have KB := Lib.hid KB
    have HR := Lib.hid (And.intro hR1 hO1)
    clear hR1 hO1 KR
    go_wp2_with fail
    refine KB.out.mono ?_
    rintro e w2 ⟨rfl, rfl⟩
    clear KB
    go_wp2_with fail
    first | go_end0 | refine bodyPost_ret (results_none rfl _ _ _) rfl ?_
    obtain ⟨hx, h, hs1, hs2, hs3, hset, hq, ho⟩ := HH.out
    exact ch_bad hx h (tells_dry HR0.out) HR.out.1 HR.out.2 rfl rfl
  | cons x r =>
    have e1 : (⟨s, q.r, []⟩ : Lq).rd = ⟨s, r, []⟩ := by rw [hr]; exact lq_rd hs1
    have e2 : (⟨s, q.r, []⟩ : Lq).b = x := by rw [hr]; exact lq_b hs1
    rw [e1, e2] at KR
    have HR0 := Lib.hid hr
    clear hx h hs1 hs2 hs3 hset hq ho hfs hr e1 e2
    go_enter Tryz.func42, Tryz.ntmps42
    go_wp2_with fail
    refine KR.out.mono ?_
    rintro e w1 ⟨rfl, hR1, hO1⟩
    have KB := qbad_any hR1.blk
    rw [show (⟨s, r, []⟩ : Lq).s.src = true from HH.out.2.2.1] at KB
    have KB := Lib.hid KB
    have HR := Lib.hid (And.intro hR1 hO1)
    have hi1 : Idl K0 d f lo all w1 Gw s r q.z q.ps := HH.out.2.1.read HH.out.1 hR1 hO1
    have hx1 : Q2x K0 d f lo w1 Gw ex := HH.out.1.only hO1 (df0 HH.out.1)
    have HI1 := Lib.hid (And.intro hx1 hi1)
    have HOD := Lib.hid (show Only (own2 K0 d f Gw ex) w w1 from hO1.mono (own_df K0 d f Gw ex))
    clear hR1 hO1 hi1 hx1 KR
    go_wp2_with fail
    refine KB.out.mono ?_
    rintro e w2 ⟨rfl, rfl⟩
    clear KB
    by_cases h0 : x = 0
    · subst h0
      have c3 : w1.cell? ⟨d, 3, none⟩ = some (.bool s.ended) := HR.out.1.blk.cell 3
      have z3 := HR.out.1.blk.free 3
      go_wp2_with fail
      first | go_end0 | refine bodyPost_ret (results_none rfl _ _ _) rfl ?_
      obtain ⟨hx, h, hs1, hs2, hs3, hset, hq, ho⟩ := HH.out
      obtain ⟨hx1, hi1⟩ := HI1.out
      have hO := (Only.refl (fun i => i = d ∨ i = f) w1).setCell (p := ⟨d, 3, none⟩) (.inl (.inl rfl)) (.bool true)
      have hi2 : Idl K0 d f lo all _ Gw { s with ended := true } r q.z q.ps := hi1.read hx1 (hi1.rd.put (q' := ⟨{ s with ended := true }, r, []⟩) 3 (.bool true) rfl rfl rfl) hO
      exact ⟨.fin r, ⟨rfl, Gw, fun _ => False, ⟨_, q.z, q.ps, hi2, hs1, rfl, hs3⟩, hx1.turn (fun i hi => .inl hi) (fun i hi => hi.elim) hO (df0 hx1), fun i hi => .inl (hi.elim .inl (fun e => e.elim)), HOD.out.trans (hO.mono (own_df K0 d f Gw ex))⟩, fun k => tells_zero HR0.out k, Nat.zero_le _, trivial⟩
    · have hx0 : ((x.toNat : Int) == 0) = false := by
        have : x.toNat ≠ 0 := fun e => h0 (UInt8.toNat_inj.1 (by simpa using e))
        simp; omega
      have HN0 := Lib.hid (show x.toNat ≠ 0 from fun e => h0 (UInt8.toNat_inj.1 (by simpa using e)))
      by_cases h1 : x = 1
      · subst h1
        have KE := Lib.hid (idl_empty HI1.out.1 HI1.out.2)
        have c0 : w1.cell? ⟨d, 0, none⟩ = some (.pointer (some ⟨K0.g, 0, none⟩)) := HR.out.1.blk.cell 0
        clear h0 hx0
        go_wp2_with fail
        refine KE.out.mono ?_
        rintro e w2 ⟨rfl, G1, hi2, hx2, hg2, ho2⟩
        have c4 : w2.cell? ⟨d, 4, none⟩ = some (.int .u8 (s.nd : Int)) := hi2.rd.blk.cell 4
        have z4 := hi2.rd.blk.free 4
        have hO := (Only.refl (fun i => i = d ∨ i = f) w2).setCell (p := ⟨d, 4, none⟩) (.inl (.inl rfl)) (.int .u8 6)
        have hi3 := put_nd hx2 hi2 6 (by decide)
        have hx3 : Q2x K0 d f lo _ G1 (fun _ => False) := hx2.only hO (df0 hx2)
        have KP := Lib.hid (qplain_any hi3.rd)
        have H3 := Lib.hid (And.intro hx3 (And.intro hi3 (And.intro hg2 (ho2.trans (hO.mono (fun i hi => own_df K0 d f Gw ex i hi))))))
        clear hi2 hx2 hg2 ho2 hO hi3 hx3 KE c0
        rw [show ((6 : Nat) : Int) = 6 from rfl] at H3 KP
        go_wp2_with fail
        refine KP.out.mono ?_
        rintro e w4 ⟨rfl, hR4, hO4⟩
        have H4 := Lib.hid (And.intro hR4 hO4)
        clear hR4 hO4 KP
        go_wp2_with fail
        first | go_end0 | refine bodyPost_ret (results_none rfl _ _ _) rfl ?_
        obtain ⟨hx, h, hs1, hs2, hs3, hset, hq, ho⟩ := HH.out
        obtain ⟨hx3, hi3, hg3, ho3⟩ := H3.out
        have hp := plain_mem (D := D) (nd := 6) hx3 hi3 hs1 hs2 hs3 ⟨rfl, fun e => by cases e⟩ rfl ⟨.inr (.inl rfl), near_empty hq.near, hq.ps, hq.bad, hq.ended, hq.dict, hq.four⟩ H4.out.1 H4.out.2
        have hz1 := HOD.out.size
        refine ⟨_, Q2Post.trans (fun i hi => ?_) (HOD.out.trans ho3) hp, fun k => tells_plain HR0.out (.inl ⟨rfl, rfl, rfl⟩) k, Nat.le_trans (plain_gone r).2 (Nat.zero_le _), (plain_gone r).1⟩
        rcases hi with hi | hi
        · rcases hg3 i hi with e | e
          · exact .inl (.inl e)
          · exact .inr (by omega)
        · exact hi.elim
      · have hx1 : ((x.toNat : Int) == 1) = false := by
          have : x.toNat ≠ 1 := fun e => h1 (UInt8.toNat_inj.1 (by simpa using e))
          simp; omega
        have HN1 := Lib.hid (show x.toNat ≠ 1 from fun e => h1 (UInt8.toNat_inj.1 (by simpa using e)))
        have c4 : w1.cell? ⟨d, 4, none⟩ = some (.int .u8 (s.nd : Int)) := HR.out.1.blk.cell 4
        have hand : bits .and .u8 (s.nd : Int) 1 = ((s.nd % 2 : Nat) : Int) := u8_one _ HR.out.1.nd
        by_cases h2 : x = 2
        · subst h2
          have hge : ¬ ((2 : UInt8).toNat : Int) ≥ 128 := by decide
          clear h0 hx0 h1 hx1 hge
          by_cases hn : s.nd % 2 = 0
          · have KP := Lib.hid (qplain_any HR.out.1)
            have hn0 : (((s.nd % 2 : Nat) : Int) == 0) = true := by rw [hn]; rfl
            have HNN := Lib.hid hn
            clear hn
            go_wp2_with fail
            refine KP.out.mono ?_
            rintro e w4 ⟨rfl, hR4, hO4⟩
            have H4 := Lib.hid (And.intro hR4 hO4)
            clear hR4 hO4 KP
            go_wp2_with fail
            first | go_end0 | refine bodyPost_ret (results_none rfl _ _ _) rfl ?_
            obtain ⟨hx, h, hs1, hs2, hs3, hset, hq, ho⟩ := HH.out
            obtain ⟨hx1, hi1⟩ := HI1.out
            have hp := plain_mem (D := D) (nd := q.nd) hx1 hi1 hs1 hs2 hs3 ⟨hset.1, hset.2⟩ (by rw [← hset.1]; exact HNN.out) (hq.with_r r) H4.out.1 H4.out.2
            have hz1 := HOD.out.size
            exact ⟨_, Q2Post.trans (fun i hi => .inl hi) HOD.out hp, fun k => tells_plain HR0.out (.inr ⟨rfl, rfl, rfl⟩) k, (plain_gone r).2, (plain_gone r).1⟩
          · have KF := Lib.hid (qfail_any HR.out.1.blk)
            have hn0 : (((s.nd % 2 : Nat) : Int) == 0) = false := by simp; omega
            have HNN := Lib.hid (show s.nd % 2 = 1 by omega)
            clear hn
            go_wp2_with fail
            refine KF.out.mono ?_
            rintro e w4 ⟨rfl, hB4, hO4⟩
            have HL4 := Lib.hid (And.intro (rdr_failed HR.out.1 hB4) (HR.out.2.trans (hO4.mono (S' := fun i => i = d ∨ i = f) fun i hi => .inl hi)))
            clear hB4 hO4 KF
            go_wp2_with fail
            first | go_end0 | refine bodyPost_ret (results_none rfl _ _ _) rfl ?_
            obtain ⟨hx, h, hs1, hs2, hs3, hset, hq, ho⟩ := HH.out
            exact ch_bad hx h (tells_odd HR0.out (by decide) (by decide) (fun _ => by rw [← hset.1]; exact HNN.out) (by decide)) HL4.out.1 HL4.out.2 rfl rfl
        · have hx2 : ((x.toNat : Int) == 2) = false := by
            have : x.toNat ≠ 2 := fun e => h2 (UInt8.toNat_inj.1 (by simpa using e))
            simp; omega
          have HN2 := Lib.hid (show x.toNat ≠ 2 from fun e => h2 (UInt8.toNat_inj.1 (by simpa using e)))
          clear h0 h1 h2
          by_cases h8 : x.toNat < 128
          · have hge : ((x.toNat : Int) ≥ 128) = False := by simp; omega
            have KF := Lib.hid (qfail_any HR.out.1.blk)
            have HN8 := Lib.hid h8
            clear h8
            go_wp2_with fail
            refine KF.out.mono ?_
            rintro e w4 ⟨rfl, hB4, hO4⟩
            have HL4 := Lib.hid (And.intro (rdr_failed HR.out.1 hB4) (HR.out.2.trans (hO4.mono (S' := fun i => i = d ∨ i = f) fun i hi => .inl hi)))
            clear hB4 hO4 KF
            go_wp2_with fail
            first | go_end0 | refine bodyPost_ret (results_none rfl _ _ _) rfl ?_
            obtain ⟨hx, h, hs1, hs2, hs3, hset, hq, ho⟩ := HH.out
            exact ch_bad hx h (tells_odd HR0.out HN0.out HN1.out (fun e => absurd e HN2.out) HN8.out) HL4.out.1 HL4.out.2 rfl rfl
          · have hge : ((x.toNat : Int) ≥ 128) = True := by simp; omega
            have KP := Lib.hid (qpacked_any HI1.out.1 HI1.out.2 HH.out.2.2.1 HH.out.2.2.2.1 HH.out.2.2.2.2.1 HH.out.2.2.2.2.2.1 HH.out.2.2.2.2.2.2.1 HR0.out (by omega) HH.out.2.2.2.2.2.2.2)
            clear h8
            go_wp2_with fail
            refine KP.out.mono ?_
            rintro e w4 ⟨st, hq4, ht4, hw4, hg4⟩
            have he4 := hq4.1
            subst he4
            have H4 := Lib.hid (And.intro hq4 (And.intro ht4 (And.intro hw4 hg4)))
            clear hq4 ht4 hw4 hg4 KP
            go_wp2_with fail
            first | go_end0 | refine bodyPost_ret (results_none rfl _ _ _) rfl ?_
            obtain ⟨hq4, ht4, hw4, hg4⟩ := H4.out
            refine ⟨st, Q2Post.trans (fun i hi => .inl hi) HOD.out hq4, ht4, hw4, ?_⟩
            rcases hg4 with rfl | ⟨_, _, _, _, _, _, rfl⟩
            · trivial
            · trivial
end
end Go.Proofs.YtiolfjhddbiglaaGreatDoor

/-
  The decoder of LZMA2: a chunk's next byte.
-/
namespace Go.Proofs.YtiolfjhddbiglaaGreatDoor
open Go.RowKit
set_option linter.unusedVariables false

/-- what Next answers where it stands at st0 -/
def NPost (K0 : Kon) (d f lo : Nat) (all : List UInt8) (D : Nat) (w : World) (Gw ex : Nat → Prop) (st0 : St2) (e : Ending) (w' : World) : Prop :=
  ∃ st v, Q2Post K0 d f lo all D w Gw ex v st e w' ∧ ((∃ b : UInt8, v = .tuple #[.int .u8 (b.toNat : Int), .bool true] ∧ (∀ k, st0.tells (k + 1) = (st.tells k).map (b :: ·)) ∧ st.wl ≤ st0.wl + 1) ∨
    (v = .tuple #[.int .u8 0, .bool false] ∧ (∀ k, st0.tells (k + 1) = none) ∧ st.tells 0 = st0.tells 0))
section
variable {K0 : Kon} {d f lo D : Nat} {all r : List UInt8} {w w' w1 : World} {Gw ex : Nat → Prop} {s : Ds} {z : Lzs} {ps : List Nat}
theorem byte_i64 {l : Nat} (h1 : 1 ≤ l) (h2 : l ≤ 2097152) : IntKind.i64.wrap ((l : Int) - 1) = ((l - 1 : Nat) : Int) := by rw [IntWalk.i64_in _ (by omega)]; omega
theorem near_push {z : Lzs} {L : Nat} (h : ZNear z L z.out.length) (x : UInt8) : ZNear { z with out := z.out ++ [x] } L ({ z with out := z.out ++ [x] } : Lzs).out.length := ⟨h.lc, h.lp, h.pb, h.dict, Nat.le_refl _, h.st, h.r0, h.r1, h.r2, h.r3, h.len⟩

set_option maxRecDepth 100000 in
set_option maxHeartbeats 8000000 in
theorem zplain_any {q : Rs} {l : Nat} (hx : Q2x K0 d f lo w Gw ex) (h : Idl K0 d f lo all w Gw s q.r q.z q.ps) (hs1 : s.src = true) (hs2 : s.ended = false) (hs3 : s.left = l) (hs4 : s.pk = none) (h1 : 1 ≤ l) (h2 : l ≤ 65536) (hnd : q.nd % 2 = 0) (hset : setAt q s) (hq : Rok D q) (ho : q.z.out.length ≤ 700000) :
    Calls Tryz.prog 43 #[.pointer (some ⟨d, 0, none⟩)] w (NPost K0 d f lo all D w Gw ex (.plain q l)) := by
  have KR := Lib.hid (qread_any h.rd)
  have HH := Lib.hid (And.intro hx (And.intro h (And.intro hs1 (And.intro hs2 (And.intro hs3 (And.intro h1 (And.intro h2 (And.intro hnd (And.intro hset (And.intro hq (And.intro ho hs4)))))))))))
  cases hr : q.r with
  | nil =>
    have e1 : (⟨s, q.r, []⟩ : Lq).rd = ⟨s.fail, [], []⟩ := by rw [hr]; exact lq_dry hs1
    have e2 : (⟨s, q.r, []⟩ : Lq).b = 0 := by rw [hr]; exact b_end hs1 rfl
    rw [e1, e2] at KR
    have HR0 := Lib.hid hr
    clear hx h hs1 hs2 hs3 hs4 h1 h2 hnd hset hq ho hr e1 e2
    go_enter Tryz.func43, Tryz.ntmps43
    go_wp2_with fail
    refine KR.out.mono ?_
    rintro e w1 ⟨rfl, hR1, hO1⟩
    have KB := qbad_any hR1.blk
    rw [show (⟨s.fail, [], []⟩ : Lq).s.src = false from rfl] at KB
    have KB := Lib.hid KB
    have HR := Lib.hid (And.intro hR1 hO1)
    clear hR1 hO1 KR
    go_wp2_with fail
    refine KB.out.mono ?_
    rintro e w2 ⟨rfl, rfl⟩
    clear KB
    go_wp2_with fail
    go_ret2
    obtain ⟨hx, h, hs1, hs2, hs3, h1, h2, hnd, hset, hq, ho, hs4⟩ := HH.out
    exact ⟨.bad, _, ⟨rfl, Gw, fun _ => False, ⟨s.fail, [], q.z, q.ps, h.read hx HR.out.1 HR.out.2, rfl, rfl⟩, hx.turn (fun i hi => .inl hi) (fun i hi => hi.elim) HR.out.2 (df0 hx), fun i hi => .inl (hi.elim .inl (fun e => e.elim)), HR.out.2.mono (own_df K0 d f Gw ex)⟩,
      .inr ⟨rfl, fun k => plain_dry h1 HR0.out, (plain_zero h1).symm⟩⟩
  | cons x r =>
    have e1 : (⟨s, q.r, []⟩ : Lq).rd = ⟨s, r, []⟩ := by rw [hr]; exact lq_rd hs1
    have e2 : (⟨s, q.r, []⟩ : Lq).b = x := by rw [hr]; exact lq_b hs1
    rw [e1, e2] at KR
    have HR0 := Lib.hid hr
    clear hx h hs1 hs2 hs3 hs4 h1 h2 hnd hset hq ho hr e1 e2
    go_enter Tryz.func43, Tryz.ntmps43
    go_wp2_with fail
    refine KR.out.mono ?_
    rintro e w1 ⟨rfl, hR1, hO1⟩
    have KB := qbad_any hR1.blk
    rw [show (⟨s, r, []⟩ : Lq).s.src = true from HH.out.2.2.1] at KB
    have KB := Lib.hid KB
    have hi1 : Idl K0 d f lo all w1 Gw s r q.z q.ps := HH.out.2.1.read HH.out.1 hR1 hO1
    have hx1 : Q2x K0 d f lo w1 Gw ex := HH.out.1.only hO1 (df0 HH.out.1)
    have KP := Lib.hid (idl_put hx1 hi1 x (Nat.le_trans HH.out.2.2.2.2.2.2.2.2.2.2.1 (by decide)))
    have HOD := Lib.hid (show Only (own2 K0 d f Gw ex) w w1 from hO1.mono (own_df K0 d f Gw ex))
    have c0 : w1.cell? ⟨d, 0, none⟩ = some (.pointer (some ⟨K0.g, 0, none⟩)) := hi1.rd.blk.cell 0
    clear hR1 hO1 hi1 hx1 KR
    go_wp2_with fail
    refine KB.out.mono ?_
    rintro e w2 ⟨rfl, rfl⟩
    clear KB
    go_wp2_with fail
    refine KP.out.mono ?_
    rintro e w3 ⟨rfl, G1, hi3, hx3, hg3, ho3⟩
    have hl3 : s.left = l := HH.out.2.2.2.2.1
    have c9 : w3.cell? ⟨d, 9, none⟩ = some (.int .i64 (l : Int)) := by have := hi3.rd.blk.cell 9; exact this.trans (by rw [← hl3]; rfl)
    have z9 := hi3.rd.blk.free 9
    have b1 : IntKind.i64.wrap ((l : Int) - 1) = ((l - 1 : Nat) : Int) := byte_i64 HH.out.2.2.2.2.2.1 (Nat.le_trans HH.out.2.2.2.2.2.2.1 (by decide))
    have hO := (Only.refl (fun i => i = d ∨ i = f) w3).setCell (p := ⟨d, 9, none⟩) (.inl (.inl rfl)) (.int .i64 ((l - 1 : Nat) : Int))
    have hi4 : Idl K0 d f lo all _ G1 { s with left := l - 1 } r { q.z with out := q.z.out ++ [x] } q.ps := hi3.read hx3 (hi3.rd.put (q' := ⟨{ s with left := l - 1 }, r, []⟩) 9 (.int .i64 ((l - 1 : Nat) : Int)) rfl rfl rfl) hO
    have hx4 : Q2x K0 d f lo _ G1 (fun _ => False) := hx3.only hO (df0 hx3)
    have hz1 := HOD.out.size
    have H4 := Lib.hid (And.intro hi4 (And.intro hx4 (And.intro (show ∀ i, G1 i → Gw i ∨ w.heap.size ≤ i from fun i hi => (hg3 i hi).imp id (fun e => by omega)) (HOD.out.trans (ho3.trans (hO.mono (own_df K0 d f Gw ex)))))))
    generalize hm : l - 1 = m at *
    have HM := Lib.hid hm
    clear hi3 hx3 hg3 ho3 hl3 hO hi4 hx4 KP c0 hm hz1 HOD
    go_wp2_with fail
    go_ret2
    obtain ⟨hx, h, hs1, hs2, hs3, h1, h2, hnd, hset, hq, ho, hs4⟩ := HH.out
    obtain ⟨hi4, hx4, hg4, ho4⟩ := H4.out
    have hq' : Rok D ⟨q.nd, { q.z with out := q.z.out ++ [x] }, q.ps, r⟩ := ⟨hq.nd, near_push hq.near x, hq.ps, hq.bad, hq.ended, hq.dict, hq.four⟩
    have hset' : setAt ⟨q.nd, { q.z with out := q.z.out ++ [x] }, q.ps, r⟩ { s with left := m } := hset
    have hwl : (q.z.out ++ [x]).length ≤ q.z.out.length + 1 := by rw [List.length_append]; exact Nat.le_refl _
    refine ⟨plainNext q l x r, _, ⟨rfl, G1, fun _ => False, ?_, hx4, fun i hi => (hi.elim (fun e => (hg4 i e).imp .inl id) (fun e => e.elim)), ho4⟩, .inl ⟨x, rfl, fun k => plain_next hnd h1 HR0.out, ?_⟩⟩
    · unfold plainNext
      by_cases hl : l = 1
      · rw [if_pos hl]
        exact ⟨_, hi4, hs1, hs2, by show m = 0; have := HM.out; omega, hset', hq'⟩
      · rw [if_neg hl]
        exact ⟨_, hi4, hs1, hs2, by show m = l - 1; exact HM.out.symm, hs4, by omega, by omega, hnd, hset', hq'⟩
    · unfold plainNext
      split
      · exact hwl
      · exact hwl
end
end Go.Proofs.YtiolfjhddbiglaaGreatDoor

/-
  The decoder of LZMA2: a packed chunk's next byte.
-/
namespace Go.Proofs.YtiolfjhddbiglaaGreatDoor
open Go.RowKit
set_option linter.unusedVariables false

section
variable {K0 K : Kon} {d f lo D : Nat} {all r : List UInt8} {w w' w1 : World} {Gw ex : Nat → Prop} {s : Ds} {z : Lzs} {ps : List Nat}
set_option maxRecDepth 100000 in
set_option maxHeartbeats 4000000 in
theorem wholly_any {p lf : Nat} {b : Bool} {v : Value} (hB : Blk w d 105 (d2Cells K0.g f s)) (hpk : s.pk = some p) (hp : Blk w p 178 #[v, .int .i64 (lf : Int)])
    (KW : Calls Tryz.prog 110 #[.pointer (some ⟨K0.g, 0, none⟩)] w fun e w' => e = .returned (.bool b) ∧ w = w') :
    Calls Tryz.prog 79 #[.pointer (some ⟨d, 0, none⟩)] w fun e w' => e = .returned (.bool (decide (lf = 0) && b)) ∧ w = w' := by
  have c0 : w.cell? ⟨d, 0, none⟩ = some (.pointer (some ⟨K0.g, 0, none⟩)) := hB.cell 0
  have c10 : w.cell? ⟨d, 10, none⟩ = some (.pointer (some ⟨p, 0, none⟩)) := by have := hB.cell 10; exact this.trans (by show some (pkV s.pk) = _; rw [hpk]; rfl)
  have cp : w.cell? ⟨p, 1, none⟩ = some (.int .i64 (lf : Int)) := hp.cell 1
  have KW := Lib.hid KW
  clear hB hp hpk
  by_cases h0 : lf = 0
  · subst h0
    rw [decide_eq_true rfl, Bool.true_and]
    change w.cell? ⟨p, 1, none⟩ = some (.int .i64 0) at cp
    go_enter Tryz.func79, Tryz.ntmps79
    go_wp2_with fail
    refine KW.out.mono ?_
    rintro e w1 ⟨rfl, rfl⟩
    go_wp2_with fail
    go_ret
    exact ⟨rfl, rfl⟩
  · rw [decide_eq_false h0, Bool.false_and]
    have hl : ((lf : Int) == 0) = false := by simp; omega
    clear h0 KW
    go_enter Tryz.func79, Tryz.ntmps79
    go_wp2_with fail
    go_ret
    exact ⟨rfl, rfl⟩
/-- what a packed chunk's source is, by what its decoder of ranges has -/
theorem pd_at {p a m g : Nat} {bs : List UInt8} {dc : Dc} (h : Pd w g (pkSc p f lo all a m) bs dc) : ∃ k lf : Nat, PkAt p f lo all a m w bs k ∧ Blk w p 178 #[.iface 52 (.pointer (some ⟨f, 0, none⟩)), .int .i64 (lf : Int)] ∧ (k < bs.length → lf = m - k) ∧ lf ≤ m - k ∧ (∀ r c t, dc = some (r, c, t) → t = bs.drop k) := by
  obtain ⟨at_, r', c', bad, hB, hA, _, _, _, _, h⟩ := h
  have hA : PkAt p f lo all a m w bs at_ := hA
  obtain ⟨lf, hb, h1, h2⟩ := hA.blk
  refine ⟨at_, lf, hA, hb, h1, h2, fun r c t e => ?_⟩
  rcases h with ⟨_, h⟩ | ⟨_, h⟩
  · rw [h] at e
    cases e
  · rw [h] at e
    injection e with e
    injection e with _ e
    injection e with _ e
    exact e.symm
/-- packed bytes: which are there, where they end -/
theorem pk_ends {p a m k lf : Nat} {bs : List UInt8} (h : PkAt p f lo all a m w bs k) (h1 : k < bs.length → lf = m - k) (h2 : lf ≤ m - k) (h0 : lf = 0) : k = bs.length ∧ all.drop (a + k) = all.drop (a + m) := by
  have hl : bs.length = min m (all.length - a) := by rw [h.bytes, List.length_take, List.length_drop]
  have hle := h.le
  have hk : k = bs.length := by
    rcases Nat.lt_or_ge k bs.length with hlt | hge
    · have := h1 hlt
      omega
    · omega
  refine ⟨hk, ?_⟩
  by_cases hf : a + m ≤ all.length
  · rw [show a + k = a + m by omega]
  · have hfe := h.feed.le
    rw [List.drop_eq_nil_of_le (by omega), List.drop_eq_nil_of_le (by omega)]
/-- the whole of a packed chunk: all told, all read, the code 0 -/
theorem whole_yes {p a m k lf g n : Nat} {bs : List UInt8} {zf : Lzs} {tf : Pm Dc} (h : PkAt p f lo all a m w bs k) (h1 : k < bs.length → lf = m - k) (h2 : lf ≤ m - k) (ht : ∀ r c t, tf.x = some (r, c, t) → t = bs.drop k)
    (hw : (decide (lf = 0) && (decide (n = zf.out.length) && doneX tf.x)) = true) : lf = 0 ∧ n = zf.out.length ∧ leftD tf.x = true := by
  simp only [Bool.and_eq_true, decide_eq_true_eq] at hw
  obtain ⟨h0, hn, hd⟩ := hw
  refine ⟨h0, hn, ?_⟩
  obtain ⟨hk, _⟩ := pk_ends h h1 h2 h0
  cases hx : tf.x with
  | none => rw [hx] at hd; cases hd
  | some x =>
    obtain ⟨rr, c, t⟩ := x
    rw [hx] at hd
    have e := ht rr c t hx
    have hc : decide (c = 0) = true := hd
    show (decide (c = 0) && decide (t = [])) = true
    rw [hc, Bool.true_and, e, hk, List.drop_length]
    exact decide_eq_true rfl
theorem whole_no {p a m k lf g n : Nat} {bs : List UInt8} {zf : Lzs} {tf : Pm Dc} (h : PkAt p f lo all a m w bs k) (hfull : a + m ≤ all.length) (h2 : lf ≤ m - k) (ht : ∀ r c t, tf.x = some (r, c, t) → t = bs.drop k)
    (hw : (decide (lf = 0) && (decide (n = zf.out.length) && doneX tf.x)) = false) : ¬ (leftD tf.x = true ∧ zf.out.length = n) := by
  rintro ⟨hl, hn⟩
  cases hx : tf.x with
  | none => rw [hx] at hl; cases hl
  | some x =>
    obtain ⟨rr, c, t⟩ := x
    have e := ht rr c t hx
    rw [hx] at hl hw
    have hl : (decide (c = 0) && decide (t = [])) = true := hl
    simp only [Bool.and_eq_true, decide_eq_true_eq] at hl
    have hbl : bs.length = min m (all.length - a) := by rw [h.bytes, List.length_take, List.length_drop]
    have hk : bs.length ≤ k := by
      have := congrArg List.length e
      rw [hl.2, List.length_drop] at this
      simp at this
      omega
    have h0 : lf = 0 := by have := h.le; omega
    have hd : doneX (some (rr, c, t)) = true := decide_eq_true hl.1
    rw [hd, h0, hn] at hw
    simp at hw
/-- its blocks, whatever it told -/
def Rests (K0 : Kon) (w : World) (Gw : Nat → Prop) : Prop := ∃ K z ps v4 v5 v16 v17 v18, Ks K0 K ∧ Lrest K w Gw z ps v4 v5 v16 v17 v18
end
end Go.Proofs.YtiolfjhddbiglaaGreatDoor

/-
  The decoder of LZMA2: packedByte, walked.
-/
namespace Go.Proofs.YtiolfjhddbiglaaGreatDoor
open Go.RowKit
set_option linter.unusedVariables false

section
variable {K0 K : Kon} {d f lo D : Nat} {all r : List UInt8} {w w' w1 : World} {Gw ex S : Nat → Prop} {s : Ds} {z zf : Lzs} {tf : Pm Dc} {n : Nat}
theorem Nx.apart (h : Nx K w Gw zf tf n) (hO : Only S w w') (h1 : ∀ i, S i → ¬ K.S.hold i ∧ i ≠ K.dg ∧ i ≠ K.g ∧ i ≠ K.lb) (h2 : ∀ i, Gw i → ¬ S i) : Nx K w' Gw zf tf n :=
  ⟨⟨⟨h.lw.mch.sc, h.lw.mch.pd.only h.lw.mch.sc hO (fun i hi => ⟨(h1 i hi).1, (h1 i hi).2.1⟩), (K.prb _ h.lw.ap.gn).only h.lw.mch.row hO (fun i hi hs => by rcases hi with rfl | rfl; exact (h1 _ hs).2.2.1 rfl; exact (h1 _ hs).2.2.2 rfl), h.lw.mch.ok⟩,
    h.lw.win.only hO h2, h.lw.ap⟩, h.le, h.far, h.near, h.live, h.bad, h.ended, h.tell⟩
theorem all_own2 {p a m : Nat} (hk : Ks K0 K) (hS : K.S = pkSc p f lo all a m) (hp : ex p) (hd : ex K.dg) : ∀ i, K.all Gw i → own2 K0 d f Gw ex i := by
  rintro i ((hi | rfl | hi) | hi)
  · rw [hS] at hi
    rcases hi with rfl | rfl
    · exact .inr (.inr (.inr (.inr (.inr hp))))
    · exact .inr (.inl rfl)
  · exact .inr (.inr (.inr (.inr (.inr hd))))
  · rcases hi with rfl | rfl
    · exact .inr (.inr (.inl hk.g))
    · exact .inr (.inr (.inr (.inl hk.lb)))
  · exact .inr (.inr (.inr (.inr (.inl hi))))
theorem d_not_all {p a m : Nat} (hx : Q2x K0 d f lo w Gw ex) (hk : Ks K0 K) (hS : K.S = pkSc p f lo all a m) (hp : ex p) (hd : ex K.dg) : ¬ K.all Gw d := by
  have h3 := hx.dl
  have h4 := hx.lf
  have h5 := hx.ex p hp
  have h6 := hx.ex _ hd
  rintro ((hi | hi | hi) | hi)
  · rw [hS] at hi
    rcases hi with e | e <;> omega
  · omega
  · rcases hi with e | e
    · exact hx.dg.1 (e.trans hk.g)
    · exact hx.dg.2.1 (e.trans hk.lb)
  · exact (hx.wd d hi).2.1 rfl
/-- a store into its own field leaves the rest alone -/
theorem d_apart {p a m : Nat} (hx : Q2x K0 d f lo w Gw ex) (hk : Ks K0 K) (hS : K.S = pkSc p f lo all a m) (hp : ex p) (hd : ex K.dg) : ∀ i, i = d → ¬ K.S.hold i ∧ i ≠ K.dg ∧ i ≠ K.g ∧ i ≠ K.lb := by
  have h3 := hx.dl
  have h4 := hx.lf
  have h5 := hx.ex p hp
  have h6 := hx.ex _ hd
  rintro i rfl
  refine ⟨fun hi => ?_, by omega, fun e => hx.dg.1 (e.trans hk.g), fun e => hx.dg.2.1 (e.trans hk.lb)⟩
  rw [hS] at hi
  rcases hi with e | e <;> omega
theorem nx_rests (h : Nx K w Gw zf tf n) (hk : Ks K0 K) : Rests K0 w Gw := ⟨K, _, _, _, _, _, _, _, hk, h.lw.rest⟩
theorem lw_rests {t : Pm Dc} {l : Nat} (h : Lw K w Gw z t l) (hk : Ks K0 K) : Rests K0 w Gw := ⟨K, _, _, _, _, _, _, _, hk, h.rest⟩
theorem Rests.only (h : Rests K0 w Gw) (hO : Only S w w') (h1 : ¬ S K0.g) (h2 : ¬ S K0.lb) (h3 : ∀ i, Gw i → ¬ S i) : Rests K0 w' Gw := by
  obtain ⟨K, z, ps, v4, v5, v16, v17, v18, hk, hr⟩ := h
  exact ⟨K, z, ps, v4, v5, v16, v17, v18, hk, hr.only hO (by rw [hk.g]; exact h1) (by rw [hk.lb]; exact h2) h3⟩
theorem fail_rdr (hx : Q2x K0 d f lo w Gw ex) (hB : Blk w' d 105 (d2Cells K0.g f s.fail)) (hn : s.nd < 256) : ∃ r, Rdr w' d K0.g f lo all ⟨s.fail, r, []⟩ :=
  ⟨[], hB, fun h => (by cases h), hx.dl.2, hx.lf, hn⟩

theorem case_onw {zf' : Lzs} {tf' : Pm Dc} (h : (n < zf.out.length ∧ zf' = zf ∧ tf' = tf) ∨ (n = zf.out.length ∧ ¬ stopP (packP decM zf tf pk0) ∧ zf' = (packP decM zf tf pk0).2.1 ∧ tf' = (packP decM zf tf pk0).2.2)) : zf'.lc = zf.lc ∧ zf'.lp = zf.lp ∧ zf'.pb = zf.pb := by
  rcases h with ⟨_, rfl, _⟩ | ⟨_, _, rfl, _⟩
  · exact ⟨rfl, rfl, rfl⟩
  · have := packP_onw decM zf tf pk0
    exact ⟨this.lc, this.lp, this.pb⟩
/-- a packed chunk is told whole -/
theorem pack_rest {p a m k : Nat} (hx : Q2x K0 d f lo w Gw ex) (hk : Ks K0 K) (hB : Blk w d 105 (d2Cells K0.g f s)) (hs : s.src = true ∧ s.ended = false ∧ s.nd = 0 ∧ s.left = 0 ∧ (s.a0 = (zf.lc : Int) ∧ s.a1 = (zf.lp : Int) ∧ s.a2 = (zf.pb : Int)))
    (hP : PkAt p f lo all a m w K.bs k) (he : all.drop (a + k) = r) (hN : Nx K w Gw zf tf n) (hn : n = zf.out.length) (hD : zf.dict = D) (h4 : zf.lc + zf.lp ≤ 4) : Q2 K0 d f lo all D w Gw (fun _ => False) (.rest ⟨0, zf, tf.ps, r⟩) := by
  have hr := hN.lw.rest
  rw [hn, cut_all] at hr
  refine ⟨s, ⟨⟨hB, fun _ => ⟨a + k, hP.feed, he.symm⟩, hx.dl.2, hx.lf, by show s.nd < 256; rw [hs.2.2.1]; decide⟩, K, _, _, _, _, _, hk, hr⟩, hs.1, hs.2.1, hs.2.2.2.1, ⟨hs.2.2.1, fun _ => hs.2.2.2.2⟩, ⟨.inl rfl, ?_, hN.lw.mch.ok.ps, hN.bad, hN.ended, hD, h4⟩⟩
  rw [hN.lw.mch.ok.len]
  exact hN.near
theorem no_more {m a k : Nat} (h : ¬ a + m ≤ all.length) (hr : r = all.drop (a + m)) (q : Rs) (hq : q.r = r) : (St2.rest q).tells k = none := tells_dry (by rw [hq, hr]; exact List.drop_eq_nil_of_le (by omega)) k

set_option maxRecDepth 100000 in
set_option maxHeartbeats 16000000 in
theorem zpby_any {l : Nat} {full : Bool} (hx : Q2x K0 d f lo w Gw ex) (h : Q2 K0 d f lo all D w Gw ex (.pack zf tf n l full r)) (hn : n ≤ 700000) (hfit : 1 ≤ K0.sz ∧ (D = K0.sz ∨ (n ≤ K0.sz ∧ K0.sz ≤ D))) :
    Calls Tryz.prog 44 #[.pointer (some ⟨d, 0, none⟩)] w (NPost K0 d f lo all D w Gw ex (.pack zf tf n l full r)) := by
  obtain ⟨K, s, p, a, m, hk, hB, hs1, hs2, hs3, hs4, hs5, hl1, hl2, ha, hS, hbs, hfull, hr, hN, hD, h4, hep, hed, hfp⟩ := h
  have KN := lnext_any hN (by omega) (by
    unfold Fit
    rw [hk.sz]
    refine ⟨hfit.1, hx.sz, ?_⟩
    rcases hfit.2 with e | e
    · exact .inl (hD.trans e)
    · refine .inr ⟨?_, by show K0.sz ≤ zf.dict; omega⟩
      show (zf.out.take n).length ≤ _
      rw [List.length_take]
      omega)
  rw [hk.g] at KN
  have KN := Lib.hid KN
  have c0 : w.cell? ⟨d, 0, none⟩ = some (.pointer (some ⟨K0.g, 0, none⟩)) := hB.cell 0
  have HX := Lib.hid hx
  have HK := Lib.hid (And.intro hk (And.intro hS (And.intro hep (And.intro hed (And.intro hfp hbs)))))
  have HS := Lib.hid (And.intro hs1 (And.intro hs2 (And.intro hs3 (And.intro hs4 (And.intro hs5 ha)))))
  have HB := Lib.hid hB
  have HL := Lib.hid (And.intro hl1 hl2)
  have HF := Lib.hid (And.intro hfull hr)
  have HD := Lib.hid (And.intro hD h4)
  have HNN := Lib.hid (And.intro hn (show zf.out.length ≤ n + 273 from hN.far))
  clear hx hk hB hs1 hs2 hs3 hs4 hs5 hl1 hl2 ha hS hbs hfull hr hN hD h4 hep hed hfp hn hfit
  go_enter Tryz.func44, Tryz.ntmps44
  go_wp2_with fail
  refine KN.out.mono ?_
  clear KN c0
  rintro e w1 (⟨zf', tf', G1, rfl, hN1, hD1, htk, hcase, hG1, hO1⟩ | ⟨rfl, hne, hst, z1, t1, l1, G1, hLw, hG1, hO1⟩)
  · obtain ⟨hk, hS, hep, hed, hfp, hbs⟩ := HK.out
    have hB1 := HB.out.only hO1 (d_not_all HX.out hk hS hep hed)
    have hO1' : Only (own2 K0 d f Gw ex) w w1 := hO1.mono (all_own2 hk hS hep hed)
    have hx1 : Q2x K0 d f lo w1 G1 ex := HX.out.turn hG1 (fun i hi => ⟨(HX.out.ex i hi).1, Nat.lt_of_lt_of_le (HX.out.ex i hi).2 hO1.size⟩) hO1' HX.out.own0
    have hl9 : s.left = l := HS.out.2.2.2.1
    have c9 : w1.cell? ⟨d, 9, none⟩ = some (.int .i64 (l : Int)) := by have := hB1.cell 9; exact this.trans (by rw [← hl9]; rfl)
    have z9 := hB1.free 9
    have b1 : IntKind.i64.wrap ((l : Int) - 1) = ((l - 1 : Nat) : Int) := byte_i64 HL.out.1 HL.out.2
    have hB2 := hB1.put 9 (.int .i64 ((l - 1 : Nat) : Int))
    have hO2 := (Only.refl (fun i => i = d) w1).setCell (p := ⟨d, 9, none⟩) (.inl rfl) (.int .i64 ((l - 1 : Nat) : Int))
    have hN2 := hN1.apart hO2 (d_apart hx1 hk hS hep hed) (fun i hi e => (hx1.wd i hi).2.1 e)
    have hx2 : Q2x K0 d f lo _ G1 ex := hx1.only hO2 (by have := hx1.dl; show ¬ 0 = d; omega)
    have hB2 : Blk _ d 105 (d2Cells K0.g f { s with left := l - 1 }) := hB2
    have H2 := Lib.hid (And.intro hB2 (And.intro hN2 (And.intro hx2 (And.intro hG1 (hO1'.trans (hO2.mono (fun i hi => .inl hi)))))))
    have HT := Lib.hid (And.intro hD1 (And.intro htk hcase))
    have HNT := Lib.hid (show n < zf'.out.length from hN1.le)
    generalize hm : l - 1 = ml at *
    have HM := Lib.hid hm
    obtain ⟨xb, hxb⟩ : ∃ xb, xb = zf'.out.getD n 0 := ⟨_, rfl⟩
    have HXB := Lib.hid hxb
    rw [← hxb]
    clear hk hS hep hed hfp hbs hB1 hO1' hx1 hl9 hB2 hO2 hN2 hx2 hm hN1 hD1 htk hcase hG1 hO1 hxb
    by_cases hl0 : ml = 0
    · obtain rfl : ml = 0 := hl0
      obtain ⟨hB2, hN2, hx2, hG2, hO2⟩ := H2.out
      obtain ⟨hk, hS, hep, hed, hfp, hbs⟩ := HK.out
      have hpd := hN2.lw.mch.pd
      rw [hS] at hpd
      obtain ⟨k, lf, hP, hpB, hk1, hk2, htx⟩ := pd_at hpd
      have KW := zwhole_any hN2 (by have := HNN.out; omega)
      rw [hk.g] at KW
      have KY := wholly_any hB2 HS.out.2.2.2.2.1 hpB KW
      obtain ⟨bw, hbw⟩ : ∃ bw, bw = (decide (lf = 0) && (decide (n + 1 = zf'.out.length) && doneX tf'.x)) := ⟨_, rfl⟩
      rw [← hbw] at KY
      have KY := Lib.hid KY
      have HP := Lib.hid (And.intro hP (And.intro hk1 (And.intro hk2 (And.intro htx hbw))))
      have c9 : (w1.setCell ⟨d, 9, none⟩ (.int .i64 ((0 : Nat) : Int))).cell? ⟨d, 9, none⟩ = some (.int .i64 0) := hB2.cell 9
      have KF := Lib.hid (qfail_any hB2)
      have H2 := Lib.hid (And.intro hB2 (And.intro hN2 (And.intro hx2 (And.intro hG2 hO2))))
      clear hB2 hN2 hx2 hG2 hO2 hk hS hep hed hfp hbs hpd hP hpB hk1 hk2 htx KW hbw
      rw [show ((0 : Nat) : Int) = 0 from rfl] at H2 HP KY KF c9 b1
      go_wp2_with fail
      refine KY.out.mono ?_
      rintro e w2 ⟨rfl, rfl⟩
      clear KY c9 z9
      cases bw with
      | true =>
        clear KF
        go_wp2_with fail
        go_ret2
        obtain ⟨hB2, hN2, hx2, hG2, hO2⟩ := H2.out
        obtain ⟨hD1, htk, hcase⟩ := HT.out
        obtain ⟨hk, hS, hep, hed, hfp, hbs⟩ := HK.out
        obtain ⟨hs1, hs2, hs3, hs4, hs5, ha⟩ := HS.out
        obtain ⟨hP, hk1, hk2, htx, hbw⟩ := HP.out
        obtain ⟨y1, y2, y3⟩ := case_onw hcase
        obtain ⟨u1, u2, u3⟩ := whole_yes (g := 0) hP hk1 hk2 htx hbw.symm
        obtain ⟨u4, u5⟩ := pk_ends hP hk1 hk2 u1
        have hl1 : l = 0 + 1 := by have := HM.out; have := HL.out; omega
        refine ⟨.rest ⟨0, zf', tf'.ps, r⟩, _, ⟨rfl, G1, fun _ => False, pack_rest hx2 hk hB2 ⟨hs1, hs2, hs3, rfl, by rw [y1, y2, y3]; exact ha⟩ hP (u5.trans HF.out.2.symm) hN2 u2 (hD1.trans HD.out.1) (by rw [y1, y2]; exact HD.out.2), hx2.turn (fun i hi => .inl hi) (fun i hi => hi.elim) (Only.refl (fun _ => False) _) (fun e => e), fun i hi => (hi.elim (fun e => (hG2 i e).imp .inl id) (fun e => e.elim)), hO2⟩, .inl ⟨xb, rfl, fun kk => ?_, ?_⟩⟩
        · rw [hl1, pack_step hcase HNT.out kk, HXB.out]
          congr 1
          rw [HF.out.1]
          by_cases hfu : a + m ≤ all.length
          · rw [decide_eq_true hfu]
            exact pack_done ⟨u3, u2.symm⟩
          · rw [decide_eq_false hfu, no_more hfu HF.out.2 _ rfl]
            rfl
        · show zf'.out.length ≤ n + 1
          omega
      | false =>
        go_wp2_with fail
        refine KF.out.mono ?_
        rintro e w3 ⟨rfl, hB3, hO3⟩
        have H3 := Lib.hid (And.intro hB3 hO3)
        clear hB3 hO3 KF
        go_wp2_with fail
        go_ret2
        obtain ⟨hB2, hN2, hx2, hG2, hO2⟩ := H2.out
        obtain ⟨hD1, htk, hcase⟩ := HT.out
        obtain ⟨hk, hS, hep, hed, hfp, hbs⟩ := HK.out
        obtain ⟨hs1, hs2, hs3, hs4, hs5, ha⟩ := HS.out
        obtain ⟨hP, hk1, hk2, htx, hbw⟩ := HP.out
        have hl1 : l = 0 + 1 := by have := HM.out; have := HL.out; omega
        obtain ⟨r3, hR3⟩ := fail_rdr (lo := lo) (all := all) hx2 H3.out.1 (show s.nd < 256 by rw [hs3]; decide)
        obtain ⟨K3, z3, ps3, v4, v5, v16, v17, v18, hk3, hr3⟩ := (nx_rests hN2 hk).only H3.out.2 (fun e => hx2.dg.1 e.symm) (fun e => hx2.dg.2.1 e.symm) (fun i hi e => (hx2.wd i hi).2.1 e)
        refine ⟨.bad, _, ⟨rfl, G1, fun _ => False, ⟨_, r3, z3, ps3, ⟨hR3, K3, v4, v5, v16, v17, v18, hk3, hr3⟩, rfl, rfl⟩, hx2.turn (fun i hi => .inl hi) (fun i hi => hi.elim) H3.out.2 (by have := hx2.dl; show ¬ 0 = d; omega), fun i hi => (hi.elim (fun e => (hG2 i e).imp .inl id) (fun e => e.elim)), hO2.trans (H3.out.2.mono (fun i hi => .inl hi))⟩, .inl ⟨xb, rfl, fun kk => ?_, Nat.zero_le _⟩⟩
        rw [hl1, pack_step hcase HNT.out kk, HXB.out]
        congr 1
        rw [HF.out.1]
        by_cases hfu : a + m ≤ all.length
        · rw [decide_eq_true hfu]
          exact pack_undone (whole_no (g := 0) hP hfu hk2 htx hbw.symm |> fun h e => h ⟨e.1, e.2⟩) HNT.out
        · rw [decide_eq_false hfu]
          rfl
    · have hl0' : ((ml : Int) == 0) = false := by simp; omega
      have HL0 := Lib.hid hl0
      clear hl0
      go_wp2_with fail
      go_ret2
      obtain ⟨hB2, hN2, hx2, hG2, hO2⟩ := H2.out
      obtain ⟨hD1, htk, hcase⟩ := HT.out
      obtain ⟨hk, hS, hep, hed, hfp, hbs⟩ := HK.out
      obtain ⟨hs1, hs2, hs3, hs4, hs5, ha⟩ := HS.out
      obtain ⟨y1, y2, y3⟩ := case_onw hcase
      have hl1 : l = ml + 1 := by have := HM.out; have := HL.out; omega
      refine ⟨.pack zf' tf' (n + 1) ml full r, _, ⟨rfl, G1, ex, ⟨K, { s with left := ml }, p, a, m, hk, hB2, hs1, hs2, hs3, rfl, hs5, by have := HL0.out; omega, by have := HL.out; omega, by rw [y1, y2, y3]; exact ha, hS, hbs, HF.out.1, HF.out.2, hN2, hD1.trans HD.out.1, by rw [y1, y2]; exact HD.out.2, hep, hed, hfp⟩, hx2, fun i hi => (hi.elim (fun e => (hG2 i e).imp .inl id) (fun e => .inl (.inr e))), hO2⟩, .inl ⟨xb, rfl, fun kk => ?_, Nat.le_refl _⟩⟩
      rw [hl1, HXB.out]
      exact pack_step hcase HNT.out kk
  · obtain ⟨hk, hS, hep, hed, hfp, hbs⟩ := HK.out
    have hB1 := HB.out.only hO1 (d_not_all HX.out hk hS hep hed)
    have hO1' : Only (own2 K0 d f Gw ex) w w1 := hO1.mono (all_own2 hk hS hep hed)
    have hx1 : Q2x K0 d f lo w1 G1 ex := HX.out.turn hG1 (fun i hi => ⟨(HX.out.ex i hi).1, Nat.lt_of_lt_of_le (HX.out.ex i hi).2 hO1.size⟩) hO1' HX.out.own0
    have KF := Lib.hid (qfail_any hB1)
    have H1 := Lib.hid (And.intro hx1 (And.intro (lw_rests hLw hk) (And.intro hG1 hO1')))
    have HT := Lib.hid (And.intro hne hst)
    clear hk hS hep hed hfp hbs hB1 hO1' hx1 hLw hG1 hO1 hne hst
    go_wp2_with fail
    refine KF.out.mono ?_
    rintro e w3 ⟨rfl, hB3, hO3⟩
    have H3 := Lib.hid (And.intro hB3 hO3)
    clear hB3 hO3 KF
    go_wp2_with fail
    go_ret2
    obtain ⟨hx2, hre, hG2, hO2⟩ := H1.out
    obtain ⟨hs1, hs2, hs3, hs4, hs5, ha⟩ := HS.out
    have hl1 : l = (l - 1) + 1 := by have := HL.out; omega
    obtain ⟨r3, hR3⟩ := fail_rdr (lo := lo) (all := all) hx2 H3.out.1 (show s.nd < 256 by rw [hs3]; decide)
    obtain ⟨K3, z3, ps3, v4, v5, v16, v17, v18, hk3, hr3⟩ := hre.only H3.out.2 (fun e => hx2.dg.1 e.symm) (fun e => hx2.dg.2.1 e.symm) (fun i hi e => (hx2.wd i hi).2.1 e)
    refine ⟨.bad, _, ⟨rfl, G1, fun _ => False, ⟨_, r3, z3, ps3, ⟨hR3, K3, v4, v5, v16, v17, v18, hk3, hr3⟩, rfl, rfl⟩, hx2.turn (fun i hi => .inl hi) (fun i hi => hi.elim) H3.out.2 (by have := hx2.dl; show ¬ 0 = d; omega), fun i hi => (hi.elim (fun e => (hG2 i e).imp .inl id) (fun e => e.elim)), hO2.trans (H3.out.2.mono (fun i hi => .inl hi))⟩, .inr ⟨rfl, fun kk => ?_, (pack_zero HL.out.1).symm⟩⟩
    rw [hl1]
    exact pack_halt HT.out.1 HT.out.2
end
end Go.Proofs.YtiolfjhddbiglaaGreatDoor

/-
  The decoder of LZMA2: Next, wherever it stands.
-/
namespace Go.Proofs.YtiolfjhddbiglaaGreatDoor
open Go.RowKit
set_option linter.unusedVariables false

section
variable {K0 K : Kon} {d f lo D : Nat} {all r : List UInt8} {w w' w1 : World} {Gw ex S : Nat → Prop} {s : Ds} {z zf : Lzs} {ps : List Nat} {tf : Pm Dc} {n : Nat}
set_option maxRecDepth 100000 in
set_option maxHeartbeats 4000000 in
/-- a bad one reads no chunk -/
theorem chunk_off (h : Rdr w d K0.g f lo all ⟨s, r, []⟩) (hs : s.src = false) :
    Calls Tryz.prog 42 #[.pointer (some ⟨d, 0, none⟩)] w (fun e w' => e = .returned (.tuple #[]) ∧ Rdr w' d K0.g f lo all ⟨s, r, []⟩ ∧ Only (fun i => i = d ∨ i = f) w w') := by
  have KR := qread_any h
  rw [rd_none (q := ⟨s, r, []⟩) hs] at KR
  have KR := Lib.hid KR
  have HS := Lib.hid hs
  generalize (⟨s, r, []⟩ : Lq).b.toNat = x at KR
  clear h hs
  go_enter Tryz.func42, Tryz.ntmps42
  go_wp2_with fail
  refine KR.out.mono ?_
  rintro e w1 ⟨rfl, hR1, hO1⟩
  have KB := qbad_any hR1.blk
  rw [show (⟨s, r, []⟩ : Lq).s.src = false from HS.out] at KB
  have KB := Lib.hid KB
  have HR := Lib.hid (And.intro hR1 hO1)
  clear hR1 hO1 KR
  go_wp2_with fail
  refine KB.out.mono ?_
  rintro e w2 ⟨rfl, rfl⟩
  clear KB
  go_wp2_with fail
  first | go_end0 | refine bodyPost_ret (results_none rfl _ _ _) rfl ?_
  exact ⟨rfl, HR.out.1, HR.out.2⟩
theorem fin_next (r : List UInt8) (k : Nat) : (St2.fin r).tells (k + 1) = none := by
  show (if k + 1 = 0 ∧ r = [] then some [] else none) = none
  rw [if_neg (fun e => Nat.succ_ne_zero _ e.1)]
/-- between Next's two halves -/
def NMid (K0 : Kon) (d f lo : Nat) (all : List UInt8) (D : Nat) (w : World) (Gw ex : Nat → Prop) (st : St2) (wx : World) : Prop :=
  ∃ st1 G1 ex1, Q2 K0 d f lo all D wx G1 ex1 st1 ∧ Q2x K0 d f lo wx G1 ex1 ∧ (∀ i, G1 i ∨ ex1 i → (Gw i ∨ ex i) ∨ w.heap.size ≤ i) ∧ Only (own2 K0 d f Gw ex) w wx ∧ (∀ k, st.tells k = st1.tells k) ∧ st1.wl ≤ st.wl ∧ st1.Gone
theorem npost_trans {st st1 : St2} {G1 ex1 : Nat → Prop} {e : Ending} (hG : ∀ i, G1 i ∨ ex1 i → (Gw i ∨ ex i) ∨ w.heap.size ≤ i) (hO : Only (own2 K0 d f Gw ex) w w1) (ht : ∀ k, st.tells k = st1.tells k) (hw : st1.wl ≤ st.wl) (h : NPost K0 d f lo all D w1 G1 ex1 st1 e w') : NPost K0 d f lo all D w Gw ex st e w' := by
  obtain ⟨st2, v, hq, hc⟩ := h
  refine ⟨st2, v, Q2Post.trans hG hO hq, ?_⟩
  rcases hc with ⟨b, e1, e2, e3⟩ | ⟨e1, e2, e3⟩
  · exact .inl ⟨b, e1, fun k => (ht _).trans (e2 k), by omega⟩
  · exact .inr ⟨e1, fun k => (ht _).trans (e2 k), e3.trans (ht 0).symm⟩

set_option maxRecDepth 100000 in
set_option maxHeartbeats 16000000 in
theorem znext_any {st : St2} (hx : Q2x K0 d f lo w Gw ex) (h : Q2 K0 d f lo all D w Gw ex st) (hw : st.wl ≤ 700000) (hfit : 1 ≤ K0.sz ∧ (D = K0.sz ∨ (st.wl ≤ K0.sz ∧ K0.sz ≤ D))) :
    Calls Tryz.prog 21 #[.pointer (some ⟨d, 0, none⟩)] w (NPost K0 d f lo all D w Gw ex st) := by
  have HW := Lib.hid (And.intro hw hfit)
  cases st with
  | fin r =>
    have H1 := Lib.hid (And.intro hx (And.intro (show ∀ i, Gw i ∨ ex i → (Gw i ∨ ex i) ∨ w.heap.size ≤ i from fun i hi => .inl hi) (And.intro (Only.refl (own2 K0 d f Gw ex) w) (And.intro (show ∀ k, (St2.fin r).tells k = (St2.fin r).tells k from fun _ => rfl) (Nat.le_refl (St2.fin r).wl)))))
    have hq1 := h
    clear hx h hw hfit
    go_enter Tryz.func21, Tryz.ntmps21
    have HQ := Lib.hid hq1
    obtain ⟨s, z, ps, hi, hs1, hs2, hs3⟩ := hq1
    have c9 : w.cell? ⟨d, 9, none⟩ = some (.int .i64 0) := by have := hi.rd.blk.cell 9; exact this.trans (by show some (Value.int .i64 (s.left : Int)) = _; rw [hs3]; rfl)
    have c3 : w.cell? ⟨d, 3, none⟩ = some (.bool true) := by have := hi.rd.blk.cell 3; exact this.trans (by show some (Value.bool s.ended) = _; rw [hs2])
    clear hi hs1 hs2 hs3
    go_wp2_with fail
    go_ret2
    obtain ⟨hx1, hG1, hO1, ht1, hw1⟩ := H1.out
    exact ⟨.fin r, _, ⟨rfl, _, _, HQ.out, hx1, fun i hi => .inl hi, Only.refl _ _⟩, .inr ⟨rfl, fun k => fin_next r k, rfl⟩⟩
  | plain q l =>
    have H1 := Lib.hid (And.intro hx (And.intro (show ∀ i, Gw i ∨ ex i → (Gw i ∨ ex i) ∨ w.heap.size ≤ i from fun i hi => .inl hi) (And.intro (Only.refl (own2 K0 d f Gw ex) w) (And.intro (show ∀ k, (St2.plain q l).tells k = (St2.plain q l).tells k from fun _ => rfl) (Nat.le_refl (St2.plain q l).wl)))))
    have hq1 := h
    clear hx h hw hfit
    go_enter Tryz.func21, Tryz.ntmps21
    obtain ⟨s, hi, hs1, hs2, hs3, hs4, h1, h2, hnd, hset, hq⟩ := hq1
    have c9 : w.cell? ⟨d, 9, none⟩ = some (.int .i64 (l : Int)) := by have := hi.rd.blk.cell 9; exact this.trans (by show some (Value.int .i64 (s.left : Int)) = _; rw [hs3])
    have c10 : w.cell? ⟨d, 10, none⟩ = some (.pointer none) := by have := hi.rd.blk.cell 10; exact this.trans (by show some (pkV s.pk) = _; rw [hs4]; rfl)
    have hl0 : ((l : Int) == 0) = false := by simp; omega
    have KP := Lib.hid (zplain_any H1.out.1 hi hs1 hs2 hs3 hs4 h1 h2 hnd hset hq (Nat.le_trans H1.out.2.2.2.2 HW.out.1))

    clear hi hs1 hs2 hs3 hs4 h1 h2 hnd hset hq
    go_wp2_with fail
    refine KP.out.mono ?_
    rintro e w3 hp
    obtain ⟨st2, v2, ⟨rfl, hq2⟩, hc2⟩ := hp
    have H2 := Lib.hid (And.intro hq2 hc2)
    have hv2 : ∃ a b, v2 = .tuple #[a, b] := by
      rcases hc2 with ⟨b, e1, _⟩ | ⟨e1, _⟩
      · exact ⟨_, _, e1⟩
      · exact ⟨_, _, e1⟩
    obtain ⟨va, vb, rfl⟩ := hv2
    clear hq2 hc2 KP c9 c10
    go_wp2_with fail
    go_ret2
    obtain ⟨hx1, hG1, hO1, ht1, hw1⟩ := H1.out
    exact ⟨st2, _, ⟨rfl, H2.out.1⟩, H2.out.2⟩
  | pack zf tf n l full r =>
    have H1 := Lib.hid (And.intro hx (And.intro (show ∀ i, Gw i ∨ ex i → (Gw i ∨ ex i) ∨ w.heap.size ≤ i from fun i hi => .inl hi) (And.intro (Only.refl (own2 K0 d f Gw ex) w) (And.intro (show ∀ k, (St2.pack zf tf n l full r).tells k = (St2.pack zf tf n l full r).tells k from fun _ => rfl) (Nat.le_refl (St2.pack zf tf n l full r).wl)))))
    have hq1 := h
    clear hx h hw hfit
    go_enter Tryz.func21, Tryz.ntmps21
    have KP := Lib.hid (zpby_any H1.out.1 hq1 (Nat.le_trans H1.out.2.2.2.2 HW.out.1) ⟨HW.out.2.1, HW.out.2.2.imp id (fun e => ⟨Nat.le_trans H1.out.2.2.2.2 e.1, e.2⟩)⟩)
    obtain ⟨K, s, p, a, m, hk, hB, hs1, hs2, hs3, hs4, hs5, hl1, hl2, ha, hS, hbs, hfull, hr, hN, hD, h4, hep, hed, hfp⟩ := hq1
    have c9 : w.cell? ⟨d, 9, none⟩ = some (.int .i64 (l : Int)) := by have := hB.cell 9; exact this.trans (by show some (Value.int .i64 (s.left : Int)) = _; rw [hs4])
    have c10 : w.cell? ⟨d, 10, none⟩ = some (.pointer (some ⟨p, 0, none⟩)) := by have := hB.cell 10; exact this.trans (by show some (pkV s.pk) = _; rw [hs5]; rfl)
    have hl0 : ((l : Int) == 0) = false := by simp; omega

    clear hk hB hs1 hs2 hs3 hs4 hs5 hl1 hl2 ha hS hbs hfull hr hN hD h4 hep hed hfp
    go_wp2_with fail
    refine KP.out.mono ?_
    rintro e w3 hp
    obtain ⟨st2, v2, ⟨rfl, hq2⟩, hc2⟩ := hp
    have H2 := Lib.hid (And.intro hq2 hc2)
    have hv2 : ∃ a b, v2 = .tuple #[a, b] := by
      rcases hc2 with ⟨b, e1, _⟩ | ⟨e1, _⟩
      · exact ⟨_, _, e1⟩
      · exact ⟨_, _, e1⟩
    obtain ⟨va, vb, rfl⟩ := hv2
    clear hq2 hc2 KP c9 c10
    go_wp2_with fail
    go_ret2
    obtain ⟨hx1, hG1, hO1, ht1, hw1⟩ := H1.out
    exact ⟨st2, _, ⟨rfl, H2.out.1⟩, H2.out.2⟩
  | bad =>
    have H1 := Lib.hid (And.intro hx (And.intro (show ∀ i, Gw i ∨ ex i → (Gw i ∨ ex i) ∨ w.heap.size ≤ i from fun i hi => .inl hi) (And.intro (Only.refl (own2 K0 d f Gw ex) w) (And.intro (show ∀ k, (St2.bad).tells k = (St2.bad).tells k from fun _ => rfl) (Nat.le_refl (St2.bad).wl)))))
    have HQ := Lib.hid h
    obtain ⟨s, r, z, ps, hi, hs1, hs3⟩ := h
    have c9 : w.cell? ⟨d, 9, none⟩ = some (.int .i64 0) := by have := hi.rd.blk.cell 9; exact this.trans (by show some (Value.int .i64 (s.left : Int)) = _; rw [hs3]; rfl)
    have c3 : w.cell? ⟨d, 3, none⟩ = some (.bool s.ended) := hi.rd.blk.cell 3
    have KC := Lib.hid (chunk_off hi.rd hs1)
    have HI := Lib.hid (And.intro hi (And.intro hs1 hs3))
    clear hx hw hfit hi hs1 hs3
    cases he : s.ended with
    | true =>
      rw [he] at c3
      clear he KC
      go_enter Tryz.func21, Tryz.ntmps21
      go_wp2_with fail
      go_ret2
      obtain ⟨hx1, hG1, hO1, ht1, hw1⟩ := H1.out
      exact ⟨.bad, _, ⟨rfl, Gw, ex, HQ.out, hx1, fun i hi => .inl hi, Only.refl _ _⟩, .inr ⟨rfl, fun _ => rfl, rfl⟩⟩
    | false =>
      rw [he] at c3
      clear he
      go_enter Tryz.func21, Tryz.ntmps21
      go_wp2_with fail
      refine KC.out.mono ?_
      rintro e w1 ⟨rfl, hR1, hO1⟩
      have HR := Lib.hid (And.intro hR1 hO1)
      have c9 : w1.cell? ⟨d, 9, none⟩ = some (.int .i64 0) := by have := hR1.blk.cell 9; exact this.trans (by show some (Value.int .i64 (s.left : Int)) = _; rw [HI.out.2.2]; rfl)
      clear hR1 hO1 KC
      go_wp2_with fail
      go_ret2
      obtain ⟨hx1, _⟩ := H1.out
      exact ⟨.bad, _, ⟨rfl, Gw, fun _ => False, ⟨s, r, z, ps, HI.out.1.read hx1 HR.out.1 HR.out.2, HI.out.2.1, HI.out.2.2⟩, hx1.turn (fun i hi => .inl hi) (fun i hi => hi.elim) HR.out.2 (df0 hx1), fun i hi => .inl (hi.elim .inl (fun e => e.elim)), HR.out.2.mono (own_df K0 d f Gw ex)⟩, .inr ⟨rfl, fun _ => rfl, rfl⟩⟩
  | rest q =>
    obtain ⟨s, hi, hs1, hs2, hs3, hset, hq⟩ := h
    have c9 : w.cell? ⟨d, 9, none⟩ = some (.int .i64 0) := by have := hi.rd.blk.cell 9; exact this.trans (by show some (Value.int .i64 (s.left : Int)) = _; rw [hs3]; rfl)
    have c3 : w.cell? ⟨d, 3, none⟩ = some (.bool false) := by have := hi.rd.blk.cell 3; exact this.trans (by show some (Value.bool s.ended) = _; rw [hs2])
    have KC := Lib.hid (zchunk_any hx hi hs1 hs2 hs3 hset hq hw)
    clear hx hw hfit hi hs1 hs2 hs3 hset hq
    go_enter Tryz.func21, Tryz.ntmps21
    go_wp2_with fail
    refine KC.out.mono ?_
    rintro e w2 ⟨st1, ⟨rfl, G1, ex1, hq1, hx1, hG1, hO1⟩, ht1, hw1, hg1⟩
    have H1 := Lib.hid (And.intro hx1 (And.intro hG1 (And.intro hO1 (And.intro ht1 hw1))))
    clear hx1 hG1 hO1 ht1 hw1 KC c9 c3
    cases st1 with
    | rest q => exact hg1.elim
    | bad =>
      clear hg1
      have HQ := Lib.hid hq1
      obtain ⟨s, r, z, ps, hi, hs1, hs3⟩ := hq1
      have c9 : w2.cell? ⟨d, 9, none⟩ = some (.int .i64 0) := by have := hi.rd.blk.cell 9; exact this.trans (by show some (Value.int .i64 (s.left : Int)) = _; rw [hs3]; rfl)
      clear hi hs1 hs3
      go_wp2_with fail
      go_ret2
      obtain ⟨hx1, hG1, hO1, ht1, hw1⟩ := H1.out
      exact npost_trans hG1 hO1 ht1 hw1 ⟨.bad, _, ⟨rfl, _, _, HQ.out, hx1, fun i hi => .inl hi, Only.refl _ _⟩, .inr ⟨rfl, fun _ => rfl, rfl⟩⟩
    | fin r =>
      clear hg1
      have HQ := Lib.hid hq1
      obtain ⟨s, z, ps, hi, hs1, hs2, hs3⟩ := hq1
      have c9 : w2.cell? ⟨d, 9, none⟩ = some (.int .i64 0) := by have := hi.rd.blk.cell 9; exact this.trans (by show some (Value.int .i64 (s.left : Int)) = _; rw [hs3]; rfl)
      have c3 : w2.cell? ⟨d, 3, none⟩ = some (.bool true) := by have := hi.rd.blk.cell 3; exact this.trans (by show some (Value.bool s.ended) = _; rw [hs2])
      clear hi hs1 hs2 hs3
      go_wp2_with fail
      go_ret2
      obtain ⟨hx1, hG1, hO1, ht1, hw1⟩ := H1.out
      exact npost_trans hG1 hO1 ht1 hw1 ⟨.fin r, _, ⟨rfl, _, _, HQ.out, hx1, fun i hi => .inl hi, Only.refl _ _⟩, .inr ⟨rfl, fun k => fin_next r k, rfl⟩⟩
    | plain q l =>
      clear hg1
      obtain ⟨s, hi, hs1, hs2, hs3, hs4, h1, h2, hnd, hset, hq⟩ := hq1
      have c9 : w2.cell? ⟨d, 9, none⟩ = some (.int .i64 (l : Int)) := by have := hi.rd.blk.cell 9; exact this.trans (by show some (Value.int .i64 (s.left : Int)) = _; rw [hs3])
      have c10 : w2.cell? ⟨d, 10, none⟩ = some (.pointer none) := by have := hi.rd.blk.cell 10; exact this.trans (by show some (pkV s.pk) = _; rw [hs4]; rfl)
      have hl0 : ((l : Int) == 0) = false := by simp; omega
      have KP := Lib.hid (zplain_any H1.out.1 hi hs1 hs2 hs3 hs4 h1 h2 hnd hset hq (Nat.le_trans H1.out.2.2.2.2 HW.out.1))

      clear hi hs1 hs2 hs3 hs4 h1 h2 hnd hset hq
      go_wp2_with fail
      refine KP.out.mono ?_
      rintro e w3 hp
      obtain ⟨st2, v2, ⟨rfl, hq2⟩, hc2⟩ := hp
      have H2 := Lib.hid (And.intro hq2 hc2)
      have hv2 : ∃ a b, v2 = .tuple #[a, b] := by
        rcases hc2 with ⟨b, e1, _⟩ | ⟨e1, _⟩
        · exact ⟨_, _, e1⟩
        · exact ⟨_, _, e1⟩
      obtain ⟨va, vb, rfl⟩ := hv2
      clear hq2 hc2 KP c9 c10
      go_wp2_with fail
      go_ret2
      obtain ⟨hx1, hG1, hO1, ht1, hw1⟩ := H1.out
      exact npost_trans hG1 hO1 ht1 hw1 ⟨st2, _, ⟨rfl, H2.out.1⟩, H2.out.2⟩
    | pack zf tf n l full r =>
      clear hg1
      have KP := Lib.hid (zpby_any H1.out.1 hq1 (Nat.le_trans H1.out.2.2.2.2 HW.out.1) ⟨HW.out.2.1, HW.out.2.2.imp id (fun e => ⟨Nat.le_trans H1.out.2.2.2.2 e.1, e.2⟩)⟩)
      obtain ⟨K, s, p, a, m, hk, hB, hs1, hs2, hs3, hs4, hs5, hl1, hl2, ha, hS, hbs, hfull, hr, hN, hD, h4, hep, hed, hfp⟩ := hq1
      have c9 : w2.cell? ⟨d, 9, none⟩ = some (.int .i64 (l : Int)) := by have := hB.cell 9; exact this.trans (by show some (Value.int .i64 (s.left : Int)) = _; rw [hs4])
      have c10 : w2.cell? ⟨d, 10, none⟩ = some (.pointer (some ⟨p, 0, none⟩)) := by have := hB.cell 10; exact this.trans (by show some (pkV s.pk) = _; rw [hs5]; rfl)
      have hl0 : ((l : Int) == 0) = false := by simp; omega

      clear hk hB hs1 hs2 hs3 hs4 hs5 hl1 hl2 ha hS hbs hfull hr hN hD h4 hep hed hfp
      go_wp2_with fail
      refine KP.out.mono ?_
      rintro e w3 hp
      obtain ⟨st2, v2, ⟨rfl, hq2⟩, hc2⟩ := hp
      have H2 := Lib.hid (And.intro hq2 hc2)
      have hv2 : ∃ a b, v2 = .tuple #[a, b] := by
        rcases hc2 with ⟨b, e1, _⟩ | ⟨e1, _⟩
        · exact ⟨_, _, e1⟩
        · exact ⟨_, _, e1⟩
      obtain ⟨va, vb, rfl⟩ := hv2
      clear hq2 hc2 KP c9 c10
      go_wp2_with fail
      go_ret2
      obtain ⟨hx1, hG1, hO1, ht1, hw1⟩ := H1.out
      exact npost_trans hG1 hO1 ht1 hw1 ⟨st2, _, ⟨rfl, H2.out.1⟩, H2.out.2⟩
end
end Go.Proofs.YtiolfjhddbiglaaGreatDoor

/-
  The decoder of LZMA2: Next, Finish, Begin.
-/
namespace Go.Proofs.YtiolfjhddbiglaaGreatDoor
open Go.RowKit

section
variable {K : Kon} {d g f lo : Nat} {bs : List UInt8} {fs : List Value} {ps : List Nat} {w w' w1 : World} {Gw G1 : Nat → Prop} {q q' : Lq} {v : Value} {e : Ending}

/-- behind Finish: no source, nothing left -/
structure Dead2 (q q' : Lq) : Prop where
  o : q'.o = q.o
  src : q'.s.src = false
  left : q'.s.left = 0
  pk : q'.s.pk = none
  closed : q'.s.closed = q.s.closed
def EndPost (w : World) (d g f lo : Nat) (bs : List UInt8) (q : Lq) (b : Bool) (e : Ending) (w' : World) : Prop :=
  e = .returned (.bool b) ∧ ∃ q', Rdr w' d g f lo bs q' ∧ q'.o = q.o ∧ q'.s.closed = q.s.closed ∧ Only (fun i => i = d ∨ i = f) w w'
theorem rd_closed (q : Lq) : q.rd.s.closed = q.s.closed := by
  unfold Lq.rd
  split
  · split <;> rfl
  · rfl

/-- the source has more, or not -/
def MorePost (w : World) (d g f lo : Nat) (bs : List UInt8) (q : Lq) (e : Ending) (w' : World) : Prop :=
  ∃ b : UInt8, e = .returned (.tuple #[.int .u8 (b.toNat : Int), .bool (!q.r.isEmpty)]) ∧ ∃ q', Rdr w' d g f lo bs q' ∧ q'.o = q.o ∧ q'.s.closed = q.s.closed ∧ Only (fun i => i = d ∨ i = f) w w'
theorem qmore_any (h : Rdr w d g f lo bs q) (hs : q.s.src = true) : Calls Tryz.prog 222 #[.pointer (some ⟨f, 0, none⟩)] w (MorePost w d g f lo bs q) := by
  obtain ⟨at_, hF, hr⟩ := h.feed hs
  have hdf : d < f := Nat.lt_of_lt_of_le h.df h.ff
  by_cases hlt : at_ < bs.length
  · refine (feed_more hF hlt).mono ?_
    rintro e w1 ⟨rfl, hF1, hg1⟩
    have hne : q.r.isEmpty = false := by rw [hr]; simp; omega
    refine ⟨bs.getD at_ 0, by rw [hne]; rfl, { q with r := bs.drop (at_ + 1) }, ⟨h.blk.grown hg1 (fun e => by injection e with e; omega), fun _ => ⟨_, hF1, rfl⟩, h.df, h.ff, h.nd⟩, rfl, rfl, (Only.of_grown (S := fun i => i = f) hg1 rfl).mono fun i hi => .inr hi⟩
  · have := hF.le
    obtain rfl : at_ = bs.length := by omega
    refine (feed_end hF).mono ?_
    rintro e w1 ⟨rfl, n, rfl⟩
    have hne : q.r.isEmpty = true := by rw [hr]; simp
    exact ⟨0, by rw [hne]; rfl, q, h.only ((Only.refl (fun _ => False) w).drewN n) (fun hh => hh) (fun i hi => hi.elim), rfl, rfl, (Only.refl _ w).drewN n⟩

theorem ends_left {q : Lq} (h : q.s.left ≠ 0) : q.ends = false := by unfold Lq.ends; simp [h]
theorem ends_bad {q : Lq} (h : q.at_.s.src = false) : q.ends = false := by unfold Lq.ends; simp [h]
theorem ends_last {q : Lq} (h : q.last ≠ 0) : q.ends = false := by unfold Lq.ends; simp [h]
theorem ends_is {q : Lq} (h : q.s.left = 0) (hs : q.at_.s.src = true) (hl : q.last = 0) : q.ends = q.at_.r.isEmpty := by unfold Lq.ends; simp [h, hs, hl]
theorem at_off {q : Lq} (he : q.s.ended = false) : q.at_ = q.rd := by unfold Lq.at_; rw [if_neg (by simp [he])]
theorem at_on {q : Lq} (he : q.s.ended = true) : q.at_ = q := by unfold Lq.at_; rw [if_pos he]
theorem last_off {q : Lq} (he : q.s.ended = false) : q.last = q.b := by unfold Lq.last; rw [if_neg (by simp [he])]
theorem last_on {q : Lq} (he : q.s.ended = true) : q.last = 0 := by unfold Lq.last; rw [if_pos he]

set_option maxRecDepth 100000 in
set_option maxHeartbeats 4000000 in
/-- whether the stream ends -/
theorem qends_any (h : Rdr w d g f lo bs q) :
    Calls Tryz.prog 45 #[.pointer (some ⟨d, 0, none⟩)] w (EndPost w d g f lo bs q q.ends) := by
  have c9 : w.cell? ⟨d, 9, none⟩ = some (.int .i64 (q.s.left : Int)) := h.blk.cell 9
  have c3 : w.cell? ⟨d, 3, none⟩ = some (.bool q.s.ended) := h.blk.cell 3
  by_cases h0 : q.s.left = 0
  · have hgt : ¬ ((q.s.left : Int) > 0) := by omega
    rw [h0] at c9
    change w.cell? ⟨d, 9, none⟩ = some (.int .i64 0) at c9
    have HZ := Lib.hid h0
    cases he : q.s.ended with
    | true =>
      rw [he] at c3
      have KB := Lib.hid (qbad_any h.blk)
      have HE := Lib.hid (And.intro (at_on he) (last_on he))
      have HH := Lib.hid h
      clear he hgt h0
      cases hs : q.s.src with
      | false =>
        rw [hs] at KB
        have hend := ends_bad (q := q) (by rw [HE.out.1]; exact hs)
        rw [hend]
        clear hend hs h
        go_enter Tryz.func45, Tryz.ntmps45
        go_wp2_with fail
        refine KB.out.mono ?_
        rintro e w1 ⟨rfl, rfl⟩
        clear KB
        go_wp2_with fail
        go_ret
        exact ⟨rfl, q, HH.out, rfl, rfl, Only.refl _ _⟩
      | true =>
        rw [hs] at KB
        have hend := ends_is HZ.out (by rw [HE.out.1]; exact hs) HE.out.2
        rw [HE.out.1] at hend
        have KM := Lib.hid (qmore_any h hs)
        have c2 : w.cell? ⟨d, 2, none⟩ = some (srcV f q.s.src) := h.blk.cell 2
        rw [hs] at c2
        change w.cell? ⟨d, 2, none⟩ = some (.iface 52 (.pointer (some ⟨f, 0, none⟩))) at c2
        have hm := feed_method
        have HEND := Lib.hid hend
        clear hend hs h
        go_enter Tryz.func45, Tryz.ntmps45
        go_wp2_with fail
        refine KB.out.mono ?_
        rintro e w1 ⟨rfl, rfl⟩
        clear KB
        cases hy : q.r.isEmpty with
        | false =>
          go_wp2_with fail
          refine KM.out.mono ?_
          rintro e w3 ⟨b, he, q3, hR3, ho3, hc3, hO3⟩
          rw [hy] at he
          subst he
          have HR3 := Lib.hid (And.intro hR3 (And.intro ho3 (And.intro hc3 hO3)))
          clear hR3 ho3 hc3 hO3 KM
          go_wp2_with fail
          go_ret
          rw [HEND.out, hy]
          exact ⟨rfl, q3, HR3.out.1, HR3.out.2.1, HR3.out.2.2.1, HR3.out.2.2.2⟩
        | true =>
          go_wp2_with fail
          refine KM.out.mono ?_
          rintro e w3 ⟨b, he, q3, hR3, ho3, hc3, hO3⟩
          rw [hy] at he
          subst he
          have HR3 := Lib.hid (And.intro hR3 (And.intro ho3 (And.intro hc3 hO3)))
          clear hR3 ho3 hc3 hO3 KM
          go_wp2_with fail
          go_ret
          rw [HEND.out, hy]
          exact ⟨rfl, q3, HR3.out.1, HR3.out.2.1, HR3.out.2.2.1, HR3.out.2.2.2⟩
    | false =>
      rw [he] at c3
      have KR := Lib.hid (qread_any h)
      have HE := Lib.hid (And.intro (at_off he) (last_off he))
      clear he hgt h0 h
      go_enter Tryz.func45, Tryz.ntmps45
      go_wp2_with fail
      refine KR.out.mono ?_
      rintro e w1 ⟨rfl, hR1, hO1⟩
      have KB := qbad_any hR1.blk
      have HR := Lib.hid (And.intro hR1 hO1)
      have hqo : q.rd.o = q.o := rd_o q
      have hqc : q.rd.s.closed = q.s.closed := rd_closed q
      obtain ⟨q1, hq1⟩ : ∃ q1, q1 = q.rd := ⟨_, rfl⟩
      obtain ⟨x, hx⟩ : ∃ x, x = q.b := ⟨_, rfl⟩
      have HQ := Lib.hid (And.intro hq1 (And.intro hx (And.intro (hq1 ▸ hqo) (hq1 ▸ hqc))))
      rw [← hq1] at KB HR
      rw [← hx]
      have KB := Lib.hid KB
      clear hR1 hO1 KR hq1 hx hqo hqc c3 c9
      go_wp2_with fail
      refine KB.out.mono ?_
      rintro e w2 ⟨rfl, rfl⟩
      clear KB
      cases hs : q1.s.src with
      | false =>
        have HEND := Lib.hid (ends_bad (q := q) (by rw [HE.out.1, ← HQ.out.1]; exact hs))
        go_wp2_with fail
        go_ret
        rw [HEND.out]
        exact ⟨rfl, q1, HR.out.1, HQ.out.2.2.1, HQ.out.2.2.2, HR.out.2⟩
      | true =>
        by_cases h0 : x = 0
        · have HEND := Lib.hid (show q.ends = q1.r.isEmpty by rw [ends_is HZ.out (by rw [HE.out.1, ← HQ.out.1]; exact hs) (by rw [HE.out.2, ← HQ.out.2.1]; exact h0), HE.out.1, ← HQ.out.1])
          have KM := Lib.hid (qmore_any HR.out.1 hs)
          have c2 : w1.cell? ⟨d, 2, none⟩ = some (srcV f q1.s.src) := HR.out.1.blk.cell 2
          rw [hs] at c2
          change w1.cell? ⟨d, 2, none⟩ = some (.iface 52 (.pointer (some ⟨f, 0, none⟩))) at c2
          have hm := feed_method
          subst h0
          cases hy : q1.r.isEmpty with
          | false =>
            go_wp2_with fail
            refine KM.out.mono ?_
            rintro e w3 ⟨b, he, q3, hR3, ho3, hc3, hO3⟩
            rw [hy] at he
            subst he
            have HR3 := Lib.hid (And.intro hR3 (And.intro ho3 (And.intro hc3 hO3)))
            clear hR3 ho3 hc3 hO3 KM
            go_wp2_with fail
            go_ret
            rw [HEND.out, hy]
            exact ⟨rfl, q3, HR3.out.1, HR3.out.2.1.trans HQ.out.2.2.1, HR3.out.2.2.1.trans HQ.out.2.2.2, HR.out.2.trans HR3.out.2.2.2⟩
          | true =>
            go_wp2_with fail
            refine KM.out.mono ?_
            rintro e w3 ⟨b, he, q3, hR3, ho3, hc3, hO3⟩
            rw [hy] at he
            subst he
            have HR3 := Lib.hid (And.intro hR3 (And.intro ho3 (And.intro hc3 hO3)))
            clear hR3 ho3 hc3 hO3 KM
            go_wp2_with fail
            go_ret
            rw [HEND.out, hy]
            exact ⟨rfl, q3, HR3.out.1, HR3.out.2.1.trans HQ.out.2.2.1, HR3.out.2.2.1.trans HQ.out.2.2.2, HR.out.2.trans HR3.out.2.2.2⟩
        · have HEND := Lib.hid (ends_last (q := q) (by rw [HE.out.2, ← HQ.out.2.1]; exact h0))
          have hx0 : ((x.toNat : Int) != 0) = true := by
            have : x.toNat ≠ 0 := fun e => h0 (UInt8.toNat_inj.1 (by simpa using e))
            simp; omega
          clear h0
          go_wp2_with fail
          go_ret
          rw [HEND.out]
          exact ⟨rfl, q1, HR.out.1, HQ.out.2.2.1, HQ.out.2.2.2, HR.out.2⟩
  · have hgt : (q.s.left : Int) > 0 := by omega
    rw [ends_left h0]
    have HH := Lib.hid h
    clear h h0
    go_enter Tryz.func45, Tryz.ntmps45
    go_wp2_with fail
    go_ret
    exact ⟨rfl, q, HH.out, rfl, rfl, Only.refl _ _⟩

def FinPost (w : World) (d g f lo : Nat) (bs : List UInt8) (q : Lq) (e : Ending) (w' : World) : Prop :=
  e = .returned (.bool q.ends) ∧ ∃ q', Rdr w' d g f lo bs q' ∧ Dead2 q q' ∧ Only (fun i => i = d ∨ i = f) w w'
set_option maxRecDepth 100000 in
set_option maxHeartbeats 1000000 in
theorem qfinish_any (h : Rdr w d g f lo bs q) :
    Calls Tryz.prog 22 #[.pointer (some ⟨d, 0, none⟩)] w (FinPost w d g f lo bs q) := by
  have KE := Lib.hid (qends_any h)
  clear h
  go_enter Tryz.func22, Tryz.ntmps22
  go_wp2_with fail
  refine KE.out.mono ?_
  rintro e w1 ⟨rfl, q1, hR1, ho1, hc1, hO1⟩
  have KF := Lib.hid (qfail_any hR1.blk)
  have HR := Lib.hid (And.intro hR1 (And.intro ho1 (And.intro hc1 hO1)))
  clear hR1 ho1 hc1 hO1 KE
  go_wp2_with fail
  refine KF.out.mono ?_
  rintro e w2 ⟨rfl, hB2, hO2⟩
  have HF := Lib.hid (And.intro (rdr_failed HR.out.1 hB2) (HR.out.2.2.2.trans (hO2.mono fun i hi => .inl hi)))
  clear hB2 hO2 KF
  go_wp2_with fail
  go_ret
  exact ⟨rfl, q1.fail, HF.out.1, ⟨HR.out.2.1, rfl, rfl, rfl, HR.out.2.2.1⟩, HF.out.2⟩
/-- a new stream begins -/
def Lq.begun (q : Lq) (b : List UInt8) : Lq := { q with s := { q.s with src := true, ended := false, nd := 7, left := 0 }, r := b }
set_option maxRecDepth 100000 in
set_option maxHeartbeats 1000000 in
theorem qbegin_any {s : Ds} {o : List UInt8} (hB : Blk w d 105 (d2Cells g f s)) (hF : Feed w f lo bs 0) (hc : s.closed = false) (hd : d < lo) :
    Calls Tryz.prog 19 #[.pointer (some ⟨d, 0, none⟩), .iface 52 (.pointer (some ⟨f, 0, none⟩))] w fun e w' => e = .returned (.tuple #[]) ∧ Rdr w' d g f lo bs ((⟨s, [], o⟩ : Lq).begun bs) ∧ Only (fun i => i = d) w w' := by
  have c1 : w.cell? ⟨d, 1, none⟩ = some (.bool s.closed) := hB.cell 1
  have c2 : w.cell? ⟨d, 2, none⟩ = some (srcV f s.src) := hB.cell 2
  have c3 : w.cell? ⟨d, 3, none⟩ = some (.bool s.ended) := hB.cell 3
  have c4 : w.cell? ⟨d, 4, none⟩ = some (.int .u8 (s.nd : Int)) := hB.cell 4
  have c9 : w.cell? ⟨d, 9, none⟩ = some (.int .i64 (s.left : Int)) := hB.cell 9
  rw [hc] at c1
  have z2 := hB.free 2
  have z3 := hB.free 3
  have z4 := hB.free 4
  have z9 := hB.free 9
  have hO := ((((Only.refl (fun i => i = d) w).setCell (p := ⟨d, 2, none⟩) (.inl rfl) (.iface 52 (.pointer (some ⟨f, 0, none⟩)))).setCell (p := ⟨d, 3, none⟩) (.inl rfl) (.bool false)).setCell (p := ⟨d, 4, none⟩) (.inl rfl) (.int .u8 7)).setCell (p := ⟨d, 9, none⟩) (.inl rfl) (.int .i64 0)
  have hB4 := (((hB.put 2 (.iface 52 (.pointer (some ⟨f, 0, none⟩)))).put 3 (.bool false)).put 4 (.int .u8 7)).put 9 (.int .i64 0)
  have hF4 := hF.only hO (fun i hi => .inl (by omega))
  have HE := Lib.hid (And.intro (show Rdr _ d g f lo bs ((⟨s, [], o⟩ : Lq).begun bs) from ⟨hB4, fun _ => ⟨0, hF4, rfl⟩, hd, hF.lo, (by show 7 < 256; omega)⟩) hO)
  clear hB hF hd hO hB4 hF4 hc
  go_enter Tryz.func19, Tryz.ntmps19
  go_wp2_with fail
  first | go_end0 | refine bodyPost_ret (results_none rfl _ _ _) rfl ?_
  exact ⟨rfl, HE.out.1, HE.out.2⟩
end
end Go.Proofs.YtiolfjhddbiglaaGreatDoor
