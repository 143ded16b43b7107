/-
  ZqBegin: put together.
-/
import Derived.Test.YtoencondpbkomaaGreatDoorT27
import Derived.Deep.RegionHeld3
import Derived.Deep.CutRange
import Derived.Deep.CutBlock
set_option linter.unusedVariables false
set_option linter.unusedSimpArgs false
/-
  The decoder of LZMA2: a packed chunk begins.
-/
namespace Go.Proofs.YtoencondpbkomaaGreatDoor
open Go.RowKit
set_option linter.unusedVariables false

section
variable {K0 : Kon} {d f lo D : Nat} {all r : List UInt8} {w w' : World} {Gw ex : Nat → Prop} {s : Ds} {z : Lzs} {ps : List Nat}

theorem beg_a0 {c : Nat} (h : c < 256) : wrap64 (c : Int) = (c : Int) := IntWalk.wrap64_in _ (by omega)
theorem beg_a1 {c cm : Nat} (h : c < 256) (h2 : 128 ≤ c) (hm : cm = c - 128) : IntKind.u8.wrap ((c : Int) - 128) = (cm : Int) := by
  show ((c : Int) - 128) % 256 = _
  omega
theorem beg_a2 {a b : Nat} (h : b = a * 65536) (ha : a ≤ 31) : wrap64 ((a : Int) * 65536) = (b : Int) := by rw [IntWalk.wrap64_in _ (by omega)]; omega
theorem beg_a3 {a b n : Nat} (h : n = a + b) (ha : a ≤ 2031616) (hb : b ≤ 65536) : wrap64 ((a : Int) + (b : Int)) = (n : Int) := by rw [IntWalk.wrap64_in _ (by omega)]; omega
theorem beg_ne {v : Nat} (h : ¬ v = 0) : ((v : Int) != 0) = true := by simp; omega
theorem beg_eq {v : Nat} (h : v = 0) : ((v : Int) != 0) = false := by simp; omega
theorem and31 (n : Nat) (h : n < 256) : bits .and .i64 (n : Int) 31 = ((n % 32 : Nat) : Int) := by
  have hx : n &&& 31 < 2 ^ 63 := Nat.and_lt_two_pow _ (by decide)
  have hm : n &&& 31 = n % 32 := Nat.and_two_pow_sub_one_eq_mod n 5
  have h1 : (BitVec.ofInt 64 (n : Int)).toNat = n := by simp; omega
  have h2 : (BitVec.ofInt 64 (31 : Int)).toNat = 31 := by decide
  show IntKind.i64.wrap ((BitVec.ofInt 64 (n : Int) &&& BitVec.ofInt 64 (31 : Int)).toNat : Int) = _
  rw [BitVec.toNat_and, h1, h2, hm, IntKind.wrap_i64]
  omega
/-- all that a packed chunk's head says: the bytes behind it, how many are told, how many are packed, the setting -/
def BegPost (K0 : Kon) (d f lo : Nat) (all : List UInt8) (D : Nat) (w : World) (Gw ex : Nat → Prop) (q : Rs) (e : Ending) (w' : World) : Prop :=
  ∃ st, Q2Post K0 d f lo all D w Gw ex (.tuple #[]) st e w' ∧ (∀ k, (St2.rest q).tells k = st.tells k) ∧ st.wl ≤ q.z.out.length ∧ (st = .bad ∨ ∃ zf tf n l full r2, st = .pack zf tf n l full r2)
/-- it is bad, for none of it is told -/
theorem beg_bad {q : Rs} {c : UInt8} {ds : Ds} {r2 : List UInt8} (hx : Q2x K0 d f lo w Gw ex) (h : Idl K0 d f lo all w Gw s r z ps) (hr : q.r = c :: r) (hc : 128 ≤ c.toNat) (hn : packedC q c.toNat r = none)
    (hR : Rdr w' d K0.g f lo all ⟨ds, r2, []⟩) (hO : Only (fun i => i = d ∨ i = f) w w') (h1 : ds.src = false) (h2 : ds.left = 0) : BegPost K0 d f lo all D w Gw ex q (.returned (.tuple #[])) w' := by
  refine ⟨.bad, ⟨rfl, Gw, fun _ => False, ⟨ds, r2, z, ps, h.read hx hR hO, h1, h2⟩, hx.turn (fun i hi => .inl hi) (fun i hi => hi.elim) hO (df0 hx), fun i hi => .inl (hi.elim .inl (fun e => e.elim)), hO.mono (own_df K0 d f Gw ex)⟩, fun k => ?_, Nat.zero_le _, .inl rfl⟩
  exact rest_bad (head_ne hr (by omega)) ((chunk_packed hr hc).trans hn)

/-- the head is read: it is bad, and nothing of the chunk is told; or what is behind the head -/
def BegMid (K0 : Kon) (d f lo : Nat) (all : List UInt8) (w : World) (q : Rs) (c how nn n2 : Nat) (r : List UInt8) (wx : World) : Prop :=
  ∃ ds r3, Rdr wx d K0.g f lo all ⟨ds, r3, []⟩ ∧ Only (fun i => i = d ∨ i = f) w wx ∧ ds.left = 0 ∧ ((ds.src = false ∧ packedC q c r = none) ∨
    (ds.src = true ∧ ds.ended = false ∧ ∃ lc lp pb : Nat, (ds.a0 = (lc : Int) ∧ ds.a1 = (lp : Int) ∧ ds.a2 = (pb : Int)) ∧ lc + lp ≤ 4 ∧ pb ≤ 4 ∧ packedC q c r = bodyC q how nn n2 (lc, lp, pb) r3 ∧ (how = 0 → lc = q.z.lc ∧ lp = q.z.lp ∧ pb = q.z.pb)))
theorem mid_keep {q : Rs} {c how nn n1 n2 ab2 : Nat} {q1 q2 : Lq} (hq1 : q1 = (⟨s, r, []⟩ : Lq).two) (hq2 : q2 = q1.two) (hn1 : n1 = (⟨s, r, []⟩ : Lq).count) (hn2 : n2 = q1.count) (hnn : nn = ab2 + n1) (hab : ab2 = c % 32 * 65536)
    (hhow : how = c / 32 - 4) (hb : bringsN q.nd (c / 32 - 4) = true) (hv : how < 2) (hs1 : s.src = true) (hs2 : s.ended = false) (hs3 : s.left = 0) (hset : setAt q s) (hq : Rok D q) (hR : Rdr w' d K0.g f lo all q2) (hO : Only (fun i => i = d ∨ i = f) w w') :
    BegMid K0 d f lo all w q c how nn n2 r w' := by
  have hnd : q.nd = 0 := by
    unfold bringsN at hb
    rcases of_decide_eq_true hb with h | h | h
    · exact h
    · omega
    · omega
  rcases four_cases (s := s) (r := r) hs1 with ⟨x, y, x2, y2, r2, rfl, e1, e2, e3⟩ | ⟨e1, e2⟩
  · rw [← hq1, ← hq2] at e1
    rw [← hn1] at e2
    rw [← hq1, ← hn2] at e3
    rw [e1] at hR
    refine ⟨s, r2, hR, hO, hs3, .inr ⟨hs1, hs2, q.z.lc, q.z.lp, q.z.pb, hset.2 hnd, hq.four, hq.near.pb, ?_, fun _ => ⟨rfl, rfl, rfl⟩⟩⟩
    have e5 : c % 32 * 65536 + 256 * x.toNat + y.toNat + 1 = nn := by rw [hnn, hab, e2, ← Nat.add_assoc, ← Nat.add_assoc]
    rw [packedC_keep hb (by omega), ← hhow, e3, e5]
  · rw [← hq1, ← hq2] at e2
    rw [e2] at hR
    exact ⟨s.fail, [], hR, hO, rfl, .inl ⟨rfl, packedC_short e1⟩⟩
theorem setN_ok {x : UInt8} {st : Nat × Nat × Nat} (h : setN x = some st) : st.1 + st.2.1 ≤ 4 ∧ st.2.2 ≤ 4 := by
  unfold setN at h
  split at h
  · rename_i hc
    injection h with h
    rw [← h]
    exact ⟨hc.2, by show x.toNat / 45 ≤ 4; omega⟩
  · cases h
theorem mid_set {q : Rs} {c how nn n1 n2 ab2 : Nat} {q1 q2 : Lq} {a0 a1 a2 a3 : Int} {w3 w4 : World} (hq1 : q1 = (⟨s, r, []⟩ : Lq).two) (hq2 : q2 = q1.two) (hn1 : n1 = (⟨s, r, []⟩ : Lq).count) (hn2 : n2 = q1.count) (hnn : nn = ab2 + n1) (hab : ab2 = c % 32 * 65536)
    (hhow : how = c / 32 - 4) (hb : bringsN q.nd (c / 32 - 4) = true) (hv : ¬ how < 2) (hs1 : s.src = true) (hs2 : s.ended = false) (hs3 : s.left = 0)
    (hR : (∃ st, setN q2.b = some st ∧ a0 = (st.1 : Int) ∧ a1 = (st.2.1 : Int) ∧ a2 = (st.2.2 : Int) ∧ Rdr w3 d K0.g f lo all q2.rd) ∨ (setN q2.b = none ∧ Rdr w3 d K0.g f lo all q2.rd.fail))
    (hw : w4 = (((w3.setCell ⟨d, 5, none⟩ (.int .i64 a0)).setCell ⟨d, 6, none⟩ (.int .i64 a1)).setCell ⟨d, 7, none⟩ (.int .i64 a2)).setCell ⟨d, 8, none⟩ (.int .i64 a3)) (hO : Only (fun i => i = d ∨ i = f) w w4) :
    BegMid K0 d f lo all w q c how nn n2 r w4 := by
  have hput : ∀ {ds : Ds} {r3 : List UInt8}, Rdr w3 d K0.g f lo all ⟨ds, r3, []⟩ → Rdr w4 d K0.g f lo all ⟨{ ds with a0 := a0, a1 := a1, a2 := a2, a3 := a3 }, r3, []⟩ := by
    intro ds r3 h
    rw [hw]
    exact (((h.put (q' := ⟨{ ds with a0 := a0 }, r3, []⟩) 5 (.int .i64 a0) rfl rfl rfl).put (q' := ⟨{ ds with a0 := a0, a1 := a1 }, r3, []⟩) 6 (.int .i64 a1) rfl rfl rfl).put (q' := ⟨{ ds with a0 := a0, a1 := a1, a2 := a2 }, r3, []⟩) 7 (.int .i64 a2) rfl rfl rfl).put (q' := ⟨{ ds with a0 := a0, a1 := a1, a2 := a2, a3 := a3 }, r3, []⟩) 8 (.int .i64 a3) rfl rfl rfl
  have h0 : setN 0 = some (0, 0, 0) := by decide
  rcases four_cases (s := s) (r := r) hs1 with ⟨x, y, x2, y2, r2, rfl, e1, e2, e3⟩ | ⟨e1, e2⟩
  · rw [← hq1, ← hq2] at e1
    rw [← hn1] at e2
    rw [← hq1, ← hn2] at e3
    rw [e1] at hR
    match r2, hR with
    | [], hR =>
      rw [b_end (q := ⟨s, [], []⟩) hs1 rfl, h0, lq_dry hs1] at hR
      rcases hR with ⟨st, _, _, _, _, hR⟩ | ⟨hR, _⟩
      · exact ⟨_, [], hput hR, hO, rfl, .inl ⟨rfl, packedC_dry (by omega)⟩⟩
      · cases hR
    | v :: r3, hR =>
      rw [lq_b hs1, lq_rd hs1] at hR
      rcases hR with ⟨st, hst, ha0, ha1, ha2, hR⟩ | ⟨hst, hR⟩
      · obtain ⟨k1, k2⟩ := setN_ok hst
        refine ⟨_, r3, hput hR, hO, hs3, .inr ⟨hs1, hs2, st.1, st.2.1, st.2.2, ⟨ha0, ha1, ha2⟩, k1, k2, ?_, fun h => by omega⟩⟩
        have e5 : c % 32 * 65536 + 256 * x.toNat + y.toNat + 1 = nn := by rw [hnn, hab, e2, ← Nat.add_assoc, ← Nat.add_assoc]
        rw [packedC_set hb (by omega), hst, ← hhow, e3, e5]
      · refine ⟨_, r3, hput (ds := s.fail) hR, hO, rfl, .inl ⟨rfl, ?_⟩⟩
        rw [packedC_set hb (by omega), hst]
  · rw [← hq1, ← hq2] at e2
    rw [e2] at hR
    rw [b_none (q := ⟨s.fail, [], []⟩) rfl, h0, rd_none (q := ⟨s.fail, [], []⟩) rfl] at hR
    rcases hR with ⟨st, _, _, _, _, hR⟩ | ⟨hR, _⟩
    · exact ⟨_, [], hput hR, hO, rfl, .inl ⟨rfl, packedC_short e1⟩⟩
    · cases hR

set_option maxRecDepth 100000 in
set_option maxHeartbeats 16000000 in
theorem qpacked_any {q : Rs} {c : UInt8} (hx : Q2x K0 d f lo w Gw ex) (h : Idl K0 d f lo all w Gw s r q.z q.ps) (hs1 : s.src = true) (hs2 : s.ended = false) (hs3 : s.left = 0) (hset : setAt q s) (hq : Rok D q) (hr : q.r = c :: r) (hc : 128 ≤ c.toNat)
    (ho : q.z.out.length ≤ 700000) :
    Calls Tryz.prog 76 #[.pointer (some ⟨d, 0, none⟩), .int .u8 (c.toNat : Int)] w
      (BegPost K0 d f lo all D w Gw ex q) := by
  obtain ⟨how, hhow⟩ : ∃ how, how = c.toNat / 32 - 4 := ⟨_, rfl⟩
  have hh4 : how < 4 := by have := c.toNat_lt; omega
  obtain ⟨cm, hcm⟩ : ∃ cm, cm = c.toNat - 128 := ⟨_, rfl⟩
  have e1 : IntKind.u8.wrap ((c.toNat : Int) - 128) = (cm : Int) := beg_a1 c.toNat_lt hc hcm
  have hcm32 : cm / 32 = how := by omega
  have c4 : w.cell? ⟨d, 4, none⟩ = some (.int .u8 (s.nd : Int)) := h.rd.blk.cell 4
  have t0 : w.cell? ⟨0, cm / 32, none⟩ = some (.int .u8 (bringN how : Int)) := by rw [hcm32]; exact hx.tab how hh4
  have i0 : (0 : Int) ≤ (cm : Int) / 32 := by omega
  have i1 : (cm : Int) / 32 < 4 := by omega
  obtain ⟨v, hv, hv0⟩ := needs_bits (nd := s.nd) (how := how) (by rw [hset.1]; exact hq.nd) hh4
  obtain ⟨br, hbr⟩ : ∃ br, br = bringN how := ⟨_, rfl⟩
  rw [← hbr] at t0 hv
  have HH := Lib.hid (And.intro hx (And.intro h (And.intro hs1 (And.intro hs2 (And.intro hs3 (And.intro hset (And.intro hq (And.intro hr (And.intro hc ho)))))))))
  have HN := Lib.hid (And.intro hhow (And.intro hh4 (And.intro hv0 hbr)))
  have a0 : wrap64 (c.toNat : Int) = (c.toNat : Int) := beg_a0 c.toNat_lt
  obtain ⟨ab, hab⟩ : ∃ ab, ab = c.toNat % 32 := ⟨_, rfl⟩
  have hab31 : ab ≤ 31 := by rw [hab]; exact Nat.le_of_lt_succ (Nat.mod_lt _ (by decide))
  have a1 : bits .and .i64 (c.toNat : Int) 31 = (ab : Int) := by rw [hab]; exact and31 _ c.toNat_lt
  obtain ⟨ab2, hab2⟩ : ∃ ab2, ab2 = ab * 65536 := ⟨_, rfl⟩
  have a2 : wrap64 ((ab : Int) * 65536) = (ab2 : Int) := beg_a2 hab2 hab31
  have HAB := Lib.hid (show ab2 = c.toNat % 32 * 65536 ∧ ab2 ≤ 2031616 from ⟨by rw [hab2, hab], by rw [hab2]; exact Nat.mul_le_mul_right 65536 hab31⟩)
  have KF := Lib.hid (qfail_any h.rd.blk)
  have KC := Lib.hid (qcount_any h.rd)
  have HRD := Lib.hid h.rd
  clear hx h hs1 hs2 hs3 hset hq hr hc ho hhow hcm hcm32 hh4 hv0 hbr hab hab2 hab31
  by_cases hb : v = 0
  case neg =>
    have b1 : ((v : Int) != 0) = true := beg_ne hb
    have HNB := Lib.hid (show packedC q c.toNat r = none from by
      obtain ⟨hx, h, hs1, hs2, hs3, hset, hq, hr, hc, ho⟩ := HH.out
      obtain ⟨n1, n2, n3, n4⟩ := HN.out
      refine packedC_needs ?_
      rw [← n1, ← hset.1]
      cases e : bringsN s.nd how with
      | false => rfl
      | true => exact absurd (n3.2 e) hb)
    clear hb KC a0 a1 a2
    go_enter Tryz.func76, Tryz.ntmps76
    go_wp2_with fail
    refine KF.out.mono ?_
    rintro e w1 ⟨rfl, hB1, hO1⟩
    have H1 := Lib.hid (And.intro hB1 hO1)
    clear hB1 hO1 KF
    go_wp2_with fail
    first | go_end0 | refine bodyPost_ret (results_none rfl _ _ _) rfl ?_
    obtain ⟨hx, h, hs1, hs2, hs3, hset, hq, hr, hc, ho⟩ := HH.out
    exact beg_bad hx h hr hc HNB.out (rdr_failed HRD.out H1.out.1) (H1.out.2.mono (fun i hi => .inl hi)) rfl rfl
  case pos =>
  have b1 : ((v : Int) != 0) = false := beg_eq hb
  have HB := Lib.hid (show bringsN q.nd (c.toNat / 32 - 4) = true from by
    obtain ⟨hx, h, hs1, hs2, hs3, hset, hq, hr, hc, ho⟩ := HH.out
    obtain ⟨n1, n2, n3, n4⟩ := HN.out
    rw [← n1, ← hset.1]
    exact n3.1 hb)
  clear hb KF
  go_enter Tryz.func76, Tryz.ntmps76
  go_wp2_with fail
  refine KC.out.mono ?_
  rintro e w1 ⟨rfl, hR1, hO1⟩
  obtain ⟨n1, hn1⟩ : ∃ n1, n1 = (⟨s, r, []⟩ : Lq).count := ⟨_, rfl⟩
  obtain ⟨q1, hq1⟩ : ∃ q1, q1 = (⟨s, r, []⟩ : Lq).two := ⟨_, rfl⟩
  have hn1l : n1 ≤ 65536 := by rw [hn1]; exact count_small _
  rw [← hq1] at hR1
  rw [← hn1]
  have HC1 := Lib.hid (And.intro hn1 (And.intro hq1 hn1l))
  obtain ⟨nn, hnn⟩ : ∃ nn, nn = ab2 + n1 := ⟨_, rfl⟩
  have a3 : wrap64 ((ab2 : Int) + (n1 : Int)) = (nn : Int) := beg_a3 hnn HAB.out.2 hn1l
  have HNN := Lib.hid (show nn = ab2 + n1 ∧ nn ≤ 2097152 from ⟨hnn, by rw [hnn]; exact Nat.add_le_add HAB.out.2 hn1l⟩)
  have KC2 := Lib.hid (qcount_any hR1)
  have HO1 := Lib.hid hO1
  clear hR1 hO1 hn1 hq1 hn1l hnn KC
  go_wp2_with fail
  refine KC2.out.mono ?_
  rintro e w2 ⟨rfl, hR2, hO2⟩
  obtain ⟨n2, hn2⟩ : ∃ n2, n2 = q1.count := ⟨_, rfl⟩
  obtain ⟨q2, hq2⟩ : ∃ q2, q2 = q1.two := ⟨_, rfl⟩
  have hn2l : n2 ≤ 65536 := by rw [hn2]; exact count_small _
  rw [← hq2] at hR2
  rw [← hn2]
  have HC2 := Lib.hid (And.intro hn2 (And.intro hq2 hn2l))
  have H2 := Lib.hid (And.intro hR2 (HO1.out.trans hO2))
  clear hR2 hO2 hn2 hq2 hn2l KC2 a0 a1 a2 a3
  obtain ⟨v2, hv2, hv20⟩ := set_bits (how := how) HN.out.2.1
  rw [← HN.out.2.2.2] at hv2
  have HV2 := Lib.hid hv20
  clear hv20
  go_upto_if 34 with fail
  go_cut [] from 33 to 39 (fun wx => BegMid K0 d f lo all w q c.toNat how nn n2 r wx)
  case first =>
    obtain ⟨hx, h, hs1, hs2, hs3, hset, hq, hr, hc, ho⟩ := HH.out
    have hhow := HN.out.1
    obtain ⟨u1, u2, u3⟩ := HC1.out
    obtain ⟨u4, u5, u6⟩ := HC2.out
    by_cases hv : how < 2
    · have b2 : ((v2 : Int) != 0) = false := beg_eq (HV2.out.2 hv)
      have HM := Lib.hid (mid_keep (D := D) u2 u5 u1 u4 HNN.out.1 HAB.out.1 hhow HB.out hv hs1 hs2 hs3 hset hq H2.out.1 H2.out.2)
      clear hx h hs1 hs2 hs3 hset hq hr hc ho hhow u1 u2 u3 u4 u5 u6 hv
      go_wp2_with fail
      go_meet
      exact HM.out
    · have b2 : ((v2 : Int) != 0) = true := beg_ne (fun e => hv (HV2.out.1 e))
      have KS := Lib.hid (qset_any H2.out.1 (Nat.lt_of_lt_of_le hx.fs H2.out.2.size))
      have HM := Lib.hid (fun (w3 w4 : World) (a0 a1 a2 a3 : Int) hR hw hO => mid_set (K0 := K0) (d := d) (f := f) (lo := lo) (all := all) (w := w) (w3 := w3) (w4 := w4) (a0 := a0) (a1 := a1) (a2 := a2) (a3 := a3) u2 u5 u1 u4 HNN.out.1 HAB.out.1 hhow HB.out hv hs1 hs2 hs3 hR hw hO)
      clear hx h hs1 hs2 hs3 hset hq hr hc ho hhow u1 u2 u3 u4 u5 u6 hv
      go_wp2_with fail
      refine KS.out.mono ?_
      rintro e w3 ⟨a0, a1, a2, a3, rfl, hO3, hR3⟩
      have hB3 : ∃ ds, Blk w3 d 105 (d2Cells K0.g f ds) := by
        rcases hR3 with ⟨_, _, _, _, _, hR⟩ | ⟨_, hR⟩
        · exact ⟨_, hR.blk⟩
        · exact ⟨_, hR.blk⟩
      obtain ⟨ds, hB3⟩ := hB3
      have d5 : w3.cell? ⟨d, 5, none⟩ = some (.int .i64 ds.a0) := hB3.cell 5
      have d6 : w3.cell? ⟨d, 6, none⟩ = some (.int .i64 ds.a1) := hB3.cell 6
      have d7 : w3.cell? ⟨d, 7, none⟩ = some (.int .i64 ds.a2) := hB3.cell 7
      have d8 : w3.cell? ⟨d, 8, none⟩ = some (.int .i64 ds.a3) := hB3.cell 8
      have y5 := hB3.free 5
      have y6 := hB3.free 6
      have y7 := hB3.free 7
      have y8 := hB3.free 8
      have hO4 := (((((H2.out.2.trans hO3)).setCell (p := ⟨d, 5, none⟩) (.inl (.inl rfl)) (.int .i64 a0)).setCell (p := ⟨d, 6, none⟩) (.inl (.inl rfl)) (.int .i64 a1)).setCell (p := ⟨d, 7, none⟩) (.inl (.inl rfl)) (.int .i64 a2)).setCell (p := ⟨d, 8, none⟩) (.inl (.inl rfl)) (.int .i64 a3)
      have HM3 := Lib.hid (HM.out w3 _ a0 a1 a2 a3 hR3 rfl hO4)
      clear hB3 hO3 hR3 hO4 KS HM
      go_wp2_with fail
      go_meet
      exact HM3.out
  case rest =>
  generalize wc = w5 at *
  obtain ⟨ds, r3, hR5, hO5, hl5, hcase⟩ := hcut
  have KB := Lib.hid (qbad_any hR5.blk)
  have H5 := Lib.hid (And.intro hR5 (And.intro hO5 hl5))
  clear hR5 hO5 hl5
  rcases hcase with ⟨hsf, hnone⟩ | ⟨hst, hen, lc, lp, pb, hab3, h4, hpb, hbody, hkeep⟩
  · replace KB := KB.out
    rw [hsf] at KB
    have KB := Lib.hid KB
    have HF := Lib.hid (And.intro hsf hnone)
    clear hsf hnone
    go_wp2_with fail
    refine KB.out.mono ?_
    rintro e w6 ⟨rfl, rfl⟩
    clear KB
    go_wp2_with fail
    first | go_end0 | refine bodyPost_ret (results_none rfl _ _ _) rfl ?_
    obtain ⟨hx, h, hs1, hs2, hs3, hset, hq, hr, hc, ho⟩ := HH.out
    exact beg_bad hx h hr hc HF.out.2 H5.out.1 H5.out.2.1 HF.out.1 H5.out.2.2
  · replace KB := KB.out
    rw [hst] at KB
    have KB := Lib.hid KB
    obtain ⟨hx, h, hs1, hs2, hs3, hset, hq, hr, hc, ho⟩ := HH.out
    have hi5 : Idl K0 d f lo all w5 Gw ds r3 q.z q.ps := h.read hx H5.out.1 H5.out.2.1
    have hx5 : Q2x K0 d f lo w5 Gw (fun _ => False) := hx.turn (fun i hi => .inl hi) (fun i hi => hi.elim) H5.out.2.1 (df0 hx)
    have KN := zrenew_any hx5 hi5 (how := how) (fun _ => hab3) h4 hpb (Nat.le_of_lt_succ HN.out.2.1)
    rw [← HN.out.2.2.2] at KN
    have KN := Lib.hid KN
    have HBR := Lib.hid (brought_near (n := 0) hq.near h4 hpb hq.ps hq.bad hq.ended hkeep)
    have HF := Lib.hid (And.intro hst (And.intro hen (And.intro hab3 (And.intro h4 hbody))))
    have HCK := Lib.hid (show chunkN q = bodyC q how nn n2 (lc, lp, pb) r3 from (chunk_packed hr hc).trans hbody)
    have HNE := Lib.hid (head_ne hr (by omega))
    have HD := Lib.hid hq.dict
    have HL5 := Lib.hid (show Only (own2 K0 d f Gw ex) w w5 from H5.out.2.1.mono (own_df K0 d f Gw ex))
    clear hx h hs1 hs2 hs3 hset hq hr hc ho hi5 hx5 hst hen hab3 h4 hpb hbody hkeep
    go_wp2_with fail
    refine KB.out.mono ?_
    rintro e w6 ⟨rfl, rfl⟩
    clear KB
    go_wp2_with fail
    refine KN.out.mono ?_
    rintro e w7 ⟨rfl, G1, hi7, hx7, hg7, ho7⟩
    obtain ⟨z1, hz1⟩ : ∃ z1, z1 = q.z.brought how (lc, lp, pb) := ⟨_, rfl⟩
    obtain ⟨ps1, hps1⟩ : ∃ ps1, ps1 = psN q.ps how (lc, lp, pb) := ⟨_, rfl⟩
    rw [← hz1, ← hps1] at hi7 HBR
    have HZ1 := Lib.hid (And.intro hz1 hps1)
    have c2 : w7.cell? ⟨d, 2, none⟩ = some (.iface 52 (.pointer (some ⟨f, 0, none⟩))) := by
      have := hi7.rd.blk.cell 2
      exact this.trans (by show some (srcV f ds.src) = _; rw [HF.out.1]; rfl)
    have c9 : w7.cell? ⟨d, 9, none⟩ = some (.int .i64 (ds.left : Int)) := hi7.rd.blk.cell 9
    have y9 := hi7.rd.blk.free 9
    have c10 : w7.cell? ⟨d, 10, none⟩ = some (pkV ds.pk) := hi7.rd.blk.cell 10
    have y10 := hi7.rd.blk.free 10
    have a3 : wrap64 ((ab2 : Int) + (n1 : Int)) = (nn : Int) := beg_a3 HNN.out.1 HAB.out.2 HC1.out.2.2
    have H7 := Lib.hid (And.intro hi7 (And.intro hx7 (And.intro hg7 ho7)))
    clear hi7 hx7 hg7 ho7 KN hz1 hps1
    have hbA : Blk (w7.alloc (.cells #[.iface 52 (.pointer (some ⟨f, 0, none⟩)), .int .i64 (n2 : Int)] 178)) d 105 (d2Cells K0.g f { ds with nd := 0 }) := H7.out.1.rd.blk.below ((Below.refl _ _).alloc (Nat.le_refl _) _)
    have A9 : (w7.alloc (.cells #[.iface 52 (.pointer (some ⟨f, 0, none⟩)), .int .i64 (n2 : Int)] 178)).cell? ⟨d, 9, none⟩ = some (.int .i64 (ds.left : Int)) := hbA.cell 9
    have B9 := hbA.free 9
    have A10 : (w7.alloc (.cells #[.iface 52 (.pointer (some ⟨f, 0, none⟩)), .int .i64 (n2 : Int)] 178)).cell? ⟨d, 10, none⟩ = some (pkV ds.pk) := hbA.cell 10
    have B10 := hbA.free 10
    clear hbA
    go_upto_region 11 with fail
    obtain ⟨hi7, hx7, hg7, ho7⟩ := H7.out
    obtain ⟨p, hp⟩ : ∃ p, p = w7.heap.size := ⟨_, rfl⟩
    have hf7 : f < p := by rw [hp]; exact hx7.fs
    have hd7 : d < p := by rw [hp]; exact hi7.rd.blk.lt
    have hal : Below w7.heap.size w7 (w7.alloc (.cells #[.iface 52 (.pointer (some ⟨f, 0, none⟩)), .int .i64 (n2 : Int)] 178)) := (Below.refl _ _).alloc (Nat.le_refl _) _
    have hpB : Blk (w7.alloc (.cells #[.iface 52 (.pointer (some ⟨f, 0, none⟩)), .int .i64 (n2 : Int)] 178)) p 178 #[.iface 52 (.pointer (some ⟨f, 0, none⟩)), .int .i64 (n2 : Int)] := by rw [hp]; exact Blk.fresh w7 _ _
    have hiA := hi7.quiet hal
    have hxA : Q2x K0 d f lo _ G1 (fun _ => False) := hx7.only (Only.of_below (S := fun _ => False) hal) (fun e => e)
    have hsz : p < (w7.alloc (.cells #[.iface 52 (.pointer (some ⟨f, 0, none⟩)), .int .i64 (n2 : Int)] 178)).heap.size := hpB.lt
    rw [← hp]
    have HP := Lib.hid (And.intro hf7 (And.intro hd7 hp))
    have HG7 := Lib.hid (And.intro hg7 (ho7.trans ((Only.of_below (S := own2 K0 d f Gw (fun _ => False)) hal))))
    have HGP := Lib.hid (show ∀ i, G1 i → i ≠ p from fun i hi e => by
      obtain ⟨K, v4, v5, v16, v17, v18, hk, hrr⟩ := hi7.rs
      have := hrr.win.old hi
      omega)
    clear hal hi7 hx7 hg7 ho7 c2 c9 y9 c10 y10 hf7 hd7 hp a3 A9 B9 A10 B10
    generalize w7.alloc (.cells #[.iface 52 (.pointer (some ⟨f, 0, none⟩)), .int .i64 (n2 : Int)] 178) = wA at *
    have hO9 := (((Only.refl (fun i => i = d ∨ i = f) wA).setCell (p := ⟨d, 9, none⟩) (.inl (.inl rfl)) (.int .i64 (nn : Int))).setCell (p := ⟨d, 10, none⟩) (.inl (.inl rfl)) (.pointer (some ⟨p, 0, none⟩)))
    have hi9 : Idl K0 d f lo all _ G1 { ds with nd := 0, left := nn, pk := some p } r3 z1 ps1 := hiA.read hxA ((hiA.rd.put (q' := ⟨{ ds with nd := 0, left := nn }, r3, []⟩) 9 (.int .i64 (nn : Int)) rfl rfl rfl).put (q' := ⟨{ ds with nd := 0, left := nn, pk := some p }, r3, []⟩) 10 (.pointer (some ⟨p, 0, none⟩)) rfl rfl rfl) hO9
    have hx9 : Q2x K0 d f lo _ G1 (fun _ => False) := hxA.only hO9 (df0 hxA)
    have hp9 : Blk ((wA.setCell ⟨d, 9, none⟩ (.int .i64 (nn : Int))).setCell ⟨d, 10, none⟩ (.pointer (some ⟨p, 0, none⟩))) p 178 #[.iface 52 (.pointer (some ⟨f, 0, none⟩)), .int .i64 (n2 : Int)] := hpB.only hO9 (by have := HP.out; omega)
    have hs9 : p < ((wA.setCell ⟨d, 9, none⟩ (.int .i64 (nn : Int))).setCell ⟨d, 10, none⟩ (.pointer (some ⟨p, 0, none⟩))).heap.size := hp9.lt
    have HOW := Lib.hid (show Only (own2 K0 d f Gw (fun _ => False)) w5 _ from HG7.out.2.trans (hO9.mono (own_df K0 d f Gw (fun _ => False))))
    generalize (wA.setCell ⟨d, 9, none⟩ (.int .i64 (nn : Int))).setCell ⟨d, 10, none⟩ (.pointer (some ⟨p, 0, none⟩)) = w9 at *
    obtain ⟨a, hF9, hra⟩ := hi9.rd.feed HF.out.1
    have hal := hF9.le
    have hra : r3 = all.drop a := hra
    have HRA := Lib.hid (And.intro hra hal)
    have hPk : PkAt p f lo all a n2 w9 ((all.drop a).take n2) 0 := ⟨rfl, Nat.zero_le _, ⟨n2, hp9, fun _ => rfl, Nat.le_refl _⟩, hF9, Nat.le_trans HC2.out.2.2 (by decide), ⟨hx9.lf, HP.out.1⟩⟩
    have KG := Lib.hid (fun k => zq_begin (D := D) (l := nn) (hx9.drawn k) (hi9.drawn k) HF.out.1 HF.out.2.1 rfl rfl rfl ⟨by have := HNN.out.1; have := HC1.out.1; unfold Lq.count at this; omega, HNN.out.2⟩
      (by obtain ⟨e1, e2, e3⟩ := HF.out.2.2.1; obtain ⟨g1, g2, g3⟩ := HBR.out.2.2.2.2.2.1; rw [g1, g2, g3]; exact ⟨e1, e2, e3⟩)
      ((pk_ok hx9.lf).only (S := pkSc p f lo all a n2) hPk ((Only.refl (fun _ => False) w9).drewN k) (fun _ e => e.elim)) ⟨HP.out.1, hs9⟩ HGP.out
      HBR.out.1 HBR.out.2.1 HBR.out.2.2.1 HBR.out.2.2.2.1 (HBR.out.2.2.2.2.1.trans HD.out) (by obtain ⟨g1, g2, g3⟩ := HBR.out.2.2.2.2.2.1; rw [g1, g2]; exact HF.out.2.2.2.1))
    have d0 : w9.cell? ⟨d, 0, none⟩ = some (.pointer (some ⟨K0.g, 0, none⟩)) := hi9.rd.blk.cell 0
    have d10 : w9.cell? ⟨d, 10, none⟩ = some (.pointer (some ⟨p, 0, none⟩)) := hi9.rd.blk.cell 10
    clear hi9 hx9 hp9 hs9 hO9 hPk hF9 hra hal hiA hxA hpB hsz
    go_region_held3 (fun W => W.cell? ⟨d, 0, none⟩ = some (.pointer (some ⟨K0.g, 0, none⟩)) ∧ W.cell? ⟨d, 10, none⟩ = some (.pointer (some ⟨p, 0, none⟩))) (first | assumption | go_keep | exact HB8.out) (first | (go_at_call 103; refine (KG.out _).mono ?_; rintro e w8 ⟨hq8, hb8⟩; have he8 := hq8.1; subst he8; have HB8 := Lib.hid (show w8.cell? ⟨d, 0, none⟩ = some (.pointer (some ⟨K0.g, 0, none⟩)) ∧ w8.cell? ⟨d, 10, none⟩ = some (.pointer (some ⟨p, 0, none⟩)) from ⟨hb8.cell 0, hb8.cell 10⟩); have HQ8 := Lib.hid hq8; clear hq8 hb8))
    go_wp2_with fail
    first | go_end0 | refine bodyPost_ret (results_none rfl _ _ _) rfl ?_
    refine ⟨_, Q2Post.trans (fun i hi => ?_) (HL5.out.trans' (HOW.out.drewN _) (fun i hi => ?_)) HQ8.out, fun k => ?_, HBR.out.2.2.2.2.2.2, .inr ⟨_, _, _, _, _, _, rfl⟩⟩
    · have g1 := HL5.out.size
      rcases hi with hi | hi
      · rcases HG7.out.1 i hi with e | e
        · exact .inl (.inl e)
        · exact .inr (by omega)
      · have g2 := H7.out.2.2.2.size
        have g3 := HP.out.2.2
        exact .inr (by omega)
    · rcases hi with e | e | e | e | e | e
      · exact .inl (.inl e)
      · exact .inl (.inr (.inl e))
      · exact .inl (.inr (.inr (.inl e)))
      · exact .inl (.inr (.inr (.inr (.inl e))))
      · exact .inl (.inr (.inr (.inr (.inr (.inl e)))))
      · exact e.elim
    · have h1 : 1 ≤ nn := by have := HNN.out.1; have := HC1.out.1; unfold Lq.count at this; omega
      have h2 := bodyC_pack (k := k) h1 HNE.out HCK.out
      rw [← HZ1.out.1, ← HZ1.out.2, HRA.out.1, List.drop_drop, List.length_drop] at h2
      rw [h2, show decide (n2 ≤ all.length - a) = decide (a + n2 ≤ all.length) from by have := HRA.out.2; congr 1; apply propext; omega]
end
end Go.Proofs.YtoencondpbkomaaGreatDoor
