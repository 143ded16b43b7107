/-
  ZqPby, ZqPb2: put together.
-/
import Derived.Test.YtoencondpbkomaaGreatDoorT29
import Derived.Deep.CutRange
import Derived.Deep.CutBlock
set_option linter.unusedVariables false
set_option linter.unusedSimpArgs false
/-
  The decoder of LZMA2: a packed chunk's next byte.
-/
namespace Go.Proofs.YtoencondpbkomaaGreatDoor
open Go.RowKit
set_option linter.unusedVariables false

section
variable {K0 K : Kon} {d f lo D : Nat} {all r : List UInt8} {w w' w1 : World} {Gw ex : Nat → Prop} {s : Ds} {z : Lzs} {ps : List Nat}
set_option maxRecDepth 100000 in
set_option maxHeartbeats 4000000 in
theorem wholly_any {p lf : Nat} {b : Bool} {v : Value} (hB : Blk w d 105 (d2Cells K0.g f s)) (hpk : s.pk = some p) (hp : Blk w p 178 #[v, .int .i64 (lf : Int)])
    (KW : Calls Tryz.prog 110 #[.pointer (some ⟨K0.g, 0, none⟩)] w fun e w' => e = .returned (.bool b) ∧ w = w') :
    Calls Tryz.prog 79 #[.pointer (some ⟨d, 0, none⟩)] w fun e w' => e = .returned (.bool (decide (lf = 0) && b)) ∧ w = w' := by
  have c0 : w.cell? ⟨d, 0, none⟩ = some (.pointer (some ⟨K0.g, 0, none⟩)) := hB.cell 0
  have c10 : w.cell? ⟨d, 10, none⟩ = some (.pointer (some ⟨p, 0, none⟩)) := by have := hB.cell 10; exact this.trans (by show some (pkV s.pk) = _; rw [hpk]; rfl)
  have cp : w.cell? ⟨p, 1, none⟩ = some (.int .i64 (lf : Int)) := hp.cell 1
  have KW := Lib.hid KW
  clear hB hp hpk
  by_cases h0 : lf = 0
  · subst h0
    rw [decide_eq_true rfl, Bool.true_and]
    change w.cell? ⟨p, 1, none⟩ = some (.int .i64 0) at cp
    go_enter Tryz.func79, Tryz.ntmps79
    go_wp2_with fail
    refine KW.out.mono ?_
    rintro e w1 ⟨rfl, rfl⟩
    go_wp2_with fail
    go_ret
    exact ⟨rfl, rfl⟩
  · rw [decide_eq_false h0, Bool.false_and]
    have hl : ((lf : Int) == 0) = false := by simp; omega
    clear h0 KW
    go_enter Tryz.func79, Tryz.ntmps79
    go_wp2_with fail
    go_ret
    exact ⟨rfl, rfl⟩
/-- what a packed chunk's source is, by what its decoder of ranges has -/
theorem pd_at {p a m g : Nat} {bs : List UInt8} {dc : Dc} (h : Pd w g (pkSc p f lo all a m) bs dc) : ∃ k lf : Nat, PkAt p f lo all a m w bs k ∧ Blk w p 178 #[.iface 52 (.pointer (some ⟨f, 0, none⟩)), .int .i64 (lf : Int)] ∧ (k < bs.length → lf = m - k) ∧ lf ≤ m - k ∧ (∀ r c t, dc = some (r, c, t) → t = bs.drop k) := by
  obtain ⟨at_, r', c', bad, hB, hA, _, _, _, _, h⟩ := h
  have hA : PkAt p f lo all a m w bs at_ := hA
  obtain ⟨lf, hb, h1, h2⟩ := hA.blk
  refine ⟨at_, lf, hA, hb, h1, h2, fun r c t e => ?_⟩
  rcases h with ⟨_, h⟩ | ⟨_, h⟩
  · rw [h] at e
    cases e
  · rw [h] at e
    injection e with e
    injection e with _ e
    injection e with _ e
    exact e.symm
/-- packed bytes: which are there, where they end -/
theorem pk_ends {p a m k lf : Nat} {bs : List UInt8} (h : PkAt p f lo all a m w bs k) (h1 : k < bs.length → lf = m - k) (h2 : lf ≤ m - k) (h0 : lf = 0) : k = bs.length ∧ all.drop (a + k) = all.drop (a + m) := by
  have hl : bs.length = min m (all.length - a) := by rw [h.bytes, List.length_take, List.length_drop]
  have hle := h.le
  have hk : k = bs.length := by
    rcases Nat.lt_or_ge k bs.length with hlt | hge
    · have := h1 hlt
      omega
    · omega
  refine ⟨hk, ?_⟩
  by_cases hf : a + m ≤ all.length
  · rw [show a + k = a + m by omega]
  · have hfe := h.feed.le
    rw [List.drop_eq_nil_of_le (by omega), List.drop_eq_nil_of_le (by omega)]
/-- the whole of a packed chunk: all told, all read, the code 0 -/
theorem whole_yes {p a m k lf g n : Nat} {bs : List UInt8} {zf : Lzs} {tf : Pm Dc} (h : PkAt p f lo all a m w bs k) (h1 : k < bs.length → lf = m - k) (h2 : lf ≤ m - k) (ht : ∀ r c t, tf.x = some (r, c, t) → t = bs.drop k)
    (hw : (decide (lf = 0) && (decide (n = zf.out.length) && doneX tf.x)) = true) : lf = 0 ∧ n = zf.out.length ∧ leftD tf.x = true := by
  simp only [Bool.and_eq_true, decide_eq_true_eq] at hw
  obtain ⟨h0, hn, hd⟩ := hw
  refine ⟨h0, hn, ?_⟩
  obtain ⟨hk, _⟩ := pk_ends h h1 h2 h0
  cases hx : tf.x with
  | none => rw [hx] at hd; cases hd
  | some x =>
    obtain ⟨rr, c, t⟩ := x
    rw [hx] at hd
    have e := ht rr c t hx
    have hc : decide (c = 0) = true := hd
    show (decide (c = 0) && decide (t = [])) = true
    rw [hc, Bool.true_and, e, hk, List.drop_length]
    exact decide_eq_true rfl
theorem whole_no {p a m k lf g n : Nat} {bs : List UInt8} {zf : Lzs} {tf : Pm Dc} (h : PkAt p f lo all a m w bs k) (hfull : a + m ≤ all.length) (h2 : lf ≤ m - k) (ht : ∀ r c t, tf.x = some (r, c, t) → t = bs.drop k)
    (hw : (decide (lf = 0) && (decide (n = zf.out.length) && doneX tf.x)) = false) : ¬ (leftD tf.x = true ∧ zf.out.length = n) := by
  rintro ⟨hl, hn⟩
  cases hx : tf.x with
  | none => rw [hx] at hl; cases hl
  | some x =>
    obtain ⟨rr, c, t⟩ := x
    have e := ht rr c t hx
    rw [hx] at hl hw
    have hl : (decide (c = 0) && decide (t = [])) = true := hl
    simp only [Bool.and_eq_true, decide_eq_true_eq] at hl
    have hbl : bs.length = min m (all.length - a) := by rw [h.bytes, List.length_take, List.length_drop]
    have hk : bs.length ≤ k := by
      have := congrArg List.length e
      rw [hl.2, List.length_drop] at this
      simp at this
      omega
    have h0 : lf = 0 := by have := h.le; omega
    have hd : doneX (some (rr, c, t)) = true := decide_eq_true hl.1
    rw [hd, h0, hn] at hw
    simp at hw
/-- its blocks, whatever it told -/
def Rests (K0 : Kon) (w : World) (Gw : Nat → Prop) : Prop := ∃ K z ps v4 v5 v16 v17 v18, Ks K0 K ∧ Lrest K w Gw z ps v4 v5 v16 v17 v18
end
end Go.Proofs.YtoencondpbkomaaGreatDoor

/-
  The decoder of LZMA2: packedByte, walked.
-/
namespace Go.Proofs.YtoencondpbkomaaGreatDoor
open Go.RowKit
set_option linter.unusedVariables false

section
variable {K0 K : Kon} {d f lo D : Nat} {all r : List UInt8} {w w' w1 : World} {Gw ex S : Nat → Prop} {s : Ds} {z zf : Lzs} {tf : Pm Dc} {n : Nat}
theorem Nx.apart (h : Nx K w Gw zf tf n) (hO : Only S w w') (h1 : ∀ i, S i → ¬ K.S.hold i ∧ i ≠ K.dg ∧ i ≠ K.g ∧ i ≠ K.lb) (h2 : ∀ i, Gw i → ¬ S i) : Nx K w' Gw zf tf n :=
  ⟨⟨⟨h.lw.mch.sc, h.lw.mch.pd.only h.lw.mch.sc hO (fun i hi => ⟨(h1 i hi).1, (h1 i hi).2.1⟩), (K.prb _ h.lw.ap.gn).only h.lw.mch.row hO (fun i hi hs => by rcases hi with rfl | rfl; exact (h1 _ hs).2.2.1 rfl; exact (h1 _ hs).2.2.2 rfl), h.lw.mch.ok⟩,
    h.lw.win.only hO h2, h.lw.ap⟩, h.le, h.far, h.near, h.live, h.bad, h.ended, h.tell⟩
theorem all_own2 {p a m : Nat} (hk : Ks K0 K) (hS : K.S = pkSc p f lo all a m) (hp : ex p) (hd : ex K.dg) : ∀ i, K.all Gw i → own2 K0 d f Gw ex i := by
  rintro i ((hi | rfl | hi) | hi)
  · rw [hS] at hi
    rcases hi with rfl | rfl
    · exact .inr (.inr (.inr (.inr (.inr hp))))
    · exact .inr (.inl rfl)
  · exact .inr (.inr (.inr (.inr (.inr hd))))
  · rcases hi with rfl | rfl
    · exact .inr (.inr (.inl hk.g))
    · exact .inr (.inr (.inr (.inl hk.lb)))
  · exact .inr (.inr (.inr (.inr (.inl hi))))
theorem d_not_all {p a m : Nat} (hx : Q2x K0 d f lo w Gw ex) (hk : Ks K0 K) (hS : K.S = pkSc p f lo all a m) (hp : ex p) (hd : ex K.dg) : ¬ K.all Gw d := by
  have h3 := hx.dl
  have h4 := hx.lf
  have h5 := hx.ex p hp
  have h6 := hx.ex _ hd
  rintro ((hi | hi | hi) | hi)
  · rw [hS] at hi
    rcases hi with e | e <;> omega
  · omega
  · rcases hi with e | e
    · exact hx.dg.1 (e.trans hk.g)
    · exact hx.dg.2.1 (e.trans hk.lb)
  · exact (hx.wd d hi).2.1 rfl
/-- a store into its own field leaves the rest alone -/
theorem d_apart {p a m : Nat} (hx : Q2x K0 d f lo w Gw ex) (hk : Ks K0 K) (hS : K.S = pkSc p f lo all a m) (hp : ex p) (hd : ex K.dg) : ∀ i, i = d → ¬ K.S.hold i ∧ i ≠ K.dg ∧ i ≠ K.g ∧ i ≠ K.lb := by
  have h3 := hx.dl
  have h4 := hx.lf
  have h5 := hx.ex p hp
  have h6 := hx.ex _ hd
  rintro i rfl
  refine ⟨fun hi => ?_, by omega, fun e => hx.dg.1 (e.trans hk.g), fun e => hx.dg.2.1 (e.trans hk.lb)⟩
  rw [hS] at hi
  rcases hi with e | e <;> omega
theorem nx_rests (h : Nx K w Gw zf tf n) (hk : Ks K0 K) : Rests K0 w Gw := ⟨K, _, _, _, _, _, _, _, hk, h.lw.rest⟩
theorem lw_rests {t : Pm Dc} {l : Nat} (h : Lw K w Gw z t l) (hk : Ks K0 K) : Rests K0 w Gw := ⟨K, _, _, _, _, _, _, _, hk, h.rest⟩
theorem Rests.only (h : Rests K0 w Gw) (hO : Only S w w') (h1 : ¬ S K0.g) (h2 : ¬ S K0.lb) (h3 : ∀ i, Gw i → ¬ S i) : Rests K0 w' Gw := by
  obtain ⟨K, z, ps, v4, v5, v16, v17, v18, hk, hr⟩ := h
  exact ⟨K, z, ps, v4, v5, v16, v17, v18, hk, hr.only hO (by rw [hk.g]; exact h1) (by rw [hk.lb]; exact h2) h3⟩
theorem fail_rdr (hx : Q2x K0 d f lo w Gw ex) (hB : Blk w' d 105 (d2Cells K0.g f s.fail)) (hn : s.nd < 256) : ∃ r, Rdr w' d K0.g f lo all ⟨s.fail, r, []⟩ :=
  ⟨[], hB, fun h => (by cases h), hx.dl.2, hx.lf, hn⟩

theorem case_onw {zf' : Lzs} {tf' : Pm Dc} (h : (n < zf.out.length ∧ zf' = zf ∧ tf' = tf) ∨ (n = zf.out.length ∧ ¬ stopP (packP decM zf tf pk0) ∧ zf' = (packP decM zf tf pk0).2.1 ∧ tf' = (packP decM zf tf pk0).2.2)) : zf'.lc = zf.lc ∧ zf'.lp = zf.lp ∧ zf'.pb = zf.pb := by
  rcases h with ⟨_, rfl, _⟩ | ⟨_, _, rfl, _⟩
  · exact ⟨rfl, rfl, rfl⟩
  · have := packP_onw decM zf tf pk0
    exact ⟨this.lc, this.lp, this.pb⟩
/-- a packed chunk is told whole -/
theorem pack_rest {p a m k : Nat} (hx : Q2x K0 d f lo w Gw ex) (hk : Ks K0 K) (hB : Blk w d 105 (d2Cells K0.g f s)) (hs : s.src = true ∧ s.ended = false ∧ s.nd = 0 ∧ s.left = 0 ∧ (s.a0 = (zf.lc : Int) ∧ s.a1 = (zf.lp : Int) ∧ s.a2 = (zf.pb : Int)))
    (hP : PkAt p f lo all a m w K.bs k) (he : all.drop (a + k) = r) (hN : Nx K w Gw zf tf n) (hn : n = zf.out.length) (hD : zf.dict = D) (h4 : zf.lc + zf.lp ≤ 4) : Q2 K0 d f lo all D w Gw (fun _ => False) (.rest ⟨0, zf, tf.ps, r⟩) := by
  have hr := hN.lw.rest
  rw [hn, cut_all] at hr
  refine ⟨s, ⟨⟨hB, fun _ => ⟨a + k, hP.feed, he.symm⟩, hx.dl.2, hx.lf, by show s.nd < 256; rw [hs.2.2.1]; decide⟩, K, _, _, _, _, _, hk, hr⟩, hs.1, hs.2.1, hs.2.2.2.1, ⟨hs.2.2.1, fun _ => hs.2.2.2.2⟩, ⟨.inl rfl, ?_, hN.lw.mch.ok.ps, hN.bad, hN.ended, hD, h4⟩⟩
  rw [hN.lw.mch.ok.len]
  exact hN.near
theorem no_more {m a k : Nat} (h : ¬ a + m ≤ all.length) (hr : r = all.drop (a + m)) (q : Rs) (hq : q.r = r) : (St2.rest q).tells k = none := tells_dry (by rw [hq, hr]; exact List.drop_eq_nil_of_le (by omega)) k

set_option maxRecDepth 100000 in
set_option maxHeartbeats 16000000 in
theorem zpby_any {l : Nat} {full : Bool} (hx : Q2x K0 d f lo w Gw ex) (h : Q2 K0 d f lo all D w Gw ex (.pack zf tf n l full r)) (hn : n ≤ 700000) (hfit : 1 ≤ K0.sz ∧ (D = K0.sz ∨ (n ≤ K0.sz ∧ K0.sz ≤ D))) :
    Calls Tryz.prog 44 #[.pointer (some ⟨d, 0, none⟩)] w (NPost K0 d f lo all D w Gw ex (.pack zf tf n l full r)) := by
  obtain ⟨K, s, p, a, m, hk, hB, hs1, hs2, hs3, hs4, hs5, hl1, hl2, ha, hS, hbs, hfull, hr, hN, hD, h4, hep, hed, hfp⟩ := h
  have KN := lnext_any hN (by omega) (by
    unfold Fit
    rw [hk.sz]
    refine ⟨hfit.1, hx.sz, ?_⟩
    rcases hfit.2 with e | e
    · exact .inl (hD.trans e)
    · refine .inr ⟨?_, by show K0.sz ≤ zf.dict; omega⟩
      show (zf.out.take n).length ≤ _
      rw [List.length_take]
      omega)
  rw [hk.g] at KN
  have KN := Lib.hid KN
  have c0 : w.cell? ⟨d, 0, none⟩ = some (.pointer (some ⟨K0.g, 0, none⟩)) := hB.cell 0
  have HX := Lib.hid hx
  have HK := Lib.hid (And.intro hk (And.intro hS (And.intro hep (And.intro hed (And.intro hfp hbs)))))
  have HS := Lib.hid (And.intro hs1 (And.intro hs2 (And.intro hs3 (And.intro hs4 (And.intro hs5 ha)))))
  have HB := Lib.hid hB
  have HL := Lib.hid (And.intro hl1 hl2)
  have HF := Lib.hid (And.intro hfull hr)
  have HD := Lib.hid (And.intro hD h4)
  have HNN := Lib.hid (And.intro hn (show zf.out.length ≤ n + 273 from hN.far))
  clear hx hk hB hs1 hs2 hs3 hs4 hs5 hl1 hl2 ha hS hbs hfull hr hN hD h4 hep hed hfp hn hfit
  go_enter Tryz.func44, Tryz.ntmps44
  go_wp2_with fail
  refine KN.out.mono ?_
  clear KN c0
  rintro e w1 (⟨zf', tf', G1, rfl, hN1, hD1, htk, hcase, hG1, hO1⟩ | ⟨rfl, hne, hst, z1, t1, l1, G1, hLw, hG1, hO1⟩)
  · obtain ⟨hk, hS, hep, hed, hfp, hbs⟩ := HK.out
    have hB1 := HB.out.only hO1 (d_not_all HX.out hk hS hep hed)
    have hO1' : Only (own2 K0 d f Gw ex) w w1 := hO1.mono (all_own2 hk hS hep hed)
    have hx1 : Q2x K0 d f lo w1 G1 ex := HX.out.turn hG1 (fun i hi => ⟨(HX.out.ex i hi).1, Nat.lt_of_lt_of_le (HX.out.ex i hi).2 hO1.size⟩) hO1' HX.out.own0
    have hl9 : s.left = l := HS.out.2.2.2.1
    have c9 : w1.cell? ⟨d, 9, none⟩ = some (.int .i64 (l : Int)) := by have := hB1.cell 9; exact this.trans (by rw [← hl9]; rfl)
    have z9 := hB1.free 9
    have b1 : IntKind.i64.wrap ((l : Int) - 1) = ((l - 1 : Nat) : Int) := byte_i64 HL.out.1 HL.out.2
    have hB2 := hB1.put 9 (.int .i64 ((l - 1 : Nat) : Int))
    have hO2 := (Only.refl (fun i => i = d) w1).setCell (p := ⟨d, 9, none⟩) (.inl rfl) (.int .i64 ((l - 1 : Nat) : Int))
    have hN2 := hN1.apart hO2 (d_apart hx1 hk hS hep hed) (fun i hi e => (hx1.wd i hi).2.1 e)
    have hx2 : Q2x K0 d f lo _ G1 ex := hx1.only hO2 (by have := hx1.dl; show ¬ 0 = d; omega)
    have hB2 : Blk _ d 105 (d2Cells K0.g f { s with left := l - 1 }) := hB2
    have H2 := Lib.hid (And.intro hB2 (And.intro hN2 (And.intro hx2 (And.intro hG1 (hO1'.trans (hO2.mono (fun i hi => .inl hi)))))))
    have HT := Lib.hid (And.intro hD1 (And.intro htk hcase))
    have HNT := Lib.hid (show n < zf'.out.length from hN1.le)
    generalize hm : l - 1 = ml at *
    have HM := Lib.hid hm
    obtain ⟨xb, hxb⟩ : ∃ xb, xb = zf'.out.getD n 0 := ⟨_, rfl⟩
    have HXB := Lib.hid hxb
    rw [← hxb]
    clear hk hS hep hed hfp hbs hB1 hO1' hx1 hl9 hB2 hO2 hN2 hx2 hm hN1 hD1 htk hcase hG1 hO1 hxb
    by_cases hl0 : ml = 0
    · obtain rfl : ml = 0 := hl0
      obtain ⟨hB2, hN2, hx2, hG2, hO2⟩ := H2.out
      obtain ⟨hk, hS, hep, hed, hfp, hbs⟩ := HK.out
      have hpd := hN2.lw.mch.pd
      rw [hS] at hpd
      obtain ⟨k, lf, hP, hpB, hk1, hk2, htx⟩ := pd_at hpd
      have KW := zwhole_any hN2 (by have := HNN.out; omega)
      rw [hk.g] at KW
      have KY := wholly_any hB2 HS.out.2.2.2.2.1 hpB KW
      obtain ⟨bw, hbw⟩ : ∃ bw, bw = (decide (lf = 0) && (decide (n + 1 = zf'.out.length) && doneX tf'.x)) := ⟨_, rfl⟩
      rw [← hbw] at KY
      have KY := Lib.hid KY
      have HP := Lib.hid (And.intro hP (And.intro hk1 (And.intro hk2 (And.intro htx hbw))))
      have c9 : (w1.setCell ⟨d, 9, none⟩ (.int .i64 ((0 : Nat) : Int))).cell? ⟨d, 9, none⟩ = some (.int .i64 0) := hB2.cell 9
      have KF := Lib.hid (qfail_any hB2)
      have H2 := Lib.hid (And.intro hB2 (And.intro hN2 (And.intro hx2 (And.intro hG2 hO2))))
      clear hB2 hN2 hx2 hG2 hO2 hk hS hep hed hfp hbs hpd hP hpB hk1 hk2 htx KW hbw
      rw [show ((0 : Nat) : Int) = 0 from rfl] at H2 HP KY KF c9 b1
      go_wp2_with fail
      refine KY.out.mono ?_
      rintro e w2 ⟨rfl, rfl⟩
      clear KY c9 z9
      cases bw with
      | true =>
        clear KF
        go_wp2_with fail
        go_ret2
        obtain ⟨hB2, hN2, hx2, hG2, hO2⟩ := H2.out
        obtain ⟨hD1, htk, hcase⟩ := HT.out
        obtain ⟨hk, hS, hep, hed, hfp, hbs⟩ := HK.out
        obtain ⟨hs1, hs2, hs3, hs4, hs5, ha⟩ := HS.out
        obtain ⟨hP, hk1, hk2, htx, hbw⟩ := HP.out
        obtain ⟨y1, y2, y3⟩ := case_onw hcase
        obtain ⟨u1, u2, u3⟩ := whole_yes (g := 0) hP hk1 hk2 htx hbw.symm
        obtain ⟨u4, u5⟩ := pk_ends hP hk1 hk2 u1
        have hl1 : l = 0 + 1 := by have := HM.out; have := HL.out; omega
        refine ⟨.rest ⟨0, zf', tf'.ps, r⟩, _, ⟨rfl, G1, fun _ => False, pack_rest hx2 hk hB2 ⟨hs1, hs2, hs3, rfl, by rw [y1, y2, y3]; exact ha⟩ hP (u5.trans HF.out.2.symm) hN2 u2 (hD1.trans HD.out.1) (by rw [y1, y2]; exact HD.out.2), hx2.turn (fun i hi => .inl hi) (fun i hi => hi.elim) (Only.refl (fun _ => False) _) (fun e => e), fun i hi => (hi.elim (fun e => (hG2 i e).imp .inl id) (fun e => e.elim)), hO2⟩, .inl ⟨xb, rfl, fun kk => ?_, ?_⟩⟩
        · rw [hl1, pack_step hcase HNT.out kk, HXB.out]
          congr 1
          rw [HF.out.1]
          by_cases hfu : a + m ≤ all.length
          · rw [decide_eq_true hfu]
            exact pack_done ⟨u3, u2.symm⟩
          · rw [decide_eq_false hfu, no_more hfu HF.out.2 _ rfl]
            rfl
        · show zf'.out.length ≤ n + 1
          omega
      | false =>
        go_wp2_with fail
        refine KF.out.mono ?_
        rintro e w3 ⟨rfl, hB3, hO3⟩
        have H3 := Lib.hid (And.intro hB3 hO3)
        clear hB3 hO3 KF
        go_wp2_with fail
        go_ret2
        obtain ⟨hB2, hN2, hx2, hG2, hO2⟩ := H2.out
        obtain ⟨hD1, htk, hcase⟩ := HT.out
        obtain ⟨hk, hS, hep, hed, hfp, hbs⟩ := HK.out
        obtain ⟨hs1, hs2, hs3, hs4, hs5, ha⟩ := HS.out
        obtain ⟨hP, hk1, hk2, htx, hbw⟩ := HP.out
        have hl1 : l = 0 + 1 := by have := HM.out; have := HL.out; omega
        obtain ⟨r3, hR3⟩ := fail_rdr (lo := lo) (all := all) hx2 H3.out.1 (show s.nd < 256 by rw [hs3]; decide)
        obtain ⟨K3, z3, ps3, v4, v5, v16, v17, v18, hk3, hr3⟩ := (nx_rests hN2 hk).only H3.out.2 (fun e => hx2.dg.1 e.symm) (fun e => hx2.dg.2.1 e.symm) (fun i hi e => (hx2.wd i hi).2.1 e)
        refine ⟨.bad, _, ⟨rfl, G1, fun _ => False, ⟨_, r3, z3, ps3, ⟨hR3, K3, v4, v5, v16, v17, v18, hk3, hr3⟩, rfl, rfl⟩, hx2.turn (fun i hi => .inl hi) (fun i hi => hi.elim) H3.out.2 (by have := hx2.dl; show ¬ 0 = d; omega), fun i hi => (hi.elim (fun e => (hG2 i e).imp .inl id) (fun e => e.elim)), hO2.trans (H3.out.2.mono (fun i hi => .inl hi))⟩, .inl ⟨xb, rfl, fun kk => ?_, Nat.zero_le _⟩⟩
        rw [hl1, pack_step hcase HNT.out kk, HXB.out]
        congr 1
        rw [HF.out.1]
        by_cases hfu : a + m ≤ all.length
        · rw [decide_eq_true hfu]
          exact pack_undone (whole_no (g := 0) hP hfu hk2 htx hbw.symm |> fun h e => h ⟨e.1, e.2⟩) HNT.out
        · rw [decide_eq_false hfu]
          rfl
    · have hl0' : ((ml : Int) == 0) = false := by simp; omega
      have HL0 := Lib.hid hl0
      clear hl0
      go_wp2_with fail
      go_ret2
      obtain ⟨hB2, hN2, hx2, hG2, hO2⟩ := H2.out
      obtain ⟨hD1, htk, hcase⟩ := HT.out
      obtain ⟨hk, hS, hep, hed, hfp, hbs⟩ := HK.out
      obtain ⟨hs1, hs2, hs3, hs4, hs5, ha⟩ := HS.out
      obtain ⟨y1, y2, y3⟩ := case_onw hcase
      have hl1 : l = ml + 1 := by have := HM.out; have := HL.out; omega
      refine ⟨.pack zf' tf' (n + 1) ml full r, _, ⟨rfl, G1, ex, ⟨K, { s with left := ml }, p, a, m, hk, hB2, hs1, hs2, hs3, rfl, hs5, by have := HL0.out; omega, by have := HL.out; omega, by rw [y1, y2, y3]; exact ha, hS, hbs, HF.out.1, HF.out.2, hN2, hD1.trans HD.out.1, by rw [y1, y2]; exact HD.out.2, hep, hed, hfp⟩, hx2, fun i hi => (hi.elim (fun e => (hG2 i e).imp .inl id) (fun e => .inl (.inr e))), hO2⟩, .inl ⟨xb, rfl, fun kk => ?_, Nat.le_refl _⟩⟩
      rw [hl1, HXB.out]
      exact pack_step hcase HNT.out kk
  · obtain ⟨hk, hS, hep, hed, hfp, hbs⟩ := HK.out
    have hB1 := HB.out.only hO1 (d_not_all HX.out hk hS hep hed)
    have hO1' : Only (own2 K0 d f Gw ex) w w1 := hO1.mono (all_own2 hk hS hep hed)
    have hx1 : Q2x K0 d f lo w1 G1 ex := HX.out.turn hG1 (fun i hi => ⟨(HX.out.ex i hi).1, Nat.lt_of_lt_of_le (HX.out.ex i hi).2 hO1.size⟩) hO1' HX.out.own0
    have KF := Lib.hid (qfail_any hB1)
    have H1 := Lib.hid (And.intro hx1 (And.intro (lw_rests hLw hk) (And.intro hG1 hO1')))
    have HT := Lib.hid (And.intro hne hst)
    clear hk hS hep hed hfp hbs hB1 hO1' hx1 hLw hG1 hO1 hne hst
    go_wp2_with fail
    refine KF.out.mono ?_
    rintro e w3 ⟨rfl, hB3, hO3⟩
    have H3 := Lib.hid (And.intro hB3 hO3)
    clear hB3 hO3 KF
    go_wp2_with fail
    go_ret2
    obtain ⟨hx2, hre, hG2, hO2⟩ := H1.out
    obtain ⟨hs1, hs2, hs3, hs4, hs5, ha⟩ := HS.out
    have hl1 : l = (l - 1) + 1 := by have := HL.out; omega
    obtain ⟨r3, hR3⟩ := fail_rdr (lo := lo) (all := all) hx2 H3.out.1 (show s.nd < 256 by rw [hs3]; decide)
    obtain ⟨K3, z3, ps3, v4, v5, v16, v17, v18, hk3, hr3⟩ := hre.only H3.out.2 (fun e => hx2.dg.1 e.symm) (fun e => hx2.dg.2.1 e.symm) (fun i hi e => (hx2.wd i hi).2.1 e)
    refine ⟨.bad, _, ⟨rfl, G1, fun _ => False, ⟨_, r3, z3, ps3, ⟨hR3, K3, v4, v5, v16, v17, v18, hk3, hr3⟩, rfl, rfl⟩, hx2.turn (fun i hi => .inl hi) (fun i hi => hi.elim) H3.out.2 (by have := hx2.dl; show ¬ 0 = d; omega), fun i hi => (hi.elim (fun e => (hG2 i e).imp .inl id) (fun e => e.elim)), hO2.trans (H3.out.2.mono (fun i hi => .inl hi))⟩, .inr ⟨rfl, fun kk => ?_, (pack_zero HL.out.1).symm⟩⟩
    rw [hl1]
    exact pack_halt HT.out.1 HT.out.2
end
end Go.Proofs.YtoencondpbkomaaGreatDoor
