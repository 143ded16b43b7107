/-
  LwNxt, LwBegin, LwClose: put together.
-/
import Derived.Test.YtjgdjobhhdhfjaaSa23
import Derived.Test.YtjgdjobhhdhfjaaSa16
import Derived.Lib.SliceRun
import Derived.Defers
import Derived.BigQuiet
set_option linter.unusedVariables false
set_option linter.unusedSimpArgs false
/-
  The program's decoder of LZMA: the next byte, walked.
-/
namespace Go.Proofs.Ytjgdjobhhdhfjaa
open Go.RowKit

section
variable {K : Kon} {w w' : World} {Gw Gw' : Nat → Prop} {zf : Lzs} {tf : Pm Dc} {n : Nat}

set_option maxRecDepth 100000 in
set_option maxHeartbeats 8000000 in
theorem lnext_any (h : Nx K w Gw zf tf n) (hn : n ≤ 800000) (hf : Fit K (zf.cut n)) :
    Calls Try.prog 14 #[.pointer (some ⟨K.g, 0, none⟩)] w (NextPost K w Gw zf tf n) := by
  have HX := Lib.hid h
  have HF := Lib.hid hf
  have HN := Lib.hid hn
  have KM := lmay_any h.lw
  have xe := h.lw.f.ended
  have xl := h.lw.f.left
  have hb : (zf.cut n).bad = false := h.bad
  have he : (zf.cut n).ended = false := h.ended
  rw [hb] at KM
  rw [he] at xe
  by_cases hlt : n < zf.out.length
  · rw [live_bad (h.live hlt)] at KM
    have KM := Lib.hid KM
    obtain ⟨l, hl⟩ : ∃ l, zf.out.length - n = l + 1 := ⟨zf.out.length - n - 1, by omega⟩
    have hw := h.lw
    rw [hl] at hw xl
    have hfar := h.far
    have KC := Lib.hid (lcopied_any hw hf (h.tell n (Nat.le_refl _) hlt).1 h.near.r0 (by omega) (by show (zf.out.take n).length ≤ _; rw [List.length_take]; omega))
    have q0 : (((l + 1 : Nat) : Int) == 0) = false := by simp; omega
    obtain ⟨l1, hl1⟩ : ∃ l1, l1 = l + 1 := ⟨_, rfl⟩
    rw [← hl1] at q0 xl
    have HL := Lib.hid (And.intro hlt hl)
    clear hl hl1 hw hfar hlt h hf hn hb he
    go_enter Try.func14, Try.ntmps14
    go_wp2_with fail
    refine KM.out.mono ?_
    rintro e w1 ⟨rfl, rfl⟩
    clear KM
    go_wp2_with fail
    refine KC.out.mono ?_
    rintro e w2 hp
    have HP := Lib.hid hp
    obtain ⟨rfl, _⟩ := hp
    clear KC
    go_wp2_with fail
    go_ret2
    refine nx_copied HX.out HL.out.1 ?_
    rw [show zf.out.length - n - 1 = l by have := HL.out.2; omega]
    exact HP.out
  · obtain rfl : n = zf.out.length := by have := h.le; omega
    rw [cut_all] at hf hb he
    have hw := h.lw
    rw [cut_all, Nat.sub_self] at hw
    rw [Nat.sub_self] at xl
    by_cases hd : tf.x = none
    · rw [dead_bad hd] at KM
      have KM := Lib.hid KM
      have HD := Lib.hid hd
      have HW := Lib.hid hw
      clear hlt h hf hn hb he hd hw
      go_enter Try.func14, Try.ntmps14
      go_wp2_with fail
      refine KM.out.mono ?_
      rintro e w1 ⟨rfl, rfl⟩
      clear KM
      go_wp2_with fail
      go_ret2
      exact .inr ⟨rfl, rfl, .inl (packP_none HD.out), _, _, _, Gw, HW.out, fun i hi => .inl hi, Only.refl _ _⟩
    · rw [live_bad hd] at KM
      have KM := Lib.hid KM
      have hz := h.near
      have KS := Lib.hid (lstart_any hw hz.st hz.pb (by omega))
      have hpk := pk_first (t := tf) hb
      obtain ⟨s, hs⟩ : ∃ s, s = zf.out.length % 2 ^ zf.pb := ⟨_, rfl⟩
      rw [← hs] at KS hpk
      obtain ⟨B, hB⟩ : ∃ B, B = bitP decM tf (16 * zf.st + s) 0 := ⟨_, rfl⟩
      rw [← hB] at KS hpk
      by_cases h0 : B.1 = 0
      · rw [decide_eq_true h0] at KS
        have HB := Lib.hid (And.intro hB (And.intro h0 hs))
        have HZ := Lib.hid hz
        clear hlt h hb he hd hw hz hpk hs hB h0 hf hn
        go_enter Try.func14, Try.ntmps14
        go_wp2_with fail
        refine KM.out.mono ?_
        rintro e w1 ⟨rfl, rfl⟩
        clear KM
        go_wp2_with fail
        refine KS.out.mono ?_
        rintro e w1 ⟨rfl, hz1, ho1⟩
        have KL := Lib.hid (llit_any hz1 HZ.out (by have := HN.out; omega) (by have := HF.out; rw [cut_all] at this; exact this))
        have HO1 := Lib.hid ho1
        clear hz1 ho1 KS
        go_wp2_with fail
        refine KL.out.mono ?_
        rintro e w2 hp
        have HP := Lib.hid hp
        clear KL
        have hret : e = .returned (.tuple #[.int .u8 0, .bool false]) ∨ ∃ b : UInt8, e = .returned (.tuple #[.int .u8 (b.toNat : Int), .bool true]) := by
          rcases hp with ⟨_, rfl, _⟩ | ⟨_, rfl, _⟩
          · exact .inl rfl
          · exact .inr ⟨_, rfl⟩
        clear hp
        rcases hret with rfl | ⟨b, rfl⟩
        · go_wp2_with fail
          go_ret2
          have hB1 := HB.out.1
          rw [HB.out.2.2] at hB1
          exact nx_lit HX.out hB1 HB.out.2.1 HO1.out HP.out
        · go_wp2_with fail
          go_ret2
          have hB1 := HB.out.1
          rw [HB.out.2.2] at hB1
          exact nx_lit HX.out hB1 HB.out.2.1 HO1.out HP.out
      · rw [decide_eq_false h0] at KS
        have hr := hpk.2 h0
        have HR := Lib.hid hr
        have HZ := Lib.hid hz
        have HBE := Lib.hid (And.intro hb (And.intro he (And.intro hs hf)))
        clear hlt h hb he hd hw hz hpk hs hB h0 hf hn hr
        go_enter Try.func14, Try.ntmps14
        go_wp2_with fail
        refine KM.out.mono ?_
        rintro e w1 ⟨rfl, rfl⟩
        clear KM
        go_wp2_with fail
        refine KS.out.mono ?_
        rintro e w1 ⟨rfl, hz1, ho1⟩
        have KC := Lib.hid (lcopies_any (s := s) hz1 HZ.out (by have := HN.out; omega) HBE.out.2.2.2 HBE.out.2.2.1 HBE.out.1 HBE.out.2.1)
        rw [← HR.out] at KC
        have HO1 := Lib.hid ho1
        clear hz1 ho1 KS
        go_wp2_with fail
        refine KC.out.mono ?_
        rintro e w2 ⟨z1, t1, left1, ⟨rfl, hl2, ho2⟩, hout, hdict, hnear, ht, hcase⟩
        clear KC
        have HO2 := Lib.hid (HO1.out.trans ho2)
        have hfail : left1 = 0 → stopP (packP decM zf tf pk0) → Hid (Lw K w2 Gw z1 t1 0 ∧ stopP (packP decM zf tf pk0)) := fun h0 h1 => Lib.hid ⟨h0 ▸ hl2, h1⟩
        rcases hcase with ⟨hd1, h10⟩ | ⟨hd1, hb1, _, _, h10⟩ | ⟨hd1, _, he1, hr1, h10⟩ | ⟨hd1, hb1, he1, hh1, hg1, hg2, hr1⟩
        · have HZ2 := hfail h10 (.inl (by rw [← ht]; exact hd1))
          have KE := Lib.hid (lcopied_end HZ2.out.1)
          clear hfail hd1 h10 hl2 ho2 hout hdict hnear ht
          go_wp2_with fail
          refine KE.out.mono ?_
          rintro e w3 ⟨rfl, rfl⟩
          go_wp2_with fail
          go_ret2
          exact .inr ⟨rfl, rfl, HZ2.out.2, _, _, _, Gw, HZ2.out.1, fun i hi => .inl hi, HO2.out.mono fun i hi => .inl hi⟩
        · have HZ2 := hfail h10 (.inr (.inl hb1))
          have KE := Lib.hid (lcopied_end HZ2.out.1)
          clear hfail hd1 h10 hl2 ho2 hout hdict hnear ht hb1
          go_wp2_with fail
          refine KE.out.mono ?_
          rintro e w3 ⟨rfl, rfl⟩
          go_wp2_with fail
          go_ret2
          exact .inr ⟨rfl, rfl, HZ2.out.2, _, _, _, Gw, HZ2.out.1, fun i hi => .inl hi, HO2.out.mono fun i hi => .inl hi⟩
        · have HZ2 := hfail h10 (.inr (.inr (by rw [hr1]; exact he1)))
          have KE := Lib.hid (lcopied_end HZ2.out.1)
          clear hfail hd1 h10 hl2 ho2 hout hdict hnear ht he1 hr1
          go_wp2_with fail
          refine KE.out.mono ?_
          rintro e w3 ⟨rfl, rfl⟩
          go_wp2_with fail
          go_ret2
          exact .inr ⟨rfl, rfl, HZ2.out.2, _, _, _, Gw, HZ2.out.1, fun i hi => .inl hi, HO2.out.mono fun i hi => .inl hi⟩
        · obtain ⟨l, rfl⟩ : ∃ l, left1 = l + 1 := ⟨left1 - 1, by omega⟩
          have hfit1 : Fit K z1 := by
            have := HBE.out.2.2.2
            unfold Fit at *
            rw [hout, hdict]
            exact this
          have KC := Lib.hid (lcopied_any hl2 hfit1 hh1 hnear.r0 (by omega) (by rw [hout]; have := HN.out; omega))
          have HA := Lib.hid (fun (x : Ending) (w3 : World) hp => nx_begin (Gw := Gw) (x := x) (w2 := w3) HO2.out hout hdict hnear hd1 hb1 he1 hh1 hg2 hr1 hp)
          clear hfail hd1 hl2 ho2 hout hdict hnear ht he1 hr1 hb1 hh1 hg1 hg2 hfit1
          go_wp2_with fail
          refine KC.out.mono ?_
          rintro e w3 hp
          have HP := Lib.hid hp
          obtain ⟨rfl, _⟩ := hp
          go_wp2_with fail
          go_ret2
          exact HA.out _ _ HP.out
end
end Go.Proofs.Ytjgdjobhhdhfjaa

/-
  The program's decoder of LZMA begins.
-/
namespace Go.Proofs.Ytjgdjobhhdhfjaa
open Go.RowKit

/-- what a decoder is that has a decoder of ranges -/
def Kon.on (K : Kon) (dg f lo : Nat) (bs : List UInt8) : Kon := { K with dg := dg, f := f, lo := lo, bs := bs }

section
variable {K : Kon} {w w' : World} {Gw : Nat → Prop} {lc lp pb dict : Nat}

set_option maxRecDepth 100000 in
set_option maxHeartbeats 2000000 in
theorem closed_any {fs : List Value} {ps : List Nat} (hB : LzAt w K.g fs ps) (h15 : fs[15]? = some (.slice (some ⟨K.lb, 0, none⟩) K.nl K.nl)) :
    Calls Try.prog 40 #[.pointer (some ⟨K.g, 0, none⟩)] w fun e w' => e = .returned (.bool false) ∧ w = w' := by
  have c := hB.cell 15 (by decide)
  have c : w.cell? ⟨K.g, 1862, none⟩ = some (.slice (some ⟨K.lb, 0, none⟩) K.nl K.nl) := by
    rw [show (1862 : Nat) = fat 15 from rfl, c]
    simp [h15]
  clear hB h15
  have qT : ∀ (w : World) (a : Option Addr) (n c n' c' : Nat), (binOp .eql 68 (.slice a n c) (.slice none n' c')).run Try.prog w = .ok (.bool a.isNone) w := fun w a n c n' c' => Lib.run_eql_slice_nil w _ _ a n c n' c' Try.underlying68
  go_enter Try.func40, Try.ntmps40
  go_wp2_with fail
  go_ret
  exact ⟨rfl, rfl⟩

set_option maxRecDepth 100000 in
set_option maxHeartbeats 4000000 in
theorem lbegin_any {f lo : Nat} {bs : List UInt8} (h : Un K w Gw lc lp pb dict) (hs : SetOk lc lp pb dict) (hnl : K.nl = 768 * 2 ^ (lc + lp)) (hF : Feed w f lo bs 0) (h1 : K.g < lo) (h2 : K.lb < lo) (h3 : K.m < lo) (h4 : ∀ i, Gw i → i < lo) :
    Calls Try.prog 12 #[.pointer (some ⟨K.g, 0, none⟩), .iface 35 (.pointer (some ⟨f, 0, none⟩))] w fun e w' =>
      e = .returned (.tuple #[]) ∧ ∃ dg, w.heap.size ≤ dg ∧ Nx (K.on dg f lo bs) w' Gw (Lzs.start lc lp pb dict) ⟨List.replicate (1847 + K.nl) 1024, started bs⟩ 0 ∧ Only (fun i => i = K.g ∨ i = f) w w' := by
  have KCl := Lib.hid (closed_any h.row.1 rfl)
  have KN := Lib.hid (pnew_any hF)
  have HX := Lib.hid (And.intro h (And.intro hs (And.intro hnl (And.intro hF (And.intro h1 (And.intro h2 (And.intro h3 h4)))))))
  clear h hs hnl hF h1 h2 h3 h4
  go_enter Try.func12, Try.ntmps12
  go_wp2_with fail
  refine KCl.out.mono ?_
  rintro e w1 ⟨rfl, rfl⟩
  clear KCl
  go_wp2_with fail
  refine KN.out.mono ?_
  rintro e w2 ⟨rfl, hP, hO⟩
  have hgf : K.g ≠ f := by
    have := HX.out.2.2.2.1.lo
    have := HX.out.2.2.2.2.1
    omega
  have hlf : K.lb ≠ f := by
    have := HX.out.2.2.2.1.lo
    have := HX.out.2.2.2.2.2.1
    omega
  have hR : Rk K (unFs K lc lp pb dict) w2 (List.replicate (1847 + K.nl) 1024) := (K.prb _ HX.out.1.gn).only HX.out.1.row hO (fun i hi e => by
    subst e
    rcases hi with hi | hi
    · exact hgf hi.symm
    · exact hlf hi.symm)
  have c4 : w2.cell? ⟨K.g, 4, none⟩ = some .nilIface := hR.1.cell 4 (by decide)
  have c5 : w2.cell? ⟨K.g, 5, none⟩ = some (.pointer none) := hR.1.cell 5 (by decide)
  have cl : w2.cell? ⟨K.g, 1863, none⟩ = some (.int .i64 0) := hR.1.cell 16 (by decide)
  have ce : w2.cell? ⟨K.g, 1864, none⟩ = some (.bool false) := hR.1.cell 17 (by decide)
  have cb : w2.cell? ⟨K.g, 1865, none⟩ = some (.bool false) := hR.1.cell 18 (by decide)
  have z4 := hR.1.free 4
  have z5 := hR.1.free 5
  have zl := hR.1.free 1863
  have ze := hR.1.free 1864
  have zb := hR.1.free 1865
  have HP := Lib.hid (And.intro hP (And.intro hO hR))
  clear hP hO hR hgf hlf KN
  go_wp2_with fail
  go_end0
  obtain ⟨hU, hs, hnl, hF, h1, h2, h3, h4⟩ := HX.out
  obtain ⟨hP, hO, hR⟩ := HP.out
  have hgn := hU.gn
  have hw1 := hF.lt
  have hfl := hF.lo
  have p4 := hR.put hgn 4 (by decide) (.iface 35 (.pointer (some ⟨f, 0, none⟩)))
  have p5 := p4.put hgn 5 (by decide) (.pointer (some ⟨w.heap.size, 0, none⟩))
  have p6 := p5.put hgn 16 (by decide) (.int .i64 0)
  have p7 := p6.put hgn 17 (by decide) (.bool false)
  have p8 := p7.put hgn 18 (by decide) (.bool false)
  have hOg := ((((((Only.refl (fun i => i = K.g) w2).setCell (p := ⟨K.g, 4, none⟩) (.inl rfl) (.iface 35 (.pointer (some ⟨f, 0, none⟩)))).setCell (p := ⟨K.g, 5, none⟩) (.inl rfl) (.pointer (some ⟨w.heap.size, 0, none⟩))).setCell (p := ⟨K.g, 1863, none⟩) (.inl rfl) (.int .i64 0)).setCell (p := ⟨K.g, 1864, none⟩) (.inl rfl) (.bool false)).setCell (p := ⟨K.g, 1865, none⟩) (.inl rfl) (.bool false))
  have hOall : Only (fun i => i = K.g ∨ i = f) w _ := (hO.mono fun i hi => .inr hi).trans (hOg.mono fun i hi => .inl hi)
  have hPd := hP.only hOg (fun i hi => .inl (by have := h1; omega))
  have hW : Pwin _ K.wg Gw K.m ⟨K.sz, [], false⟩ := hU.win.only hOall (fun i hi e => by
    have a1 := (hU.wd i hi).1
    have a2 := h4 i hi
    rcases e with e | e
    · exact a1 e
    · omega)
  have hnear : ZNear (Lzs.start lc lp pb dict) (1847 + K.nl) 0 := by
    have := start_near hs
    unfold probsN at this
    rw [hnl]
    exact this
  refine ⟨rfl, w.heap.size, Nat.le_refl _, ⟨⟨⟨hPd, p8, start_pm (dcOk_started bs)⟩, hW, ⟨h1, h2, h3, hgn, hU.mg, hU.mb, fun i hi => ?_⟩⟩, Nat.le_refl _, (by show 0 ≤ 0 + 273; omega), hnear, (fun hh => absurd hh (Nat.lt_irrefl 0)), rfl, rfl, fun j j1 j2 => absurd j2 (Nat.not_lt_zero j)⟩, hOall⟩
  have a1 := hU.wd i hi
  exact ⟨a1.1, a1.2.1, a1.2.2.1, .inl (h4 i hi)⟩
end
end Go.Proofs.Ytjgdjobhhdhfjaa

/-
  The program's decoder of LZMA is closed: called, or deferred.
-/
namespace Go.Proofs.Ytjgdjobhhdhfjaa
open Go.RowKit

theorem both_of_wp {P : Program} {f : FuncId} {fn : Func} {c : Code} {args : Array Value} {w : World} {R : Ending → World → Prop}
    (hf : P.funcs[f]? = some fn) (hb : fn.body = some c)
    (h : c.wp P (bodyPost P fn R) { tmps := args ++ Array.replicate (fn.ntmps - args.size) undef, defers := [] } w) :
    Calls P f args w R ∧ ∀ u, CallsD P f args u w fun e u' w' => u' = u ∧ R e w' := ⟨calls_of_wp hf hb h, fun _ => callsD_of_wp hf hb h⟩

theorem LzAt.len {w : World} {g : Nat} {fs : List Value} {ps : List Nat} (h : LzAt w g fs ps) : fs.length = 19 := by
  obtain ⟨_, _, _, h, _⟩ := h
  exact h
/-- the fields of a closed one -/
def shutFs (fs : List Value) : List Value := (((fs.set 8 (.int .i64 0)).set 15 (.slice none 0 0)).set 4 .nilIface).set 5 (.pointer none)
def ClosePost (g wg m : Nat) (fs : List Value) (ps : List Nat) (Gw : Nat → Prop) (s : Ws) (q : Quo) (t : Tel) (room : Int) (w : World) (e : Ending) (w' : World) : Prop :=
  e = .returned (.tuple #[]) ∧ ∃ G', LzAt w' g (shutFs fs) ps ∧ Pwin w' wg G' m s.close ∧ MeterAt w' 105 m q ((if s.shut = true then t else t.doFree (s.sz : Int)).doFree room) ∧ (∀ i, G' i → Gw i ∨ w.heap.size ≤ i) ∧ Only (fun i => Gw i ∨ i = m ∨ i = g) w w'

set_option maxRecDepth 100000 in
set_option maxHeartbeats 4000000 in
theorem lclose_any {w : World} {g wg m : Nat} {fs : List Value} {ps : List Nat} {Gw : Nat → Prop} {s : Ws} {q : Quo} {t : Tel} {room : Int} (hD : LzAt w g fs ps) (h6 : fs[6]? = some (.pointer (some ⟨wg, 0, none⟩))) (h7 : fs[7]? = some (.pointer (some ⟨m, 0, none⟩))) (h8 : fs[8]? = some (.int .i64 room))
    (hr : room ≤ 9223372036854775807) (hW : Pwin w wg Gw m s) (hz : s.sz ≤ 1048576) (hM : MeterAt w 105 m q t) (hF : Fine q t) (hm : ¬ Gw m) (hg : ¬ Gw g) (hmg : m ≠ g) :
    Calls Try.prog 25 #[.pointer (some ⟨g, 0, none⟩)] w (ClosePost g wg m fs ps Gw s q t room w) ∧
    ∀ u, CallsD Try.prog 25 #[.pointer (some ⟨g, 0, none⟩)] u w fun e u' w' => u' = u ∧ ClosePost g wg m fs ps Gw s q t room w e w' := by
  have c6 : w.cell? ⟨g, 6, none⟩ = some (.pointer (some ⟨wg, 0, none⟩)) := by
    rw [show (6 : Nat) = fat 6 from rfl, hD.cell 6 (by decide)]
    simp [h6]
  have KW := Lib.hid (wclose_any hW hz hM hF hm)
  have HM0 := Lib.hid hM.lt
  have HH := Lib.hid (And.intro hD (And.intro h7 (And.intro h8 (And.intro hr (And.intro hF (And.intro hm (And.intro hg hmg)))))))
  clear hD h6 h7 h8 hr hW hz hM hF hm hg hmg
  refine both_of_wp Try.func25 rfl ?_
  simp only [Try.ntmps25, List.size_toArray, List.length_cons, List.length_nil, Nat.reduceAdd, Nat.reduceSub, Array.replicate_succ, Array.replicate_zero, List.push_toArray, List.append_toArray, List.nil_append, List.cons_append]
  go_wp2_with fail
  refine KW.out.mono ?_
  rintro e w1 ⟨rfl, G1, hW1, hM1, hG1, hO1⟩
  obtain ⟨hD, h7, h8, hr, hF, hm, hg, hmg⟩ := HH.out
  have hng : ¬ (Gw g ∨ g = m) := by
    rintro (h | h)
    · exact hg h
    · exact hmg h.symm
  have hD1 := hD.only hO1 hng
  have c7 : w1.cell? ⟨g, 7, none⟩ = some (.pointer (some ⟨m, 0, none⟩)) := by
    rw [show (7 : Nat) = fat 7 from rfl, hD1.cell 7 (by decide)]
    simp [h7]
  have c8 : w1.cell? ⟨g, 8, none⟩ = some (.int .i64 room) := by
    rw [show (8 : Nat) = fat 8 from rfl, hD1.cell 8 (by decide)]
    simp [h8]
  have hgs : g < w.heap.size := hD.lt
  have hmG1 : ¬ G1 m := fun h => by
    rcases hG1 m h with h | h
    · exact hm h
    · have := hM1.lt
      have h2 := HM0.out
      omega
  have hF1 : Fine q (if s.shut = true then t else t.doFree (s.sz : Int)) := by
    split
    · exact hF
    · exact hF.free _
  have KF := Lib.hid (free_any (w := w1.drew) (hM1.drewN 1) hF1 room hr)
  have HX := Lib.hid (And.intro hD1 (And.intro hW1 (And.intro hG1 (And.intro hO1 hmG1))))
  have hmg2 : g ≠ m := fun e => hmg e.symm
  have HS := Lib.hid (fun (W : World) (hW : Only (fun i => i = m) w1 W) => (show W.cell? ⟨g, 7, none⟩ = some (.pointer (some ⟨m, 0, none⟩)) ∧ W.cell? ⟨g, 8, none⟩ = some (.int .i64 room) from
    have hk := hD1.only hW hmg2
    ⟨by rw [show (7 : Nat) = fat 7 from rfl, hk.cell 7 (by decide)]; simp [h7], by rw [show (8 : Nat) = fat 8 from rfl, hk.cell 8 (by decide)]; simp [h8]⟩))
  clear hW1 hM1 hG1 hO1 hD h7 h8 hr hF hm hg hng hD1 hgs hmG1 hF1 KW c6 hmg hmg2
  go_wp2_with fail
  go_region_held3 (fun w' => w'.cell? ⟨g, 7, none⟩ = some (.pointer (some ⟨m, 0, none⟩)) ∧ w'.cell? ⟨g, 8, none⟩ = some (.int .i64 room))
    (first | assumption | go_keep | exact ⟨c7, c8⟩ | exact HS.out _ HO2.out)
    (first
      | (go_at_call 53; refine KF.out.mono ?_; rintro e w2 ⟨rfl, hM2, hg2⟩; have HO2 := Lib.hid (show Only (fun i => i = m) w1 w2 from ((Only.refl (fun i => i = m) w1).drew).trans (Only.of_grown hg2 rfl)); have HM2 := Lib.hid hM2; clear hM2 hg2))
  have hD2 : LzAt w2 g fs ps := HX.out.1.only HO2.out (fun e => HH.out.2.2.2.2.2.2.2 e.symm)
  have a1 := hD2.cell 8 (by decide)
  have a2 := hD2.cell 15 (by decide)
  have a3 := hD2.cell 4 (by decide)
  have a4 := hD2.cell 5 (by decide)
  obtain ⟨u8, b8⟩ : ∃ u, w2.cell? ⟨g, 8, none⟩ = some u := ⟨_, a1.trans (List.getElem?_eq_getElem (by have := hD2.len; omega))⟩
  obtain ⟨u15, b15⟩ : ∃ u, w2.cell? ⟨g, 1862, none⟩ = some u := ⟨_, a2.trans (List.getElem?_eq_getElem (by have := hD2.len; omega))⟩
  obtain ⟨u4, b4⟩ : ∃ u, w2.cell? ⟨g, 4, none⟩ = some u := ⟨_, a3.trans (List.getElem?_eq_getElem (by have := hD2.len; omega))⟩
  obtain ⟨u5, b5⟩ : ∃ u, w2.cell? ⟨g, 5, none⟩ = some u := ⟨_, a4.trans (List.getElem?_eq_getElem (by have := hD2.len; omega))⟩
  have z8 := hD2.free 8
  have z15 := hD2.free 1862
  have z4 := hD2.free 4
  have z5 := hD2.free 5
  have HD2 := Lib.hid hD2
  clear hD2 a1 a2 a3 a4 HS KF c7 c8
  go_wp2_with fail
  go_end0
  obtain ⟨hD1, hW1, hG1, hO1, hmG1⟩ := HX.out
  obtain ⟨hD, h7, h8, hr, hF, hm, hg, hmg⟩ := HH.out
  have p1 := HD2.out.put 8 (by decide) (.int .i64 0)
  have p2 := p1.put 15 (by decide) (.slice none 0 0)
  have p3 := p2.put 4 (by decide) .nilIface
  have p4 := p3.put 5 (by decide) (.pointer none)
  have hOg := (((((Only.refl (fun i => i = g) w2).setCell (p := ⟨g, 8, none⟩) (.inl rfl) (.int .i64 0)).setCell (p := ⟨g, 1862, none⟩) (.inl rfl) (.slice none 0 0)).setCell (p := ⟨g, 4, none⟩) (.inl rfl) .nilIface).setCell (p := ⟨g, 5, none⟩) (.inl rfl) (.pointer none))
  have hg1 : ∀ i, G1 i → i ≠ g := fun i hi e => by
    subst e
    rcases hG1 i hi with h | h
    · exact hg h
    · have := hD.lt; omega
  refine ⟨rfl, G1, p4, ?_, HM2.out.only hOg hmg, hG1, ?_⟩
  · exact (hW1.only HO2.out (fun i hi e => hmG1 (e ▸ hi))).only hOg hg1
  · exact ((hO1.mono fun i hi => by rcases hi with hi | hi; exact .inl hi; exact .inr (.inl hi)).trans (HO2.out.mono fun i hi => .inr (.inl hi))).trans (hOg.mono fun i hi => .inr (.inr hi))
end Go.Proofs.Ytjgdjobhhdhfjaa
