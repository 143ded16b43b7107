/-
  LwNxt, ZqRest, ZqWhole, ZqRs0: put together.
-/
import Derived.Test.YtoencondpbkomaaGreatDoorT21
import Derived.Test.YtoencondpbkomaaGreatDoorT14
import Derived.Test.YtoencondpbkomaaGreatDoorT05
import Derived.Lib.SliceRun
import Derived.Test.YtoencondpbkomaaGreatDoorT15
import Derived.BigQuiet
set_option linter.unusedVariables false
set_option linter.unusedSimpArgs false
/-
  The program's decoder of LZMA: the next byte, walked.
-/
namespace Go.Proofs.YtoencondpbkomaaGreatDoor
open Go.RowKit

section
variable {K : Kon} {w w' : World} {Gw Gw' : Nat → Prop} {zf : Lzs} {tf : Pm Dc} {n : Nat}

set_option maxRecDepth 100000 in
set_option maxHeartbeats 8000000 in
theorem lnext_any (h : Nx K w Gw zf tf n) (hn : n ≤ 800000) (hf : Fit K (zf.cut n)) :
    Calls Tryz.prog 78 #[.pointer (some ⟨K.g, 0, none⟩)] w (NextPost K w Gw zf tf n) := by
  have HX := Lib.hid h
  have HF := Lib.hid hf
  have HN := Lib.hid hn
  have KM := lmay_any h.lw
  have xe := h.lw.f.ended
  have xl := h.lw.f.left
  have hb : (zf.cut n).bad = false := h.bad
  have he : (zf.cut n).ended = false := h.ended
  rw [hb] at KM
  rw [he] at xe
  by_cases hlt : n < zf.out.length
  · rw [live_bad (h.live hlt)] at KM
    have KM := Lib.hid KM
    obtain ⟨l, hl⟩ : ∃ l, zf.out.length - n = l + 1 := ⟨zf.out.length - n - 1, by omega⟩
    have hw := h.lw
    rw [hl] at hw xl
    have hfar := h.far
    have KC := Lib.hid (lcopied_any hw hf (h.tell n (Nat.le_refl _) hlt).1 h.near.r0 (by omega) (by show (zf.out.take n).length ≤ _; rw [List.length_take]; omega))
    have q0 : (((l + 1 : Nat) : Int) == 0) = false := by simp; omega
    obtain ⟨l1, hl1⟩ : ∃ l1, l1 = l + 1 := ⟨_, rfl⟩
    rw [← hl1] at q0 xl
    have HL := Lib.hid (And.intro hlt hl)
    clear hl hl1 hw hfar hlt h hf hn hb he
    go_enter Tryz.func78, Tryz.ntmps78
    go_wp2_with fail
    refine KM.out.mono ?_
    rintro e w1 ⟨rfl, rfl⟩
    clear KM
    go_wp2_with fail
    refine KC.out.mono ?_
    rintro e w2 hp
    have HP := Lib.hid hp
    obtain ⟨rfl, _⟩ := hp
    clear KC
    go_wp2_with fail
    go_ret2
    refine nx_copied HX.out HL.out.1 ?_
    rw [show zf.out.length - n - 1 = l by have := HL.out.2; omega]
    exact HP.out
  · obtain rfl : n = zf.out.length := by have := h.le; omega
    rw [cut_all] at hf hb he
    have hw := h.lw
    rw [cut_all, Nat.sub_self] at hw
    rw [Nat.sub_self] at xl
    by_cases hd : tf.x = none
    · rw [dead_bad hd] at KM
      have KM := Lib.hid KM
      have HD := Lib.hid hd
      have HW := Lib.hid hw
      clear hlt h hf hn hb he hd hw
      go_enter Tryz.func78, Tryz.ntmps78
      go_wp2_with fail
      refine KM.out.mono ?_
      rintro e w1 ⟨rfl, rfl⟩
      clear KM
      go_wp2_with fail
      go_ret2
      exact .inr ⟨rfl, rfl, .inl (packP_none HD.out), _, _, _, Gw, HW.out, fun i hi => .inl hi, Only.refl _ _⟩
    · rw [live_bad hd] at KM
      have KM := Lib.hid KM
      have hz := h.near
      have KS := Lib.hid (lstart_any hw hz.st hz.pb (by omega))
      have hpk := pk_first (t := tf) hb
      obtain ⟨s, hs⟩ : ∃ s, s = zf.out.length % 2 ^ zf.pb := ⟨_, rfl⟩
      rw [← hs] at KS hpk
      obtain ⟨B, hB⟩ : ∃ B, B = bitP decM tf (16 * zf.st + s) 0 := ⟨_, rfl⟩
      rw [← hB] at KS hpk
      by_cases h0 : B.1 = 0
      · rw [decide_eq_true h0] at KS
        have HB := Lib.hid (And.intro hB (And.intro h0 hs))
        have HZ := Lib.hid hz
        clear hlt h hb he hd hw hz hpk hs hB h0 hf hn
        go_enter Tryz.func78, Tryz.ntmps78
        go_wp2_with fail
        refine KM.out.mono ?_
        rintro e w1 ⟨rfl, rfl⟩
        clear KM
        go_wp2_with fail
        refine KS.out.mono ?_
        rintro e w1 ⟨rfl, hz1, ho1⟩
        have KL := Lib.hid (llit_any hz1 HZ.out (by have := HN.out; omega) (by have := HF.out; rw [cut_all] at this; exact this))
        have HO1 := Lib.hid ho1
        clear hz1 ho1 KS
        go_wp2_with fail
        refine KL.out.mono ?_
        rintro e w2 hp
        have HP := Lib.hid hp
        clear KL
        have hret : e = .returned (.tuple #[.int .u8 0, .bool false]) ∨ ∃ b : UInt8, e = .returned (.tuple #[.int .u8 (b.toNat : Int), .bool true]) := by
          rcases hp with ⟨_, rfl, _⟩ | ⟨_, rfl, _⟩
          · exact .inl rfl
          · exact .inr ⟨_, rfl⟩
        clear hp
        rcases hret with rfl | ⟨b, rfl⟩
        · go_wp2_with fail
          go_ret2
          have hB1 := HB.out.1
          rw [HB.out.2.2] at hB1
          exact nx_lit HX.out hB1 HB.out.2.1 HO1.out HP.out
        · go_wp2_with fail
          go_ret2
          have hB1 := HB.out.1
          rw [HB.out.2.2] at hB1
          exact nx_lit HX.out hB1 HB.out.2.1 HO1.out HP.out
      · rw [decide_eq_false h0] at KS
        have hr := hpk.2 h0
        have HR := Lib.hid hr
        have HZ := Lib.hid hz
        have HBE := Lib.hid (And.intro hb (And.intro he (And.intro hs hf)))
        clear hlt h hb he hd hw hz hpk hs hB h0 hf hn hr
        go_enter Tryz.func78, Tryz.ntmps78
        go_wp2_with fail
        refine KM.out.mono ?_
        rintro e w1 ⟨rfl, rfl⟩
        clear KM
        go_wp2_with fail
        refine KS.out.mono ?_
        rintro e w1 ⟨rfl, hz1, ho1⟩
        have KC := Lib.hid (lcopies_any (s := s) hz1 HZ.out (by have := HN.out; omega) HBE.out.2.2.2 HBE.out.2.2.1 HBE.out.1 HBE.out.2.1)
        rw [← HR.out] at KC
        have HO1 := Lib.hid ho1
        clear hz1 ho1 KS
        go_wp2_with fail
        refine KC.out.mono ?_
        rintro e w2 ⟨z1, t1, left1, ⟨rfl, hl2, ho2⟩, hout, hdict, hnear, ht, hcase⟩
        clear KC
        have HO2 := Lib.hid (HO1.out.trans ho2)
        have hfail : left1 = 0 → stopP (packP decM zf tf pk0) → Hid (Lw K w2 Gw z1 t1 0 ∧ stopP (packP decM zf tf pk0)) := fun h0 h1 => Lib.hid ⟨h0 ▸ hl2, h1⟩
        rcases hcase with ⟨hd1, h10⟩ | ⟨hd1, hb1, _, _, h10⟩ | ⟨hd1, _, he1, hr1, h10⟩ | ⟨hd1, hb1, he1, hh1, hg1, hg2, hr1⟩
        · have HZ2 := hfail h10 (.inl (by rw [← ht]; exact hd1))
          have KE := Lib.hid (lcopied_end HZ2.out.1)
          clear hfail hd1 h10 hl2 ho2 hout hdict hnear ht
          go_wp2_with fail
          refine KE.out.mono ?_
          rintro e w3 ⟨rfl, rfl⟩
          go_wp2_with fail
          go_ret2
          exact .inr ⟨rfl, rfl, HZ2.out.2, _, _, _, Gw, HZ2.out.1, fun i hi => .inl hi, HO2.out.mono fun i hi => .inl hi⟩
        · have HZ2 := hfail h10 (.inr (.inl hb1))
          have KE := Lib.hid (lcopied_end HZ2.out.1)
          clear hfail hd1 h10 hl2 ho2 hout hdict hnear ht hb1
          go_wp2_with fail
          refine KE.out.mono ?_
          rintro e w3 ⟨rfl, rfl⟩
          go_wp2_with fail
          go_ret2
          exact .inr ⟨rfl, rfl, HZ2.out.2, _, _, _, Gw, HZ2.out.1, fun i hi => .inl hi, HO2.out.mono fun i hi => .inl hi⟩
        · have HZ2 := hfail h10 (.inr (.inr (by rw [hr1]; exact he1)))
          have KE := Lib.hid (lcopied_end HZ2.out.1)
          clear hfail hd1 h10 hl2 ho2 hout hdict hnear ht he1 hr1
          go_wp2_with fail
          refine KE.out.mono ?_
          rintro e w3 ⟨rfl, rfl⟩
          go_wp2_with fail
          go_ret2
          exact .inr ⟨rfl, rfl, HZ2.out.2, _, _, _, Gw, HZ2.out.1, fun i hi => .inl hi, HO2.out.mono fun i hi => .inl hi⟩
        · obtain ⟨l, rfl⟩ : ∃ l, left1 = l + 1 := ⟨left1 - 1, by omega⟩
          have hfit1 : Fit K z1 := by
            have := HBE.out.2.2.2
            unfold Fit at *
            rw [hout, hdict]
            exact this
          have KC := Lib.hid (lcopied_any hl2 hfit1 hh1 hnear.r0 (by omega) (by rw [hout]; have := HN.out; omega))
          have HA := Lib.hid (fun (x : Ending) (w3 : World) hp => nx_begin (Gw := Gw) (x := x) (w2 := w3) HO2.out hout hdict hnear hd1 hb1 he1 hh1 hg2 hr1 hp)
          clear hfail hd1 hl2 ho2 hout hdict hnear ht he1 hr1 hb1 hh1 hg1 hg2 hfit1
          go_wp2_with fail
          refine KC.out.mono ?_
          rintro e w3 hp
          have HP := Lib.hid hp
          obtain ⟨rfl, _⟩ := hp
          go_wp2_with fail
          go_ret2
          exact HA.out _ _ HP.out
end
end Go.Proofs.YtoencondpbkomaaGreatDoor

/-
  The program's decoder of LZMA at rest between two chunks; it begins over any source.
-/
namespace Go.Proofs.YtoencondpbkomaaGreatDoor
open Go.RowKit

/-- what a decoder is that has a decoder of ranges -/
def Kon.on (K : Kon) (dg : Nat) (S : Sc) (bs : List UInt8) : Kon := { K with dg := dg, S := S, bs := bs }
/-- its fields, whatever its source, its decoder of ranges and its packet are -/
def restFs (K : Kon) (z : Lzs) (v4 v5 v16 v17 v18 : Value) : List Value :=
  [.int .i64 (z.lc : Int), .int .i64 (z.lp : Int), .int .i64 (z.pb : Int), .int .i64 K.sd, v4, v5, .pointer (some ⟨K.wg, 0, none⟩), .pointer (some ⟨K.m, 0, none⟩), .int .i64 K.room,
    .int .i64 (z.out.length : Int), .int .i64 (z.st : Int), .int .u32 (z.r0 : Int), .int .u32 (z.r1 : Int), .int .u32 (z.r2 : Int), .int .u32 (z.r3 : Int), .slice (some ⟨K.lb, 0, none⟩) K.nc K.nc, v16, v17, v18]

/-- at rest: z's numbers, whatever its packet is -/
structure Lrest (K : Kon) (w : World) (Gw : Nat → Prop) (z : Lzs) (ps : List Nat) (v4 v5 v16 v17 v18 : Value) : Prop where
  row : Rk K (restFs K z v4 v5 v16 v17 v18) w ps
  win : Pwin w K.wg Gw K.m ⟨K.sz, z.out, false⟩
  gn : K.g ≠ K.lb
  mg : K.m ≠ K.g
  mb : K.m ≠ K.lb
  nc : K.nl ≤ K.nc ∧ K.nc ≤ 1000000
  wd : ∀ i, Gw i → i ≠ K.g ∧ i ≠ K.lb ∧ i ≠ K.m
  mo : K.m < w.heap.size

section
variable {K : Kon} {w w' : World} {Gw : Nat → Prop}
set_option maxRecDepth 100000 in
set_option maxHeartbeats 2000000 in
theorem closed_any {fs : List Value} {ps : List Nat} (hB : LzAt w K.g fs ps) (h15 : fs[15]? = some (.slice (some ⟨K.lb, 0, none⟩) K.nc K.nc)) :
    Calls Tryz.prog 130 #[.pointer (some ⟨K.g, 0, none⟩)] w fun e w' => e = .returned (.bool false) ∧ w = w' := by
  have c := hB.cell 15 (by decide)
  have c : w.cell? ⟨K.g, 1862, none⟩ = some (.slice (some ⟨K.lb, 0, none⟩) K.nc K.nc) := by
    rw [show (1862 : Nat) = fat 15 from rfl, c]
    simp [h15]
  clear hB h15
  have qT : ∀ (w : World) (a : Option Addr) (n c n' c' : Nat), (binOp .eql 62 (.slice a n c) (.slice none n' c')).run Tryz.prog w = .ok (.bool a.isNone) w := fun w a n c n' c' => Lib.run_eql_slice_nil w _ _ a n c n' c' Tryz.underlying62
  go_enter Tryz.func130, Tryz.ntmps130
  go_wp2_with fail
  go_ret
  exact ⟨rfl, rfl⟩

set_option maxRecDepth 100000 in
set_option maxHeartbeats 4000000 in
theorem zbegin_any {S : Sc} {bs : List UInt8} {z : Lzs} {ps : List Nat} {v4 v5 v16 v17 v18 : Value} (hS : ScOk S) (h : Lrest K w Gw z ps v4 v5 v16 v17 v18) (hz : ZNear z (1847 + K.nl) z.out.length) (hps : PsOk ps) (hA : S.At w bs 0)
    (h1 : ¬ S.hold K.g) (h2 : ¬ S.hold K.lb) (h3 : ¬ S.hold K.m) (h4 : ∀ i, Gw i → ¬ S.hold i) :
    Calls Tryz.prog 103 #[.pointer (some ⟨K.g, 0, none⟩), .iface 103 (.pointer (some ⟨S.f, 0, none⟩))] w fun e w' =>
      e = .returned (.tuple #[]) ∧ Nx (K.on w.heap.size S bs) w' Gw { z with ended := false, bad := false } ⟨ps, started bs⟩ z.out.length ∧ Only (fun i => i = K.g ∨ S.turn i) w w' := by
  have KCl := Lib.hid (closed_any h.row.1 rfl)
  have KN := Lib.hid (pnew_any hS hA)
  have HX := Lib.hid (And.intro h (And.intro hz (And.intro hps (And.intro hS (And.intro h1 (And.intro h2 (And.intro h3 h4)))))))
  clear h hz hps hS hA h1 h2 h3 h4
  go_enter Tryz.func103, Tryz.ntmps103
  go_wp2_with fail
  refine KCl.out.mono ?_
  rintro e w1 ⟨rfl, rfl⟩
  clear KCl
  go_wp2_with fail
  refine KN.out.mono ?_
  rintro e w2 ⟨rfl, hP, hO⟩
  have hgf : ¬ S.turn K.g := fun e => HX.out.2.2.2.2.1 (HX.out.2.2.2.1.tf _ e)
  have hlf : ¬ S.turn K.lb := fun e => HX.out.2.2.2.2.2.1 (HX.out.2.2.2.1.tf _ e)
  have hR : Rk K (restFs K z v4 v5 v16 v17 v18) w2 ps := (K.prb _ HX.out.1.gn).only HX.out.1.row hO (fun i hi e => by
    rcases hi with rfl | rfl
    · exact hgf e
    · exact hlf e)
  have c4 : w2.cell? ⟨K.g, 4, none⟩ = some v4 := hR.1.cell 4 (by decide)
  have c5 : w2.cell? ⟨K.g, 5, none⟩ = some v5 := hR.1.cell 5 (by decide)
  have cl : w2.cell? ⟨K.g, 1863, none⟩ = some v16 := hR.1.cell 16 (by decide)
  have ce : w2.cell? ⟨K.g, 1864, none⟩ = some v17 := hR.1.cell 17 (by decide)
  have cb : w2.cell? ⟨K.g, 1865, none⟩ = some v18 := hR.1.cell 18 (by decide)
  have z4 := hR.1.free 4
  have z5 := hR.1.free 5
  have zl := hR.1.free 1863
  have ze := hR.1.free 1864
  have zb := hR.1.free 1865
  have HP := Lib.hid (And.intro hP (And.intro hO hR))
  clear hP hO hR hgf hlf KN
  go_wp2_with fail
  go_end0
  obtain ⟨hU, hz, hps, hS, h1, h2, h3, h4⟩ := HX.out
  obtain ⟨hP, hO, hR⟩ := HP.out
  have hgn := hU.gn
  have hg0 : K.g < w.heap.size := hU.row.1.lt
  have hl0 : K.lb < w.heap.size := hU.row.2.1.lt
  have hm0 := hU.mo
  have p4 := hR.put hgn 4 (by decide) (.iface 103 (.pointer (some ⟨S.f, 0, none⟩)))
  have p5 := p4.put hgn 5 (by decide) (.pointer (some ⟨w.heap.size, 0, none⟩))
  have p6 := p5.put hgn 16 (by decide) (.int .i64 0)
  have p7 := p6.put hgn 17 (by decide) (.bool false)
  have p8 := p7.put hgn 18 (by decide) (.bool false)
  have hOg := ((((((Only.refl (fun i => i = K.g) w2).setCell (p := ⟨K.g, 4, none⟩) (.inl rfl) (.iface 103 (.pointer (some ⟨S.f, 0, none⟩)))).setCell (p := ⟨K.g, 5, none⟩) (.inl rfl) (.pointer (some ⟨w.heap.size, 0, none⟩))).setCell (p := ⟨K.g, 1863, none⟩) (.inl rfl) (.int .i64 0)).setCell (p := ⟨K.g, 1864, none⟩) (.inl rfl) (.bool false)).setCell (p := ⟨K.g, 1865, none⟩) (.inl rfl) (.bool false))
  have hOall : Only (fun i => i = K.g ∨ S.turn i) w _ := (hO.mono fun i hi => .inr hi).trans (hOg.mono fun i hi => .inl hi)
  have hPd := hP.only hS hOg (fun i hi => ⟨hi ▸ h1, by omega⟩)
  have hW : Pwin _ K.wg Gw K.m ⟨K.sz, z.out, false⟩ := hU.win.only hOall (fun i hi e => by
    rcases e with e | e
    · exact (hU.wd i hi).1 e
    · exact h4 i hi (hS.tf _ e))
  have hLw : Lw (K.on w.heap.size S bs) _ Gw { z with ended := false, bad := false } ⟨ps, started bs⟩ 0 :=
    ⟨⟨hS, hPd, p8, ⟨hps, hU.row.2.2, dcOk_started bs⟩⟩, hW, ⟨⟨h1, Nat.ne_of_lt hg0⟩, ⟨h2, Nat.ne_of_lt hl0⟩, ⟨h3, hm0⟩, hgn, hU.mg, hU.mb, hU.nc, fun i hi => ⟨(hU.wd i hi).1, (hU.wd i hi).2.1, (hU.wd i hi).2.2, h4 i hi, Nat.ne_of_lt (hU.win.old hi)⟩⟩⟩
  refine ⟨rfl, ⟨?_, Nat.le_refl _, Nat.le_add_right _ _, ⟨hz.lc, hz.lp, hz.pb, hz.dict, Nat.le_refl _, hz.st, hz.r0, hz.r1, hz.r2, hz.r3, hz.len⟩, fun hh => absurd hh (Nat.lt_irrefl _), rfl, rfl, fun j j1 j2 => absurd j2 (Nat.not_lt.2 j1)⟩, hOall⟩
  show Lw _ _ _ (Lzs.cut { z with ended := false, bad := false } (Lzs.out { z with ended := false, bad := false }).length) _ (z.out.length - z.out.length)
  rw [cut_all, Nat.sub_self]
  exact hLw
end
end Go.Proofs.YtoencondpbkomaaGreatDoor

/-
  The program's decoder of LZMA over any source: whether no packet has more to tell and the decoder of ranges is done; back to rest.
-/
namespace Go.Proofs.YtoencondpbkomaaGreatDoor
open Go.RowKit

theorem pd_cells {S : Sc} {w : World} {g : Nat} {bs s : List UInt8} {r c : Nat} (h : Pd w g S bs (some (r, c, s))) : Blk w g 228 (pdCells S.f r c false) := by
  obtain ⟨at_, r', c', bad, hB, _, _, _, _, _, h⟩ := h
  rcases h with ⟨_, h⟩ | ⟨rfl, h⟩
  · cases h
  · injection h with h
    injection h with h1 h
    injection h with h2 h
    subst h1 h2
    exact hB
theorem pd_cells_bad {S : Sc} {w : World} {g : Nat} {bs : List UInt8} (h : Pd w g S bs none) : ∃ r c, Blk w g 228 (pdCells S.f r c true) := by
  obtain ⟨at_, r', c', bad, hB, _, _, _, _, _, h⟩ := h
  rcases h with ⟨rfl, h⟩ | ⟨rfl, h⟩
  · exact ⟨r', c', hB⟩
  · cases h
def doneX : Dc → Bool
  | none => false
  | some (_, c, _) => decide (c = 0)
theorem ldone_any {S : Sc} {w : World} {g : Nat} {bs : List UInt8} {d : Dc} (h : Pd w g S bs d) : Calls Tryz.prog 147 #[.pointer (some ⟨g, 0, none⟩)] w fun e w' => e = .returned (.bool (doneX d)) ∧ w = w' := by
  cases d with
  | none =>
    obtain ⟨r, c, hB⟩ := pd_cells_bad h
    exact done_any hB
  | some x => exact done_any (pd_cells h)

section
variable {K : Kon} {w w' : World} {Gw : Nat → Prop} {zf : Lzs} {tf : Pm Dc} {n : Nat}
/-- back to rest -/
theorem Lw.rest {z : Lzs} {t : Pm Dc} {left : Nat} (h : Lw K w Gw z t left) : Lrest K w Gw z t.ps (.iface 103 (.pointer (some ⟨K.S.f, 0, none⟩))) (.pointer (some ⟨K.dg, 0, none⟩)) (.int .i64 (left : Int)) (.bool z.ended) (.bool z.bad) :=
  ⟨h.mch.row, h.win, h.ap.gn, h.ap.mg, h.ap.mb, h.ap.nc, fun i hi => ⟨(h.ap.wd i hi).1, (h.ap.wd i hi).2.1, (h.ap.wd i hi).2.2.1⟩, Nat.lt_trans h.ap.ml.2 h.mch.pd.lt⟩

set_option maxRecDepth 100000 in
set_option maxHeartbeats 2000000 in
theorem zwhole_any (h : Nx K w Gw zf tf n) (hn : n ≤ 1000000) :
    Calls Tryz.prog 110 #[.pointer (some ⟨K.g, 0, none⟩)] w fun e w' => e = .returned (.bool (decide (n = zf.out.length) && doneX tf.x)) ∧ w = w' := by
  have KM := lmay_any h.lw
  have xl := h.lw.f.left
  have x5 := h.lw.f.c5
  have hb : (zf.cut n).bad = false := h.bad
  rw [hb] at KM
  have KD := Lib.hid (ldone_any h.lw.mch.pd)
  by_cases hlt : n < zf.out.length
  · rw [live_bad (h.live hlt)] at KM
    have KM := Lib.hid KM
    rw [decide_eq_false (show ¬ n = zf.out.length by omega)]
    obtain ⟨l, hl⟩ : ∃ l, l = zf.out.length - n := ⟨_, rfl⟩
    rw [← hl] at xl
    have hl0 : ¬ (l : Int) = 0 := by omega
    have hl1 : ((l : Int) == 0) = false := by simp; omega
    clear h hb hl hlt hn
    go_enter Tryz.func110, Tryz.ntmps110
    go_wp2_with fail
    refine KM.out.mono ?_
    rintro e w1 ⟨rfl, rfl⟩
    clear KM
    go_wp2_with fail
    go_ret
    exact ⟨rfl, rfl⟩
  · obtain rfl : n = zf.out.length := by have := h.le; omega
    rw [Nat.sub_self] at xl
    rw [decide_eq_true rfl, Bool.true_and]
    cases hx : tf.x with
    | none =>
      rw [dead_bad hx] at KM
      have KM := Lib.hid KM
      clear h hb hlt hn hx KD
      go_enter Tryz.func110, Tryz.ntmps110
      go_wp2_with fail
      refine KM.out.mono ?_
      rintro e w1 ⟨rfl, rfl⟩
      clear KM
      go_wp2_with fail
      go_ret
      exact ⟨rfl, rfl⟩
    | some x =>
      rw [live_bad (by rw [hx]; simp)] at KM
      have KM := Lib.hid KM
      rw [hx] at KD
      generalize doneX (some x) = b at *
      clear h hb hlt hn hx
      go_enter Tryz.func110, Tryz.ntmps110
      go_wp2_with fail
      refine KM.out.mono ?_
      rintro e w1 ⟨rfl, rfl⟩
      clear KM
      go_wp2_with fail
      refine KD.out.mono ?_
      rintro e w1 ⟨rfl, rfl⟩
      go_wp2_with fail
      go_ret
      exact ⟨rfl, rfl⟩
end
end Go.Proofs.YtoencondpbkomaaGreatDoor

/-
  The program's decoder of LZMA at rest: state, distances and probabilities begin anew, by a setting that may want fewer literals' probabilities.
-/
namespace Go.Proofs.YtoencondpbkomaaGreatDoor
open Go.RowKit

def Kon.full (K : Kon) : Kon := { K with nl := K.nc }
def Kon.less (K : Kon) (n : Nat) (d : Int) : Kon := { K with nl := n, sd := d }
theorem Rk.full {K : Kon} {fs : List Value} {w : World} {ps : List Nat} (h : Rk K fs w ps) : ∃ ps2, Rk K.full fs w ps2 := by
  obtain ⟨h1, ⟨rs, h2, h3⟩, h4⟩ := h
  have hd : (ps ++ rs).drop 1847 = ps.drop 1847 ++ rs := by rw [List.drop_append_of_le_length (by omega)]
  refine ⟨ps ++ rs, h1.same (fun a ha => ?_), ⟨[], ?_, ?_⟩, ?_⟩
  · simp only [List.getD]
    rw [List.getElem?_append_left (by omega)]
  · rw [hd, List.append_nil]
    exact h2
  · rw [hd, List.append_nil]
    exact h3
  · rw [List.length_append, List.length_drop] at h3
    show (ps ++ rs).length = 1847 + K.nc
    rw [List.length_append]
    omega
theorem Rk.less {K : Kon} {fs : List Value} {w : World} {ps : List Nat} {n : Nat} {d : Int} (h : Rk K.full fs w ps) (hn : n ≤ K.nc) (hp : ∀ i, i < 1847 + n → ps.getD i 0 = 1024) : Rk (K.less n d) fs w (List.replicate (1847 + n) 1024) := by
  obtain ⟨h1, ⟨rs, h2, h3⟩, h4⟩ := h
  have h4 : ps.length = 1847 + K.nc := h4
  have hr0 : rs = [] := by
    rw [List.length_append, List.length_drop] at h3
    have h3 : ps.length - 1847 + rs.length = K.nc := h3
    exact List.length_eq_zero_iff.1 (by omega)
  subst hr0
  rw [List.append_nil] at h2
  have hps : ps = List.replicate (1847 + n) 1024 ++ ps.drop (1847 + n) := by
    have ht : ps.take (1847 + n) = List.replicate (1847 + n) 1024 := by
      refine List.ext_getElem (by simp; omega) (fun i a b => ?_)
      have hi : i < 1847 + n := by simp at b; omega
      have := hp i hi
      simp only [List.getD, List.getElem?_eq_getElem (show i < ps.length by omega), Option.getD_some] at this
      rw [List.getElem_take, List.getElem_replicate, this]
    rw [← ht, List.take_append_drop]
  have hd : ps.drop 1847 = (List.replicate (1847 + n) 1024).drop 1847 ++ ps.drop (1847 + n) := by
    conv => lhs; rw [hps]
    rw [List.drop_append_of_le_length (by simp)]
  refine ⟨h1.same (fun a ha => ?_), ⟨ps.drop (1847 + n), ?_, ?_⟩, by simp; rfl⟩
  · rw [hp a (by omega)]
    simp only [List.getD, List.getElem?_replicate]
    rw [if_pos (by omega)]
    rfl
  · rw [← hd]
    exact h2
  · rw [← hd, List.length_drop]
    show ps.length - 1847 = K.nc
    omega

end Go.Proofs.YtoencondpbkomaaGreatDoor
