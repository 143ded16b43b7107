/-
  ZqHead, ZqSet: put together.
-/
import Derived.Test.YtoencondpbkomaaGreatDoorT24
import Derived.Test.YtoencondpbkomaaGreatDoorT25
import Derived.Deep.RegionHeld3
set_option linter.unusedVariables false
set_option linter.unusedSimpArgs false
/-
  The decoder of LZMA2: a byte is put, the window is emptied, what a chunk brings is anew; a setting is read.
-/
namespace Go.Proofs.YtoencondpbkomaaGreatDoor
open Go.RowKit
set_option linter.unusedVariables false

section
variable {K0 K : Kon} {d f lo D : Nat} {all r : List UInt8} {w w' w0 w1 : World} {Gw ex S G1 : Nat → Prop} {s s' : Ds} {z z' : Lzs} {ps ps' : List Nat} {v4 v5 v16 v17 v18 : Value}
theorem Lrest.rz (h : Lrest K w Gw z ps v4 v5 v16 v17 v18) (hs : K.sz ≤ 1048576) : Rz K w Gw z.out (restFs K z v4 v5 v16 v17 v18) ps :=
  ⟨h.row, h.win, rfl, rfl, rfl, h.gn, h.mg, h.mb, h.wd, hs, h.mo⟩
theorem Rz.lrest {out : List UInt8} (h : Rz K w Gw out (restFs K z v4 v5 v16 v17 v18) ps) (hn : K.nl ≤ K.nc ∧ K.nc ≤ 1000000) : Lrest K w Gw { z with out := out } ps v4 v5 v16 v17 v18 :=
  ⟨h.row, h.win, h.gn, h.mg, h.mb, hn, h.wd, h.mo⟩
/-- at rest, behind a call of the decoder of packets -/
def TurnPost (K0 : Kon) (d f lo : Nat) (all : List UInt8) (w : World) (Gw ex : Nat → Prop) (v : Value) (s : Ds) (r : List UInt8) (z : Lzs) (ps : List Nat) (e : Ending) (w' : World) : Prop :=
  e = .returned v ∧ ∃ Gw', Idl K0 d f lo all w' Gw' s r z ps ∧ Q2x K0 d f lo w' Gw' (fun _ => False) ∧ (∀ i, Gw' i → Gw i ∨ w.heap.size ≤ i) ∧ Only (own2 K0 d f Gw ex) w w'
/-- the decoder of packets turns at rest -/
theorem Idl.turn (hx : Q2x K0 d f lo w Gw ex) (h : Idl K0 d f lo all w Gw s r z ps) (hk : Ks K0 K) (hr : Lrest K w' G1 z' ps' v4 v5 v16 v17 v18) (hG : ∀ i, G1 i → Gw i ∨ w.heap.size ≤ i) (hO : Only (fun i => i = K0.g ∨ i = K0.lb ∨ Gw i) w w') :
    Idl K0 d f lo all w' G1 s r z' ps' ∧ Q2x K0 d f lo w' G1 (fun _ => False) ∧ Only (own2 K0 d f Gw ex) w w' := by
  have h1 := hx.gl
  have h2 := hx.ll
  have h3 := hx.dl
  have h4 := hx.lf
  have h5 := hx.dg
  refine ⟨⟨h.rd.only hO ?_ ?_, K, v4, v5, v16, v17, v18, hk, hr⟩, hx.turn hG (fun i hi => hi.elim) hO ?_, hO.mono (fun i hi => ?_)⟩
  · rintro (e | e | e)
    · exact h5.1 e
    · exact h5.2.1 e
    · exact (hx.wd d e).2.1 rfl
  · rintro i (rfl | rfl | e)
    · exact .inl h1.2
    · exact .inl h2.2
    · exact (hx.wd i e).2.2
  · rintro (e | e | e)
    · omega
    · omega
    · have := (hx.wd 0 e).1; omega
  · rcases hi with e | e | e
    · exact .inr (.inr (.inl e))
    · exact .inr (.inr (.inr (.inl e)))
    · exact .inr (.inr (.inr (.inr (.inl e))))
theorem idl_put (hx : Q2x K0 d f lo w Gw ex) (h : Idl K0 d f lo all w Gw s r z ps) (b : UInt8) (ho : z.out.length ≤ 1000000) :
    Calls Tryz.prog 77 #[.pointer (some ⟨K0.g, 0, none⟩), .int .u8 (b.toNat : Int)] w (TurnPost K0 d f lo all w Gw ex (.tuple #[]) s r { z with out := z.out ++ [b] } ps) := by
  obtain ⟨K, v4, v5, v16, v17, v18, hk, hr⟩ := h.rs
  have := zput_one (b := b) (hr.rz (by rw [hk.sz]; exact hx.sz)) ho
  rw [hk.g] at this
  refine this.mono ?_
  rintro e w' ⟨rfl, G1, hz, hG, hO⟩
  rw [hk.g] at hO
  obtain ⟨a1, a2, a3⟩ := h.turn hx hk (hz.lrest hr.nc) hG (hO.mono fun i hi => hi.elim .inl (fun e => .inr (.inr e)))
  exact ⟨rfl, G1, a1, a2, hG, a3⟩
theorem idl_empty (hx : Q2x K0 d f lo w Gw ex) (h : Idl K0 d f lo all w Gw s r z ps) :
    Calls Tryz.prog 74 #[.pointer (some ⟨K0.g, 0, none⟩)] w (TurnPost K0 d f lo all w Gw ex (.tuple #[]) s r { z with out := [] } ps) := by
  obtain ⟨K, v4, v5, v16, v17, v18, hk, hr⟩ := h.rs
  have := zempty_one (hr.rz (by rw [hk.sz]; exact hx.sz))
  rw [hk.g] at this
  refine this.mono ?_
  rintro e w' ⟨rfl, G1, hz, hG, hO⟩
  rw [hk.g] at hO
  obtain ⟨a1, a2, a3⟩ := h.turn hx hk (hz.lrest hr.nc) hG (hO.mono fun i hi => hi.elim .inl (fun e => .inr (.inr e)))
  exact ⟨rfl, G1, a1, a2, hG, a3⟩
theorem pow_four {a b : Nat} (h : a + b ≤ 4) : 768 * 2 ^ (a + b) ≤ 12288 := by
  have : 2 ^ (a + b) ≤ 2 ^ 4 := Nat.pow_le_pow_right (by omega) h
  omega
theorem idl_reset (hx : Q2x K0 d f lo w Gw ex) (h : Idl K0 d f lo all w Gw s r z ps) {lc lp pb : Nat} {dd : Int} (h1 : lc + lp ≤ 4) (h3 : pb ≤ 4) :
    Calls Tryz.prog 70 #[.pointer (some ⟨K0.g, 0, none⟩), .agg #[.int .i64 (lc : Int), .int .i64 (lp : Int), .int .i64 (pb : Int), .int .i64 dd]] w
      (TurnPost K0 d f lo all w Gw ex (.tuple #[]) s r (z.anew lc lp pb) (List.replicate (1847 + 768 * 2 ^ (lc + lp)) 1024)) := by
  obtain ⟨K, v4, v5, v16, v17, v18, hk, hr⟩ := h.rs
  have := zreset_any (d := dd) (lc := lc) (lp := lp) (pb := pb) (by omega) (by omega) h3 rfl (by rw [hk.nc, hx.nc]; exact pow_four h1) hr
  rw [hk.g] at this
  refine this.mono ?_
  rintro e w' ⟨rfl, hz, hO⟩
  obtain ⟨a1, a2, a3⟩ := h.turn hx (hk.trans (Ks.less K _ _)) hz (fun i hi => .inl hi) (hO.mono fun i hi => by
    rcases hi with e | e
    · exact .inl (e.trans hk.g)
    · exact .inr (.inl (e.trans hk.lb)))
  exact ⟨rfl, Gw, a1, a2, fun i hi => .inl hi, a3⟩
theorem TurnPost.trans {v' : Value} {e' : Ending} {G1 : Nat → Prop} (hG : ∀ i, G1 i → Gw i ∨ w.heap.size ≤ i) (hO : Only (own2 K0 d f Gw ex) w w1)
    (h' : TurnPost K0 d f lo all w1 G1 (fun _ => False) v' s' r z' ps' e' w') : TurnPost K0 d f lo all w Gw ex v' s' r z' ps' e' w' := by
  obtain ⟨he, G2, a1, a2, a3, a4⟩ := h'
  have hs := hO.size
  refine ⟨he, G2, a1, a2, fun i hi => ?_, hO.trans' a4 (fun i hi => ?_)⟩
  · rcases a3 i hi with e | e
    · exact hG i e
    · exact .inr (by omega)
  · rcases hi with e | e | e | e | e | e
    · exact .inl (.inl e)
    · exact .inl (.inr (.inl e))
    · exact .inl (.inr (.inr (.inl e)))
    · exact .inl (.inr (.inr (.inr (.inl e))))
    · rcases hG i e with h | h
      · exact .inl (.inr (.inr (.inr (.inr (.inl h)))))
      · exact .inr h
    · exact e.elim

theorem Idl.drawn (h : Idl K0 d f lo all w Gw s r z ps) (k : Nat) : Idl K0 d f lo all (w.drewN k) Gw s r z ps := by
  obtain ⟨K, v4, v5, v16, v17, v18, hk, hr⟩ := h.rs
  have hO : Only (fun _ => False) w (w.drewN k) := (Only.refl _ w).drewN k
  exact ⟨h.rd.only hO (fun e => e) (fun _ e => e.elim), K, v4, v5, v16, v17, v18, hk, hr.only hO (fun e => e) (fun e => e) (fun _ _ e => e)⟩
theorem Q2x.drawn (h : Q2x K0 d f lo w Gw ex) (k : Nat) : Q2x K0 d f lo (w.drewN k) Gw ex := h.only ((Only.refl (fun _ => False) w).drewN k) (fun e => e)
theorem Only.drawn_of {T : Nat → Prop} {k : Nat} (h : Only T (w.drewN k) w') : Only T w w' := Only.of_drewN h
theorem put_nd (hx : Q2x K0 d f lo w Gw ex) (h : Idl K0 d f lo all w Gw s r z ps) (n : Nat) (hn : n ≤ 7) : Idl K0 d f lo all (w.setCell ⟨d, 4, none⟩ (.int .u8 (n : Int))) Gw { s with nd := n } r z ps :=
  h.read hx (h.rd.put (q' := ⟨{ s with nd := n }, r, []⟩) 4 (.int .u8 (n : Int)) rfl rfl rfl (.inr hn)) (((Only.refl (fun i => i = d ∨ i = f) w).setCell (p := ⟨d, 4, none⟩) (.inl (.inl rfl)) _))
set_option maxRecDepth 100000 in
set_option maxHeartbeats 8000000 in
/-- what a chunk brings is anew, and nothing is needed any more -/
theorem zrenew_any (hx : Q2x K0 d f lo w Gw ex) (h : Idl K0 d f lo all w Gw s r z ps) {lc lp pb how : Nat} (hs : 1 ≤ how → s.a0 = (lc : Int) ∧ s.a1 = (lp : Int) ∧ s.a2 = (pb : Int)) (h1 : lc + lp ≤ 4) (h3 : pb ≤ 4) (hh : how ≤ 3) :
    Calls Tryz.prog 102 #[.pointer (some ⟨d, 0, none⟩), .int .u8 (bringN how : Int)] w (TurnPost K0 d f lo all w Gw ex (.tuple #[]) { s with nd := 0 } r (z.brought how (lc, lp, pb)) (psN ps how (lc, lp, pb))) := by
  have HX := Lib.hid (And.intro hx (And.intro h (And.intro h1 h3)))
  have HEE := Lib.hid hs
  have c0 : w.cell? ⟨d, 0, none⟩ = some (.pointer (some ⟨K0.g, 0, none⟩)) := h.rd.blk.cell 0
  have c5 : w.cell? ⟨d, 5, none⟩ = some (.int .i64 s.a0) := h.rd.blk.cell 5
  have c6 : w.cell? ⟨d, 6, none⟩ = some (.int .i64 s.a1) := h.rd.blk.cell 6
  have c7 : w.cell? ⟨d, 7, none⟩ = some (.int .i64 s.a2) := h.rd.blk.cell 7
  have c8 : w.cell? ⟨d, 8, none⟩ = some (.int .i64 s.a3) := h.rd.blk.cell 8
  have c4 : w.cell? ⟨d, 4, none⟩ = some (.int .u8 (s.nd : Int)) := h.rd.blk.cell 4
  have z4 : w.frozen? ⟨d, 4, none⟩ = false := h.rd.blk.free 4
  obtain rfl | hh : how = 0 ∨ (how = 1 ∨ how = 2) ∨ how = 3 := by omega
  · clear hs hh hx h h1 h3 c0 c5 c6 c7 c8
    rw [show ((bringN 0 : Nat) : Int) = 0 from rfl]
    go_enter Tryz.func102, Tryz.ntmps102
    go_wp2_with fail
    first | go_end0 | refine bodyPost_ret (results_none rfl _ _ _) rfl ?_
    obtain ⟨hx, h, h1, h3⟩ := HX.out
    have hO := (Only.refl (fun i => i = d ∨ i = f) w).setCell (p := ⟨d, 4, none⟩) (.inl (.inl rfl)) (.int .u8 0)
    exact ⟨rfl, Gw, put_nd hx h 0 (by decide), hx.turn (fun i hi => .inl hi) (fun i hi => hi.elim) hO (df0 hx), fun i hi => .inl hi, hO.mono (own_df K0 d f Gw ex)⟩
  rcases hh with (rfl | rfl) | rfl
  · obtain ⟨e0, e1, e2⟩ := hs (by decide)
    have HE := Lib.hid (hs (by decide))
    clear HEE
    rw [e0] at c5
    rw [e1] at c6
    rw [e2] at c7
    have KR := Lib.hid (fun k => idl_reset (lc := lc) (lp := lp) (pb := pb) (dd := s.a3) (hx.drawn k) (h.drawn k) h1 h3)
    clear hs hx h h1 h3 e0 e1 e2 c4 z4
    rw [show ((bringN 1 : Nat) : Int) = 4 from rfl]
    go_enter Tryz.func102, Tryz.ntmps102
    go_wp2_with fail
    go_region_held3 (fun W => W.cell? ⟨d, 0, none⟩ = some (.pointer (some ⟨K0.g, 0, none⟩)) ∧ W.cell? ⟨d, 5, none⟩ = some (.int .i64 (lc : Int)) ∧ W.cell? ⟨d, 6, none⟩ = some (.int .i64 (lp : Int)) ∧ W.cell? ⟨d, 7, none⟩ = some (.int .i64 (pb : Int)) ∧ W.cell? ⟨d, 8, none⟩ = some (.int .i64 s.a3)) (first | assumption | go_keep | exact HD.out) (first | (go_at_call 70; refine (KR.out _).mono ?_; rintro e w1 ⟨rfl, G1, hi1, hx1, hg1, ho1⟩; have HD := Lib.hid (show w1.cell? ⟨d, 0, none⟩ = some (.pointer (some ⟨K0.g, 0, none⟩)) ∧ w1.cell? ⟨d, 5, none⟩ = some (.int .i64 (lc : Int)) ∧ w1.cell? ⟨d, 6, none⟩ = some (.int .i64 (lp : Int)) ∧ w1.cell? ⟨d, 7, none⟩ = some (.int .i64 (pb : Int)) ∧ w1.cell? ⟨d, 8, none⟩ = some (.int .i64 s.a3) from ⟨hi1.rd.blk.cell 0, by have := hi1.rd.blk.cell 5; exact this.trans (by rw [← HE.out.1]; rfl), by have := hi1.rd.blk.cell 6; exact this.trans (by rw [← HE.out.2.1]; rfl), by have := hi1.rd.blk.cell 7; exact this.trans (by rw [← HE.out.2.2]; rfl), hi1.rd.blk.cell 8⟩); have HI := Lib.hid (And.intro hi1 (And.intro hx1 (And.intro hg1 ho1))); clear hi1 hx1 hg1 ho1))
    have c4 : w1.cell? ⟨d, 4, none⟩ = some (.int .u8 (s.nd : Int)) := HI.out.1.rd.blk.cell 4
    have z4 : w1.frozen? ⟨d, 4, none⟩ = false := HI.out.1.rd.blk.free 4
    go_wp2_with fail
    first | go_end0 | refine bodyPost_ret (results_none rfl _ _ _) rfl ?_
    obtain ⟨hi1, hx1, hg1, ho1⟩ := HI.out
    have hO := (Only.refl (fun i => i = d ∨ i = f) w1).setCell (p := ⟨d, 4, none⟩) (.inl (.inl rfl)) (.int .u8 0)
    exact ⟨rfl, G1, put_nd hx1 hi1 0 (by decide), hx1.turn (fun i hi => .inl hi) (fun i hi => hi.elim) hO (df0 hx1), hg1, (Only.drawn_of ho1).trans (hO.mono (own_df K0 d f Gw ex))⟩
  · obtain ⟨e0, e1, e2⟩ := hs (by decide)
    have HE := Lib.hid (hs (by decide))
    clear HEE
    rw [e0] at c5
    rw [e1] at c6
    rw [e2] at c7
    have KR := Lib.hid (fun k => idl_reset (lc := lc) (lp := lp) (pb := pb) (dd := s.a3) (hx.drawn k) (h.drawn k) h1 h3)
    clear hs hx h h1 h3 e0 e1 e2 c4 z4
    rw [show ((bringN 2 : Nat) : Int) = 6 from rfl]
    go_enter Tryz.func102, Tryz.ntmps102
    go_wp2_with fail
    go_region_held3 (fun W => W.cell? ⟨d, 0, none⟩ = some (.pointer (some ⟨K0.g, 0, none⟩)) ∧ W.cell? ⟨d, 5, none⟩ = some (.int .i64 (lc : Int)) ∧ W.cell? ⟨d, 6, none⟩ = some (.int .i64 (lp : Int)) ∧ W.cell? ⟨d, 7, none⟩ = some (.int .i64 (pb : Int)) ∧ W.cell? ⟨d, 8, none⟩ = some (.int .i64 s.a3)) (first | assumption | go_keep | exact HD.out) (first | (go_at_call 70; refine (KR.out _).mono ?_; rintro e w1 ⟨rfl, G1, hi1, hx1, hg1, ho1⟩; have HD := Lib.hid (show w1.cell? ⟨d, 0, none⟩ = some (.pointer (some ⟨K0.g, 0, none⟩)) ∧ w1.cell? ⟨d, 5, none⟩ = some (.int .i64 (lc : Int)) ∧ w1.cell? ⟨d, 6, none⟩ = some (.int .i64 (lp : Int)) ∧ w1.cell? ⟨d, 7, none⟩ = some (.int .i64 (pb : Int)) ∧ w1.cell? ⟨d, 8, none⟩ = some (.int .i64 s.a3) from ⟨hi1.rd.blk.cell 0, by have := hi1.rd.blk.cell 5; exact this.trans (by rw [← HE.out.1]; rfl), by have := hi1.rd.blk.cell 6; exact this.trans (by rw [← HE.out.2.1]; rfl), by have := hi1.rd.blk.cell 7; exact this.trans (by rw [← HE.out.2.2]; rfl), hi1.rd.blk.cell 8⟩); have HI := Lib.hid (And.intro hi1 (And.intro hx1 (And.intro hg1 ho1))); clear hi1 hx1 hg1 ho1))
    have c4 : w1.cell? ⟨d, 4, none⟩ = some (.int .u8 (s.nd : Int)) := HI.out.1.rd.blk.cell 4
    have z4 : w1.frozen? ⟨d, 4, none⟩ = false := HI.out.1.rd.blk.free 4
    go_wp2_with fail
    first | go_end0 | refine bodyPost_ret (results_none rfl _ _ _) rfl ?_
    obtain ⟨hi1, hx1, hg1, ho1⟩ := HI.out
    have hO := (Only.refl (fun i => i = d ∨ i = f) w1).setCell (p := ⟨d, 4, none⟩) (.inl (.inl rfl)) (.int .u8 0)
    exact ⟨rfl, G1, put_nd hx1 hi1 0 (by decide), hx1.turn (fun i hi => .inl hi) (fun i hi => hi.elim) hO (df0 hx1), hg1, (Only.drawn_of ho1).trans (hO.mono (own_df K0 d f Gw ex))⟩
  · obtain ⟨e0, e1, e2⟩ := hs (by decide)
    have HE := Lib.hid (hs (by decide))
    clear HEE
    have KE := Lib.hid (idl_empty hx h)
    clear hs hx h h1 h3 c4 z4 c5 c6 c7 c8
    rw [show ((bringN 3 : Nat) : Int) = 7 from rfl]
    go_enter Tryz.func102, Tryz.ntmps102
    go_wp2_with fail
    refine KE.out.mono ?_
    rintro e w1 ⟨rfl, G1, hi1, hx1, hg1, ho1⟩
    have c0 : w1.cell? ⟨d, 0, none⟩ = some (.pointer (some ⟨K0.g, 0, none⟩)) := hi1.rd.blk.cell 0
    have c5 : w1.cell? ⟨d, 5, none⟩ = some (.int .i64 (lc : Int)) := by have := hi1.rd.blk.cell 5; exact this.trans (by rw [← HE.out.1]; rfl)
    have c6 : w1.cell? ⟨d, 6, none⟩ = some (.int .i64 (lp : Int)) := by have := hi1.rd.blk.cell 6; exact this.trans (by rw [← HE.out.2.1]; rfl)
    have c7 : w1.cell? ⟨d, 7, none⟩ = some (.int .i64 (pb : Int)) := by have := hi1.rd.blk.cell 7; exact this.trans (by rw [← HE.out.2.2]; rfl)
    have c8 : w1.cell? ⟨d, 8, none⟩ = some (.int .i64 s.a3) := hi1.rd.blk.cell 8
    have KR := Lib.hid (fun k => idl_reset (lc := lc) (lp := lp) (pb := pb) (dd := s.a3) (hx1.drawn k) (hi1.drawn k) HX.out.2.2.1 HX.out.2.2.2)
    have HI1 := Lib.hid (And.intro hg1 ho1)
    clear hi1 hx1 hg1 ho1 KE e0 e1 e2
    go_wp2_with fail
    go_region_held3 (fun W => W.cell? ⟨d, 0, none⟩ = some (.pointer (some ⟨K0.g, 0, none⟩)) ∧ W.cell? ⟨d, 5, none⟩ = some (.int .i64 (lc : Int)) ∧ W.cell? ⟨d, 6, none⟩ = some (.int .i64 (lp : Int)) ∧ W.cell? ⟨d, 7, none⟩ = some (.int .i64 (pb : Int)) ∧ W.cell? ⟨d, 8, none⟩ = some (.int .i64 s.a3)) (first | assumption | go_keep | exact HD.out) (first | (go_at_call 70; refine (KR.out _).mono ?_; rintro e w2 ⟨rfl, G2, hi2, hx2, hg2, ho2⟩; have HD := Lib.hid (show w2.cell? ⟨d, 0, none⟩ = some (.pointer (some ⟨K0.g, 0, none⟩)) ∧ w2.cell? ⟨d, 5, none⟩ = some (.int .i64 (lc : Int)) ∧ w2.cell? ⟨d, 6, none⟩ = some (.int .i64 (lp : Int)) ∧ w2.cell? ⟨d, 7, none⟩ = some (.int .i64 (pb : Int)) ∧ w2.cell? ⟨d, 8, none⟩ = some (.int .i64 s.a3) from ⟨hi2.rd.blk.cell 0, by have := hi2.rd.blk.cell 5; exact this.trans (by rw [← HE.out.1]; rfl), by have := hi2.rd.blk.cell 6; exact this.trans (by rw [← HE.out.2.1]; rfl), by have := hi2.rd.blk.cell 7; exact this.trans (by rw [← HE.out.2.2]; rfl), hi2.rd.blk.cell 8⟩); have HI := Lib.hid (And.intro hi2 (And.intro hx2 (And.intro hg2 ho2))); clear hi2 hx2 hg2 ho2))
    have c4 : w2.cell? ⟨d, 4, none⟩ = some (.int .u8 (s.nd : Int)) := HI.out.1.rd.blk.cell 4
    have z4 : w2.frozen? ⟨d, 4, none⟩ = false := HI.out.1.rd.blk.free 4
    go_wp2_with fail
    first | go_end0 | refine bodyPost_ret (results_none rfl _ _ _) rfl ?_
    obtain ⟨hi2, hx2, hg2, ho2⟩ := HI.out
    have hO := (Only.refl (fun i => i = d ∨ i = f) w2).setCell (p := ⟨d, 4, none⟩) (.inl (.inl rfl)) (.int .u8 0)
    refine TurnPost.trans HI1.out.1 HI1.out.2 ⟨rfl, G2, put_nd hx2 hi2 0 (by decide), hx2.turn (fun i hi => .inl hi) (fun i hi => hi.elim) hO (df0 hx2), hg2, (Only.drawn_of ho2).trans (hO.mono (own_df K0 d f G1 (fun _ => False)))⟩
end
end Go.Proofs.YtoencondpbkomaaGreatDoor

/-
  The decoder of LZMA2: a setting is read.
-/
namespace Go.Proofs.YtoencondpbkomaaGreatDoor
open Go.RowKit
set_option linter.unusedVariables false

section
variable {w w' : World} {d g f lo : Nat} {q : Lq} {all : List UInt8}
theorem Rdr.quiet (h : Rdr w d g f lo all q) (hb : Below w.heap.size w w') : Rdr w' d g f lo all q := h.only (Only.of_below (S := fun _ => False) hb) (fun e => e) (fun _ e => e.elim)
theorem parse_set (x : UInt8) : parseOf [x, 0, 0, 0, 0] = if x.toNat < 225 then some (x.toNat % 9, x.toNat / 9 % 5, x.toNat / 45, 4096) else none := rfl
theorem set_some {x : UInt8} (h : x.toNat < 225) (h2 : x.toNat % 9 + x.toNat / 9 % 5 ≤ 4) : setN x = some (x.toNat % 9, x.toNat / 9 % 5, x.toNat / 45) := if_pos ⟨h, h2⟩
theorem set_none {x : UInt8} (h : ¬ (x.toNat < 225 ∧ x.toNat % 9 + x.toNat / 9 % 5 ≤ 4)) : setN x = none := if_neg h
theorem set_only {w0 w1 w5 w6 : World} {B : Nat} (h1 : Below B w0 w1) (hB : w0.heap.size = B) (h5 : Only (fun i => i = d ∨ i = f) w1 w5) (h6 : Only (fun i => i = B) w5 w6) : Only (fun i => i = d ∨ i = f) w0 w6 := by
  subst hB
  exact ((Only.of_below h1).trans h5).trans' h6 (fun i hi => .inr (Nat.le_of_eq hi.symm))
def SetPost (w : World) (d g f lo : Nat) (all : List UInt8) (q : Lq) (e : Ending) (w' : World) : Prop :=
  ∃ a0 a1 a2 a3 : Int, e = .returned (.agg #[.int .i64 a0, .int .i64 a1, .int .i64 a2, .int .i64 a3]) ∧ Only (fun i => i = d ∨ i = f) w w' ∧
    ((∃ s, setN q.b = some s ∧ a0 = (s.1 : Int) ∧ a1 = (s.2.1 : Int) ∧ a2 = (s.2.2 : Int) ∧ Rdr w' d g f lo all q.rd) ∨ (setN q.b = none ∧ Rdr w' d g f lo all q.rd.fail))

set_option maxRecDepth 100000 in
set_option maxHeartbeats 8000000 in
theorem qset_any (h : Rdr w d g f lo all q) (hfs : f < w.heap.size) :
    Calls Tryz.prog 101 #[.pointer (some ⟨d, 0, none⟩)] w (SetPost w d g f lo all q) := by
  obtain ⟨w1, hw1⟩ : ∃ w1, w1 = w.alloc (.cells #[.int .i64 0, .int .i64 0, .int .i64 0, .int .i64 0] 40) := ⟨_, rfl⟩
  have hb1 : Below w.heap.size w w1 := by rw [hw1]; exact (Below.refl _ _).alloc (Nat.le_refl _) _
  have hk1 : Blk w1 w.heap.size 40 #[.int .i64 0, .int .i64 0, .int .i64 0, .int .i64 0] := by rw [hw1]; exact Blk.fresh w _ _
  have KR := Lib.hid (qread_any (h.quiet hb1))
  have HW1 := Lib.hid hw1
  have H1 := Lib.hid (And.intro hb1 (And.intro (show d < w.heap.size from h.blk.lt) hfs))
  have HK1 := Lib.hid hk1
  clear h hb1 hk1 hw1 hfs
  go_enter Tryz.func101, Tryz.ntmps101
  go_upto_region 1 with fail
  rw [← HW1.out]
  clear HW1
  generalize hB : w.heap.size = B at *
  go_wp2_with fail
  refine KR.out.mono ?_
  rintro e w2 ⟨rfl, hR2, hO2⟩
  obtain ⟨hb1, hd1, hf1⟩ := H1.out
  have hk2 : Blk w2 B 40 #[.int .i64 0, .int .i64 0, .int .i64 0, .int .i64 0] := HK1.out.only hO2 (by omega)
  obtain ⟨q1, hq1⟩ : ∃ q1, q1 = q.rd := ⟨_, rfl⟩
  obtain ⟨x, hx⟩ : ∃ x, x = q.b := ⟨_, rfl⟩
  rw [← hq1] at hR2
  rw [← hx]
  have HQ := Lib.hid (And.intro hq1 hx)
  have hs5 : Sl (w2.alloc (.cells #[.int .u8 (x.toNat : Int), .int .u8 0, .int .u8 0, .int .u8 0, .int .u8 0] 5)) (some ⟨w2.heap.size, 0, none⟩) 5 (bv [x, 0, 0, 0, 0]) := sl_lit w2 5 (bv [x, 0, 0, 0, 0]).toArray (show 5 ≤ 1000000000 by decide)
  obtain ⟨w3, hw3⟩ : ∃ w3, w3 = w2.alloc (.cells #[.int .u8 (x.toNat : Int), .int .u8 0, .int .u8 0, .int .u8 0, .int .u8 0] 5) := ⟨_, rfl⟩
  have hb3 : Below w2.heap.size w2 w3 := by rw [hw3]; exact (Below.refl _ _).alloc (Nat.le_refl _) _
  rw [← hw3] at hs5
  have KP := Lib.hid (pparse_any (c := 5) (bs := [x, 0, 0, 0, 0]) rfl hs5 (show 5 ≤ 1000000000 by decide))
  have H3 := Lib.hid (And.intro hR2 (And.intro hO2 (And.intro hk2 hb3)))
  have HS := Lib.hid (show B < w2.heap.size from hk2.lt)
  have HW3 := Lib.hid hw3
  clear hq1 hx hs5 hw3 hb3 hR2 hO2 hk2 hb1 hd1 hf1 KR
  go_wp2_with fail
  rw [← HW3.out]
  refine KP.out.mono ?_
  rintro e w4 ⟨hb4, hr⟩
  rw [parse_set] at hr
  have hb24 : Below w2.heap.size w2 w4 := H3.out.2.2.2.trans (hb4.mono H3.out.2.2.2.size)
  have H4 := Lib.hid (And.intro hb24 (And.intro (H3.out.1.quiet hb24) (H3.out.2.2.1.below hb24)))
  clear hb4 hb24 KP HW3 HK1
  by_cases h225 : x.toNat < 225
  · rw [if_pos h225] at hr
    rcases hr with ⟨hr, _⟩ | ⟨lc, lp, pb, dict, hr, rfl⟩
    · exact (nomatch hr)
    obtain ⟨e1, e2, e3, e4⟩ : x.toNat % 9 = lc ∧ x.toNat / 9 % 5 = lp ∧ x.toNat / 45 = pb ∧ 4096 = dict := by
      injection hr with hr
      injection hr with a1 hr
      injection hr with a2 hr
      injection hr with a3 a4
      exact ⟨a1, a2, a3, a4⟩
    have HL := Lib.hid (show lc ≤ 8 ∧ lp ≤ 4 ∧ x.toNat < 225 from ⟨by omega, by omega, h225⟩)
    have HE := Lib.hid (And.intro e1 (And.intro e2 e3))
    clear hr e1 e2 e3 e4 h225
    have k2 : wrap64 ((lc : Int) + (lp : Int)) = (lc : Int) + (lp : Int) := IntWalk.wrap64_in _ (by have := HL.out; omega)
    go_upto_region 2 with fail
    obtain ⟨w5, hw5⟩ : ∃ w5, w5 = w4.alloc (.cells #[.int .i64 (lc : Int), .int .i64 (lp : Int), .int .i64 (pb : Int), .int .i64 (dict : Int)] 40) := ⟨_, rfl⟩
    have hb5 : Below w4.heap.size w4 w5 := by rw [hw5]; exact (Below.refl _ _).alloc (Nat.le_refl _) _
    have hk5 : Blk w5 w4.heap.size 40 #[.int .i64 (lc : Int), .int .i64 (lp : Int), .int .i64 (pb : Int), .int .i64 (dict : Int)] := by rw [hw5]; exact Blk.fresh w4 _ _
    rw [← hw5]
    clear hw5
    obtain ⟨B5, hB5⟩ : ∃ B5, B5 = w4.heap.size := ⟨_, rfl⟩
    rw [← hB5] at hk5 ⊢
    have hR5 := H4.out.2.1.quiet hb5
    have hkB := H4.out.2.2.below hb5
    have hO5 : Only (fun i => i = d ∨ i = f) w1 w5 := (H3.out.2.1.trans (Only.of_below (H4.out.1.trans (hb5.mono H4.out.1.size))))
    have H5 := Lib.hid (And.intro hR5 (And.intro hkB (And.intro hO5 trivial)))
    have f0 : w5.cell? ⟨B5, 0, none⟩ = some (.int .i64 (lc : Int)) := hk5.cell 0
    have f1 : w5.cell? ⟨B5, 1, none⟩ = some (.int .i64 (lp : Int)) := hk5.cell 1
    have f2 : w5.cell? ⟨B5, 2, none⟩ = some (.int .i64 (pb : Int)) := hk5.cell 2
    have f3 : w5.cell? ⟨B5, 3, none⟩ = some (.int .i64 (dict : Int)) := hk5.cell 3
    clear hb5 hk5 hB5 hR5 hkB hO5
    by_cases h4 : lc + lp ≤ 4
    · have g4 : ¬ (4 : Int) < (lc : Int) + (lp : Int) := by omega
      have HNS := Lib.hid (show setN q.b = some (lc, lp, pb) by rw [← HQ.out.2, ← HE.out.1, ← HE.out.2.1, ← HE.out.2.2]; exact set_some HL.out.2.2 (by rw [HE.out.1, HE.out.2.1]; exact h4))
      clear h4
      have b0 : w5.cell? ⟨B, 0, none⟩ = some (.int .i64 0) := H5.out.2.1.cell 0
      have b1 : w5.cell? ⟨B, 1, none⟩ = some (.int .i64 0) := H5.out.2.1.cell 1
      have b2 : w5.cell? ⟨B, 2, none⟩ = some (.int .i64 0) := H5.out.2.1.cell 2
      have b3 : w5.cell? ⟨B, 3, none⟩ = some (.int .i64 0) := H5.out.2.1.cell 3
      have y0 := H5.out.2.1.free 0
      have y1 := H5.out.2.1.free 1
      have y2 := H5.out.2.1.free 2
      have y3 := H5.out.2.1.free 3
      have hk6 := (((H5.out.2.1.put 0 (.int .i64 (lc : Int))).put 1 (.int .i64 (lp : Int))).put 2 (.int .i64 (pb : Int))).put 3 (.int .i64 (dict : Int))
      have hO6 := ((((Only.refl (fun i => i = B) w5).setCell (p := ⟨B, 0, none⟩) (.inl rfl) (.int .i64 (lc : Int))).setCell (p := ⟨B, 1, none⟩) (.inl rfl) (.int .i64 (lp : Int))).setCell (p := ⟨B, 2, none⟩) (.inl rfl) (.int .i64 (pb : Int))).setCell (p := ⟨B, 3, none⟩) (.inl rfl) (.int .i64 (dict : Int))
      have H6 := Lib.hid (And.intro hk6 hO6)
      clear hk6 hO6
      go_wp2_with fail
      have k0 := H6.out.1.cell 0
      have k1 := H6.out.1.cell 1
      have k2 := H6.out.1.cell 2
      have k3 := H6.out.1.cell 3
      refine bodyPost_ret (v := .agg #[.int .i64 (lc : Int), .int .i64 (lp : Int), .int .i64 (pb : Int), .int .i64 (dict : Int)]) (by simp [results, Tryz.results101, go_sem, k0, k1, k2, k3]) rfl ?_
      refine ⟨_, _, _, _, rfl, ?_, .inl ⟨_, HNS.out, rfl, rfl, rfl, ?_⟩⟩
      · exact set_only H1.out.1 hB H5.out.2.2.1 H6.out.2
      · rw [← HQ.out.1]
        exact H5.out.1.only H6.out.2 (by have := H1.out; show ¬ d = B; omega) (fun i hi => .inr (by have := H1.out; have hi : i = B := hi; omega))
    · have g4 : (4 : Int) < (lc : Int) + (lp : Int) := by omega
      have HNN := Lib.hid (show setN q.b = none by rw [← HQ.out.2]; exact set_none (fun h => h4 (by rw [HE.out.1, HE.out.2.1] at h; exact h.2)))
      clear h4
      have KF := Lib.hid (qfail_any H5.out.1.blk)
      go_wp2_with fail
      refine KF.out.mono ?_
      rintro e w6 ⟨rfl, hB6, hO6⟩
      have hkB := H5.out.2.1.only hO6 (by have := H1.out; show ¬ B = d; omega)
      have b0 : w6.cell? ⟨B, 0, none⟩ = some (.int .i64 0) := hkB.cell 0
      have b1 : w6.cell? ⟨B, 1, none⟩ = some (.int .i64 0) := hkB.cell 1
      have b2 : w6.cell? ⟨B, 2, none⟩ = some (.int .i64 0) := hkB.cell 2
      have b3 : w6.cell? ⟨B, 3, none⟩ = some (.int .i64 0) := hkB.cell 3
      have y0 := hkB.free 0
      have y1 := hkB.free 1
      have y2 := hkB.free 2
      have y3 := hkB.free 3
      have hk7 := (((hkB.put 0 (.int .i64 0)).put 1 (.int .i64 0)).put 2 (.int .i64 0)).put 3 (.int .i64 0)
      have hO7 := ((((Only.refl (fun i => i = B) w6).setCell (p := ⟨B, 0, none⟩) (.inl rfl) (.int .i64 0)).setCell (p := ⟨B, 1, none⟩) (.inl rfl) (.int .i64 0)).setCell (p := ⟨B, 2, none⟩) (.inl rfl) (.int .i64 0)).setCell (p := ⟨B, 3, none⟩) (.inl rfl) (.int .i64 0)
      have HF := Lib.hid (And.intro (rdr_failed H5.out.1 hB6) (hO6.mono (S' := fun i => i = d ∨ i = f) (fun i hi => .inl hi)))
      have H7 := Lib.hid (And.intro hk7 hO7)
      clear hB6 hO6 hkB hk7 hO7 KF
      go_wp2_with fail
      have k0 := H7.out.1.cell 0
      have k1 := H7.out.1.cell 1
      have k2 := H7.out.1.cell 2
      have k3 := H7.out.1.cell 3
      refine bodyPost_ret (v := .agg #[.int .i64 0, .int .i64 0, .int .i64 0, .int .i64 0]) (by simp [results, Tryz.results101, go_sem, k0, k1, k2, k3]) rfl ?_
      refine ⟨_, _, _, _, rfl, ?_, .inr ⟨HNN.out, ?_⟩⟩
      · exact set_only H1.out.1 hB (H5.out.2.2.1.trans HF.out.2) H7.out.2
      · rw [← HQ.out.1]
        exact HF.out.1.only H7.out.2 (by have := H1.out; show ¬ d = B; omega) (fun i hi => .inr (by have := H1.out; have hi : i = B := hi; omega))
  · rw [if_neg h225] at hr
    rcases hr with ⟨_, rfl⟩ | ⟨lc, lp, pb, dict, hr, _⟩
    · have HNN := Lib.hid (show setN q.b = none by rw [← HQ.out.2]; exact set_none (fun h => h225 h.1))
      clear h225
      go_upto_region 2 with fail
      obtain ⟨w5, hw5⟩ : ∃ w5, w5 = w4.alloc (.cells #[.int .i64 0, .int .i64 0, .int .i64 0, .int .i64 0] 40) := ⟨_, rfl⟩
      have hb5 : Below w4.heap.size w4 w5 := by rw [hw5]; exact (Below.refl _ _).alloc (Nat.le_refl _) _
      rw [← hw5]
      clear hw5
      have hR5 := H4.out.2.1.quiet hb5
      have hkB := H4.out.2.2.below hb5
      have hO5 : Only (fun i => i = d ∨ i = f) w1 w5 := (H3.out.2.1.trans (Only.of_below (H4.out.1.trans (hb5.mono H4.out.1.size))))
      have H5 := Lib.hid (And.intro hR5 (And.intro hkB (And.intro hO5 trivial)))
      clear hb5 hR5 hkB hO5
      have KF := Lib.hid (qfail_any H5.out.1.blk)
      go_wp2_with fail
      refine KF.out.mono ?_
      rintro e w6 ⟨rfl, hB6, hO6⟩
      have hkB := H5.out.2.1.only hO6 (by have := H1.out; show ¬ B = d; omega)
      have b0 : w6.cell? ⟨B, 0, none⟩ = some (.int .i64 0) := hkB.cell 0
      have b1 : w6.cell? ⟨B, 1, none⟩ = some (.int .i64 0) := hkB.cell 1
      have b2 : w6.cell? ⟨B, 2, none⟩ = some (.int .i64 0) := hkB.cell 2
      have b3 : w6.cell? ⟨B, 3, none⟩ = some (.int .i64 0) := hkB.cell 3
      have y0 := hkB.free 0
      have y1 := hkB.free 1
      have y2 := hkB.free 2
      have y3 := hkB.free 3
      have hk7 := (((hkB.put 0 (.int .i64 0)).put 1 (.int .i64 0)).put 2 (.int .i64 0)).put 3 (.int .i64 0)
      have hO7 := ((((Only.refl (fun i => i = B) w6).setCell (p := ⟨B, 0, none⟩) (.inl rfl) (.int .i64 0)).setCell (p := ⟨B, 1, none⟩) (.inl rfl) (.int .i64 0)).setCell (p := ⟨B, 2, none⟩) (.inl rfl) (.int .i64 0)).setCell (p := ⟨B, 3, none⟩) (.inl rfl) (.int .i64 0)
      have HF := Lib.hid (And.intro (rdr_failed H5.out.1 hB6) (hO6.mono (S' := fun i => i = d ∨ i = f) (fun i hi => .inl hi)))
      have H7 := Lib.hid (And.intro hk7 hO7)
      clear hB6 hO6 hkB hk7 hO7 KF
      go_wp2_with fail
      have k0 := H7.out.1.cell 0
      have k1 := H7.out.1.cell 1
      have k2 := H7.out.1.cell 2
      have k3 := H7.out.1.cell 3
      refine bodyPost_ret (v := .agg #[.int .i64 0, .int .i64 0, .int .i64 0, .int .i64 0]) (by simp [results, Tryz.results101, go_sem, k0, k1, k2, k3]) rfl ?_
      refine ⟨_, _, _, _, rfl, ?_, .inr ⟨HNN.out, ?_⟩⟩
      · exact set_only H1.out.1 hB (H5.out.2.2.1.trans HF.out.2) H7.out.2
      · rw [← HQ.out.1]
        exact HF.out.1.only H7.out.2 (by have := H1.out; show ¬ d = B; omega) (fun i hi => .inr (by have := H1.out; have hi : i = B := hi; omega))
    · exact (nomatch hr)
end
end Go.Proofs.YtoencondpbkomaaGreatDoor
