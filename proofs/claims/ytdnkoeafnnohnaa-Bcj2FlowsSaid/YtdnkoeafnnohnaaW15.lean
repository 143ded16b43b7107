/-
  B2DecsW, B2Flw, B2FlowsW: put together.
-/
import Derived.Test.YtdnkoeafnnohnaaW13
import Derived.Test.YtdnkoeafnnohnaaW14
import Derived.Test.YtdnkoeafnnohnaaW10
set_option linter.unusedVariables false
set_option linter.unusedSimpArgs false
/-
  The law Bcj2Decodes: its walk.
-/
namespace Go.Proofs.Ytdnkoeafnnohnaa
set_option linter.unusedVariables false
set_option linter.unusedSimpArgs false
open Go.RowKit

set_option maxRecDepth 100000 in
set_option maxHeartbeats 8000000 in
theorem bcj2Decodes_walk {A : Nat → Option Addr} {c : Nat → Nat} {l : Nat → List UInt8} {size : Int} {w : World} (hS : ∀ i, i < 4 → Sl w (A i) (l i).length (bv (l i)) ∧ (l i).length ≤ c i ∧ c i ≤ maxLen) (hsz : -9223372036854775808 ≤ size ∧ size ≤ 9223372036854775807) :
    Calls Try.prog 3 #[.agg (fourA A c l), .int .i64 size] w fun e w' => e = .returned (.bool true) ∧ Below w.heap.size w w' := by
  obtain ⟨wb, hwb⟩ : ∃ wb, wb = w.alloc (.cells (fourA A c l) 24) := ⟨_, rfl⟩
  have hb1 : Below w.heap.size w wb := by rw [hwb]; exact (Below.refl _ _).alloc (Nat.le_refl _) _
  have hB1 : Blk wb w.heap.size 24 (fourA A c l) := by rw [hwb]; exact Blk.fresh _ _ _
  have hs1 : w.heap.size < wb.heap.size := hB1.lt
  have HSS := Lib.hid (show ∀ W, Below wb.heap.size wb W → W.cell? ⟨w.heap.size, 0, none⟩ = some (.slice (A 0) (l 0).length (c 0)) ∧ W.cell? ⟨w.heap.size, 1, none⟩ = some (.slice (A 1) (l 1).length (c 1)) ∧
      W.cell? ⟨w.heap.size, 2, none⟩ = some (.slice (A 2) (l 2).length (c 2)) ∧ W.cell? ⟨w.heap.size, 3, none⟩ = some (.slice (A 3) (l 3).length (c 3)) from fun W hW => by
    have h := hB1.below hW
    exact ⟨h.cell 0, h.cell 1, h.cell 2, h.cell 3⟩)
  have HB := Lib.hid hb1
  have KA := Lib.hid (awake15_any wb)
  have HS := Lib.hid hS
  have q0 := (hS 0 (by decide)).2
  have q1 := (hS 1 (by decide)).2
  have q2 := (hS 2 (by decide)).2
  have q3 := (hS 3 (by decide)).2
  unfold maxLen at q0 q1 q2 q3
  have HW := hwb
  unfold fourA at HW
  have HWL := Lib.hid HW
  by_cases g : (l 0).length ≤ 16384 ∧ (l 1).length ≤ 16384 ∧ (l 2).length ≤ 16384 ∧ (l 3).length ≤ 16384
  case' neg =>
    clear hb1 hB1 hs1 hS HW hwb
    unfold fourA
    go_enter Try.func3, Try.ntmps3
    go_upto_region 1 with fail
    rw [← HWL.out]
    clear HWL
    go_wp2_with fail
    refine KA.out.mono ?_
    rintro e w1 ⟨rfl, hb⟩
    have HB1 := Lib.hid (HB.out.trans (hb.mono HB.out.size))
    have x := HSS.out w1 hb
    obtain ⟨x0, x1, x2, x3⟩ := x
    clear hb KA HB
    by_cases g0 : ((l 0).length : Int) > 16384
    · go_wp2_with fail
      go_ret
      exact ⟨rfl, HB1.out⟩
    by_cases g1 : ((l 1).length : Int) > 16384
    · go_wp2_with fail
      go_ret
      exact ⟨rfl, HB1.out⟩
    by_cases g2 : ((l 2).length : Int) > 16384
    · go_wp2_with fail
      go_ret
      exact ⟨rfl, HB1.out⟩
    have g3 : ((l 3).length : Int) > 16384 := by omega
    go_wp2_with fail
    go_ret
    exact ⟨rfl, HB1.out⟩
  case' pos =>
    obtain ⟨g0, g1, g2, g3⟩ := g
    have j0 : ¬ ((l 0).length : Int) > 16384 := by omega
    have j1 : ¬ ((l 1).length : Int) > 16384 := by omega
    have j2 : ¬ ((l 2).length : Int) > 16384 := by omega
    have j3 : ¬ ((l 3).length : Int) > 16384 := by omega
    have hF : FourOk wb A c l := ⟨fun i hi => (hS i hi).1.below hb1, fun i hi => (hS i hi).2, fun i hi => by
      have : i = 0 ∨ i = 1 ∨ i = 2 ∨ i = 3 := by omega
      rcases this with rfl | rfl | rfl | rfl <;> omega⟩
    obtain ⟨ans, hans⟩ : ∃ ans, ans = ansD l size.toNat := ⟨_, rfl⟩
    have KP := Lib.hid (fun W (hW : Below wb.heap.size wb W) => (b2dec_ans (A := A) (c := c) (size := size) (hF.below hW) (by omega) hans.symm))
    have KR := Lib.hid (fun W (hW : Below wb.heap.size wb W) => (rdecode_any (A := A) (c := c) (size := size) (hF.below hW) hans))
    unfold fourA at KP KR
    have HL := Lib.hid (And.intro g0 (And.intro (show ∀ o, ans = some o → o.length ≤ 100000 from fun o ho => by
      rw [hans] at ho
      have := (goR_len ho).1
      simp only [List.length_nil] at this
      omega) trivial))
    clear hb1 hB1 hs1 hS HW hwb hF hans g0 g1 g2 g3
    unfold fourA
    go_enter Try.func3, Try.ntmps3
    go_upto_region 1 with fail
    rw [← HWL.out]
    clear HWL
    go_wp2_with fail
    refine KA.out.mono ?_
    rintro e w1 ⟨rfl, hb⟩
    have HB1 := Lib.hid hb
    obtain ⟨x0, x1, x2, x3⟩ := HSS.out w1 hb
    clear hb KA
    go_wp2_with fail
    refine (KP.out _ HB1.out).mono ?_
    rintro e w2 ⟨hb2, hh⟩
    have HH := Lib.hid hh
    have HB2 := Lib.hid (HB1.out.trans (hb2.mono HB1.out.size))
    clear hb2 hh KP HB1 x0 x1 x2 x3
    obtain ⟨x0, x1, x2, x3⟩ := HSS.out w2 HB2.out
    rcases HH.out with ⟨hn, rfl⟩ | ⟨out, O, co, ho, rfl, hO⟩
    · clear HH
      go_wp2_with fail
      refine (KR.out _ HB2.out).mono ?_
      rintro e w3 ⟨hb3, hh⟩
      have HB3 := Lib.hid (HB2.out.trans (hb3.mono HB2.out.size))
      rcases hh with ⟨_, rfl⟩ | ⟨out, O, co, ho, _, _⟩
      case' inr => rw [hn] at ho; cases ho
      clear hb3 KR x0 x1 x2 x3
      go_wp2_with fail
      refine (bytesSame_any (bs := []) Sl.nil Sl.nil (by decide)).mono ?_
      rintro e w4 ⟨rfl, d4, rfl⟩
      go_wp2_with fail
      go_ret
      exact ⟨rfl, below_drewN (HB.out.trans (HB3.out.mono HB.out.size)) d4⟩
    · have HO := Lib.hid hO
      clear HH hO
      go_wp2_with fail
      refine (KR.out _ HB2.out).mono ?_
      rintro e w3 ⟨hb3, hh⟩
      have HB3 := Lib.hid (HB2.out.trans (hb3.mono HB2.out.size))
      rcases hh with ⟨hn, _⟩ | ⟨out2, O2, co2, ho2, rfl, hO2⟩
      case' inl => rw [ho] at hn; cases hn
      rw [ho] at ho2
      injection ho2 with ho2
      subst ho2
      have HO3 := Lib.hid (And.intro (HO.out.below hb3) (And.intro hO2 (HL.out.2.1 _ ho)))
      clear hb3 KR x0 x1 x2 x3 HO hO2
      go_wp2_with fail
      refine (bytesSame_any HO3.out.1 HO3.out.2.1 (by have := HO3.out.2.2; omega)).mono ?_
      rintro e w4 ⟨rfl, d4, rfl⟩
      go_wp2_with fail
      go_ret
      exact ⟨rfl, below_drewN (HB.out.trans (HB3.out.mono HB.out.size)) d4⟩
end Go.Proofs.Ytdnkoeafnnohnaa

/-
  A filter that has told none tells none again.
-/
namespace Go.Proofs.Ytdnkoeafnnohnaa
open Go.RowKit

section
variable {s : B2}
theorem bad_fin (h : s.bad = true) : s.fin = false := by
  unfold B2.fin
  unfold B2.bad at h
  cases hd : s.dead with
  | true => simp
  | false =>
    rw [hd] at h
    cases hx : s.d with
    | none => simp [end2]
    | some r => rw [hx] at h; cases h
theorem bad_open (h : s.bad = true) : s.open_.bad = true := by
  unfold B2.open_
  split
  · unfold B2.dec
    rw [if_pos h]
    exact h
  · exact h
theorem bad_draw (h : s.bad = true) : s.draw.2.bad = true := by
  unfold B2.draw
  split
  · rw [read_bad h]; exact h
  · exact h
theorem bad_next (h : s.bad = true) : s.next.1 = none ∧ s.next.2.fin = false ∧ s.next.2.bad = true := by
  unfold B2.next
  split
  · exact ⟨rfl, bad_fin h, h⟩
  · have := bad_draw (bad_open h)
    rw [if_pos this]
    exact ⟨rfl, bad_fin this, this⟩
/-- none again, and whether it ends as before -/
def Still (s : B2) : Prop := s.next.1 = none ∧ s.next.2.fin = s.fin
theorem still_of (h : s.next.1 = none) : Still s.next.2 := by
  by_cases h0 : s.left = 0
  · have e : s.next = (none, s) := by unfold B2.next; rw [if_pos h0]
    rw [e]
    exact ⟨by rw [e], by show s.next.2.fin = s.fin; rw [e]⟩
  · by_cases hb : s.open_.draw.2.bad = true
    · have e : s.next = (none, s.open_.draw.2) := by unfold B2.next; rw [if_neg h0, if_pos hb]
      rw [e]
      have := bad_next hb
      exact ⟨this.1, this.2.1.trans (bad_fin hb).symm⟩
    · have e : s.next.1 = some s.open_.draw.1 := by unfold B2.next; rw [if_neg h0, if_neg hb]
      rw [e] at h
      cases h
end
theorem Dh.rest {w w5 wr w' : World} {F g : Nat} {S : Nat → Sc} {l : Nat → List UInt8} {s : B2} {O : Option Addr} {co : Nat} {out : List UInt8} (h : Dh w w5 wr F g S l s O co out) (hw : w.heap.size ≤ w5.heap.size) (hb : Below wr.heap.size wr w') : Dh w w5 w' F g S l s O co out :=
  have hO := Only.of_below (S := fun _ => False) hb
  ⟨h.fl.only hO (fun _ h => h.elim), own_onlyV h.own hO (fun _ _ h => h), h.bel.trans (hb.mono h.bel.size), Nat.le_trans h.size hb.size⟩
end Go.Proofs.Ytdnkoeafnnohnaa

/-
  The law Bcj2Flows: its walk.
-/
namespace Go.Proofs.Ytdnkoeafnnohnaa
set_option linter.unusedVariables false
set_option linter.unusedSimpArgs false
open Go.RowKit

set_option maxRecDepth 100000 in
set_option maxHeartbeats 16000000 in
theorem bcj2Flows_walk {A : Nat → Option Addr} {c : Nat → Nat} {l : Nat → List UInt8} {size : Int} {w : World} (hS0 : ∀ i, i < 4 → Sl w (A i) (l i).length (bv (l i)) ∧ (l i).length ≤ c i ∧ c i ≤ maxLen) (hsz : -9223372036854775808 ≤ size ∧ size ≤ 9223372036854775807) :
    Calls Try.prog 6 #[.agg (fourA A c l), .int .i64 size] w fun e w' => e = .returned (.bool true) ∧ Below w.heap.size w w' := by
  obtain ⟨i8, hi8, hz0, hz1, hz2⟩ := info_parts info_u8
  obtain ⟨wb, hwb⟩ : ∃ wb, wb = w.alloc (.cells (fourA A c l) 24) := ⟨_, rfl⟩
  have hb1 : Below w.heap.size w wb := by rw [hwb]; exact (Below.refl _ _).alloc (Nat.le_refl _) _
  have hB1 : Blk wb w.heap.size 24 (fourA A c l) := by rw [hwb]; exact Blk.fresh _ _ _
  have hs1 : w.heap.size < wb.heap.size := hB1.lt
  have HSS := Lib.hid (show ∀ W, Below wb.heap.size wb W → W.cell? ⟨w.heap.size, 0, none⟩ = some (.slice (A 0) (l 0).length (c 0)) ∧ W.cell? ⟨w.heap.size, 1, none⟩ = some (.slice (A 1) (l 1).length (c 1)) ∧
      W.cell? ⟨w.heap.size, 2, none⟩ = some (.slice (A 2) (l 2).length (c 2)) ∧ W.cell? ⟨w.heap.size, 3, none⟩ = some (.slice (A 3) (l 3).length (c 3)) from fun W hW => by
    have h := hB1.below hW
    exact ⟨h.cell 0, h.cell 1, h.cell 2, h.cell 3⟩)
  have HB := Lib.hid hb1
  have KA := Lib.hid (awake15_any wb)
  have q0 := (hS0 0 (by decide)).2
  have q1 := (hS0 1 (by decide)).2
  have q2 := (hS0 2 (by decide)).2
  have q3 := (hS0 3 (by decide)).2
  unfold maxLen at q0 q1 q2 q3
  have HW := hwb
  unfold fourA at HW
  have HWL := Lib.hid HW
  by_cases g : (l 0).length ≤ 8192 ∧ (l 1).length ≤ 8192 ∧ (l 2).length ≤ 8192 ∧ (l 3).length ≤ 8192
  case' neg =>
    clear hb1 hB1 hs1 hS0 HW hwb
    unfold fourA
    go_enter Try.func6, Try.ntmps6
    go_upto_region 1 with fail
    rw [← HWL.out]
    clear HWL
    go_wp2_with fail
    refine KA.out.mono ?_
    rintro e w1 ⟨rfl, hb⟩
    have HB1 := Lib.hid (HB.out.trans (hb.mono HB.out.size))
    have x := HSS.out w1 hb
    obtain ⟨x0, x1, x2, x3⟩ := x
    clear hb KA HB
    by_cases g0 : ((l 0).length : Int) > 8192
    · go_wp2_with fail
      go_ret
      exact ⟨rfl, HB1.out⟩
    by_cases g1 : ((l 1).length : Int) > 8192
    · go_wp2_with fail
      go_ret
      exact ⟨rfl, HB1.out⟩
    by_cases g2 : ((l 2).length : Int) > 8192
    · go_wp2_with fail
      go_ret
      exact ⟨rfl, HB1.out⟩
    have g3 : ((l 3).length : Int) > 8192 := by omega
    go_wp2_with fail
    go_ret
    exact ⟨rfl, HB1.out⟩
  case' pos =>
    obtain ⟨g0, g1, g2, g3⟩ := g
    have j0 : ¬ ((l 0).length : Int) > 8192 := by omega
    have j1 : ¬ ((l 1).length : Int) > 8192 := by omega
    have j2 : ¬ ((l 2).length : Int) > 8192 := by omega
    have j3 : ¬ ((l 3).length : Int) > 8192 := by omega
    have hF : FourOk wb A c l := ⟨fun i hi => (hS0 i hi).1.below hb1, fun i hi => (hS0 i hi).2, fun i hi => by
      have : i = 0 ∨ i = 1 ∨ i = 2 ∨ i = 3 := by omega
      rcases this with rfl | rfl | rfl | rfl <;> omega⟩
    obtain ⟨ans, hans⟩ : ∃ ans, ans = goR size.toNat (l 0) ⟨l 1, l 2, started (l 3), List.replicate 258 1024⟩ [] 0 := ⟨_, rfl⟩
    have KR := Lib.hid (fun W (hW : Below wb.heap.size wb W) => (rdecode_new (A := A) (c := c) (size := size) (hF.below hW) hans))
    unfold fourA at KR
    have KS := Lib.hid (show ∀ k, k < 4 → ∀ W, Below wb.heap.size wb W → Calls Try.prog 16 #[.slice (A k) (l k).length (c k)] W (fun e w' => ∃ g, e = .returned (.pointer (some ⟨g, 0, none⟩)) ∧ (W.heap.size ≤ g ∧ Feed w' g W.heap.size (l k) 0) ∧ Only (fun _ => False) W w' ∧ Below wb.heap.size wb w') from fun k hk W hW => by
      refine (newFeed_any (c := c k) ((hF.sl k hk).below hW) (by have := hF.len k hk; omega)).mono ?_
      rintro e w' ⟨g, rfl, h1, h2, h3⟩
      exact ⟨g, rfl, ⟨h1, h2⟩, Only.of_below h3, hW.trans (h3.mono hW.size)⟩)
    have HH := Lib.hid (And.intro hF (And.intro hs1 (And.intro g0 (And.intro g1 g2))))
    have HANS := Lib.hid (And.intro hans (show size < 9223372036854775808 by omega))
    clear hb1 hB1 hs1 hS0 HW hwb hF hans g0 g1 g2 g3
    unfold fourA
    go_enter Try.func6, Try.ntmps6
    go_upto_region 1 with fail
    rw [← HWL.out]
    clear HWL
    go_wp2_with fail
    refine KA.out.mono ?_
    rintro e w1 ⟨rfl, hb⟩
    have HB0 := Lib.hid hb
    have x0 := HSS.out w1 hb
    obtain ⟨y0, y1, y2, y3⟩ := x0
    clear hb KA
    go_upto_region 5 with fail
    have x0 := HSS.out w1 HB0.out
    have K0 := Lib.hid (fun W (hW : Below wb.heap.size wb W) => KS.out 0 (by decide) W hW)
    have K1 := Lib.hid (fun W (hW : Below wb.heap.size wb W) => KS.out 1 (by decide) W hW)
    have K2_ := Lib.hid (fun W (hW : Below wb.heap.size wb W) => KS.out 2 (by decide) W hW)
    have K3 := Lib.hid (fun W (hW : Below wb.heap.size wb W) => KS.out 3 (by decide) W hW)
    clear KS y0 y1 y2 y3
    go_region_held3 (fun W => W.cell? ⟨w.heap.size, 0, none⟩ = some (.slice (A 0) (l 0).length (c 0)) ∧ W.cell? ⟨w.heap.size, 1, none⟩ = some (.slice (A 1) (l 1).length (c 1)) ∧ W.cell? ⟨w.heap.size, 2, none⟩ = some (.slice (A 2) (l 2).length (c 2)) ∧ W.cell? ⟨w.heap.size, 3, none⟩ = some (.slice (A 3) (l 3).length (c 3)))
      (first | assumption | go_keep | exact x0 | exact r1 | exact r2 | exact r3 | exact r4 | exact r5 | trivial)
      (first
      | (go_at_call 16; refine (K0.out _ (by first | exact HB0.out | exact below_drewN HB0.out _)).mono ?_; rintro e v1 ⟨f0, rfl, fd0, o0, b0⟩; have o0 : Only (fun _ => False) w1 v1 := (by first | exact o0.of_drewN | exact o0.of_drew | exact o0); have r1 := HSS.out v1 b0; have HB1 := Lib.hid b0; have HF1 := Lib.hid (And.intro fd0 o0); clear fd0 o0 b0 K0)
      | (go_at_call 16; refine (K1.out _ (by first | exact HB1.out | exact below_drewN HB1.out _)).mono ?_; rintro e v2 ⟨f1, rfl, fd1, o1, b1⟩; have o1 : Only (fun _ => False) v1 v2 := (by first | exact o1.of_drewN | exact o1.of_drew | exact o1); have r2 := HSS.out v2 b1; have HB2 := Lib.hid b1; have HF2 := Lib.hid (And.intro fd1 o1); clear fd1 o1 b1 K1)
      | (go_at_call 16; refine (K2_.out _ (by first | exact HB2.out | exact below_drewN HB2.out _)).mono ?_; rintro e v3 ⟨f2, rfl, fd2, o2, b2⟩; have o2 : Only (fun _ => False) v2 v3 := (by first | exact o2.of_drewN | exact o2.of_drew | exact o2); have r3 := HSS.out v3 b2; have HB3 := Lib.hid b2; have HF3 := Lib.hid (And.intro fd2 o2); clear fd2 o2 b2 K2_)
      | (go_at_call 16; refine (K3.out _ (by first | exact HB3.out | exact below_drewN HB3.out _)).mono ?_; rintro e v4 ⟨f3, rfl, fd3, o3, b3⟩; have o3 : Only (fun _ => False) v3 v4 := (by first | exact o3.of_drewN | exact o3.of_drew | exact o3); have r4 := HSS.out v4 b3; have HB4 := Lib.hid b3; have HF4 := Lib.hid (fds_of HF1.out.1 HF2.out.1 HF3.out.1 fd3 HF2.out.2 HF3.out.2 o3 rfl rfl rfl); clear fd3 o3 b3 K3)
      | (go_at_call 15; refine (b2make_any (size := size) (by first | exact HF4.out | exact HF4.out.drewN _) HANS.out.2).mono ?_; rintro e v5 ⟨rfl, g, hfl, hgg, hon⟩; have hon : Only (fun i => i = f3) v4 v5 := (by first | exact hon.of_drewN | exact hon.of_drew | exact hon); have r5 := cells4_only r4 hon (Nat.lt_of_lt_of_le HH.out.2.1 HB4.out.size) (Nat.lt_of_lt_of_le (Nat.lt_of_lt_of_le HH.out.2.1 HB3.out.size) (HF4.out.le 3 (by decide))); have HN := Lib.hid (And.intro hfl (And.intro hgg hon)); clear hfl hgg hon)
      | fail)
    obtain ⟨S, hS⟩ : ∃ S : Nat → Sc, S = fun k => fdSc (sel4 f0 f1 f2 f3 k) (sel4 w1.drew.heap.size v1.heap.size v2.heap.size v3.heap.size k) := ⟨_, rfl⟩
    obtain ⟨hfl, hgg, hon⟩ := HN.out
    rw [← hS] at hfl
    have hlo : ∀ k, k < 4 → wb.heap.size ≤ sel4 w1.drew.heap.size v1.heap.size v2.heap.size v3.heap.size k := fun k hk => by
      have h0 := HB0.out.size
      have h1 := HB1.out.size
      have h2 := HB2.out.size
      have h3 := HB3.out.size
      have : k = 0 ∨ k = 1 ∨ k = 2 ∨ k = 3 := by omega
      rcases this with rfl | rfl | rfl | rfl
      · exact h0
      · exact h1
      · exact h2
      · exact h3
    have hfi : ∀ k, k < 4 → sel4 f0 f1 f2 f3 k < v4.heap.size := fun k hk => (HF4.out.feed k hk).lt
    have hLow : Low wb v5 v4.heap.size g S := by
      have hb4 := HB4.out.size
      have hold := hfl.old
      have hg5 := (hfl.pd rfl).lt
      refine ⟨fun i hi => ?_, fun i hi => ?_⟩
      · rcases hi with rfl | rfl | ⟨k, hk, hi⟩
        · exact ⟨by omega, hold⟩
        · exact ⟨by omega, hg5⟩
        · rw [hS] at hi
          have hi : i = sel4 f0 f1 f2 f3 k := hi
          have h1 := hlo k hk
          have h2 := hfi k hk
          have h3 := HF4.out.le k hk
          rw [hi]
          exact ⟨by omega, by omega⟩
      · rcases hi with rfl | rfl | ⟨k, hk, hi⟩
        · exact hold
        · exact hg5
        · rw [hS] at hi
          have hi : _ ≤ i ∧ i ≤ sel4 f0 f1 f2 f3 k := hi
          have h2 := hfi k hk
          omega
    have hbel : Below wb.heap.size wb v5 := by
      refine HB4.out.trans (hon.below HB4.out.size (fun i hi => ?_))
      have h1 := hlo 3 (by decide)
      have h3 := HF4.out.le 3 (by decide)
      have h2 : i = sel4 f0 f1 f2 f3 3 := hi
      rw [h2]
      omega
    have hw5 : wb.heap.size ≤ v5.heap.size := hbel.size
    have hD0 : Dh wb v5 v5 v4.heap.size g S l (B2.new l size.toNat) none 0 [] := ⟨hfl, World.ownsRow_nil _ _ _ 1, hbel, Nat.le_refl _⟩
    have HD0 := Lib.hid hD0
    have HLOW := Lib.hid (And.intro hLow hw5)
    obtain ⟨M, hM⟩ : ∃ M, M = (l 0).length + (l 1).length + (l 2).length := ⟨_, rfl⟩
    have HM := Lib.hid (show M ≤ 24576 by
      have h0 := HH.out.2.2.1
      have h1 := HH.out.2.2.2.1
      have h2 := HH.out.2.2.2.2
      omega)
    have hA0 : ansB size.toNat (B2.new l size.toNat) [] = ans := (new_ans l size.toNat).trans HANS.out.1.symm
    have hM0 : ([] : List UInt8).length + (B2.new l size.toNat).mu ≤ M := by rw [new_mu, hM]; show 0 + _ ≤ _; omega
    have HI0 := Lib.hid (And.intro (new_in l size.toNat) (And.intro hA0 hM0))
    clear hfl hgg hon hlo hfi hLow hbel hw5 hD0 hM hA0 hM0 HN HF1 HF2 HF3 HF4 HB0 HB1 HB2 HB3 HB4 x0 r1 r2 r3 r4 r5 hS
    generalize v4.heap.size = F at *
    go_wp2_with fail
    go_loopw [6, 7] (fun o i wr => ∃ (s : B2) (O : Option Addr) (co : Nat) (out : List UInt8), o = .slice O out.length co ∧ i = .int .i64 (out.length : Int) ∧ Dh wb v5 wr F g S l s O co out ∧ B2In size.toNat s out ∧ ansB size.toNat s out = ans ∧ out.length + s.mu ≤ M) (fun _ i _ => 40000 - (intOf i).toNat)
    case atStart => exact ⟨_, none, 0, [], rfl, rfl, HD0.out, HI0.out⟩
    case round =>
      obtain ⟨s, O, co, out, rfl, rfl, hD, hin, ha, hm⟩ := hrel
      clear HD0 HI0
      have hlen : out.length ≤ 24576 := by have := HM.out; omega
      have hi0 : (0 : Int) ≤ (out.length : Int) := by omega
      have hi1 : (out.length : Int) ≤ 24576 := by omega
      have K1 := Lib.hid (b2next_any hD.fl)
      have hn := next_ans hin
      cases hx : s.next with
      | mk o s' =>
        have hs' : s.next.2 = s' := by rw [hx]
        rw [hs'] at K1
        rw [hx] at hn
        cases o with
        | some x =>
          obtain ⟨b, rfl, h1, h2⟩ := hn
          have hv : nextV s.next.1 = .tuple #[.int .u8 (b.toNat : Int), .bool true] := by rw [hx]; rfl
          rw [hv] at K1
          have hmu := next_mu hin.shut hx
          have hle : (out ++ [b]).length = out.length + 1 := by simp
          have hap : (out.length + 1) * 1 ≤ 140737488355328 := by omega
          have HI := Lib.hid (And.intro h1 (And.intro (h2.trans ha) (show (out ++ [b]).length + s'.mu ≤ M by rw [hle]; omega)))
          have HD := Lib.hid hD
          clear hD hin ha hm h1 h2 hmu hx hs' hv hlen
          go_wp2_with fail
          refine K1.out.mono ?_
          rintro e w6 ⟨rfl, hf6, ho6⟩
          have hD6 := HD.out.told HLOW.out.1 HLOW.out.2 hf6 ho6
          have hbs : v5.heap.size ≤ (w6.alloc (.cells #[.int .u8 (b.toNat : Int)] 5)).heap.size := by have := hD6.size; simp; omega
          have HOW := Lib.hid hD6.own
          have HD6 := Lib.hid hD6
          clear hf6 ho6 K1 hD6 HD
          go_wp2_with (first
            | (at_builtin; refine wpList_app _ rfl (.tmp 70) (.tmp 72) 22 rfl v5.heap.size 5 i8 _ 1 Try.underlying22 hi8 hz0 hz1 hz2 rfl _ out.length (bv out) rfl (HOW.out.alloc _) _ 1 1 [.int .u8 (b.toNat : Int)] rfl (sl_one _ _ _) (one_one _ _) hap (by decide) hbs ?_)
            | fail)
          intro O3 co3 w3 ho3 hg3
          have HD3 := Lib.hid (HD6.out.app HLOW.out.1 HLOW.out.2 ((Below.refl _ w6).alloc (Nat.le_refl _) (.cells #[.int .u8 (b.toNat : Int)] 5)) (x := [b]) (O' := O3) (co' := co3) (w' := w3) (by rw [bv_append, hle]; exact ho3) hg3)
          clear ho3 hg3 hap hbs HD6 HOW
          go_wp2_with fail
          go_roundw
          case rel => exact ⟨s', O3, co3, out ++ [b], by rw [hle], by rw [hle]; go_num, HD3.out, HI.out⟩
          case measure => simp [intOf]; omega
        | none =>
          have hv : nextV s.next.1 = .tuple #[.int .u8 0, .bool false] := by rw [hx]; rfl
          rw [hv] at K1
          have hst := still_of (s := s) (by rw [hx])
          rw [hs'] at hst
          rw [ha] at hn
          have HD := Lib.hid hD
          have HST := Lib.hid hst
          clear hD hin ha hm hst hx hs' hv
          go_wp2_with fail
          refine K1.out.mono ?_
          rintro e w6 ⟨rfl, hf6, ho6⟩
          have hD6 := HD.out.told HLOW.out.1 HLOW.out.2 hf6 ho6
          have K2 := Lib.hid (b2next_any hD6.fl)
          rw [HST.out.1, show nextV none = .tuple #[.int .u8 0, .bool false] from rfl] at K2
          have HD6 := Lib.hid hD6
          clear hf6 ho6 K1 HD hD6
          go_wp2_with fail
          refine K2.out.mono ?_
          rintro e w7 ⟨rfl, hf7, ho7⟩
          have hD7 := HD6.out.told HLOW.out.1 HLOW.out.2 hf7 ho7
          have HD7 := Lib.hid hD7
          have hfin : s'.next.2.fin = s'.fin := HST.out.2
          clear hf7 ho7 K2 HD6 hD7 HST
          generalize s'.next.2 = s2 at *
          obtain ⟨y0, y1, y2, y3⟩ := HSS.out w7 HD7.out.bel
          have hov : s2.over.bad = true := bad_dead rfl
          have HOV := Lib.hid (And.intro (bad_next hov).1 (bad_next hov).2.1)
          clear hov
          cases hf : s'.fin with
          | true =>
            rw [hf] at hn hfin
            rw [if_pos rfl] at hn
            go_wp2_with fail
            refine (KR.out _ HD7.out.bel).mono ?_
            rintro e w8 ⟨hb8, hh⟩
            have HD8 := Lib.hid (HD7.out.rest HLOW.out.2 hb8)
            have HHH := Lib.hid hh
            have HSZ := Lib.hid HD7.out.size
            clear hb8 hh KR HD7 y0 y1 y2 y3
            have K3 := Lib.hid (b2finish_any HD8.out.fl)
            rw [hfin] at K3
            obtain ⟨out2, O2, co2, ho2, rfl, hO2⟩ : ∃ out2 O2 co2, ans = some out2 ∧ e = .returned (.tuple #[.slice O2 out2.length co2, .int .i64 0]) ∧ Sl w8 O2 out2.length (bv out2) ∧ ∀ q o, O2 = some ⟨q, o, none⟩ → w7.heap.size ≤ q := by
              rcases HHH.out with ⟨h, _⟩ | h
              · rw [hn] at h; cases h
              · exact h
            rw [hn] at ho2
            injection ho2 with ho2
            subst ho2
            have HSL := Lib.hid hO2
            have HLN := Lib.hid hlen
            clear HHH hO2
            go_wp2_with fail
            refine K3.out.mono ?_
            rintro e w9 ⟨rfl, hf9, ho9⟩
            have hD9 := HD8.out.told HLOW.out.1 HLOW.out.2 hf9 ho9
            have HO2 := Lib.hid ho9
            have K4 := Lib.hid (b2next_any hD9.fl)
            rw [HOV.out.1, show nextV none = .tuple #[.int .u8 0, .bool false] from rfl] at K4
            have HD9 := Lib.hid hD9
            clear hf9 ho9 K3 HD8 hD9
            go_wp2_with fail
            refine K4.out.mono ?_
            rintro e wa ⟨rfl, hfa, hoa⟩
            have hDa := HD9.out.told HLOW.out.1 HLOW.out.2 hfa hoa
            have HOa := Lib.hid (HO2.out.trans hoa)
            have K5 := Lib.hid (fun n => b2finish_any (hDa.fl.drewN n))
            rw [HOV.out.2] at K5
            have HDa := Lib.hid hDa
            clear hfa hoa K4 HD9 hDa
            have hSl2 : Sl wa O2 out.length (bv out) := HSL.out.1.only HOa.out (fun _ q o e hs => by
              have h1 := HSL.out.2 q o e
              have h2 := (HLOW.out.1.set q hs).2
              have h3 := HSZ.out
              omega)
            have KB := Lib.hid (bytesSame_any (ca := co) (cb := co2) (Sl.of_own HDa.out.own) hSl2 (by have := HLN.out; omega))
            clear hSl2 HSL HO2 HOa
            go_wp2_with fail
            refine KB.out.mono ?_
            rintro e wb' ⟨rfl, db, rfl⟩
            clear KB
            go_wp2_with fail
            refine (K5.out db).mono ?_
            rintro e wc ⟨rfl, hfc, hoc⟩
            have hbc := (below_drewN HDa.out.bel db).trans (hoc.below (by have := HDa.out.bel.size; exact this) (fun i hi => (HLOW.out.1.set i hi).1))
            have HDc := Lib.hid hbc
            clear hfc hoc K5 hbc
            go_wp2_with fail
            go_ret
            exact ⟨rfl, HB.out.trans (HDc.out.mono HB.out.size)⟩
          | false =>
            rw [hf] at hn hfin
            rw [if_neg (by decide)] at hn
            go_wp2_with fail
            refine (KR.out _ HD7.out.bel).mono ?_
            rintro e w8 ⟨hb8, hh⟩
            have HD8 := Lib.hid (HD7.out.rest HLOW.out.2 hb8)
            have HHH := Lib.hid hh
            have HSZ := Lib.hid HD7.out.size
            clear hb8 hh KR HD7 y0 y1 y2 y3
            have K3 := Lib.hid (b2finish_any HD8.out.fl)
            rw [hfin] at K3
            obtain rfl : e = .returned (.tuple #[.slice none 0 0, .int .i64 12]) := by
              rcases HHH.out with ⟨_, h⟩ | ⟨_, _, _, h, _⟩
              · exact h
              · rw [hn] at h; cases h
            clear HHH
            go_wp2_with fail
            refine K3.out.mono ?_
            rintro e w9 ⟨rfl, hf9, ho9⟩
            have hD9 := HD8.out.told HLOW.out.1 HLOW.out.2 hf9 ho9
            have K4 := Lib.hid (b2next_any hD9.fl)
            rw [HOV.out.1, show nextV none = .tuple #[.int .u8 0, .bool false] from rfl] at K4
            have HD9 := Lib.hid hD9
            clear hf9 ho9 K3 HD8 hD9
            go_wp2_with fail
            refine K4.out.mono ?_
            rintro e wa ⟨rfl, hfa, hoa⟩
            have hDa := HD9.out.told HLOW.out.1 HLOW.out.2 hfa hoa
            have K5 := Lib.hid (fun n => b2finish_any (hDa.fl.drewN n))
            rw [HOV.out.2] at K5
            have HDa := Lib.hid hDa
            clear hfa hoa K4 HD9 hDa
            go_wp2_with fail
            refine (K5.out 0).mono ?_
            rintro e wc ⟨rfl, hfc, hoc⟩
            have HDc := Lib.hid (HDa.out.told HLOW.out.1 HLOW.out.2 hfc hoc)
            clear hfc hoc K5
            go_wp2_with fail
            go_ret
            exact ⟨rfl, HB.out.trans (HDc.out.bel.mono HB.out.size)⟩
end Go.Proofs.Ytdnkoeafnnohnaa
