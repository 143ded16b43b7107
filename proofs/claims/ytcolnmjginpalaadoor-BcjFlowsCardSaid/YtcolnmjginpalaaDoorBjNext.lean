/-
  The filter of machine words over a feed: its next byte.
-/
import Derived.Test.YtcolnmjginpalaaDoorBjFil
namespace Go.Proofs.YtcolnmjginpalaaDoor
set_option linter.unusedVariables false
set_option linter.unusedSimpArgs false
open Go.RowKit

/-- a step over what waits is a step over all that is left -/
theorem st_pre {c : Bool} {p a : Nat} {x : UInt8} {rr full : List UInt8} {n : Nat} (h : x :: rr = (x :: full).take n) (hm : mkB x = true → (x :: rr).length = 5 ∨ rr = full) : stN c p a (x :: rr) = stN c p a (x :: full) := by
  by_cases hx : mkB x = true
  · rcases hm hx with h5 | rfl
    · have hrl : rr.length = 4 := by rw [List.length_cons] at h5; omega
      have hn := congrArg List.length h
      rw [List.length_take, List.length_cons, List.length_cons] at hn
      have hf : 4 ≤ full.length := by omega
      rw [st_mark ⟨by omega, hx⟩, st_mark ⟨hf, hx⟩, ← wd_take c p a x full]
      have : rr = full.take 4 := by
        have h2 : (x :: full).take n = (x :: full).take 5 := by
          rcases Nat.lt_or_ge n 5 with h5' | h5'
          · omega
          · rw [show (x :: full).take 5 = ((x :: full).take n).take 5 by rw [List.take_take, Nat.min_eq_left h5'], ← h, List.take_of_length_le (by rw [List.length_cons]; omega)]
        rw [h2] at h
        have h3 : (x :: full).take 5 = x :: full.take 4 := rfl
        rw [h3] at h
        injection h
      rw [this]
    · rfl
  · rw [st_plain (fun h => hx h.2), st_plain (fun h => hx h.2)]
section
variable {w : World} {g f lo told i a : Nat} {b wt dn : List UInt8} {l m : Int} {v0 : Value} {cs : Array Value}
theorem BF.wtake (h : BF w g f lo b i i l m a v0 cs wt dn) : wt = (b.drop i).take wt.length := by
  have hle := h.le
  refine List.ext_getElem (by rw [List.length_take, List.length_drop]; omega) fun j h1 h2 => ?_
  have := h.wt_is j h1
  rw [if_neg (by omega), List.getD_eq_getElem?_getD, List.getD_eq_getElem?_getD, List.getElem?_eq_getElem h1, List.getElem?_eq_getElem (show i + j < b.length by omega)] at this
  rw [List.getElem_take, List.getElem_drop]
  exact this
theorem BF.at_ (h : BF w g f lo b told i l m a v0 cs wt dn) : At w g 1 g 5 false i l m wt :=
  ⟨(h.blk.cell 1).trans h.c.c1, (h.blk.cell 2).trans h.c.c2, (h.blk.cell 3).trans h.c.c3, (h.blk.cell 4).trans h.c.c4, fun j hj => (h.blk.cell _).trans (h.c.wait j hj), h.blk.free, h.blk.free, fun _ j hj => .inr (by omega), by have := h.fg; have := h.two; have := h.lof; omega, by have := h.fg; have := h.two; have := h.lof; omega, h.tabs⟩
/-- gone past a byte, or a word -/
theorem BF.gone {w' : World} {x : UInt8} {rr : List UInt8} {e : Ending} {s1 s2 : Nat} {s3 : List UInt8} (h : BF w g f lo b i i l m a v0 cs wt dn) (hw : wt = x :: rr) (hm : mkB x = true → 5 ≤ wt.length ∨ v0 = .nilIface) (hs : stN false i a (x :: rr) = (s1, s2, s3))
    (hp : StepPost w g 1 g 5 false i (x :: rr) (s1, s2, s3) (i + s1) e w') :
    ∃ l' m' cs', BF (w'.setCell ⟨g, 11, none⟩ (.int .i64 (s1 : Int))) g f lo b i (i + s1) l' m' s2 v0 cs' (s3 ++ wt.drop s1) (dn ++ s3) ∧ 1 ≤ s1 ∧ Only (own2 f g) w (w'.setCell ⟨g, 11, none⟩ (.int .i64 (s1 : Int))) := by
  have hle := h.le
  have htk := h.wtake
  have hlen : wt.length = rr.length + 1 := by rw [hw]; rfl
  obtain ⟨full, hfull⟩ : ∃ full, b.drop i = x :: full := by
    cases hb : b.drop i with
    | nil =>
      rw [hb] at htk
      rw [hw] at htk
      cases htk
    | cons y full =>
      rw [hb, hw] at htk
      have h0 : (x :: rr).length = rr.length + 1 := rfl
      rw [h0] at htk
      have h1 : (y :: full).take (rr.length + 1) = y :: full.take rr.length := rfl
      rw [h1] at htk
      injection htk with h2 h3
      exact ⟨full, by rw [h2]⟩
  rw [hfull] at htk
  have hst := st_pre (c := false) (p := i) (a := a) (x := x) (rr := rr) (full := full) (n := wt.length) (by rw [← hw]; exact htk) (fun hx => by
    rcases hm hx with h5 | hv
    · have := h.c.h5
      rw [← hw]
      exact .inl (by omega)
    · rcases h.src with he | ⟨_, he⟩
      · rw [hv] at he
        unfold fdV at he
        cases he
      · have hfl : full.length + 1 = b.length - i := by rw [← List.length_drop, hfull]; rfl
        refine .inr ?_
        have h4 : (x :: full).take wt.length = x :: full := List.take_of_length_le (by rw [List.length_cons]; omega)
        rw [h4, hw] at htk
        injection htk)
  rw [hs] at hst
  have hgs := gN_step false i a x full
  obtain ⟨t1, t2, t3, t4⟩ := st_len false i a x full
  have t5 := (st_len false i a x rr).2.2.1
  rw [hs] at t5
  rw [← hst] at hgs t1 t2 t3 t4
  simp only at hgs t1 t2 t3 t4 t5
  obtain ⟨_, l', m', h1, h2, h3⟩ := hp
  simp only at h1 h2
  obtain ⟨cs', b1, b2, b3⟩ := h3.blk g _ _ h.blk
  have hz := h.c.size
  have hcs : ∀ j, j = 0 ∨ 10 ≤ j → cs'[j]? = cs[j]? := fun j hj => b3 j (by rintro ⟨_, _, _⟩; omega) (by rintro ⟨_, _, _⟩; omega)
  have hg : ∀ j, j ≠ 11 → (cs'.setIfInBounds 11 (Value.int .i64 (s1 : Int)))[j]? = cs'[j]? := fun j hj => by rw [Array.getElem?_setIfInBounds, if_neg (by omega)]
  have hwl : (s3 ++ wt.drop s1).length = wt.length := by rw [List.length_append, List.length_drop, t1]; omega
  have hO : Only (fun i => i = g) w w' := h3.only.mono (by rintro j (rfl | rfl) <;> rfl)
  have hO2 : Only (fun i => i = g) w (w'.setCell ⟨g, 11, none⟩ (.int .i64 (s1 : Int))) := hO.setCell (.inl rfl) _
  have hdd : b.drop (i + s1) = (x :: full).drop s1 := by rw [← List.drop_drop, hfull]
  refine ⟨l', m', _, ⟨b1.put 11 _, ⟨by rw [Array.size_setIfInBounds, b2]; exact hz, (hg 0 (by decide)).trans ((hcs 0 (.inl rfl)).trans h.c.c0), ?_, ?_, ?_, ?_, fun j hj => ?_, ?_, ?_, by rw [hwl]; exact h.c.h5⟩, Nat.le_add_right _ _, h2, ?_, ?_, fun j hj => ?_, ?_, ?_, ?_, h.fg, h.two, h.lof, ?_⟩, t2, hO2.mono fun _ h => .inr h⟩
  · rw [hg 1 (by decide), ← b1.cell]
    exact h1.codes
  · rw [hg 2 (by decide), ← b1.cell]
    exact h1.place
  · rw [hg 3 (by decide), ← b1.cell]
    exact h1.last
  · rw [hg 4 (by decide), ← b1.cell]
    exact h1.mask
  · have h5 := h.c.h5
    rw [hg _ (by omega), ← b1.cell, hw]
    rw [hw] at hj
    exact h1.byte j hj
  · rw [hg 10 (by decide), hcs 10 (.inr (by decide)), hwl]
    exact h.c.c10
  · rw [Array.getElem?_setIfInBounds, if_pos rfl, if_pos (by omega), Nat.add_sub_cancel_left]
  · rw [List.length_append, h.dl, t1]
  · rw [List.append_assoc, hdd, ← hgs, ← hfull]
    exact h.is
  · rw [hwl] at hj
    by_cases hj1 : j < s1
    · rw [if_pos (by omega), getD_app (by omega), List.getD_eq_getElem?_getD, List.getD_eq_getElem?_getD, List.getElem?_append_right (by rw [h.dl]; omega), h.dl, Nat.add_sub_cancel_left]
    · rw [if_neg (by omega), List.getD_eq_getElem?_getD, List.getElem?_append_right (by omega), List.getElem?_drop, show s1 + (j - s3.length) = j by omega, ← List.getD_eq_getElem?_getD]
      have := h.wt_is j hj
      rw [if_neg (by omega)] at this
      exact this
  · rw [hwl]; omega
  · rw [hwl]
    rcases h.src with he | ⟨he, hl⟩
    · exact .inl he
    · exact .inr ⟨he, hl⟩
  · rw [hwl]
    exact h.feed.only hO2 (fun j hj => by have := h.fg; omega)
  · exact h.tabs.only hO2 (by have := h.fg; have := h.two; have := h.lof; omega) (by have := h.fg; have := h.two; have := h.lof; omega)
end
def StepFPost (w : World) (g f lo : Nat) (b : List UInt8) (i : Nat) (w' : World) : Prop :=
  ∃ (i' a' : Nat) (l' m' : Int) (v0' : Value) (cs' : Array Value) (wt' dn' : List UInt8), BF w' g f lo b i i' l' m' a' v0' cs' wt' dn' ∧ i < i' ∧ Only (own2 f g) w w'
def EndFPost (w : World) (g f lo : Nat) (b : List UInt8) (i : Nat) (w' : World) : Prop :=
  ∃ (a' : Nat) (l' m' : Int) (v0' : Value) (cs' : Array Value) (wt' dn' : List UInt8), BF w' g f lo b i i l' m' a' v0' cs' wt' dn' ∧ Only (own2 f g) w w'
section
variable {w : World} {g f lo told i a : Nat} {b wt dn : List UInt8} {l m : Int} {v0 : Value} {cs : Array Value}
set_option maxRecDepth 100000 in
set_option maxHeartbeats 4000000 in
theorem fstep_end (h : BF w g f lo b i i l m a v0 cs wt dn) (hlt : ¬ i < b.length) :
    Calls Tryd.prog 22 #[.pointer (some ⟨g, 0, none⟩)] w fun e w' => e = .returned (.bool false) ∧ EndFPost w g f lo b i w' := by
  have KD := Lib.hid (draw_any (n := 1) h (by decide))
  have HL := Lib.hid hlt
  clear h hlt
  go_enter Tryd.func22, Tryd.ntmps22
  go_wp2_with fail
  refine KD.out.mono ?_
  rintro e w1 ⟨rfl, v1, cs1, wt1, hB1, h1, hl1, hO1⟩
  have k10 : w1.cell? ⟨g, 10, none⟩ = some (.int .i64 (wt1.length : Int)) := (hB1.blk.cell 10).trans hB1.c.c10
  have hle := hB1.le
  obtain rfl : wt1 = [] := List.eq_nil_of_length_eq_zero (by have := HL.out; omega)
  have k10 : w1.cell? ⟨g, 10, none⟩ = some (.int .i64 0) := k10
  have H := Lib.hid (And.intro hB1 hO1)
  clear hB1 h1 hl1 hO1 KD hle
  go_wp2_with fail
  go_ret
  exact ⟨rfl, a, l, m, v1, cs1, [], dn, H.out.1, H.out.2⟩
/-- what a step of the walk owes at any later draw -/
theorem kstep {W : World} {x : UInt8} {rr : List UInt8} {L s1 s2 : Nat} {s3 : List UInt8} (hB : BF W g f lo b i i l m a v0 cs (x :: rr) dn) (hb : b.length ≤ 1000000) (hL : L = rr.length + 1) (hS : stN false i a (x :: rr) = (s1, s2, s3)) :
    ∀ W', DrO W W' → Calls Tryd.prog 23 #[.pointer (some ⟨g, 1, none⟩), .slice (some ⟨g, 5, none⟩) L 5] W' fun e w' => e = .returned (.int .i64 (s1 : Int)) ∧ StepPost W g 1 g 5 false i (x :: rr) (s1, s2, s3) (i + s1) e w' ∧ w'.cell? ⟨g, 10, none⟩ = some (.int .i64 (L : Int)) ∧ w'.frozen? ⟨g, 11, none⟩ = false ∧ ∃ v, w'.cell? ⟨g, 11, none⟩ = some v := by
  rintro W' ⟨n, rfl⟩
  have h5 := hB.c.h5
  rw [List.length_cons] at h5
  have hle := hB.le
  have K := step_any (C := 5) (n := L) (hB.at_.drewN n) hB.ag (by omega) (by omega) (by decide) (by omega) (by omega)
  rw [hS] at K
  refine K.mono ?_
  rintro e w' ⟨he, l', m', h1, h2, h3⟩
  obtain ⟨cs', b1, b2, b3⟩ := h3.blk g _ _ (hB.blk.drewN n)
  refine ⟨he, ⟨he, l', m', h1, h2, h3.of_drewN⟩, ?_, b1.free _, ?_⟩
  · rw [b1.cell, b3 10 (by rintro ⟨_, _, _⟩; omega) (by rintro ⟨_, _, _⟩; omega), hB.c.c10, hL]
    rfl
  · rw [b1.cell, b3 11 (by rintro ⟨_, _, _⟩; omega) (by rintro ⟨_, _, _⟩; omega)]
    exact ⟨_, hB.c.c11⟩
set_option maxRecDepth 100000 in
set_option maxHeartbeats 4000000 in
theorem fstep_more (h : BF w g f lo b i i l m a v0 cs wt dn) (hlt : i < b.length) (hb : b.length ≤ 1000000) :
    Calls Tryd.prog 22 #[.pointer (some ⟨g, 0, none⟩)] w fun e w' => e = .returned (.bool true) ∧ StepFPost w g f lo b i w' := by
  have KD := Lib.hid (draw_any (n := 1) h (by decide))
  have HBL := Lib.hid hb
  have HL := Lib.hid hlt
  clear h hlt hb
  go_enter Tryd.func22, Tryd.ntmps22
  go_wp2_with fail
  refine KD.out.mono ?_
  rintro e w1 ⟨rfl, v1, cs1, wt1, hB1, h1, hl1, hO1⟩
  obtain ⟨x, rr, rfl⟩ : ∃ x rr, wt1 = x :: rr := by
    cases wt1 with
    | nil =>
      exfalso
      rcases h1 with h1 | h1
      · exact absurd h1 (by decide)
      · rcases hB1.src with he | ⟨_, he⟩
        · rw [h1] at he; unfold fdV at he; cases he
        · have : ([] : List UInt8).length = 0 := rfl
          have := HL.out
          omega
    | cons x rr => exact ⟨_, _, rfl⟩
  obtain ⟨L, hL⟩ : ∃ L, L = rr.length + 1 := ⟨_, rfl⟩
  have k10 : w1.cell? ⟨g, 10, none⟩ = some (.int .i64 (L : Int)) := by rw [hL]; exact (hB1.blk.cell 10).trans hB1.c.c10
  have kx : w1.cell? ⟨g, 5, none⟩ = some (.int .u8 (x.toNat : Int)) := (hB1.blk.cell 5).trans (hB1.c.wait 0 (by rw [List.length_cons]; omega))
  have hl5 : rr.length + 1 ≤ 5 := hB1.c.h5
  have e0 : ((L : Int) == 0) = false := by simp; omega
  have hx0 : b.getD i 0 = x := by
    have := hB1.wt_is 0 (by rw [List.length_cons]; omega)
    rw [if_neg (by omega)] at this
    exact this.symm
  have KM := Lib.hid (fun w => marks_any x w)
  have HO1 := Lib.hid hO1
  have HX := Lib.hid hx0
  cases hx : mkB x
  · rw [hx] at KM
    obtain ⟨⟨s1, s2, s3⟩, hS⟩ : ∃ S, stN false i a (x :: rr) = S := ⟨_, rfl⟩
    have KS := Lib.hid (kstep hB1 HBL.out hL hS)
    have H2 := Lib.hid (And.intro hB1 (And.intro hS hx))
    have l0 : (0 : Int) ≤ (L : Int) := by omega
    have l5 : (L : Int) ≤ 5 := by omega
    clear hB1 h1 hl1 hO1 hL hx hx0 hS hl5 KD
    go_wp2_with fail
    refine (KM.out _).mono ?_
    rintro e w2 ⟨rfl, rfl⟩
    go_wp2_with fail
    go_region_held3 (fun W => W.cell? ⟨g, 10, none⟩ = some (.int .i64 (L : Int))) (first | assumption | exact k10 | exact z10 | exact (cell_other (addr_ne fun _ => (by decide : (11 : Nat) ≠ 10))).trans z10 | go_keep) (first | (go_at_call 23; refine (KS.out _ (by first | exact dro_0 _ | exact dro_1 _ | exact dro_n _ _)).mono ?_; rintro e w3 ⟨rfl, hp, z10, z11, zx, zv⟩; have HP := Lib.hid hp; clear hp))
    obtain ⟨l', m', cs', n1, n2, n3⟩ := H2.out.1.gone rfl (fun h => by rw [H2.out.2.2] at h; cases h) H2.out.2.1 HP.out
    have HN := Lib.hid (And.intro n1 (And.intro n2 n3))
    clear n1 n2 n3 HP
    go_wp2_with fail
    go_ret
    exact ⟨rfl, _, _, l', m', _, cs', _, _, HN.out.1, by have := HN.out.2.1; omega, HO1.out.trans HN.out.2.2⟩
  · rw [hx] at KM
    have KD5 := Lib.hid (draw_any (n := 5) hB1 (by decide))
    have HMK := Lib.hid hx
    clear hB1 h1 hl1 hO1 hL hx hx0 hl5 KD
    go_wp2_with fail
    refine (KM.out _).mono ?_
    rintro e w2 ⟨rfl, rfl⟩
    go_wp2_with fail
    refine KD5.out.mono ?_
    rintro e w2 ⟨rfl, v2, cs2, wt2, hB2, h2, hl2, hO2⟩
    obtain ⟨x', rr', rfl⟩ : ∃ x' rr', wt2 = x' :: rr' := by
      cases wt2 with
      | nil => rw [List.length_cons] at hl2; exact absurd hl2 (by simp)
      | cons x' rr' => exact ⟨_, _, rfl⟩
    obtain rfl : x' = x := by
      have := hB2.wt_is 0 (by rw [List.length_cons]; omega)
      rw [if_neg (by omega)] at this
      exact this.trans HX.out
    obtain ⟨L2, hL2⟩ : ∃ L2, L2 = rr'.length + 1 := ⟨_, rfl⟩
    obtain ⟨⟨s1, s2, s3⟩, hS⟩ : ∃ S, stN false i a (x' :: rr') = S := ⟨_, rfl⟩
    have KS := Lib.hid (kstep hB2 HBL.out hL2 hS)
    have j10 : w2.cell? ⟨g, 10, none⟩ = some (.int .i64 (L2 : Int)) := by rw [hL2]; exact (hB2.blk.cell 10).trans hB2.c.c10
    have hl5 : rr'.length + 1 ≤ 5 := hB2.c.h5
    have HO1 := Lib.hid (HO1.out.trans hO2)
    have l0 : (0 : Int) ≤ (L2 : Int) := by omega
    have l5 : (L2 : Int) ≤ 5 := by omega
    have H2 := Lib.hid (And.intro hB2 (And.intro hS h2))
    clear hB2 h2 hl2 hO2 hS hL2 hl5 KM KD5 e0 k10 kx
    go_wp2_with fail
    go_region_held3 (fun W => W.cell? ⟨g, 10, none⟩ = some (.int .i64 (L2 : Int))) (first | assumption | exact j10 | exact z10 | exact (cell_other (addr_ne fun _ => (by decide : (11 : Nat) ≠ 10))).trans z10 | go_keep) (first | (go_at_call 23; refine (KS.out _ (by first | exact dro_0 _ | exact dro_1 _ | exact dro_n _ _)).mono ?_; rintro e w3 ⟨rfl, hp, z10, z11, zx, zv⟩; have HP := Lib.hid hp; clear hp))
    obtain ⟨l', m', cs', n1, n2, n3⟩ := H2.out.1.gone rfl (fun _ => H2.out.2.2) H2.out.2.1 HP.out
    have HN := Lib.hid (And.intro n1 (And.intro n2 n3))
    clear n1 n2 n3 HP
    go_wp2_with fail
    go_ret
    exact ⟨rfl, _, _, l', m', _, cs', _, _, HN.out.1, by have := HN.out.2.1; omega, HO1.out.trans HN.out.2.2⟩
end
end Go.Proofs.YtcolnmjginpalaaDoor
