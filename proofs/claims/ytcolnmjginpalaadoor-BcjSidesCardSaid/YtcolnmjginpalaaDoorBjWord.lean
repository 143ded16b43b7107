/-
  A word, turned or not; a step of the walk.
-/
import Derived.Test.YtcolnmjginpalaaDoorBjTurn
namespace Go.Proofs.YtcolnmjginpalaaDoor
set_option linter.unusedVariables false
set_option linter.unusedSimpArgs false
open Go.RowKit

/-- what last place and mask come to at a place -/
def Aged (p : Nat) (l m : Int) (a : Nat) : Prop := ∃ g mn : Nat, (p : Int) - l = (g : Int) ∧ 1 ≤ g ∧ m = (mn : Int) ∧ mn < 8 ∧ -1 ≤ l ∧ agN g mn = a
theorem agN_lt (g m : Nat) : agN g m < 8 := by unfold agN; split <;> omega
theorem Aged.lt {p a : Nat} {l m : Int} (h : Aged p l m a) : a < 8 := by
  obtain ⟨g, mn, _, _, _, _, _, rfl⟩ := h
  exact agN_lt g mn
theorem aged_start : Aged 0 (-1) 0 0 := ⟨1, 0, by decide, by decide, rfl, by decide, by decide, rfl⟩
theorem ag_next {g mn : Nat} (hm : mn < 8) (hg : 1 ≤ g) : agN (g + 1) mn = 2 * agN g mn % 8 := by
  unfold agN
  by_cases h : g > 3
  · rw [if_pos h, if_pos (by omega)]
  · rw [if_neg h]
    have hc : g = 1 ∨ g = 2 ∨ g = 3 := by omega
    rcases hc with rfl | rfl | rfl
    · rw [if_neg (by decide), show 1 + 1 - 1 = 1 by decide, show 1 - 1 = 0 by decide]; omega
    · rw [if_neg (by decide), show 2 + 1 - 1 = 2 by decide, show 2 - 1 = 1 by decide]; omega
    · rw [if_pos (by decide), show 3 - 1 = 2 by decide]; omega
theorem Aged.plain {p a : Nat} {l m : Int} (h : Aged p l m a) : Aged (p + 1) l m (2 * a % 8) := by
  obtain ⟨g, mn, h1, h2, h3, h4, h5, rfl⟩ := h
  exact ⟨g + 1, mn, by omega, by omega, h3, h4, h5, ag_next h4 h2⟩
theorem aged_stay (p a : Nat) : Aged (p + 1) (p : Int) ((2 * a % 8 + 1 : Nat) : Int) (2 * a % 8 + 1) :=
  ⟨1, 2 * a % 8 + 1, by omega, by decide, rfl, by omega, by omega, by unfold agN; rw [if_neg (by decide), show 1 - 1 = 0 by decide]; omega⟩
theorem aged_turn (p : Nat) {a : Nat} (ha : a < 8) : Aged (p + 5) (p : Int) (a : Int) 0 :=
  ⟨5, a, by omega, by decide, rfl, ha, by omega, rfl⟩

/-- only the walk's cells and the bytes have turned -/
structure Tch (r o q k : Nat) (w w' : World) : Prop where
  blk : ∀ g T cs, Blk w g T cs → ∃ cs', Blk w' g T cs' ∧ cs'.size = cs.size ∧ ∀ i, ¬ (g = r ∧ o ≤ i ∧ i < o + 4) → ¬ (g = q ∧ k ≤ i ∧ i < k + 5) → cs'[i]? = cs[i]?
  only : Only (fun i => i = r ∨ i = q) w w'
  cell : ∀ g i, ¬ (g = r ∧ o ≤ i ∧ i < o + 4) → ¬ (g = q ∧ k ≤ i ∧ i < k + 5) → w'.cell? ⟨g, i, none⟩ = w.cell? ⟨g, i, none⟩
section
variable {r o q k : Nat} {w w1 w2 : World}
theorem Tch.refl (r o q k : Nat) (w : World) : Tch r o q k w w := ⟨fun g T cs h => ⟨cs, h, rfl, fun _ _ _ => rfl⟩, Only.refl _ _, fun _ _ _ _ => rfl⟩
theorem Tch.trans (h : Tch r o q k w w1) (h' : Tch r o q k w1 w2) : Tch r o q k w w2 :=
  ⟨fun g T cs hb => by
    obtain ⟨c1, b1, s1, e1⟩ := h.blk g T cs hb
    obtain ⟨c2, b2, s2, e2⟩ := h'.blk g T c1 b1
    exact ⟨c2, b2, s2.trans s1, fun i i1 i2 => (e2 i i1 i2).trans (e1 i i1 i2)⟩, h.only.trans h'.only, fun g i i1 i2 => (h'.cell g i i1 i2).trans (h.cell g i i1 i2)⟩
theorem Tch.drewN (h : Tch r o q k w w1) (n : Nat) : Tch r o q k w (w1.drewN n) := ⟨h.blk, h.only.drewN n, h.cell⟩
theorem Tch.of_drewN {n : Nat} (h : Tch r o q k (w.drewN n) w1) : Tch r o q k w w1 := ⟨h.blk, h.only.of_drewN, h.cell⟩
theorem Tch.set (h : Tch r o q k w w1) {b i : Nat} (hi : (b = r ∧ o ≤ i ∧ i < o + 4) ∨ (b = q ∧ k ≤ i ∧ i < k + 5)) (u : Value) : Tch r o q k w (w1.setCell ⟨b, i, none⟩ u) :=
  ⟨fun g T cs hb => by
    obtain ⟨c1, b1, s1, e1⟩ := h.blk g T cs hb
    by_cases hg : g = b
    · subst hg
      refine ⟨_, b1.put i u, by rw [Array.size_setIfInBounds]; exact s1, fun j j1 j2 => ?_⟩
      rw [Array.getElem?_setIfInBounds, if_neg]
      · exact e1 j j1 j2
      · rintro rfl
        rcases hi with hi | hi
        · exact j1 hi
        · exact j2 hi
    · exact ⟨c1, b1.far hg u, s1, e1⟩, h.only.setCell (.inl (by rcases hi with hi | hi; exact .inl hi.1; exact .inr hi.1)) u, fun g j j1 j2 => (cell_other (addr_ne fun e => by
      rintro rfl
      subst e
      rcases hi with hi | hi
      · exact j1 hi
      · exact j2 hi)).trans (h.cell g j j1 j2)⟩
end
section
variable {w : World} {r o q k p : Nat} {c : Bool} {l m : Int} {bs : List UInt8}
theorem At.setByte (h : At w r o q k c p l m bs) {i : Nat} (hi : i < bs.length) (y : UInt8) : At (w.setCell ⟨q, k + i, none⟩ (.int .u8 (y.toNat : Int))) r o q k c p l m (bs.set i y) :=
  ⟨(cell_other (h.far_byte (d := 0) (by decide) hi).symm).trans h.codes, (cell_other (h.far_byte (d := 1) (by decide) hi).symm).trans h.place, (cell_other (h.far_byte (d := 2) (by decide) hi).symm).trans h.last,
    (cell_other (h.far_byte (d := 3) (by decide) hi).symm).trans h.mask, fun j hj => by
      rw [List.length_set] at hj
      by_cases e : i = j
      · subst e
        rw [cell_same (h.byte i hi), List.getD_eq_getElem?_getD, List.getElem?_set_self hi]
        rfl
      · rw [cell_other (addr_ne fun _ => by omega), h.byte j hj, List.getD_eq_getElem?_getD, List.getD_eq_getElem?_getD, List.getElem?_set_ne e],
    fun i => froz.trans (h.free i), fun i => froz.trans (h.freeq i), fun e j hj => h.apart e j (by rw [List.length_set] at hj; exact hj), h.r2, h.q2, h.tabs.far h.q2 _⟩
theorem At.first (h : At w r o q k c p l m bs) (n : Nat) : At w r o q k c p l m (bs.take n) :=
  ⟨h.codes, h.place, h.last, h.mask, fun j hj => by
    rw [List.length_take] at hj
    rw [h.byte j (by omega), List.getD_eq_getElem?_getD, List.getD_eq_getElem?_getD, List.getElem?_take_of_lt (by omega)], h.free, h.freeq, fun e j hj => h.apart e j (by rw [List.length_take] at hj; omega), h.r2, h.q2, h.tabs⟩
end
/-- what a step comes to: how many places, the mask there, the bytes that are done with -/
def wdN (c : Bool) (p a : Nat) (x : UInt8) (r : List UInt8) : Nat × Nat × List UInt8 :=
  if baB a r = true ∨ egB (r.getD 3 0) = false then (1, 2 * a % 8 + 1, [x]) else (5, 0, x :: pu4 (tuN c p a (le4 r)))
def stN (c : Bool) (p a : Nat) : List UInt8 → Nat × Nat × List UInt8
  | [] => (0, a, [])
  | x :: r => if 4 ≤ r.length ∧ mkB x = true then wdN c p a x r else (1, 2 * a % 8, [x])
theorem gN_step (c : Bool) (p a : Nat) (x : UInt8) (r : List UInt8) : gN c p a (x :: r) = (stN c p a (x :: r)).2.2 ++ gN c (p + (stN c p a (x :: r)).1) (stN c p a (x :: r)).2.1 ((x :: r).drop (stN c p a (x :: r)).1) := by
  unfold stN wdN
  by_cases h : 4 ≤ r.length ∧ mkB x = true
  · simp only [if_pos h]
    by_cases k : baB a r = true ∨ egB (r.getD 3 0) = false
    · rw [if_pos k, gN_stay h k]
      rfl
    · rw [if_neg k, gN_turn h k]
      rfl
  · simp only [if_neg h]
    rw [gN_plain h]
    rfl
theorem st_len (c : Bool) (p a : Nat) (x : UInt8) (r : List UInt8) : (stN c p a (x :: r)).2.2.length = (stN c p a (x :: r)).1 ∧ 1 ≤ (stN c p a (x :: r)).1 ∧ (stN c p a (x :: r)).1 ≤ r.length + 1 ∧ (stN c p a (x :: r)).1 ≤ 5 := by
  unfold stN wdN
  by_cases h : 4 ≤ r.length ∧ mkB x = true
  · simp only [if_pos h]
    by_cases k : baB a r = true ∨ egB (r.getD 3 0) = false
    · rw [if_pos k]
      exact ⟨rfl, Nat.le_refl 1, by show 1 ≤ _; omega, by show 1 ≤ 5; decide⟩
    · rw [if_neg k]
      exact ⟨rfl, by show 1 ≤ 5; decide, by show 5 ≤ _; omega, Nat.le_refl 5⟩
  · simp only [if_neg h]
    exact ⟨rfl, Nat.le_refl 1, by show 1 ≤ _; omega, by show 1 ≤ 5; decide⟩
/-- a world that only drew -/
def DrO (w W : World) : Prop := ∃ n, W = w.drewN n
theorem dro_0 (w : World) : DrO w w := ⟨0, rfl⟩
theorem dro_1 (w : World) : DrO w w.drew := ⟨1, rfl⟩
theorem dro_n (w : World) (n : Nat) : DrO w (w.drewN n) := ⟨n, rfl⟩
theorem DrO.drewN {w W : World} (h : DrO w W) (n : Nat) : DrO w (W.drewN n) := by
  obtain ⟨m, rfl⟩ := h
  exact ⟨m + n, World.drewN_drewN _ _ _⟩
theorem DrO.drew {w W : World} (h : DrO w W) : DrO w W.drew := h.drewN 1
def StepPost (w : World) (r o q k : Nat) (c : Bool) (p : Nat) (bs : List UInt8) (S : Nat × Nat × List UInt8) (p' : Nat) (e : Ending) (w' : World) : Prop :=
  e = .returned (.int .i64 (S.1 : Int)) ∧ ∃ l' m', At w' r o q k c p' l' m' (S.2.2 ++ bs.drop S.1) ∧ Aged (p + S.1) l' m' S.2.1 ∧ Tch r o q k w w'
theorem or_1 : ∀ a : Fin 8, bits BinOp.or IntKind.i64 ((a.val : Int)) 1 = ((a.val / 2 * 2 + 1 : Nat) : Int) := by decide +kernel
theorem or_mask {a : Nat} : bits BinOp.or IntKind.i64 (2 * (a : Int) % 8) 1 = ((2 * a % 8 + 1 : Nat) : Int) := by
  have h := or_1 ⟨2 * a % 8, by omega⟩
  rw [show ((2 * a % 8 : Nat) : Int) = 2 * (a : Int) % 8 by omega] at h
  rw [h]
  show ((2 * a % 8 / 2 * 2 + 1 : Nat) : Int) = _
  omega
theorem word_len {x : UInt8} {rr : List UInt8} (hr : rr.length = 4) : ∃ b0 b1 b2 b3, rr = [b0, b1, b2, b3] := by
  match rr, hr with
  | [b0, b1, b2, b3], _ => exact ⟨b0, b1, b2, b3, rfl⟩
section
variable {w : World} {r o q k p : Nat} {c : Bool} {l m : Int} {bs : List UInt8}
theorem number_at {C s : Nat} {a b c d : UInt8} (hs : le4 [a, b, c, d] = s) (h0 : w.cell? ⟨q, k, none⟩ = some (.int .u8 (a.toNat : Int))) (h1 : w.cell? ⟨q, k + 1, none⟩ = some (.int .u8 (b.toNat : Int)))
    (h2 : w.cell? ⟨q, k + 2, none⟩ = some (.int .u8 (c.toNat : Int))) (h3 : w.cell? ⟨q, k + 3, none⟩ = some (.int .u8 (d.toNat : Int))) :
    Calls Tryd.prog 35 #[.slice (some ⟨q, k, none⟩) 4 C] w fun e w' => e = .returned (.int .u32 (s : Int)) ∧ ∃ n, w.drewN n = w' := by
  rw [← hs]
  exact number_any h0 h1 h2 h3
set_option maxRecDepth 100000 in
set_option maxHeartbeats 4000000 in
theorem word_any {C a : Nat} {x : UInt8} {rr : List UInt8} (h : At w r o q k c p l m (x :: rr)) (hA : Aged p l m a) (hr : rr.length = 4) (hC : 5 ≤ C) (hC2 : C ≤ 9223372036854775807) (hp : p ≤ 1000000000) :
    Calls Tryd.prog 29 #[.pointer (some ⟨r, o, none⟩), .slice (some ⟨q, k, none⟩) 5 C] w (StepPost w r o q k c p (x :: rr) (wdN c p a x rr) p) := by
  obtain ⟨g, mn, hg, hg1, rfl, hm8, hl, rfl⟩ := hA
  have KA := Lib.hid (age_any h hl hg hg1 rfl hm8 hp)
  have ha8 := agN_lt g mn
  have h1 := fun d => ((h.setLast (p : Int)).setMask ((agN g mn : Nat) : Int)).drewN d
  have t1 := fun d => (((Tch.refl r o q k w).set (b := r) (i := o + 2) (.inl ⟨rfl, by omega, by omega⟩) (.int .i64 (p : Int))).set (b := r) (i := o + 3) (.inl ⟨rfl, by omega, by omega⟩) (.int .i64 ((agN g mn : Nat) : Int))).drewN d
  obtain ⟨b0, b1, b2, b3, rfl⟩ := word_len (x := x) hr
  generalize agN g mn = a at *
  have H1 := Lib.hid h1
  have T1 := Lib.hid t1
  have HA8 := Lib.hid ha8
  clear h hl hg hg1 hm8 h1 t1 ha8
  have e2 : wrap64 (2 * (a : Int)) = 2 * (a : Int) := IntWalk.wrap64_in _ (by have := HA8.out; omega)
  have e3 : (2 * (a : Int)).tmod 8 = 2 * (a : Int) % 8 := Int.tmod_eq_emod_of_nonneg (by omega)
  have e4 := or_mask (a := a)
  have HE := Lib.hid (And.intro e2 (And.intro e3 e4))
  clear e2 e3 e4
  by_cases hb : baB a [b0, b1, b2, b3] = true
  · have hw : wdN c p a x [b0, b1, b2, b3] = (1, 2 * a % 8 + 1, [x]) := by unfold wdN; rw [if_pos (.inl hb)]
    rw [hw]
    clear hw
    go_enter Tryd.func29, Tryd.ntmps29
    go_wp2_with fail
    refine KA.out.mono ?_
    rintro e w1 ⟨rfl, d, hw1⟩
    have hh := H1.out d
    have tt := T1.out d
    rw [← hw1] at hh tt
    have KB := Lib.hid (bars_any (C := C) hh HA8.out rfl)
    rw [hb] at KB
    have HH := Lib.hid hh
    have TT := Lib.hid tt
    clear hw1 hb KA H1 T1 hh tt
    go_wp2_with fail
    refine KB.out.mono ?_
    rintro e w2 ⟨rfl, rfl⟩
    have c3 := HH.out.mask
    have f3 := HH.out.free (o + 3)
    have e2 := HE.out.1
    have e3 := HE.out.2.1
    have e4 := HE.out.2.2
    go_wp2_with fail
    go_ret
    exact ⟨rfl, (p : Int), _, HH.out.setMask _, aged_stay p a, TT.out.set (.inl ⟨rfl, by omega, by omega⟩) _⟩
  · have hbf := bool_ff hb
    by_cases hx : egB b3 = true
    · have hw : wdN c p a x [b0, b1, b2, b3] = (5, 0, x :: pu4 (tuN c p a (le4 [b0, b1, b2, b3]))) := by
        unfold wdN
        rw [if_neg]
        rintro (h | h)
        · exact hb h
        · rw [show [b0, b1, b2, b3].getD 3 0 = b3 from rfl, hx] at h; cases h
      have hp1 := ba_parts hbf
      have hte : a ≠ 0 → egB (byN a (le4 [b0, b1, b2, b3])) = false := fun h0 => by
        have : byN a (le4 [b0, b1, b2, b3]) = UInt8.ofNat (le4 [b0, b1, b2, b3] / quN a) := rfl
        rw [this, qu_byte hp1.1 h0 (by simp)]
        exact hp1.2 h0
      have hs32 : le4 [b0, b1, b2, b3] < 4294967296 := by
        have h : le4 [b0, b1, b2, b3] = b0.toNat + 256 * b1.toNat + 65536 * b2.toNat + 16777216 * b3.toNat := rfl
        have := b0.toNat_lt
        have := b1.toNat_lt
        have := b2.toNat_lt
        have := b3.toNat_lt
        omega
      have HT := Lib.hid (And.intro hp1.1 (And.intro hte hs32))
      rw [hw]
      obtain ⟨s, hs⟩ : ∃ s, le4 [b0, b1, b2, b3] = s := ⟨_, rfl⟩
      have HT := HT.out
      rw [hs] at HT
      rw [hs]
      have KTT := fun W hW => turned_any (w := W) (r := r) (o := o) (q := q) (k := k) (c := c) (p := p) (l := (p : Int)) (bs := [x, b0, b1, b2, b3]) hW HT.1 HT.2.1 hp HT.2.2
      have htl := tuN_lt c p a s
      generalize tuN c p a s = t at *
      have HP := Lib.hid htl
      have KTT := Lib.hid KTT
      clear hw hp1 hte hs32 HT htl
      go_enter Tryd.func29, Tryd.ntmps29
      go_wp2_with fail
      refine KA.out.mono ?_
      rintro e w1 ⟨rfl, d, hw1⟩
      have hh := H1.out d
      have tt := T1.out d
      rw [← hw1] at hh tt
      have KB := Lib.hid (bars_any (C := C) hh HA8.out rfl)
      have KX := Lib.hid (fun w => edge_any b3 w)
      rw [hbf] at KB
      rw [hx] at KX
      have HH := Lib.hid hh
      have TT := Lib.hid tt
      have cy : w1.cell? ⟨q, k + 4, none⟩ = some (.int .u8 (b3.toNat : Int)) := hh.byte 4 (by simp)
      have KN := Lib.hid (show ∀ W, DrO w1 W → _ from fun W hW => number_at (w := W) (q := q) (k := k + 1) (C := C - 1) hs (by obtain ⟨d, rfl⟩ := hW; exact hh.byte 1 (by simp)) (by obtain ⟨d, rfl⟩ := hW; exact hh.byte 2 (by simp)) (by obtain ⟨d, rfl⟩ := hW; exact hh.byte 3 (by simp)) (by obtain ⟨d, rfl⟩ := hW; exact hh.byte 4 (by simp)))
      have KT := Lib.hid (show ∀ W, DrO w1 W → _ from fun W hW => KTT.out W (by obtain ⟨d, rfl⟩ := hW; exact hh.drewN d))
      have KP := Lib.hid (show ∀ W, DrO w1 W → _ from fun W hW => put_any (w := W) (q := q) (k := k + 1) (C := C - 1) HP.out (by obtain ⟨d, rfl⟩ := hW; exact hh.byte 1 (by simp)) (by obtain ⟨d, rfl⟩ := hW; exact hh.byte 2 (by simp)) (by obtain ⟨d, rfl⟩ := hW; exact hh.byte 3 (by simp)) (by obtain ⟨d, rfl⟩ := hW; exact hh.byte 4 (by simp)) (by obtain ⟨d, rfl⟩ := hW; exact hh.freeq))
      have hC1 : ¬ C = 1 := by omega
      clear hs hw1 hb hbf hx KA H1 T1 hh tt
      go_wp2_with fail
      refine KB.out.mono ?_
      rintro e w2 ⟨rfl, rfl⟩
      go_wp2_with fail
      refine (KX.out w1).mono ?_
      rintro e w2 ⟨rfl, rfl⟩
      go_wp2_with fail
      go_region_held3 (fun _ => True) (first | trivial | assumption | go_keep) (first | (go_at_call 35; refine (KN.out _ (by first | exact dro_1 _ | exact dro_n _ _ | exact dro_0 _)).mono ?_; rintro e w2 ⟨rfl, n2, hw2⟩; have HD2 := Lib.hid (show DrO w1 w2 from hw2 ▸ (DrO.drewN (by first | exact dro_1 _ | exact dro_n _ _ | exact dro_0 _) n2)); clear hw2) | (go_at_call 34; refine (KT.out _ (by first | exact HD2.out | exact HD2.out.drew | exact HD2.out.drewN _)).mono ?_; rintro e w3 ⟨rfl, rfl⟩) | (go_at_call 33; refine (KP.out _ (by first | exact HD2.out | exact HD2.out.drew | exact HD2.out.drewN _)).mono ?_; rintro e w4 ⟨rfl, hw4⟩))
      obtain ⟨n, rfl⟩ := HD2.out
      have hE := ((((HH.out.drewN n).setByte (i := 1) (by simp) ((pu4 t).getD 0 0)).setByte (i := 2) (by simp) ((pu4 t).getD 1 0)).setByte (i := 3) (by simp) ((pu4 t).getD 2 0)).setByte (i := 4) (by simp) ((pu4 t).getD 3 0)
      have tE := ((((TT.out.drewN n).set (b := q) (i := k + 1) (.inr ⟨rfl, by omega, by omega⟩) (.int .u8 (((pu4 t).getD 0 0).toNat : Int))).set (b := q) (i := k + 2) (.inr ⟨rfl, by omega, by omega⟩) (.int .u8 (((pu4 t).getD 1 0).toNat : Int))).set (b := q) (i := k + 3) (.inr ⟨rfl, by omega, by omega⟩) (.int .u8 (((pu4 t).getD 2 0).toNat : Int))).set (b := q) (i := k + 4) (.inr ⟨rfl, by omega, by omega⟩) (.int .u8 (((pu4 t).getD 3 0).toNat : Int))
      have HEE := Lib.hid (And.intro hE tE)
      clear hE tE KN KT KP
      go_wp2_with fail
      go_ret
      exact ⟨rfl, (p : Int), (a : Int), HEE.out.1, aged_turn p HA8.out, HEE.out.2⟩
    · have hxf := bool_ff hx
      have hw : wdN c p a x [b0, b1, b2, b3] = (1, 2 * a % 8 + 1, [x]) := by unfold wdN; rw [if_pos (.inr hxf)]
      rw [hw]
      clear hw
      go_enter Tryd.func29, Tryd.ntmps29
      go_wp2_with fail
      refine KA.out.mono ?_
      rintro e w1 ⟨rfl, d, hw1⟩
      have hh := H1.out d
      have tt := T1.out d
      rw [← hw1] at hh tt
      have KB := Lib.hid (bars_any (C := C) hh HA8.out rfl)
      have KX := Lib.hid (fun w => edge_any b3 w)
      rw [hbf] at KB
      rw [hxf] at KX
      have HH := Lib.hid hh
      have TT := Lib.hid tt
      have cy : w1.cell? ⟨q, k + 4, none⟩ = some (.int .u8 (b3.toNat : Int)) := hh.byte 4 (by simp)
      clear hw1 hb hbf hx hxf KA H1 T1 hh tt
      go_wp2_with fail
      refine KB.out.mono ?_
      rintro e w2 ⟨rfl, rfl⟩
      go_wp2_with fail
      refine (KX.out w1).mono ?_
      rintro e w2 ⟨rfl, rfl⟩
      have c3 := HH.out.mask
      have f3 := HH.out.free (o + 3)
      have e2 := HE.out.1
      have e3 := HE.out.2.1
      have e4 := HE.out.2.2
      go_wp2_with fail
      go_ret
      exact ⟨rfl, (p : Int), _, HH.out.setMask _, aged_stay p a, TT.out.set (.inl ⟨rfl, by omega, by omega⟩) _⟩
theorem getD_take {l : List UInt8} {n j : Nat} (h : j < n) : (l.take n).getD j 0 = l.getD j 0 := by
  rw [List.getD_eq_getElem?_getD, List.getD_eq_getElem?_getD, List.getElem?_take_of_lt h]
theorem wd_take (c : Bool) (p a : Nat) (x : UInt8) (rr : List UInt8) : wdN c p a x (rr.take 4) = wdN c p a x rr := by
  have e : baB a (rr.take 4) = baB a rr := by unfold baB; rw [getD_take (by omega)]
  have e2 : le4 (rr.take 4) = le4 rr := by unfold le4; rw [getD_take (by decide), getD_take (by decide), getD_take (by decide), getD_take (by decide)]
  unfold wdN
  rw [e, e2, getD_take (by decide)]
/-- beyond a word all is as it was -/
theorem At.more {w' : World} {x : UInt8} {rr hd : List UInt8} {n p' : Nat} {l' m' : Int} (h : At w r o q k c p l m (x :: rr)) (hr : 4 ≤ rr.length) (hn : n ≤ 5) (hl : hd.length = n)
    (h' : At w' r o q k c p' l' m' (hd ++ (x :: rr.take 4).drop n)) (ht : Tch r o q k w w') : At w' r o q k c p' l' m' (hd ++ (x :: rr).drop n) := by
  have hlen : (hd ++ (x :: rr).drop n).length = rr.length + 1 := by rw [List.length_append, List.length_drop, List.length_cons]; omega
  have hlen' : (hd ++ (x :: rr.take 4).drop n).length = 5 := by rw [List.length_append, List.length_drop, List.length_cons, List.length_take]; omega
  have e5 : ∀ j, j < 5 → (hd ++ (x :: rr.take 4).drop n).getD j 0 = (hd ++ (x :: rr).drop n).getD j 0 := fun j hj => by
    rw [List.getD_eq_getElem?_getD, List.getD_eq_getElem?_getD]
    by_cases e : j < hd.length
    · rw [List.getElem?_append_left e, List.getElem?_append_left e]
    · rw [List.getElem?_append_right (by omega), List.getElem?_append_right (by omega), List.getElem?_drop, List.getElem?_drop, show x :: rr.take 4 = (x :: rr).take 5 from rfl, List.getElem?_take_of_lt (by omega)]
  have e6 : ∀ j, 5 ≤ j → (hd ++ (x :: rr).drop n).getD j 0 = (x :: rr).getD j 0 := fun j hj => by
    rw [List.getD_eq_getElem?_getD, List.getD_eq_getElem?_getD, List.getElem?_append_right (by omega), List.getElem?_drop, show n + (j - hd.length) = j by omega]
  refine ⟨h'.codes, h'.place, h'.last, h'.mask, fun j hj => ?_, h'.free, h'.freeq, fun e j hj => h.apart e j (by rw [List.length_cons]; omega), h'.r2, h'.q2, h'.tabs⟩
  rcases Nat.lt_or_ge j 5 with h5 | h5
  · rw [← e5 j h5]
    exact h'.byte j (by omega)
  · rw [e6 j h5, ht.cell q (k + j) (by rintro ⟨e, e1, e2⟩; have := h.apart e j (by rw [List.length_cons]; omega); omega) (by omega)]
    exact h.byte j (by rw [List.length_cons]; omega)
theorem st_mark {c : Bool} {p a : Nat} {x : UInt8} {rr : List UInt8} (h : 4 ≤ rr.length ∧ mkB x = true) : stN c p a (x :: rr) = wdN c p a x rr := if_pos h
theorem st_plain {c : Bool} {p a : Nat} {x : UInt8} {rr : List UInt8} (h : ¬ (4 ≤ rr.length ∧ mkB x = true)) : stN c p a (x :: rr) = (1, 2 * a % 8, [x]) := if_neg h
set_option maxRecDepth 100000 in
set_option maxHeartbeats 4000000 in
theorem step_any {C n a : Nat} {x : UInt8} {rr : List UInt8} (h : At w r o q k c p l m (x :: rr)) (hA : Aged p l m a) (hr : rr.length + 1 = n) (hC : n ≤ C) (hC2 : C ≤ 9223372036854775807) (hp : p ≤ 1000000000) (hn : n ≤ 1000000000) :
    Calls Tryd.prog 23 #[.pointer (some ⟨r, o, none⟩), .slice (some ⟨q, k, none⟩) n C] w (StepPost w r o q k c p (x :: rr) (stN c p a (x :: rr)) (p + (stN c p a (x :: rr)).1)) := by
  have c1 := h.place
  have f1 := h.free (o + 1)
  have cx : w.cell? ⟨q, k, none⟩ = some (.int .u8 (x.toNat : Int)) := h.byte 0 (by simp)
  have KM := Lib.hid (fun w => marks_any x w)
  have H := Lib.hid h
  have HAG := Lib.hid hA
  have n0 : (0 : Int) < (n : Int) := by omega
  have e1 : wrap64 ((p : Int) + 1) = (p : Int) + 1 := IntWalk.wrap64_in _ (by omega)
  by_cases h5 : 4 ≤ rr.length
  · have g5 : (n : Int) ≥ 5 := by omega
    cases hx : mkB x
    · have hs : stN c p a (x :: rr) = (1, 2 * a % 8, [x]) := st_plain (by rw [hx]; rintro ⟨_, h⟩; cases h)
      rw [hs]
      rw [hx] at KM
      clear h hA hr h5 hx hs hp hn hC hC2
      go_enter Tryd.func23, Tryd.ntmps23
      go_wp2_with fail
      refine (KM.out _).mono ?_
      rintro e w1 ⟨rfl, rfl⟩
      go_wp2_with fail
      go_ret
      exact ⟨rfl, l, m, by have := H.out.setPlace (p + 1); rwa [Int.natCast_add] at this, HAG.out.plain, (Tch.refl r o q k w).set (.inl ⟨rfl, by omega, by omega⟩) _⟩
    · have hs : stN c p a (x :: rr) = wdN c p a x rr := st_mark ⟨h5, hx⟩
      rw [hs]
      rw [hx] at KM
      have hl4 : (rr.take 4).length = 4 := by rw [List.length_take]; exact Nat.min_eq_left h5
      have KW := word_any (C := C) (rr := rr.take 4) (h.first 5) hA hl4 (by omega) hC2 hp
      have hw4 := wd_take c p a x rr
      rw [hw4] at KW
      have hl := st_len c p a x rr
      rw [hs] at hl
      generalize wdN c p a x rr = S at *
      obtain ⟨s1, s2, s3⟩ := S
      have KW := Lib.hid KW
      have e2 : wrap64 ((p : Int) + (s1 : Int)) = (p : Int) + (s1 : Int) := IntWalk.wrap64_in _ (by have := hl.2.2.2; omega)
      have HL := Lib.hid (And.intro h5 hl)
      have hC5 : (5 : Int) ≤ (C : Int) := by omega
      have hC6 : 5 ≤ C := by omega
      clear h hA hr h5 hx hs hp hn hC hC2 hw4 hl
      go_enter Tryd.func23, Tryd.ntmps23
      go_wp2_with fail
      refine (KM.out _).mono ?_
      rintro e w1 ⟨rfl, rfl⟩
      go_wp2_with fail
      refine KW.out.mono ?_
      rintro e w2 ⟨rfl, l', m', h2, a2, t2⟩
      have H2 := Lib.hid (H.out.more HL.out.1 HL.out.2.2.2.2 HL.out.2.1 h2 t2)
      have A2 := Lib.hid a2
      have T2 := Lib.hid t2
      have d1 := h2.place
      have g1 := h2.free (o + 1)
      clear h2 a2 t2 KW KM c1 f1
      go_wp2_with fail
      go_ret
      exact ⟨rfl, l', m', by have := H2.out.setPlace (p + s1); rwa [Int.natCast_add] at this, A2.out, T2.out.set (.inl ⟨rfl, by omega, by omega⟩) _⟩
  · have g5 : ¬ (n : Int) ≥ 5 := by omega
    have hs : stN c p a (x :: rr) = (1, 2 * a % 8, [x]) := st_plain (fun h => h5 h.1)
    rw [hs]
    clear h hA hr h5 hs hp hn hC hC2
    go_enter Tryd.func23, Tryd.ntmps23
    go_wp2_with fail
    go_ret
    exact ⟨rfl, l, m, by have := H.out.setPlace (p + 1); rwa [Int.natCast_add] at this, HAG.out.plain, (Tch.refl r o q k w).set (.inl ⟨rfl, by omega, by omega⟩) _⟩
end
end Go.Proofs.YtcolnmjginpalaaDoor
