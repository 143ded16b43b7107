/-
  The filter of machine words over a feed: a byte is told.
-/
import Derived.Test.YtcolnmjginpalaaDoorBjNext
namespace Go.Proofs.YtcolnmjginpalaaDoor
set_option linter.unusedVariables false
set_option linter.unusedSimpArgs false
open Go.RowKit

theorem blk_cells {g : Nat} {T : TypeId} : ∀ (vs : List Value) (o : Nat) (w : World) (cs : Array Value), Blk w g T cs → o + vs.length ≤ cs.size →
    ∃ cs', Blk (w.setCells g o vs) g T cs' ∧ cs'.size = cs.size ∧ (∀ j, j < vs.length → cs'[o + j]? = vs[j]?) ∧ (∀ i, i < o ∨ o + vs.length ≤ i → cs'[i]? = cs[i]?) ∧ Only (fun i => i = g) w (w.setCells g o vs)
  | [], o, w, cs, h, _ => ⟨cs, h, rfl, fun j hj => absurd hj (Nat.not_lt_zero j), fun _ _ => rfl, Only.refl _ _⟩
  | v :: r, o, w, cs, h, hz => by
    rw [List.length_cons] at hz
    obtain ⟨c1, b1, b2, b3, b4, b5⟩ := blk_cells r (o + 1) (w.setCell ⟨g, o, none⟩ v) _ (h.put o v) (by rw [Array.size_setIfInBounds]; omega)
    rw [Array.size_setIfInBounds] at b2
    have e : w.setCells g o (v :: r) = (w.setCell ⟨g, o, none⟩ v).setCells g (o + 1) r := rfl
    rw [e]
    refine ⟨c1, b1, b2, fun j hj => ?_, fun i hi => ?_, ((Only.refl (fun i => i = g) w).setCell (.inl rfl) _).trans b5⟩
    · rw [List.length_cons] at hj
      rcases j with _ | j
      · rw [Nat.add_zero, b4 o (by omega), Array.getElem?_setIfInBounds, if_pos rfl, if_pos (by omega)]
        rfl
      · rw [show o + (j + 1) = o + 1 + j by omega, b3 j (by omega), List.getElem?_cons_succ]
    · rw [List.length_cons] at hi
      rw [b4 i (by omega), Array.getElem?_setIfInBounds, if_neg (by omega)]
section
variable {w : World} {g f lo told i a : Nat} {b wt dn : List UInt8} {l m : Int} {v0 : Value} {cs : Array Value}
def TellPost (w : World) (g f lo : Nat) (b : List UInt8) (told : Nat) (w' : World) : Prop :=
  ∃ (i' a' : Nat) (l' m' : Int) (v0' : Value) (cs' : Array Value) (wt' dn' : List UInt8), BF w' g f lo b told i' l' m' a' v0' cs' wt' dn' ∧ wt'.length ≤ 4 ∧ Only (own2 f g) w w'
theorem BF.tell {x : UInt8} {rr : List UInt8} (h : BF w g f lo b told i l m a v0 cs (x :: rr) dn) (hlt : told < i) (d1 : Nat) :
    TellPost w g f lo b (told + 1) ((((w.drewN d1).setCells g 5 (bv rr)).setCell ⟨g, 10, none⟩ (.int .i64 (rr.length : Int))).setCell ⟨g, 11, none⟩ (.int .i64 ((i - told - 1 : Nat) : Int))) := by
  have h5 := h.c.h5
  rw [List.length_cons] at h5
  have hz := h.c.size
  obtain ⟨c1, b1, b2, b3, b4, b5⟩ := blk_cells (bv rr) 5 (w.drewN d1) cs h.blk (by rw [bv_length]; omega)
  rw [bv_length] at b3 b4
  have b5 : Only (fun i => i = g) w ((w.drewN d1).setCells g 5 (bv rr)) := b5.of_drewN
  have hB := (b1.put 10 (.int .i64 (rr.length : Int))).put 11 (.int .i64 ((i - told - 1 : Nat) : Int))
  have hg : ∀ j, j ≠ 10 → j ≠ 11 → ((c1.setIfInBounds 10 (Value.int .i64 (rr.length : Int))).setIfInBounds 11 (Value.int .i64 ((i - told - 1 : Nat) : Int)))[j]? = c1[j]? := fun j h1 h2 => by
    rw [Array.getElem?_setIfInBounds, if_neg (by omega), Array.getElem?_setIfInBounds, if_neg (by omega)]
  have hl : ∀ j, j < 5 → ((c1.setIfInBounds 10 (Value.int .i64 (rr.length : Int))).setIfInBounds 11 (Value.int .i64 ((i - told - 1 : Nat) : Int)))[j]? = cs[j]? := fun j hj => (hg j (by omega) (by omega)).trans (b4 j (.inl hj))
  have hO : Only (fun i => i = g) w ((((w.drewN d1).setCells g 5 (bv rr)).setCell ⟨g, 10, none⟩ (.int .i64 (rr.length : Int))).setCell ⟨g, 11, none⟩ (.int .i64 ((i - told - 1 : Nat) : Int))) := (b5.setCell (.inl rfl) _).setCell (.inl rfl) _
  have hw0 := h.wt_is
  have hile := h.ile
  rw [List.length_cons] at hile
  refine ⟨i, a, l, m, v0, _, rr, dn, ⟨hB, ⟨by rw [Array.size_setIfInBounds, Array.size_setIfInBounds, b2]; exact hz, (hl 0 (by decide)).trans h.c.c0, (hl 1 (by decide)).trans h.c.c1, (hl 2 (by decide)).trans h.c.c2, (hl 3 (by decide)).trans h.c.c3, (hl 4 (by decide)).trans h.c.c4, fun j hj => ?_, ?_, ?_, by omega⟩, by omega, h.ag, h.dl, h.is, fun j hj => ?_, by omega, ?_, ?_, h.fg, h.two, h.lof, ?_⟩, by omega, hO.mono fun _ h => .inr h⟩
  · rw [hg _ (by omega) (by omega), b3 j hj, bv_get _ _ hj]
  · rw [Array.getElem?_setIfInBounds, if_neg (by decide), Array.getElem?_setIfInBounds, if_pos rfl, if_pos (by omega)]
  · rw [Array.getElem?_setIfInBounds, if_pos rfl, if_pos (by rw [Array.size_setIfInBounds]; omega), show i - told - 1 = i - (told + 1) by omega]
  · have := hw0 (j + 1) (by rw [List.length_cons]; omega)
    rw [List.getD_cons_succ, show told + (j + 1) = told + 1 + j by omega] at this
    exact this
  · rcases h.src with he | ⟨he, hle⟩
    · exact .inl he
    · rw [List.length_cons] at hle
      exact .inr ⟨he, by omega⟩
  · have hF := h.feed
    rw [List.length_cons, show told + (rr.length + 1) = told + 1 + rr.length by omega] at hF
    exact hF.only hO (fun j hj => by have := h.fg; omega)
  · exact h.tabs.only hO (by have := h.fg; have := h.two; have := h.lof; omega) (by have := h.fg; have := h.two; have := h.lof; omega)
theorem BF.first {x : UInt8} {rr : List UInt8} (h : BF w g f lo b told i l m a v0 cs (x :: rr) dn) (hlt : told < i) : (gN false 0 0 b).getD told 0 = x := by
  have h0 := h.wt_is 0 (by rw [List.length_cons]; omega)
  rw [if_pos (by omega), Nat.add_zero] at h0
  rw [← h.is, getD_app (by rw [h.dl]; exact hlt)]
  exact h0.symm
theorem BF.cons (h : BF w g f lo b told i l m a v0 cs wt dn) (hlt : told < i) : ∃ x rr, wt = x :: rr := by
  cases wt with
  | nil => have := h.ile; simp at this; omega
  | cons x rr => exact ⟨_, _, rfl⟩
theorem copy_down {W : World} {x : UInt8} {rr : List UInt8} (h : BF w g f lo b told i l m a v0 cs (x :: rr) dn) (hW : DrO w W) :
    (Builtin.copy_ #[22, 22] 3 #[.slice (some ⟨g, 5, none⟩) 5 5, .slice (some ⟨g, 6, none⟩) rr.length 4]).run Tryd.prog W = .ok (goInt rr.length) (W.setCells g 5 (bv rr)) := by
  obtain ⟨n, rfl⟩ := hW
  have h5 := h.c.h5
  rw [List.length_cons] at h5
  have hz := h.c.size
  have := run_copy_cells (P := Tryd.prog) (w.drewN n) 22 22 3 5 g 5 5 5 ⟨g, 6, none⟩ rr.length 4 (bv rr) Tryd.underlying22 u8_size (by rw [bv_length]; exact (Nat.min_eq_left (by omega)).symm) (fun j v hv => by
    have hj : j < rr.length := by have := (List.getElem?_eq_some_iff.1 hv).1; rwa [bv_length] at this
    rw [show (⟨g, 6, none⟩ : Addr).add j = ⟨g, 6 + j, none⟩ by unfold Addr.add; by_cases h0 : j = 0 <;> simp [h0]]
    have := h.c.wait (j + 1) (by rw [List.length_cons]; omega)
    rw [List.getD_cons_succ, show 5 + (j + 1) = 6 + j by omega] at this
    rw [← hv, bv_get _ _ hj]
    exact (h.blk.cell _).trans this) (fun j hj => by
    rw [bv_length] at hj
    have : (w.drewN n).cell? ⟨g, 5 + j, none⟩ = cs[5 + j]? := h.blk.cell _
    rw [this, Array.getElem?_eq_getElem (by omega)]
    rfl) (fun j _ => h.blk.free _) (bv_one rr)
  rw [bv_length] at this
  exact this
set_option maxRecDepth 100000 in
set_option maxHeartbeats 4000000 in
theorem bnext_past (h : BF w g f lo b told i l m a v0 cs wt dn) (hlt : told < i) :
    Calls Tryd.prog 16 #[.pointer (some ⟨g, 0, none⟩)] w fun e w' => e = .returned (.tuple #[.int .u8 (((gN false 0 0 b).getD told 0).toNat : Int), .bool true]) ∧ TellPost w g f lo b (told + 1) w' := by
  obtain ⟨x, rr, rfl⟩ := h.cons hlt
  rw [h.first hlt]
  have k11 : w.cell? ⟨g, 11, none⟩ = some (.int .i64 ((i - told : Nat) : Int)) := (h.blk.cell 11).trans h.c.c11
  have k10 : w.cell? ⟨g, 10, none⟩ = some (.int .i64 ((rr.length + 1 : Nat) : Int)) := (h.blk.cell 10).trans h.c.c10
  have k5 : w.cell? ⟨g, 5, none⟩ = some (.int .u8 (x.toNat : Int)) := (h.blk.cell 5).trans (h.c.wait 0 (by rw [List.length_cons]; omega))
  have h5 : rr.length + 1 ≤ 5 := h.c.h5
  obtain ⟨P, hP⟩ : ∃ P, P = i - told := ⟨_, rfl⟩
  obtain ⟨L, hL⟩ : ∃ L, L = rr.length + 1 := ⟨_, rfl⟩
  rw [← hP] at k11
  rw [← hL] at k10 h5
  have e0 : ((P : Int) == 0) = false := by simp; omega
  have l1 : (1 : Int) ≤ (L : Int) := by omega
  have l5 : (L : Int) ≤ 5 := by omega
  have hrun := copy_down (W := w.drew) h (dro_1 w)
  rw [show rr.length = L - 1 by omega] at hrun
  have H := Lib.hid (And.intro h (And.intro hlt (And.intro hP hL)))
  clear h hlt hP hL h5
  go_enter Tryd.func16, Tryd.ntmps16
  go_wp2_with fail
  go_region
  obtain ⟨c1, b1, b2, b3, b4, b5⟩ := blk_cells (bv rr) 5 w.drew _ H.out.1.blk (by have := H.out.1.c.size; have := H.out.1.c.h5; rw [List.length_cons] at this; rw [bv_length]; omega)
  have z10 : (w.drew.setCells g 5 (bv rr)).cell? ⟨g, 10, none⟩ = some (.int .i64 (L : Int)) := by
    have h5 := H.out.1.c.h5
    rw [List.length_cons] at h5
    rw [b1.cell, b4 10 (.inr (by rw [bv_length]; omega)), H.out.1.c.c10, H.out.2.2.2]
    rfl
  have z11 : (w.drew.setCells g 5 (bv rr)).cell? ⟨g, 11, none⟩ = some (.int .i64 (P : Int)) := by
    have h5 := H.out.1.c.h5
    rw [List.length_cons] at h5
    rw [b1.cell, b4 11 (.inr (by rw [bv_length]; omega)), H.out.1.c.c11, H.out.2.2.1]
  have y10 : (w.drew.setCells g 5 (bv rr)).frozen? ⟨g, 10, none⟩ = false := b1.free _
  have y11 : (w.drew.setCells g 5 (bv rr)).frozen? ⟨g, 11, none⟩ = false := b1.free _
  have HTL := Lib.hid (H.out.1.tell H.out.2.1 1)
  have e1 : wrap64 ((L : Int) - 1) = (rr.length : Int) := by
    rw [IntWalk.wrap64_in _ (by have := H.out.1.c.h5; rw [List.length_cons] at this; have := H.out.2.2.2; omega)]
    have := H.out.2.2.2
    omega
  have e2 : wrap64 ((P : Int) - 1) = ((i - told - 1 : Nat) : Int) := by
    rw [IntWalk.wrap64_in _ (by have := H.out.1.ile; have := H.out.1.c.h5; have := H.out.2.2.1; omega)]
    have := H.out.2.2.1
    have := H.out.2.1
    omega
  have HEE := Lib.hid (And.intro e1 e2)
  clear b1 b2 b3 b4 b5 e1 e2 hrun
  generalize hw1 : w.drew.setCells g 5 (bv rr) = w1 at *
  have HW1 := Lib.hid hw1
  clear hw1
  have e1 := HEE.out.1
  have e2 := HEE.out.2
  go_wp2_with fail
  go_ret2
  have := HTL.out
  rw [show w.drewN 1 = w.drew from rfl, HW1.out] at this
  rw [show (rr.length : Int) = (L : Int) - 1 by have := H.out.2.2.2; omega] at this
  exact ⟨rfl, this⟩
set_option maxRecDepth 100000 in
set_option maxHeartbeats 4000000 in
theorem bnext_step (h : BF w g f lo b i i l m a v0 cs wt dn) (hlt : i < b.length) (hb : b.length ≤ 1000000) :
    Calls Tryd.prog 16 #[.pointer (some ⟨g, 0, none⟩)] w fun e w' => e = .returned (.tuple #[.int .u8 (((gN false 0 0 b).getD i 0).toNat : Int), .bool true]) ∧ TellPost w g f lo b (i + 1) w' := by
  have k11 : w.cell? ⟨g, 11, none⟩ = some (.int .i64 0) := by
    rw [h.blk.cell, h.c.c11, Nat.sub_self]
    rfl
  have KF := Lib.hid (fstep_more h hlt hb)
  clear h hlt hb
  go_enter Tryd.func16, Tryd.ntmps16
  go_wp2_with fail
  refine KF.out.mono ?_
  rintro e w2 ⟨rfl, i2, a2, l2, m2, v2, cs2, wt2, dn2, h, hlt, hO2⟩
  obtain ⟨x, rr, rfl⟩ := h.cons hlt
  have HFI := Lib.hid (h.first hlt)
  have HO2 := Lib.hid hO2
  have k11 : w2.cell? ⟨g, 11, none⟩ = some (.int .i64 ((i2 - i : Nat) : Int)) := (h.blk.cell 11).trans h.c.c11
  have k10 : w2.cell? ⟨g, 10, none⟩ = some (.int .i64 ((rr.length + 1 : Nat) : Int)) := (h.blk.cell 10).trans h.c.c10
  have k5 : w2.cell? ⟨g, 5, none⟩ = some (.int .u8 (x.toNat : Int)) := (h.blk.cell 5).trans (h.c.wait 0 (by rw [List.length_cons]; omega))
  have h5 : rr.length + 1 ≤ 5 := h.c.h5
  obtain ⟨P, hP⟩ : ∃ P, P = i2 - i := ⟨_, rfl⟩
  obtain ⟨L, hL⟩ : ∃ L, L = rr.length + 1 := ⟨_, rfl⟩
  rw [← hP] at k11
  rw [← hL] at k10 h5
  have l1 : (1 : Int) ≤ (L : Int) := by omega
  have l5 : (L : Int) ≤ 5 := by omega
  have hrun := copy_down (W := w2.drew) h (dro_1 w2)
  rw [show rr.length = L - 1 by omega] at hrun
  have H := Lib.hid (And.intro h (And.intro hlt (And.intro hP hL)))
  clear h hlt hP hL h5 hO2 KF
  go_wp2_with fail
  go_region
  obtain ⟨c1, b1, b2, b3, b4, b5⟩ := blk_cells (bv rr) 5 w2.drew _ H.out.1.blk (by have := H.out.1.c.size; have := H.out.1.c.h5; rw [List.length_cons] at this; rw [bv_length]; omega)
  have z10 : (w2.drew.setCells g 5 (bv rr)).cell? ⟨g, 10, none⟩ = some (.int .i64 (L : Int)) := by
    have h5 := H.out.1.c.h5
    rw [List.length_cons] at h5
    rw [b1.cell, b4 10 (.inr (by rw [bv_length]; omega)), H.out.1.c.c10, H.out.2.2.2]
    rfl
  have z11 : (w2.drew.setCells g 5 (bv rr)).cell? ⟨g, 11, none⟩ = some (.int .i64 (P : Int)) := by
    have h5 := H.out.1.c.h5
    rw [List.length_cons] at h5
    rw [b1.cell, b4 11 (.inr (by rw [bv_length]; omega)), H.out.1.c.c11, H.out.2.2.1]
  have y10 : (w2.drew.setCells g 5 (bv rr)).frozen? ⟨g, 10, none⟩ = false := b1.free _
  have y11 : (w2.drew.setCells g 5 (bv rr)).frozen? ⟨g, 11, none⟩ = false := b1.free _
  have HTL := Lib.hid (H.out.1.tell H.out.2.1 1)
  have e1 : wrap64 ((L : Int) - 1) = (rr.length : Int) := by
    rw [IntWalk.wrap64_in _ (by have := H.out.1.c.h5; rw [List.length_cons] at this; have := H.out.2.2.2; omega)]
    have := H.out.2.2.2
    omega
  have e2 : wrap64 ((P : Int) - 1) = ((i2 - i - 1 : Nat) : Int) := by
    rw [IntWalk.wrap64_in _ (by have := H.out.1.ile; have := H.out.1.c.h5; have := H.out.2.2.1; omega)]
    have := H.out.2.2.1
    have := H.out.2.1
    omega
  have HEE := Lib.hid (And.intro e1 e2)
  clear b1 b2 b3 b4 b5 e1 e2 hrun
  generalize hw1 : w2.drew.setCells g 5 (bv rr) = w1 at *
  have HW1 := Lib.hid hw1
  clear hw1
  have e1 := HEE.out.1
  have e2 := HEE.out.2
  go_wp2_with fail
  go_ret2
  have := HTL.out
  rw [show w2.drewN 1 = w2.drew from rfl, HW1.out] at this
  rw [show (rr.length : Int) = (L : Int) - 1 by have := H.out.2.2.2; omega] at this
  obtain ⟨x1, x2, x3, x4, x5, x6, x7, x8, g1, g2, g3⟩ := this
  exact ⟨by rw [HFI.out]; rfl, x1, x2, x3, x4, x5, x6, x7, x8, g1, g2, HO2.out.trans g3⟩
set_option maxRecDepth 100000 in
set_option maxHeartbeats 4000000 in
theorem bnext_end (h : BF w g f lo b i i l m a v0 cs wt dn) (hlt : ¬ i < b.length) :
    Calls Tryd.prog 16 #[.pointer (some ⟨g, 0, none⟩)] w fun e w' => e = .returned (.tuple #[.int .u8 0, .bool false]) ∧ EndFPost w g f lo b i w' := by
  have k11 : w.cell? ⟨g, 11, none⟩ = some (.int .i64 0) := by
    rw [h.blk.cell, h.c.c11, Nat.sub_self]
    rfl
  have KF := Lib.hid (fstep_end h hlt)
  clear h hlt
  go_enter Tryd.func16, Tryd.ntmps16
  go_wp2_with fail
  refine KF.out.mono ?_
  rintro e w2 ⟨rfl, hp⟩
  have HP := Lib.hid hp
  clear hp KF
  go_wp2_with fail
  go_ret2
  exact ⟨rfl, HP.out⟩
theorem bnext_any (h : BF w g f lo b told i l m a v0 cs wt dn) (hlt : told < b.length) (hb : b.length ≤ 1000000) :
    Calls Tryd.prog 16 #[.pointer (some ⟨g, 0, none⟩)] w fun e w' => e = .returned (.tuple #[.int .u8 (((gN false 0 0 b).getD told 0).toNat : Int), .bool true]) ∧ TellPost w g f lo b (told + 1) w' := by
  by_cases hti : told < i
  · exact bnext_past h hti
  · obtain rfl : told = i := by have := h.ti; omega
    exact bnext_step h hlt hb
end
end Go.Proofs.YtcolnmjginpalaaDoor
