/-
  LzKind, RdRef, RdLevel, RdBit: put together.
-/
import Derived.Test.YtoencondpbkomaaGreatQ20
import Derived.Test.YtoencondpbkomaaGreatQ10
import Derived.Test.YtoencondpbkomaaGreatRows
import Derived.Test.YtoencondpbkomaaGreatQ01
import Derived.Tactics
import Derived.Tactics2
import Derived.Laws.Pointers
import Derived.RegionTactic
import Derived.RegionCalls
import Derived.BigQuiet
import Derived.Deep.RegionLaw
set_option linter.unusedVariables false
set_option linter.unusedSimpArgs false
/-
  The reference of LZMA: which packet it is.
-/
namespace Go.Proofs.YtoencondpbkomaaGreat
open Go.RowKit

section
variable {σ : Type} {M : Mach σ} {ok : Nat → σ → Prop} {R : Nat → Prop} {K : World → Value → Value → (Nat → Prop) → σ → Prop} {w : World} {g : Nat} {G : Nat → Prop} {z : Lzs} {t : Pm σ}

/-- What the kind leaves. -/
def KindPost (R : Nat → Prop) (K : World → Value → Value → (Nat → Prop) → σ → Prop) (w0 : World) (G0 : Nat → Prop) (g : Nat) (z : Lzs) (r : Nat × Bool × Pm σ) (x : Ending) (w' : World) : Prop :=
  x = .returned (.int .i64 (r.1 : Int)) ∧ ZAt R K w0 G0 w' g { z with bad := z.bad || r.2.1 } r.2.2
theorem kind_end {w0 : World} {G0 : Nat → Prop} {t : Pm σ} (h : ZAt R K w0 G0 w g z t) : ZAt R K w0 G0 w g { z with bad := z.bad || false } t := by
  rw [Bool.or_false]
  exact h
theorem ch_eq (kd c : Int) (p : Prop) [Decidable p] (hp : p ↔ kd = c) (w : World) : Calls Tryz.prog 55 #[.bool (kd == c), .int .i64 0, .int .i64 1] w fun x w' => x = .returned (.int .i64 (chI p)) ∧ w = w' := by
  have h := choose_any (kd == c) w
  have e : (if (kd == c) = true then (0 : Int) else 1) = chI p := by
    unfold chI
    by_cases hc : kd = c
    · rw [if_pos (by simp [hc]), if_pos (hp.2 hc)]
    · rw [if_neg (by simp [hc]), if_neg (fun h => hc (hp.1 h))]
  rw [e] at h
  exact h
theorem pi_add {a b c : Nat} (h : a + b = c) (hc : c < 1000000) : IntKind.i64.wrap ((a : Int) + (b : Int)) = (c : Int) := by
  rw [show (a : Int) + (b : Int) = (c : Int) by omega]
  exact IntWalk.i64_in _ (by omega)

set_option maxRecDepth 100000 in
set_option maxHeartbeats 16000000 in
theorem zkind_any (Z : ZOps M ok R K) {w0 : World} {G0 : Nat → Prop} {L k s : Nat} {kd : Int} (h : ZAt R K w0 G0 w g z t) (ht : PmOk ok L (k + 5) t) (hf : ZFine z L) (hs : s ≤ 15) (hk : M.mayN kd) (h0 : -1000000 ≤ kd) (h1 : kd ≤ 1000000) :
    Calls Tryz.prog 37 #[.pointer (some ⟨g, 0, none⟩), .int .i64 (s : Int), .int .i64 kd] w (KindPost R K w0 G0 g z (kindP M t (decide (z.out.length = 0)) z.st s kd)) := by
  have hst := hf.st
  have hL0 : 1847 ≤ L := by have := hf.len; omega
  have hL := (hf.small).1
  obtain ⟨st, hste⟩ : ∃ st, st = z.st := ⟨_, rfl⟩
  rw [← hste] at hst ⊢
  obtain ⟨_, _, _, _, s8, _⟩ := h.cells
  rw [← hste] at s8
  obtain ⟨ad, had⟩ : ∃ a, a = 16 * st + s := ⟨_, rfl⟩
  have hmay : M.may (min kd 1) := fun he => by have := hk he; omega
  obtain ⟨b1, p1⟩ := bitP_ok Z.okm (k := k + 4) (a := ad) (w := min kd 1) ht (by omega) hmay
  have HK1 := Lib.hid (ZAt.bit Z h (k := k + 4) (a := ad) (b := min kd 1) ht (by omega) hL hmay)
  have hdef : kindP M t (decide (z.out.length = 0)) st s kd = kd1 M (bitP M t ad (min kd 1)) (decide (z.out.length = 0)) st s kd := by rw [had]; rfl
  rw [hdef]
  obtain ⟨B1, hB1⟩ : ∃ B, B = bitP M t ad (min kd 1) := ⟨_, rfl⟩
  rw [← hB1] at b1 p1 HK1 ⊢
  have HP1 := Lib.hid p1
  have e1 : IntKind.i64.wrap (16 * (st : Int)) = 16 * (st : Int) := IntWalk.i64_in _ (by omega)
  have e2 : IntKind.i64.wrap (16 * (st : Int) + (s : Int)) = (ad : Int) := by rw [show 16 * (st : Int) + (s : Int) = (ad : Int) by omega]; exact IntWalk.i64_in _ (by omega)
  have e3 : IntKind.i64.wrap (0 + 16 * (st : Int)) = 16 * (st : Int) := by rw [Int.zero_add]; exact e1
  have HST := Lib.hid hste
  have HS := Lib.hid (show s ≤ 15 ∧ st ≤ 11 ∧ 1847 ≤ L ∧ L ≤ 100000000 from ⟨hs, hst, hL0, hL⟩)
  have HB1 := Lib.hid b1
  obtain ⟨em, hem⟩ : ∃ e, e = decide (z.out.length = 0) := ⟨_, rfl⟩
  rw [← hem]
  obtain ⟨res, hr⟩ : ∃ r, r = kd1 M B1 em st s kd := ⟨_, rfl⟩
  rw [← hr]
  have HR := Lib.hid hr
  have HEM := Lib.hid hem
  clear b1 p1 hB1 hdef hmay had hste hst hL0 hL h ht hf hs hk h0 h1 hem hr
  go_enter Tryz.func37, Tryz.ntmps37
  go_wp2_with fail
  refine HK1.out.mono ?_
  rintro e w1 ⟨rfl, hz1⟩
  have HZ1 := Lib.hid hz1
  clear hz1 HK1 e1 e2 e3 s8
  by_cases hb0 : B1.1 = 0
  · have hres : kd1 M B1 (em) st s kd = (0, false, B1.2) := by unfold kd1; rw [if_pos hb0]
    rw [hb0]
    clear hb0
    go_wp2_with fail
    go_ret
    rw [HR.out, hres]
    refine ⟨rfl, ?_⟩
    show ZAt R K w0 G0 w1 g { z with bad := z.bad || false } B1.2
    rw [Bool.or_false]
    exact HZ1.out
  obtain ⟨bb, hbb⟩ : ∃ b, b = B1.1 := ⟨_, rfl⟩
  have gb : ¬ (bb : Int) = 0 := by omega
  have gb' : ((bb : Int) == 0) = false := by simp; omega
  rw [← hbb]
  obtain ⟨a2, ha2⟩ : ∃ a, a = 192 + st := ⟨_, rfl⟩
  have HD2 := Lib.hid (show kd1 M B1 (em) st s kd = kd2 M (bitP M B1.2 a2 (chI (kd = 1 ∨ kd = 7))) (em) st s kd by unfold kd1; rw [if_neg hb0, ha2])
  have HKB := Lib.hid (ZAt.bit Z (HZ1.out.drewN Z 1) (k := k + 3) (a := a2) (b := chI (kd = 1 ∨ kd = 7)) HP1.out (by have := HS.out; omega) HS.out.2.2.2 (chI_may _))
  obtain ⟨b2, p2⟩ := bitP_ok Z.okm (k := k + 3) (a := a2) (w := chI (kd = 1 ∨ kd = 7)) HP1.out (by have := HS.out; omega) (chI_may _)
  obtain ⟨B2, hB2⟩ : ∃ B, B = bitP M B1.2 a2 (chI (kd = 1 ∨ kd = 7)) := ⟨_, rfl⟩
  rw [← hB2] at b2 p2 HKB HD2
  have HP2 := Lib.hid p2
  have HB2 := Lib.hid b2
  have f1 : IntKind.i64.wrap (192 + (st : Int)) = (a2 : Int) := pi_add (a := 192) ha2.symm (by have := HS.out; omega)
  obtain ⟨_, _, _, _, s8x, _⟩ := HZ1.out.cells
  rw [← HST.out] at s8x
  obtain ⟨c2, hc2⟩ : ∃ c, c = chI (kd = 1 ∨ kd = 7) := ⟨_, rfl⟩
  rw [← hc2] at HKB
  clear b2 p2 hB2 ha2 hb0
  by_cases k1 : kd = 1
  focus
    have d1' : (kd == 1) = true := by simp [k1]
    have KC := Lib.hid (fun w => choose_any true w)
    have hc0 : c2 = 0 := by rw [hc2]; unfold chI; rw [if_pos (.inl k1)]
    rw [hc0] at HKB
    clear hc2 hbb hc0 k1
    go_wp2_with fail
    refine wp_region_held_drew (S := fun w' => w'.cell? ⟨g, 8, none⟩ = some (.int .i64 (st : Int))) (by kernel_rfl) s8x (fun hHeld => ?_)
    refine wpAnyH_take (i := 0) (v := ?_) rfl (by kernel_rfl) (by kernel_rfl) (by kernel_rfl) (fun _ _ _ h => h) (Or.inl ⟨by rfl, ?_⟩) (by assumption) ?_
    rotate_left
    · (intro w hSw; (try dsimp only at hSw); go_simp; try with_reducible rfl)
    try simp only [Act.put, List.setIfInBounds_toArray, List.set_cons_zero, List.set_cons_succ, List.getElem_toArray, List.getElem_cons_zero, List.getElem_cons_succ]
    refine wpAnyH_take (i := 1) (v := ?_) rfl (by kernel_rfl) (by kernel_rfl) (by kernel_rfl) (fun _ _ _ h => h) (Or.inl ⟨by rfl, ?_⟩) (by assumption) ?_
    rotate_left
    · (intro w hSw; (try dsimp only at hSw); go_simp; try with_reducible rfl)
    try simp only [Act.put, List.setIfInBounds_toArray, List.set_cons_zero, List.set_cons_succ, List.getElem_toArray, List.getElem_cons_zero, List.getElem_cons_succ]
    refine wpAnyH_take (i := 2) (v := ?_) rfl (by kernel_rfl) (by kernel_rfl) (by kernel_rfl) (fun _ _ _ h => h) (Or.inl ⟨by rfl, ?_⟩) (by assumption) ?_
    rotate_left
    · (intro w hSw; (try dsimp only at hSw); go_simp; try with_reducible rfl)
    try simp only [Act.put, List.setIfInBounds_toArray, List.set_cons_zero, List.set_cons_succ, List.getElem_toArray, List.getElem_cons_zero, List.getElem_cons_succ]
    refine wpAnyH_take (i := 3) (v := ?_) rfl (by kernel_rfl) (by kernel_rfl) (by kernel_rfl) (fun _ _ _ h => h) (Or.inl ⟨by rfl, ?_⟩) (by assumption) ?_
    rotate_left
    · (intro w hSw; (try dsimp only at hSw); go_simp; try with_reducible rfl)
    try simp only [Act.put, List.setIfInBounds_toArray, List.set_cons_zero, List.set_cons_succ, List.getElem_toArray, List.getElem_cons_zero, List.getElem_cons_succ]
    refine wpAnyH_take (i := 4) (v := ?_) rfl (by kernel_rfl) (by kernel_rfl) (by kernel_rfl) (fun _ _ _ h => h) (Or.inl ⟨by rfl, ?_⟩) (by assumption) ?_
    rotate_left
    · (intro w hSw; (try dsimp only at hSw); go_simp; try with_reducible rfl)
    try simp only [Act.put, List.setIfInBounds_toArray, List.set_cons_zero, List.set_cons_succ, List.getElem_toArray, List.getElem_cons_zero, List.getElem_cons_succ]
    refine wpAnyH_take (i := 5) (v := ?_) rfl (by kernel_rfl) (by kernel_rfl) (by kernel_rfl) (fun _ _ _ h => h) (Or.inl ⟨by rfl, ?_⟩) (by assumption) ?_
    rotate_left
    · (intro w hSw; (try dsimp only at hSw); go_simp; try with_reducible rfl)
    try simp only [Act.put, List.setIfInBounds_toArray, List.set_cons_zero, List.set_cons_succ, List.getElem_toArray, List.getElem_cons_zero, List.getElem_cons_succ]
    refine wpAnyH_take (i := 6) (v := ?_) rfl (by kernel_rfl) (by kernel_rfl) (by kernel_rfl) (fun _ _ _ h => h) (Or.inl ⟨by rfl, ?_⟩) (by assumption) ?_
    rotate_left
    · (intro w hSw; (try dsimp only at hSw); go_simp; try with_reducible rfl)
    try simp only [Act.put, List.setIfInBounds_toArray, List.set_cons_zero, List.set_cons_succ, List.getElem_toArray, List.getElem_cons_zero, List.getElem_cons_succ]
    refine wpAnyH_take (i := 7) (v := ?_) rfl (by kernel_rfl) (by kernel_rfl) (by kernel_rfl) (fun _ _ _ h => h) (Or.inl ⟨by rfl, ?_⟩) (by assumption) ?_
    rotate_left
    · (intro w hSw; (try dsimp only at hSw); go_simp; try with_reducible rfl)
    try simp only [Act.put, List.setIfInBounds_toArray, List.set_cons_zero, List.set_cons_succ, List.getElem_toArray, List.getElem_cons_zero, List.getElem_cons_succ]
    refine wpAnyH_take (i := 8) (v := ?_) rfl (by kernel_rfl) (by kernel_rfl) (by kernel_rfl) (fun _ _ _ h => h) (Or.inl ⟨by rfl, ?_⟩) (by assumption) ?_
    rotate_left
    · (intro w hSw; (try dsimp only at hSw); go_simp; try with_reducible rfl)
    try simp only [Act.put, List.setIfInBounds_toArray, List.set_cons_zero, List.set_cons_succ, List.getElem_toArray, List.getElem_cons_zero, List.getElem_cons_succ]
    refine wpAnyH_take (i := 9) (v := undef) rfl (by kernel_rfl) (by kernel_rfl) (by kernel_rfl) (fun _ _ _ h => h) (Or.inr ⟨by rfl, rfl⟩) (by assumption) ?_
    try simp only [Act.put, List.setIfInBounds_toArray, List.set_cons_zero, List.set_cons_succ, List.getElem_toArray, List.getElem_cons_zero, List.getElem_cons_succ]
    refine wpAnyH_take (i := 10) (v := undef) rfl (by kernel_rfl) (by kernel_rfl) (by kernel_rfl) (fun _ _ _ h => h) (Or.inr ⟨by rfl, rfl⟩) (by assumption) ?_
    try simp only [Act.put, List.setIfInBounds_toArray, List.set_cons_zero, List.set_cons_succ, List.getElem_toArray, List.getElem_cons_zero, List.getElem_cons_succ]
    refine wpAnyH_take (i := 11) (v := ?_) rfl (by kernel_rfl) (by kernel_rfl) (by kernel_rfl) (fun _ _ _ h => h) (Or.inl ⟨by rfl, ?_⟩) (by assumption) ?_
    rotate_left
    · (intro w hSw; (try dsimp only at hSw); go_simp; try with_reducible rfl)
    try simp only [Act.put, List.setIfInBounds_toArray, List.set_cons_zero, List.set_cons_succ, List.getElem_toArray, List.getElem_cons_zero, List.getElem_cons_succ]
    refine wpAnyH_ready (rs := [12]) (by kernel_rfl) (by simp) (AllReadyH.cons (i := 12) rfl (fun K hK => ?_) AllReadyH.nil)
    try simp only [List.getElem_toArray, List.getElem_cons_zero, List.getElem_cons_succ]
    go_simp
    go_at_call 55
    refine (KC.out _).mono ?_
    rintro e w9 ⟨rfl, rfl⟩
    refine hK.out _ _ s8x (fun hHeld => ?_)
    clear hK K
    try simp only [Act.put, List.setIfInBounds_toArray, List.set_cons_zero, List.set_cons_succ]
    refine wpAnyH_ready (rs := [13]) (by kernel_rfl) (by simp) (AllReadyH.cons (i := 13) rfl (fun K hK => ?_) AllReadyH.nil)
    try simp only [List.getElem_toArray, List.getElem_cons_zero, List.getElem_cons_succ]
    go_simp
    go_at_call 54
    refine HKB.out.mono ?_
    rintro e w2 ⟨rfl, hz2⟩
    have j0 : w2.cell? ⟨g, 8, none⟩ = some (.int .i64 (st : Int)) := by have h8 := hz2.cells.2.2.2.2.1; rw [← HST.out] at h8; exact h8
    have HZ2 := Lib.hid hz2
    clear hz2
    refine hK.out _ _ j0 (fun hHeld => ?_)
    clear hK K
    try simp only [Act.put, List.setIfInBounds_toArray, List.set_cons_zero, List.set_cons_succ]
    refine wpAnyH_take (i := 14) (v := ?_) rfl (by kernel_rfl) (by kernel_rfl) (by kernel_rfl) (fun _ _ _ h => h) (Or.inl ⟨by rfl, ?_⟩) (by assumption) ?_
    rotate_left
    · (intro w hSw; (try dsimp only at hSw); go_simp; try with_reducible rfl)
    try simp only [Act.put, List.setIfInBounds_toArray, List.set_cons_zero, List.set_cons_succ, List.getElem_toArray, List.getElem_cons_zero, List.getElem_cons_succ]
    refine wpAnyH_done (by kernel_rfl) ?_ _
  rotate_left
  focus
    have d1' : (kd == 1) = false := by simp [k1]
    have KC := Lib.hid (ch_eq kd 7 (kd = 1 ∨ kd = 7) ⟨fun h => h.resolve_left k1, .inr⟩)
    rw [← hc2] at KC
    clear hc2 hbb k1
    go_wp2_with fail
    refine wp_region_held_drew (S := fun w' => w'.cell? ⟨g, 8, none⟩ = some (.int .i64 (st : Int))) (by kernel_rfl) s8x (fun hHeld => ?_)
    refine wpAnyH_take (i := 0) (v := ?_) rfl (by kernel_rfl) (by kernel_rfl) (by kernel_rfl) (fun _ _ _ h => h) (Or.inl ⟨by rfl, ?_⟩) (by assumption) ?_
    rotate_left
    · (intro w hSw; (try dsimp only at hSw); go_simp; try with_reducible rfl)
    try simp only [Act.put, List.setIfInBounds_toArray, List.set_cons_zero, List.set_cons_succ, List.getElem_toArray, List.getElem_cons_zero, List.getElem_cons_succ]
    refine wpAnyH_take (i := 1) (v := ?_) rfl (by kernel_rfl) (by kernel_rfl) (by kernel_rfl) (fun _ _ _ h => h) (Or.inl ⟨by rfl, ?_⟩) (by assumption) ?_
    rotate_left
    · (intro w hSw; (try dsimp only at hSw); go_simp; try with_reducible rfl)
    try simp only [Act.put, List.setIfInBounds_toArray, List.set_cons_zero, List.set_cons_succ, List.getElem_toArray, List.getElem_cons_zero, List.getElem_cons_succ]
    refine wpAnyH_take (i := 2) (v := ?_) rfl (by kernel_rfl) (by kernel_rfl) (by kernel_rfl) (fun _ _ _ h => h) (Or.inl ⟨by rfl, ?_⟩) (by assumption) ?_
    rotate_left
    · (intro w hSw; (try dsimp only at hSw); go_simp; try with_reducible rfl)
    try simp only [Act.put, List.setIfInBounds_toArray, List.set_cons_zero, List.set_cons_succ, List.getElem_toArray, List.getElem_cons_zero, List.getElem_cons_succ]
    refine wpAnyH_take (i := 3) (v := ?_) rfl (by kernel_rfl) (by kernel_rfl) (by kernel_rfl) (fun _ _ _ h => h) (Or.inl ⟨by rfl, ?_⟩) (by assumption) ?_
    rotate_left
    · (intro w hSw; (try dsimp only at hSw); go_simp; try with_reducible rfl)
    try simp only [Act.put, List.setIfInBounds_toArray, List.set_cons_zero, List.set_cons_succ, List.getElem_toArray, List.getElem_cons_zero, List.getElem_cons_succ]
    refine wpAnyH_take (i := 4) (v := ?_) rfl (by kernel_rfl) (by kernel_rfl) (by kernel_rfl) (fun _ _ _ h => h) (Or.inl ⟨by rfl, ?_⟩) (by assumption) ?_
    rotate_left
    · (intro w hSw; (try dsimp only at hSw); go_simp; try with_reducible rfl)
    try simp only [Act.put, List.setIfInBounds_toArray, List.set_cons_zero, List.set_cons_succ, List.getElem_toArray, List.getElem_cons_zero, List.getElem_cons_succ]
    refine wpAnyH_take (i := 5) (v := ?_) rfl (by kernel_rfl) (by kernel_rfl) (by kernel_rfl) (fun _ _ _ h => h) (Or.inl ⟨by rfl, ?_⟩) (by assumption) ?_
    rotate_left
    · (intro w hSw; (try dsimp only at hSw); go_simp; try with_reducible rfl)
    try simp only [Act.put, List.setIfInBounds_toArray, List.set_cons_zero, List.set_cons_succ, List.getElem_toArray, List.getElem_cons_zero, List.getElem_cons_succ]
    refine wpAnyH_take (i := 6) (v := ?_) rfl (by kernel_rfl) (by kernel_rfl) (by kernel_rfl) (fun _ _ _ h => h) (Or.inl ⟨by rfl, ?_⟩) (by assumption) ?_
    rotate_left
    · (intro w hSw; (try dsimp only at hSw); go_simp; try with_reducible rfl)
    try simp only [Act.put, List.setIfInBounds_toArray, List.set_cons_zero, List.set_cons_succ, List.getElem_toArray, List.getElem_cons_zero, List.getElem_cons_succ]
    refine wpAnyH_take (i := 7) (v := ?_) rfl (by kernel_rfl) (by kernel_rfl) (by kernel_rfl) (fun _ _ _ h => h) (Or.inl ⟨by rfl, ?_⟩) (by assumption) ?_
    rotate_left
    · (intro w hSw; (try dsimp only at hSw); go_simp; try with_reducible rfl)
    try simp only [Act.put, List.setIfInBounds_toArray, List.set_cons_zero, List.set_cons_succ, List.getElem_toArray, List.getElem_cons_zero, List.getElem_cons_succ]
    refine wpAnyH_take (i := 8) (v := ?_) rfl (by kernel_rfl) (by kernel_rfl) (by kernel_rfl) (fun _ _ _ h => h) (Or.inl ⟨by rfl, ?_⟩) (by assumption) ?_
    rotate_left
    · (intro w hSw; (try dsimp only at hSw); go_simp; try with_reducible rfl)
    try simp only [Act.put, List.setIfInBounds_toArray, List.set_cons_zero, List.set_cons_succ, List.getElem_toArray, List.getElem_cons_zero, List.getElem_cons_succ]
    refine wpAnyH_take (i := 9) (v := ?_) rfl (by kernel_rfl) (by kernel_rfl) (by kernel_rfl) (fun _ _ _ h => h) (Or.inl ⟨by rfl, ?_⟩) (by assumption) ?_
    rotate_left
    · (intro w hSw; (try dsimp only at hSw); go_simp; try with_reducible rfl)
    try simp only [Act.put, List.setIfInBounds_toArray, List.set_cons_zero, List.set_cons_succ, List.getElem_toArray, List.getElem_cons_zero, List.getElem_cons_succ]
    refine wpAnyH_take (i := 10) (v := ?_) rfl (by kernel_rfl) (by kernel_rfl) (by kernel_rfl) (fun _ _ _ h => h) (Or.inl ⟨by rfl, ?_⟩) (by assumption) ?_
    rotate_left
    · (intro w hSw; (try dsimp only at hSw); go_simp; try with_reducible rfl)
    try simp only [Act.put, List.setIfInBounds_toArray, List.set_cons_zero, List.set_cons_succ, List.getElem_toArray, List.getElem_cons_zero, List.getElem_cons_succ]
    refine wpAnyH_take (i := 11) (v := ?_) rfl (by kernel_rfl) (by kernel_rfl) (by kernel_rfl) (fun _ _ _ h => h) (Or.inl ⟨by rfl, ?_⟩) (by assumption) ?_
    rotate_left
    · (intro w hSw; (try dsimp only at hSw); go_simp; try with_reducible rfl)
    try simp only [Act.put, List.setIfInBounds_toArray, List.set_cons_zero, List.set_cons_succ, List.getElem_toArray, List.getElem_cons_zero, List.getElem_cons_succ]
    refine wpAnyH_ready (rs := [12]) (by kernel_rfl) (by simp) (AllReadyH.cons (i := 12) rfl (fun K hK => ?_) AllReadyH.nil)
    try simp only [List.getElem_toArray, List.getElem_cons_zero, List.getElem_cons_succ]
    go_simp
    go_at_call 55
    refine (KC.out _).mono ?_
    rintro e w9 ⟨rfl, rfl⟩
    refine hK.out _ _ s8x (fun hHeld => ?_)
    clear hK K
    try simp only [Act.put, List.setIfInBounds_toArray, List.set_cons_zero, List.set_cons_succ]
    refine wpAnyH_ready (rs := [13]) (by kernel_rfl) (by simp) (AllReadyH.cons (i := 13) rfl (fun K hK => ?_) AllReadyH.nil)
    try simp only [List.getElem_toArray, List.getElem_cons_zero, List.getElem_cons_succ]
    go_simp
    go_at_call 54
    refine HKB.out.mono ?_
    rintro e w2 ⟨rfl, hz2⟩
    have j0 : w2.cell? ⟨g, 8, none⟩ = some (.int .i64 (st : Int)) := by have h8 := hz2.cells.2.2.2.2.1; rw [← HST.out] at h8; exact h8
    have HZ2 := Lib.hid hz2
    clear hz2
    refine hK.out _ _ j0 (fun hHeld => ?_)
    clear hK K
    try simp only [Act.put, List.setIfInBounds_toArray, List.set_cons_zero, List.set_cons_succ]
    refine wpAnyH_take (i := 14) (v := ?_) rfl (by kernel_rfl) (by kernel_rfl) (by kernel_rfl) (fun _ _ _ h => h) (Or.inl ⟨by rfl, ?_⟩) (by assumption) ?_
    rotate_left
    · (intro w hSw; (try dsimp only at hSw); go_simp; try with_reducible rfl)
    try simp only [Act.put, List.setIfInBounds_toArray, List.set_cons_zero, List.set_cons_succ, List.getElem_toArray, List.getElem_cons_zero, List.getElem_cons_succ]
    refine wpAnyH_done (by kernel_rfl) ?_ _
  all_goals
    clear HKB KC s8x f1 d1' gb gb'
    by_cases hb20 : B2.1 = 0
    · rw [hb20]
      have hres : kd2 M B2 (em) st s kd = (1, false, B2.2) := by unfold kd2; rw [if_pos hb20]
      clear hb20
      go_wp2_with fail
      go_ret
      rw [HR.out, HD2.out, hres]
      exact ⟨rfl, kind_end HZ2.out⟩
    obtain ⟨bb2, hbb2⟩ : ∃ b, b = B2.1 := ⟨_, rfl⟩
    have gb : ¬ (bb2 : Int) = 0 := by omega
    have gb' : ((bb2 : Int) == 0) = false := by simp; omega
    rw [← hbb2]
    obtain ⟨A7, c7, o7, _⟩ := HZ2.out.told
    by_cases hn0 : z.out.length = 0
    · have hres : kd2 M B2 (em) st s kd = (6, true, B2.2) := by unfold kd2; rw [if_neg hb20, if_pos (by rw [HEM.out]; simp [hn0])]
      obtain ⟨_, _, _, _, _, _, _, _, _, _, s14, fz⟩ := HZ2.out.cells
      have fz14 := fz 14
      have HPUT := Lib.hid (ZAt.put Z HZ2.out (i := 14) (u := .bool true) (z' := { z with bad := true }) (fun _ _ _ _ _ _ => rfl) rfl)
      rw [hn0] at o7
      clear fz hbb2 hb20
      go_wp2_with fail
      go_ret
      rw [HR.out, HD2.out, hres]
      refine ⟨rfl, ?_⟩
      show ZAt R K w0 G0 _ g { z with bad := z.bad || true } B2.2
      rw [Bool.or_true]
      exact HPUT.out
    have gn : ¬ ((z.out.length : Nat) : Int) = 0 := by omega
    have gn' : (((z.out.length : Nat) : Int) == 0) = false := beq_eq_false_iff_ne.2 gn
    obtain ⟨a3, ha3⟩ : ∃ a, a = 204 + st := ⟨_, rfl⟩
    have HD3 := Lib.hid (show kd2 M B2 (em) st s kd = kd3 M (bitP M B2.2 a3 (chI (kd = 2 ∨ kd = 6))) st s kd by unfold kd2; rw [if_neg hb20, if_neg (by rw [HEM.out]; simp [hn0]), ha3])
    have HKB := Lib.hid (ZAt.bit Z (HZ2.out.drewN Z 1) (k := k + 2) (a := a3) (b := chI (kd = 2 ∨ kd = 6)) HP2.out (by have := HS.out; omega) HS.out.2.2.2 (chI_may _))
    obtain ⟨b3, p3⟩ := bitP_ok Z.okm (k := k + 2) (a := a3) (w := chI (kd = 2 ∨ kd = 6)) HP2.out (by have := HS.out; omega) (chI_may _)
    obtain ⟨B3, hB3⟩ : ∃ B, B = bitP M B2.2 a3 (chI (kd = 2 ∨ kd = 6)) := ⟨_, rfl⟩
    rw [← hB3] at b3 p3 HKB HD3
    have HP3 := Lib.hid p3
    have HB3 := Lib.hid b3
    have f1 : IntKind.i64.wrap (204 + (st : Int)) = (a3 : Int) := pi_add (a := 204) ha3.symm (by have := HS.out; omega)
    obtain ⟨_, _, _, _, s8x, _⟩ := HZ2.out.cells
    rw [← HST.out] at s8x
    obtain ⟨c3, hc3⟩ : ∃ c, c = chI (kd = 2 ∨ kd = 6) := ⟨_, rfl⟩
    rw [← hc3] at HKB
    clear b3 p3 hB3 ha3 hb20 hbb2 hn0
    have HZ1 := HZ2
    clear HZ2
    by_cases k2 : kd = 2
    focus
      have d1' : (kd == 2) = true := by simp [k2]
      have KC := Lib.hid (fun w => choose_any true w)
      have hc0 : c3 = 0 := by rw [hc3]; unfold chI; rw [if_pos (.inl k2)]
      rw [hc0] at HKB
      clear hc3 hc0 k2
      go_wp2_with fail
      refine wp_region_held_drew (S := fun w' => w'.cell? ⟨g, 8, none⟩ = some (.int .i64 (st : Int))) (by kernel_rfl) s8x (fun hHeld => ?_)
      refine wpAnyH_take (i := 0) (v := ?_) rfl (by kernel_rfl) (by kernel_rfl) (by kernel_rfl) (fun _ _ _ h => h) (Or.inl ⟨by rfl, ?_⟩) (by assumption) ?_
      rotate_left
      · (intro w hSw; (try dsimp only at hSw); go_simp; try with_reducible rfl)
      try simp only [Act.put, List.setIfInBounds_toArray, List.set_cons_zero, List.set_cons_succ, List.getElem_toArray, List.getElem_cons_zero, List.getElem_cons_succ]
      refine wpAnyH_take (i := 1) (v := ?_) rfl (by kernel_rfl) (by kernel_rfl) (by kernel_rfl) (fun _ _ _ h => h) (Or.inl ⟨by rfl, ?_⟩) (by assumption) ?_
      rotate_left
      · (intro w hSw; (try dsimp only at hSw); go_simp; try with_reducible rfl)
      try simp only [Act.put, List.setIfInBounds_toArray, List.set_cons_zero, List.set_cons_succ, List.getElem_toArray, List.getElem_cons_zero, List.getElem_cons_succ]
      refine wpAnyH_take (i := 2) (v := ?_) rfl (by kernel_rfl) (by kernel_rfl) (by kernel_rfl) (fun _ _ _ h => h) (Or.inl ⟨by rfl, ?_⟩) (by assumption) ?_
      rotate_left
      · (intro w hSw; (try dsimp only at hSw); go_simp; try with_reducible rfl)
      try simp only [Act.put, List.setIfInBounds_toArray, List.set_cons_zero, List.set_cons_succ, List.getElem_toArray, List.getElem_cons_zero, List.getElem_cons_succ]
      refine wpAnyH_take (i := 3) (v := ?_) rfl (by kernel_rfl) (by kernel_rfl) (by kernel_rfl) (fun _ _ _ h => h) (Or.inl ⟨by rfl, ?_⟩) (by assumption) ?_
      rotate_left
      · (intro w hSw; (try dsimp only at hSw); go_simp; try with_reducible rfl)
      try simp only [Act.put, List.setIfInBounds_toArray, List.set_cons_zero, List.set_cons_succ, List.getElem_toArray, List.getElem_cons_zero, List.getElem_cons_succ]
      refine wpAnyH_take (i := 4) (v := ?_) rfl (by kernel_rfl) (by kernel_rfl) (by kernel_rfl) (fun _ _ _ h => h) (Or.inl ⟨by rfl, ?_⟩) (by assumption) ?_
      rotate_left
      · (intro w hSw; (try dsimp only at hSw); go_simp; try with_reducible rfl)
      try simp only [Act.put, List.setIfInBounds_toArray, List.set_cons_zero, List.set_cons_succ, List.getElem_toArray, List.getElem_cons_zero, List.getElem_cons_succ]
      refine wpAnyH_take (i := 5) (v := ?_) rfl (by kernel_rfl) (by kernel_rfl) (by kernel_rfl) (fun _ _ _ h => h) (Or.inl ⟨by rfl, ?_⟩) (by assumption) ?_
      rotate_left
      · (intro w hSw; (try dsimp only at hSw); go_simp; try with_reducible rfl)
      try simp only [Act.put, List.setIfInBounds_toArray, List.set_cons_zero, List.set_cons_succ, List.getElem_toArray, List.getElem_cons_zero, List.getElem_cons_succ]
      refine wpAnyH_take (i := 6) (v := ?_) rfl (by kernel_rfl) (by kernel_rfl) (by kernel_rfl) (fun _ _ _ h => h) (Or.inl ⟨by rfl, ?_⟩) (by assumption) ?_
      rotate_left
      · (intro w hSw; (try dsimp only at hSw); go_simp; try with_reducible rfl)
      try simp only [Act.put, List.setIfInBounds_toArray, List.set_cons_zero, List.set_cons_succ, List.getElem_toArray, List.getElem_cons_zero, List.getElem_cons_succ]
      refine wpAnyH_take (i := 7) (v := ?_) rfl (by kernel_rfl) (by kernel_rfl) (by kernel_rfl) (fun _ _ _ h => h) (Or.inl ⟨by rfl, ?_⟩) (by assumption) ?_
      rotate_left
      · (intro w hSw; (try dsimp only at hSw); go_simp; try with_reducible rfl)
      try simp only [Act.put, List.setIfInBounds_toArray, List.set_cons_zero, List.set_cons_succ, List.getElem_toArray, List.getElem_cons_zero, List.getElem_cons_succ]
      refine wpAnyH_take (i := 8) (v := ?_) rfl (by kernel_rfl) (by kernel_rfl) (by kernel_rfl) (fun _ _ _ h => h) (Or.inl ⟨by rfl, ?_⟩) (by assumption) ?_
      rotate_left
      · (intro w hSw; (try dsimp only at hSw); go_simp; try with_reducible rfl)
      try simp only [Act.put, List.setIfInBounds_toArray, List.set_cons_zero, List.set_cons_succ, List.getElem_toArray, List.getElem_cons_zero, List.getElem_cons_succ]
      refine wpAnyH_take (i := 9) (v := undef) rfl (by kernel_rfl) (by kernel_rfl) (by kernel_rfl) (fun _ _ _ h => h) (Or.inr ⟨by rfl, rfl⟩) (by assumption) ?_
      try simp only [Act.put, List.setIfInBounds_toArray, List.set_cons_zero, List.set_cons_succ, List.getElem_toArray, List.getElem_cons_zero, List.getElem_cons_succ]
      refine wpAnyH_take (i := 10) (v := undef) rfl (by kernel_rfl) (by kernel_rfl) (by kernel_rfl) (fun _ _ _ h => h) (Or.inr ⟨by rfl, rfl⟩) (by assumption) ?_
      try simp only [Act.put, List.setIfInBounds_toArray, List.set_cons_zero, List.set_cons_succ, List.getElem_toArray, List.getElem_cons_zero, List.getElem_cons_succ]
      refine wpAnyH_take (i := 11) (v := ?_) rfl (by kernel_rfl) (by kernel_rfl) (by kernel_rfl) (fun _ _ _ h => h) (Or.inl ⟨by rfl, ?_⟩) (by assumption) ?_
      rotate_left
      · (intro w hSw; (try dsimp only at hSw); go_simp; try with_reducible rfl)
      try simp only [Act.put, List.setIfInBounds_toArray, List.set_cons_zero, List.set_cons_succ, List.getElem_toArray, List.getElem_cons_zero, List.getElem_cons_succ]
      refine wpAnyH_ready (rs := [12]) (by kernel_rfl) (by simp) (AllReadyH.cons (i := 12) rfl (fun K hK => ?_) AllReadyH.nil)
      try simp only [List.getElem_toArray, List.getElem_cons_zero, List.getElem_cons_succ]
      go_simp
      go_at_call 55
      refine (KC.out _).mono ?_
      rintro e w9 ⟨rfl, rfl⟩
      refine hK.out _ _ s8x (fun hHeld => ?_)
      clear hK K
      try simp only [Act.put, List.setIfInBounds_toArray, List.set_cons_zero, List.set_cons_succ]
      refine wpAnyH_ready (rs := [13]) (by kernel_rfl) (by simp) (AllReadyH.cons (i := 13) rfl (fun K hK => ?_) AllReadyH.nil)
      try simp only [List.getElem_toArray, List.getElem_cons_zero, List.getElem_cons_succ]
      go_simp
      go_at_call 54
      refine HKB.out.mono ?_
      rintro e w2 ⟨rfl, hz2⟩
      have j0 : w2.cell? ⟨g, 8, none⟩ = some (.int .i64 (st : Int)) := by have h8 := hz2.cells.2.2.2.2.1; rw [← HST.out] at h8; exact h8
      have HZ2 := Lib.hid hz2
      clear hz2
      refine hK.out _ _ j0 (fun hHeld => ?_)
      clear hK K
      try simp only [Act.put, List.setIfInBounds_toArray, List.set_cons_zero, List.set_cons_succ]
      refine wpAnyH_take (i := 14) (v := ?_) rfl (by kernel_rfl) (by kernel_rfl) (by kernel_rfl) (fun _ _ _ h => h) (Or.inl ⟨by rfl, ?_⟩) (by assumption) ?_
      rotate_left
      · (intro w hSw; (try dsimp only at hSw); go_simp; try with_reducible rfl)
      try simp only [Act.put, List.setIfInBounds_toArray, List.set_cons_zero, List.set_cons_succ, List.getElem_toArray, List.getElem_cons_zero, List.getElem_cons_succ]
      refine wpAnyH_done (by kernel_rfl) ?_ _
    rotate_left
    focus
      have d1' : (kd == 2) = false := by simp [k2]
      have KC := Lib.hid (ch_eq kd 6 (kd = 2 ∨ kd = 6) ⟨fun h => h.resolve_left k2, .inr⟩)
      rw [← hc3] at KC
      clear hc3 k2
      go_wp2_with fail
      refine wp_region_held_drew (S := fun w' => w'.cell? ⟨g, 8, none⟩ = some (.int .i64 (st : Int))) (by kernel_rfl) s8x (fun hHeld => ?_)
      refine wpAnyH_take (i := 0) (v := ?_) rfl (by kernel_rfl) (by kernel_rfl) (by kernel_rfl) (fun _ _ _ h => h) (Or.inl ⟨by rfl, ?_⟩) (by assumption) ?_
      rotate_left
      · (intro w hSw; (try dsimp only at hSw); go_simp; try with_reducible rfl)
      try simp only [Act.put, List.setIfInBounds_toArray, List.set_cons_zero, List.set_cons_succ, List.getElem_toArray, List.getElem_cons_zero, List.getElem_cons_succ]
      refine wpAnyH_take (i := 1) (v := ?_) rfl (by kernel_rfl) (by kernel_rfl) (by kernel_rfl) (fun _ _ _ h => h) (Or.inl ⟨by rfl, ?_⟩) (by assumption) ?_
      rotate_left
      · (intro w hSw; (try dsimp only at hSw); go_simp; try with_reducible rfl)
      try simp only [Act.put, List.setIfInBounds_toArray, List.set_cons_zero, List.set_cons_succ, List.getElem_toArray, List.getElem_cons_zero, List.getElem_cons_succ]
      refine wpAnyH_take (i := 2) (v := ?_) rfl (by kernel_rfl) (by kernel_rfl) (by kernel_rfl) (fun _ _ _ h => h) (Or.inl ⟨by rfl, ?_⟩) (by assumption) ?_
      rotate_left
      · (intro w hSw; (try dsimp only at hSw); go_simp; try with_reducible rfl)
      try simp only [Act.put, List.setIfInBounds_toArray, List.set_cons_zero, List.set_cons_succ, List.getElem_toArray, List.getElem_cons_zero, List.getElem_cons_succ]
      refine wpAnyH_take (i := 3) (v := ?_) rfl (by kernel_rfl) (by kernel_rfl) (by kernel_rfl) (fun _ _ _ h => h) (Or.inl ⟨by rfl, ?_⟩) (by assumption) ?_
      rotate_left
      · (intro w hSw; (try dsimp only at hSw); go_simp; try with_reducible rfl)
      try simp only [Act.put, List.setIfInBounds_toArray, List.set_cons_zero, List.set_cons_succ, List.getElem_toArray, List.getElem_cons_zero, List.getElem_cons_succ]
      refine wpAnyH_take (i := 4) (v := ?_) rfl (by kernel_rfl) (by kernel_rfl) (by kernel_rfl) (fun _ _ _ h => h) (Or.inl ⟨by rfl, ?_⟩) (by assumption) ?_
      rotate_left
      · (intro w hSw; (try dsimp only at hSw); go_simp; try with_reducible rfl)
      try simp only [Act.put, List.setIfInBounds_toArray, List.set_cons_zero, List.set_cons_succ, List.getElem_toArray, List.getElem_cons_zero, List.getElem_cons_succ]
      refine wpAnyH_take (i := 5) (v := ?_) rfl (by kernel_rfl) (by kernel_rfl) (by kernel_rfl) (fun _ _ _ h => h) (Or.inl ⟨by rfl, ?_⟩) (by assumption) ?_
      rotate_left
      · (intro w hSw; (try dsimp only at hSw); go_simp; try with_reducible rfl)
      try simp only [Act.put, List.setIfInBounds_toArray, List.set_cons_zero, List.set_cons_succ, List.getElem_toArray, List.getElem_cons_zero, List.getElem_cons_succ]
      refine wpAnyH_take (i := 6) (v := ?_) rfl (by kernel_rfl) (by kernel_rfl) (by kernel_rfl) (fun _ _ _ h => h) (Or.inl ⟨by rfl, ?_⟩) (by assumption) ?_
      rotate_left
      · (intro w hSw; (try dsimp only at hSw); go_simp; try with_reducible rfl)
      try simp only [Act.put, List.setIfInBounds_toArray, List.set_cons_zero, List.set_cons_succ, List.getElem_toArray, List.getElem_cons_zero, List.getElem_cons_succ]
      refine wpAnyH_take (i := 7) (v := ?_) rfl (by kernel_rfl) (by kernel_rfl) (by kernel_rfl) (fun _ _ _ h => h) (Or.inl ⟨by rfl, ?_⟩) (by assumption) ?_
      rotate_left
      · (intro w hSw; (try dsimp only at hSw); go_simp; try with_reducible rfl)
      try simp only [Act.put, List.setIfInBounds_toArray, List.set_cons_zero, List.set_cons_succ, List.getElem_toArray, List.getElem_cons_zero, List.getElem_cons_succ]
      refine wpAnyH_take (i := 8) (v := ?_) rfl (by kernel_rfl) (by kernel_rfl) (by kernel_rfl) (fun _ _ _ h => h) (Or.inl ⟨by rfl, ?_⟩) (by assumption) ?_
      rotate_left
      · (intro w hSw; (try dsimp only at hSw); go_simp; try with_reducible rfl)
      try simp only [Act.put, List.setIfInBounds_toArray, List.set_cons_zero, List.set_cons_succ, List.getElem_toArray, List.getElem_cons_zero, List.getElem_cons_succ]
      refine wpAnyH_take (i := 9) (v := ?_) rfl (by kernel_rfl) (by kernel_rfl) (by kernel_rfl) (fun _ _ _ h => h) (Or.inl ⟨by rfl, ?_⟩) (by assumption) ?_
      rotate_left
      · (intro w hSw; (try dsimp only at hSw); go_simp; try with_reducible rfl)
      try simp only [Act.put, List.setIfInBounds_toArray, List.set_cons_zero, List.set_cons_succ, List.getElem_toArray, List.getElem_cons_zero, List.getElem_cons_succ]
      refine wpAnyH_take (i := 10) (v := ?_) rfl (by kernel_rfl) (by kernel_rfl) (by kernel_rfl) (fun _ _ _ h => h) (Or.inl ⟨by rfl, ?_⟩) (by assumption) ?_
      rotate_left
      · (intro w hSw; (try dsimp only at hSw); go_simp; try with_reducible rfl)
      try simp only [Act.put, List.setIfInBounds_toArray, List.set_cons_zero, List.set_cons_succ, List.getElem_toArray, List.getElem_cons_zero, List.getElem_cons_succ]
      refine wpAnyH_take (i := 11) (v := ?_) rfl (by kernel_rfl) (by kernel_rfl) (by kernel_rfl) (fun _ _ _ h => h) (Or.inl ⟨by rfl, ?_⟩) (by assumption) ?_
      rotate_left
      · (intro w hSw; (try dsimp only at hSw); go_simp; try with_reducible rfl)
      try simp only [Act.put, List.setIfInBounds_toArray, List.set_cons_zero, List.set_cons_succ, List.getElem_toArray, List.getElem_cons_zero, List.getElem_cons_succ]
      refine wpAnyH_ready (rs := [12]) (by kernel_rfl) (by simp) (AllReadyH.cons (i := 12) rfl (fun K hK => ?_) AllReadyH.nil)
      try simp only [List.getElem_toArray, List.getElem_cons_zero, List.getElem_cons_succ]
      go_simp
      go_at_call 55
      refine (KC.out _).mono ?_
      rintro e w9 ⟨rfl, rfl⟩
      refine hK.out _ _ s8x (fun hHeld => ?_)
      clear hK K
      try simp only [Act.put, List.setIfInBounds_toArray, List.set_cons_zero, List.set_cons_succ]
      refine wpAnyH_ready (rs := [13]) (by kernel_rfl) (by simp) (AllReadyH.cons (i := 13) rfl (fun K hK => ?_) AllReadyH.nil)
      try simp only [List.getElem_toArray, List.getElem_cons_zero, List.getElem_cons_succ]
      go_simp
      go_at_call 54
      refine HKB.out.mono ?_
      rintro e w2 ⟨rfl, hz2⟩
      have j0 : w2.cell? ⟨g, 8, none⟩ = some (.int .i64 (st : Int)) := by have h8 := hz2.cells.2.2.2.2.1; rw [← HST.out] at h8; exact h8
      have HZ2 := Lib.hid hz2
      clear hz2
      refine hK.out _ _ j0 (fun hHeld => ?_)
      clear hK K
      try simp only [Act.put, List.setIfInBounds_toArray, List.set_cons_zero, List.set_cons_succ]
      refine wpAnyH_take (i := 14) (v := ?_) rfl (by kernel_rfl) (by kernel_rfl) (by kernel_rfl) (fun _ _ _ h => h) (Or.inl ⟨by rfl, ?_⟩) (by assumption) ?_
      rotate_left
      · (intro w hSw; (try dsimp only at hSw); go_simp; try with_reducible rfl)
      try simp only [Act.put, List.setIfInBounds_toArray, List.set_cons_zero, List.set_cons_succ, List.getElem_toArray, List.getElem_cons_zero, List.getElem_cons_succ]
      refine wpAnyH_done (by kernel_rfl) ?_ _
    all_goals
      clear HKB KC s8x f1 d1' gb gb' gn gn' o7
      by_cases hb30 : B3.1 = 0
      · rw [hb30]
        obtain ⟨m16, hm16⟩ : ∃ a, a = 240 + 16 * st := ⟨_, rfl⟩
        obtain ⟨a4, ha4⟩ : ∃ a, a = m16 + s := ⟨_, rfl⟩
        have HD4 := Lib.hid (show kd3 M B3 st s kd = kdL (bitP M B3.2 a4 (chI (kd = 6))) by unfold kd3; rw [if_pos hb30, ha4, hm16])
        have HKB := Lib.hid (ZAt.bit Z (HZ2.out.drewN Z 1) (k := k + 1) (a := a4) (b := chI (kd = 6)) HP3.out (by have := HS.out; omega) HS.out.2.2.2 (chI_may _))
        obtain ⟨b4, _⟩ := bitP_ok Z.okm (k := k + 1) (a := a4) (w := chI (kd = 6)) HP3.out (by have := HS.out; omega) (chI_may _)
        obtain ⟨B4, hB4⟩ : ∃ B, B = bitP M B3.2 a4 (chI (kd = 6)) := ⟨_, rfl⟩
        rw [← hB4] at b4 HKB HD4
        have g1 : IntKind.i64.wrap (16 * (st : Int)) = 16 * (st : Int) := IntWalk.i64_in _ (by have := HS.out; omega)
        have g2 : IntKind.i64.wrap (240 + 16 * (st : Int)) = (m16 : Int) := by rw [show 240 + 16 * (st : Int) = (m16 : Int) by omega]; exact IntWalk.i64_in _ (by have := HS.out; omega)
        have g3 : IntKind.i64.wrap ((m16 : Int) + (s : Int)) = (a4 : Int) := pi_add ha4.symm (by have := HS.out; omega)
        obtain ⟨_, _, _, _, s8x, _⟩ := HZ2.out.cells
        rw [← HST.out] at s8x
        have KC := Lib.hid (ch_eq kd 6 (kd = 6) Iff.rfl)
        have HB4 := Lib.hid b4
        have HZ1 := HZ2
        clear HZ2 hB4 ha4 hm16 hb30 b4
        go_wp2_with fail
        refine wp_region_held_drew (S := fun w' => w'.cell? ⟨g, 8, none⟩ = some (.int .i64 (st : Int))) (by kernel_rfl) s8x (fun hHeld => ?_)
        refine wpAnyH_take (i := 0) (v := ?_) rfl (by kernel_rfl) (by kernel_rfl) (by kernel_rfl) (fun _ _ _ h => h) (Or.inl ⟨by rfl, ?_⟩) (by assumption) ?_
        rotate_left
        · (intro w hSw; (try dsimp only at hSw); go_simp; try with_reducible rfl)
        try simp only [Act.put, List.setIfInBounds_toArray, List.set_cons_zero, List.set_cons_succ, List.getElem_toArray, List.getElem_cons_zero, List.getElem_cons_succ]
        refine wpAnyH_take (i := 1) (v := ?_) rfl (by kernel_rfl) (by kernel_rfl) (by kernel_rfl) (fun _ _ _ h => h) (Or.inl ⟨by rfl, ?_⟩) (by assumption) ?_
        rotate_left
        · (intro w hSw; (try dsimp only at hSw); go_simp; try with_reducible rfl)
        try simp only [Act.put, List.setIfInBounds_toArray, List.set_cons_zero, List.set_cons_succ, List.getElem_toArray, List.getElem_cons_zero, List.getElem_cons_succ]
        refine wpAnyH_take (i := 2) (v := ?_) rfl (by kernel_rfl) (by kernel_rfl) (by kernel_rfl) (fun _ _ _ h => h) (Or.inl ⟨by rfl, ?_⟩) (by assumption) ?_
        rotate_left
        · (intro w hSw; (try dsimp only at hSw); go_simp; try with_reducible rfl)
        try simp only [Act.put, List.setIfInBounds_toArray, List.set_cons_zero, List.set_cons_succ, List.getElem_toArray, List.getElem_cons_zero, List.getElem_cons_succ]
        refine wpAnyH_take (i := 3) (v := ?_) rfl (by kernel_rfl) (by kernel_rfl) (by kernel_rfl) (fun _ _ _ h => h) (Or.inl ⟨by rfl, ?_⟩) (by assumption) ?_
        rotate_left
        · (intro w hSw; (try dsimp only at hSw); go_simp; try with_reducible rfl)
        try simp only [Act.put, List.setIfInBounds_toArray, List.set_cons_zero, List.set_cons_succ, List.getElem_toArray, List.getElem_cons_zero, List.getElem_cons_succ]
        refine wpAnyH_take (i := 4) (v := ?_) rfl (by kernel_rfl) (by kernel_rfl) (by kernel_rfl) (fun _ _ _ h => h) (Or.inl ⟨by rfl, ?_⟩) (by assumption) ?_
        rotate_left
        · (intro w hSw; (try dsimp only at hSw); go_simp; try with_reducible rfl)
        try simp only [Act.put, List.setIfInBounds_toArray, List.set_cons_zero, List.set_cons_succ, List.getElem_toArray, List.getElem_cons_zero, List.getElem_cons_succ]
        refine wpAnyH_take (i := 5) (v := ?_) rfl (by kernel_rfl) (by kernel_rfl) (by kernel_rfl) (fun _ _ _ h => h) (Or.inl ⟨by rfl, ?_⟩) (by assumption) ?_
        rotate_left
        · (intro w hSw; (try dsimp only at hSw); go_simp; try with_reducible rfl)
        try simp only [Act.put, List.setIfInBounds_toArray, List.set_cons_zero, List.set_cons_succ, List.getElem_toArray, List.getElem_cons_zero, List.getElem_cons_succ]
        refine wpAnyH_take (i := 6) (v := ?_) rfl (by kernel_rfl) (by kernel_rfl) (by kernel_rfl) (fun _ _ _ h => h) (Or.inl ⟨by rfl, ?_⟩) (by assumption) ?_
        rotate_left
        · (intro w hSw; (try dsimp only at hSw); go_simp; try with_reducible rfl)
        try simp only [Act.put, List.setIfInBounds_toArray, List.set_cons_zero, List.set_cons_succ, List.getElem_toArray, List.getElem_cons_zero, List.getElem_cons_succ]
        refine wpAnyH_take (i := 7) (v := ?_) rfl (by kernel_rfl) (by kernel_rfl) (by kernel_rfl) (fun _ _ _ h => h) (Or.inl ⟨by rfl, ?_⟩) (by assumption) ?_
        rotate_left
        · (intro w hSw; (try dsimp only at hSw); go_simp; try with_reducible rfl)
        try simp only [Act.put, List.setIfInBounds_toArray, List.set_cons_zero, List.set_cons_succ, List.getElem_toArray, List.getElem_cons_zero, List.getElem_cons_succ]
        refine wpAnyH_take (i := 8) (v := ?_) rfl (by kernel_rfl) (by kernel_rfl) (by kernel_rfl) (fun _ _ _ h => h) (Or.inl ⟨by rfl, ?_⟩) (by assumption) ?_
        rotate_left
        · (intro w hSw; (try dsimp only at hSw); go_simp; try with_reducible rfl)
        try simp only [Act.put, List.setIfInBounds_toArray, List.set_cons_zero, List.set_cons_succ, List.getElem_toArray, List.getElem_cons_zero, List.getElem_cons_succ]
        refine wpAnyH_take (i := 9) (v := ?_) rfl (by kernel_rfl) (by kernel_rfl) (by kernel_rfl) (fun _ _ _ h => h) (Or.inl ⟨by rfl, ?_⟩) (by assumption) ?_
        rotate_left
        · (intro w hSw; (try dsimp only at hSw); go_simp; try with_reducible rfl)
        try simp only [Act.put, List.setIfInBounds_toArray, List.set_cons_zero, List.set_cons_succ, List.getElem_toArray, List.getElem_cons_zero, List.getElem_cons_succ]
        refine wpAnyH_take (i := 10) (v := ?_) rfl (by kernel_rfl) (by kernel_rfl) (by kernel_rfl) (fun _ _ _ h => h) (Or.inl ⟨by rfl, ?_⟩) (by assumption) ?_
        rotate_left
        · (intro w hSw; (try dsimp only at hSw); go_simp; try with_reducible rfl)
        try simp only [Act.put, List.setIfInBounds_toArray, List.set_cons_zero, List.set_cons_succ, List.getElem_toArray, List.getElem_cons_zero, List.getElem_cons_succ]
        refine wpAnyH_ready (rs := [11]) (by kernel_rfl) (by simp) (AllReadyH.cons (i := 11) rfl (fun K hK => ?_) AllReadyH.nil)
        try simp only [List.getElem_toArray, List.getElem_cons_zero, List.getElem_cons_succ]
        go_simp
        go_at_call 55
        refine (KC.out _).mono ?_
        rintro e w9 ⟨rfl, rfl⟩
        refine hK.out _ _ s8x (fun hHeld => ?_)
        clear hK K
        try simp only [Act.put, List.setIfInBounds_toArray, List.set_cons_zero, List.set_cons_succ]
        refine wpAnyH_ready (rs := [12]) (by kernel_rfl) (by simp) (AllReadyH.cons (i := 12) rfl (fun K hK => ?_) AllReadyH.nil)
        try simp only [List.getElem_toArray, List.getElem_cons_zero, List.getElem_cons_succ]
        go_simp
        go_at_call 54
        refine HKB.out.mono ?_
        rintro e w2 ⟨rfl, hz2⟩
        have j0 : w2.cell? ⟨g, 8, none⟩ = some (.int .i64 (st : Int)) := by have h8 := hz2.cells.2.2.2.2.1; rw [← HST.out] at h8; exact h8
        have HZ2 := Lib.hid hz2
        clear hz2
        refine hK.out _ _ j0 (fun hHeld => ?_)
        clear hK K
        try simp only [Act.put, List.setIfInBounds_toArray, List.set_cons_zero, List.set_cons_succ]
        refine wpAnyH_take (i := 13) (v := ?_) rfl (by kernel_rfl) (by kernel_rfl) (by kernel_rfl) (fun _ _ _ h => h) (Or.inl ⟨by rfl, ?_⟩) (by assumption) ?_
        rotate_left
        · (intro w hSw; (try dsimp only at hSw); go_simp; try with_reducible rfl)
        try simp only [Act.put, List.setIfInBounds_toArray, List.set_cons_zero, List.set_cons_succ, List.getElem_toArray, List.getElem_cons_zero, List.getElem_cons_succ]
        refine wpAnyH_done (by kernel_rfl) ?_ _
        clear HKB KC s8x g1 g2 g3
        by_cases hb40 : B4.1 = 0
        · have hres : kdL B4 = (6, false, B4.2) := by unfold kdL; rw [if_pos hb40]
          rw [hb40]
          clear hb40
          go_wp2_with fail
          go_ret
          rw [HR.out, HD2.out, HD3.out, HD4.out, hres]
          exact ⟨rfl, kind_end HZ2.out⟩
        · have hres : kdL B4 = (2, false, B4.2) := by unfold kdL; rw [if_neg hb40]
          obtain ⟨b4, hb4⟩ : ∃ b, b = B4.1 := ⟨_, rfl⟩
          have gb : ¬ (b4 : Int) = 0 := by omega
          have gb' : ((b4 : Int) == 0) = false := by simp; omega
          rw [← hb4]
          clear hb40 hb4
          go_wp2_with fail
          go_ret
          rw [HR.out, HD2.out, HD3.out, HD4.out, hres]
          exact ⟨rfl, kind_end HZ2.out⟩
      obtain ⟨bb3, hbb3⟩ : ∃ b, b = B3.1 := ⟨_, rfl⟩
      have gb : ¬ (bb3 : Int) = 0 := by omega
      have gb' : ((bb3 : Int) == 0) = false := by simp; omega
      rw [← hbb3]
      obtain ⟨a4, ha4⟩ : ∃ a, a = 216 + st := ⟨_, rfl⟩
      have HD4 := Lib.hid (show kd3 M B3 st s kd = kd4 M (bitP M B3.2 a4 (chI (kd = 3))) st kd by unfold kd3; rw [if_neg hb30, ha4])
      have HKB := Lib.hid (ZAt.bit Z (HZ2.out.drewN Z 1) (k := k + 1) (a := a4) (b := chI (kd = 3)) HP3.out (by have := HS.out; omega) HS.out.2.2.2 (chI_may _))
      obtain ⟨b4, p4⟩ := bitP_ok Z.okm (k := k + 1) (a := a4) (w := chI (kd = 3)) HP3.out (by have := HS.out; omega) (chI_may _)
      obtain ⟨B4, hB4⟩ : ∃ B, B = bitP M B3.2 a4 (chI (kd = 3)) := ⟨_, rfl⟩
      rw [← hB4] at b4 p4 HKB HD4
      have HP4 := Lib.hid p4
      have f1 : IntKind.i64.wrap (216 + (st : Int)) = (a4 : Int) := pi_add (a := 216) ha4.symm (by have := HS.out; omega)
      obtain ⟨_, _, _, _, s8x, _⟩ := HZ2.out.cells
      rw [← HST.out] at s8x
      have KC := Lib.hid (ch_eq kd 3 (kd = 3) Iff.rfl)
      have HZ1 := HZ2
      clear HZ2 hB4 ha4 hb30 hbb3 b4 p4
      go_wp2_with fail
      refine wp_region_held_drew (S := fun w' => w'.cell? ⟨g, 8, none⟩ = some (.int .i64 (st : Int))) (by kernel_rfl) s8x (fun hHeld => ?_)
      refine wpAnyH_take (i := 0) (v := ?_) rfl (by kernel_rfl) (by kernel_rfl) (by kernel_rfl) (fun _ _ _ h => h) (Or.inl ⟨by rfl, ?_⟩) (by assumption) ?_
      rotate_left
      · (intro w hSw; (try dsimp only at hSw); go_simp; try with_reducible rfl)
      try simp only [Act.put, List.setIfInBounds_toArray, List.set_cons_zero, List.set_cons_succ, List.getElem_toArray, List.getElem_cons_zero, List.getElem_cons_succ]
      refine wpAnyH_take (i := 1) (v := ?_) rfl (by kernel_rfl) (by kernel_rfl) (by kernel_rfl) (fun _ _ _ h => h) (Or.inl ⟨by rfl, ?_⟩) (by assumption) ?_
      rotate_left
      · (intro w hSw; (try dsimp only at hSw); go_simp; try with_reducible rfl)
      try simp only [Act.put, List.setIfInBounds_toArray, List.set_cons_zero, List.set_cons_succ, List.getElem_toArray, List.getElem_cons_zero, List.getElem_cons_succ]
      refine wpAnyH_take (i := 2) (v := ?_) rfl (by kernel_rfl) (by kernel_rfl) (by kernel_rfl) (fun _ _ _ h => h) (Or.inl ⟨by rfl, ?_⟩) (by assumption) ?_
      rotate_left
      · (intro w hSw; (try dsimp only at hSw); go_simp; try with_reducible rfl)
      try simp only [Act.put, List.setIfInBounds_toArray, List.set_cons_zero, List.set_cons_succ, List.getElem_toArray, List.getElem_cons_zero, List.getElem_cons_succ]
      refine wpAnyH_take (i := 3) (v := ?_) rfl (by kernel_rfl) (by kernel_rfl) (by kernel_rfl) (fun _ _ _ h => h) (Or.inl ⟨by rfl, ?_⟩) (by assumption) ?_
      rotate_left
      · (intro w hSw; (try dsimp only at hSw); go_simp; try with_reducible rfl)
      try simp only [Act.put, List.setIfInBounds_toArray, List.set_cons_zero, List.set_cons_succ, List.getElem_toArray, List.getElem_cons_zero, List.getElem_cons_succ]
      refine wpAnyH_take (i := 4) (v := ?_) rfl (by kernel_rfl) (by kernel_rfl) (by kernel_rfl) (fun _ _ _ h => h) (Or.inl ⟨by rfl, ?_⟩) (by assumption) ?_
      rotate_left
      · (intro w hSw; (try dsimp only at hSw); go_simp; try with_reducible rfl)
      try simp only [Act.put, List.setIfInBounds_toArray, List.set_cons_zero, List.set_cons_succ, List.getElem_toArray, List.getElem_cons_zero, List.getElem_cons_succ]
      refine wpAnyH_take (i := 5) (v := ?_) rfl (by kernel_rfl) (by kernel_rfl) (by kernel_rfl) (fun _ _ _ h => h) (Or.inl ⟨by rfl, ?_⟩) (by assumption) ?_
      rotate_left
      · (intro w hSw; (try dsimp only at hSw); go_simp; try with_reducible rfl)
      try simp only [Act.put, List.setIfInBounds_toArray, List.set_cons_zero, List.set_cons_succ, List.getElem_toArray, List.getElem_cons_zero, List.getElem_cons_succ]
      refine wpAnyH_take (i := 6) (v := ?_) rfl (by kernel_rfl) (by kernel_rfl) (by kernel_rfl) (fun _ _ _ h => h) (Or.inl ⟨by rfl, ?_⟩) (by assumption) ?_
      rotate_left
      · (intro w hSw; (try dsimp only at hSw); go_simp; try with_reducible rfl)
      try simp only [Act.put, List.setIfInBounds_toArray, List.set_cons_zero, List.set_cons_succ, List.getElem_toArray, List.getElem_cons_zero, List.getElem_cons_succ]
      refine wpAnyH_take (i := 7) (v := ?_) rfl (by kernel_rfl) (by kernel_rfl) (by kernel_rfl) (fun _ _ _ h => h) (Or.inl ⟨by rfl, ?_⟩) (by assumption) ?_
      rotate_left
      · (intro w hSw; (try dsimp only at hSw); go_simp; try with_reducible rfl)
      try simp only [Act.put, List.setIfInBounds_toArray, List.set_cons_zero, List.set_cons_succ, List.getElem_toArray, List.getElem_cons_zero, List.getElem_cons_succ]
      refine wpAnyH_ready (rs := [8]) (by kernel_rfl) (by simp) (AllReadyH.cons (i := 8) rfl (fun K hK => ?_) AllReadyH.nil)
      try simp only [List.getElem_toArray, List.getElem_cons_zero, List.getElem_cons_succ]
      go_simp
      go_at_call 55
      refine (KC.out _).mono ?_
      rintro e w9 ⟨rfl, rfl⟩
      refine hK.out _ _ s8x (fun hHeld => ?_)
      clear hK K
      try simp only [Act.put, List.setIfInBounds_toArray, List.set_cons_zero, List.set_cons_succ]
      refine wpAnyH_ready (rs := [9]) (by kernel_rfl) (by simp) (AllReadyH.cons (i := 9) rfl (fun K hK => ?_) AllReadyH.nil)
      try simp only [List.getElem_toArray, List.getElem_cons_zero, List.getElem_cons_succ]
      go_simp
      go_at_call 54
      refine HKB.out.mono ?_
      rintro e w2 ⟨rfl, hz2⟩
      have j0 : w2.cell? ⟨g, 8, none⟩ = some (.int .i64 (st : Int)) := by have h8 := hz2.cells.2.2.2.2.1; rw [← HST.out] at h8; exact h8
      have HZ2 := Lib.hid hz2
      clear hz2
      refine hK.out _ _ j0 (fun hHeld => ?_)
      clear hK K
      try simp only [Act.put, List.setIfInBounds_toArray, List.set_cons_zero, List.set_cons_succ]
      refine wpAnyH_take (i := 10) (v := ?_) rfl (by kernel_rfl) (by kernel_rfl) (by kernel_rfl) (fun _ _ _ h => h) (Or.inl ⟨by rfl, ?_⟩) (by assumption) ?_
      rotate_left
      · (intro w hSw; (try dsimp only at hSw); go_simp; try with_reducible rfl)
      try simp only [Act.put, List.setIfInBounds_toArray, List.set_cons_zero, List.set_cons_succ, List.getElem_toArray, List.getElem_cons_zero, List.getElem_cons_succ]
      refine wpAnyH_done (by kernel_rfl) ?_ _
      clear HKB KC s8x f1 gb gb'
      by_cases hb40 : B4.1 = 0
      · have hres : kd4 M B4 st kd = (3, false, B4.2) := by unfold kd4; rw [if_pos hb40]
        rw [hb40]
        clear hb40
        go_wp2_with fail
        go_ret
        rw [HR.out, HD2.out, HD3.out, HD4.out, hres]
        exact ⟨rfl, kind_end HZ2.out⟩
      obtain ⟨bb4, hbb4⟩ : ∃ b, b = B4.1 := ⟨_, rfl⟩
      have gb : ¬ (bb4 : Int) = 0 := by omega
      have gb' : ((bb4 : Int) == 0) = false := by simp; omega
      rw [← hbb4]
      obtain ⟨a5, ha5⟩ : ∃ a, a = 228 + st := ⟨_, rfl⟩
      have HD5 := Lib.hid (show kd4 M B4 st kd = kd5 (bitP M B4.2 a5 (chI (kd = 4))) by unfold kd4; rw [if_neg hb40, ha5])
      have HKB := Lib.hid (ZAt.bit Z (HZ2.out.drewN Z 1) (k := k) (a := a5) (b := chI (kd = 4)) HP4.out (by have := HS.out; omega) HS.out.2.2.2 (chI_may _))
      obtain ⟨B5, hB5⟩ : ∃ B, B = bitP M B4.2 a5 (chI (kd = 4)) := ⟨_, rfl⟩
      rw [← hB5] at HKB HD5
      have f1 : IntKind.i64.wrap (228 + (st : Int)) = (a5 : Int) := pi_add (a := 228) ha5.symm (by have := HS.out; omega)
      obtain ⟨_, _, _, _, s8x, _⟩ := HZ2.out.cells
      rw [← HST.out] at s8x
      have KC := Lib.hid (ch_eq kd 4 (kd = 4) Iff.rfl)
      have HZ1 := HZ2
      clear HZ2 hB5 ha5 hb40 hbb4
      go_wp2_with fail
      refine wp_region_held_drew (S := fun w' => w'.cell? ⟨g, 8, none⟩ = some (.int .i64 (st : Int))) (by kernel_rfl) s8x (fun hHeld => ?_)
      refine wpAnyH_take (i := 0) (v := ?_) rfl (by kernel_rfl) (by kernel_rfl) (by kernel_rfl) (fun _ _ _ h => h) (Or.inl ⟨by rfl, ?_⟩) (by assumption) ?_
      rotate_left
      · (intro w hSw; (try dsimp only at hSw); go_simp; try with_reducible rfl)
      try simp only [Act.put, List.setIfInBounds_toArray, List.set_cons_zero, List.set_cons_succ, List.getElem_toArray, List.getElem_cons_zero, List.getElem_cons_succ]
      refine wpAnyH_take (i := 1) (v := ?_) rfl (by kernel_rfl) (by kernel_rfl) (by kernel_rfl) (fun _ _ _ h => h) (Or.inl ⟨by rfl, ?_⟩) (by assumption) ?_
      rotate_left
      · (intro w hSw; (try dsimp only at hSw); go_simp; try with_reducible rfl)
      try simp only [Act.put, List.setIfInBounds_toArray, List.set_cons_zero, List.set_cons_succ, List.getElem_toArray, List.getElem_cons_zero, List.getElem_cons_succ]
      refine wpAnyH_take (i := 2) (v := ?_) rfl (by kernel_rfl) (by kernel_rfl) (by kernel_rfl) (fun _ _ _ h => h) (Or.inl ⟨by rfl, ?_⟩) (by assumption) ?_
      rotate_left
      · (intro w hSw; (try dsimp only at hSw); go_simp; try with_reducible rfl)
      try simp only [Act.put, List.setIfInBounds_toArray, List.set_cons_zero, List.set_cons_succ, List.getElem_toArray, List.getElem_cons_zero, List.getElem_cons_succ]
      refine wpAnyH_take (i := 3) (v := ?_) rfl (by kernel_rfl) (by kernel_rfl) (by kernel_rfl) (fun _ _ _ h => h) (Or.inl ⟨by rfl, ?_⟩) (by assumption) ?_
      rotate_left
      · (intro w hSw; (try dsimp only at hSw); go_simp; try with_reducible rfl)
      try simp only [Act.put, List.setIfInBounds_toArray, List.set_cons_zero, List.set_cons_succ, List.getElem_toArray, List.getElem_cons_zero, List.getElem_cons_succ]
      refine wpAnyH_take (i := 4) (v := ?_) rfl (by kernel_rfl) (by kernel_rfl) (by kernel_rfl) (fun _ _ _ h => h) (Or.inl ⟨by rfl, ?_⟩) (by assumption) ?_
      rotate_left
      · (intro w hSw; (try dsimp only at hSw); go_simp; try with_reducible rfl)
      try simp only [Act.put, List.setIfInBounds_toArray, List.set_cons_zero, List.set_cons_succ, List.getElem_toArray, List.getElem_cons_zero, List.getElem_cons_succ]
      refine wpAnyH_take (i := 5) (v := ?_) rfl (by kernel_rfl) (by kernel_rfl) (by kernel_rfl) (fun _ _ _ h => h) (Or.inl ⟨by rfl, ?_⟩) (by assumption) ?_
      rotate_left
      · (intro w hSw; (try dsimp only at hSw); go_simp; try with_reducible rfl)
      try simp only [Act.put, List.setIfInBounds_toArray, List.set_cons_zero, List.set_cons_succ, List.getElem_toArray, List.getElem_cons_zero, List.getElem_cons_succ]
      refine wpAnyH_take (i := 6) (v := ?_) rfl (by kernel_rfl) (by kernel_rfl) (by kernel_rfl) (fun _ _ _ h => h) (Or.inl ⟨by rfl, ?_⟩) (by assumption) ?_
      rotate_left
      · (intro w hSw; (try dsimp only at hSw); go_simp; try with_reducible rfl)
      try simp only [Act.put, List.setIfInBounds_toArray, List.set_cons_zero, List.set_cons_succ, List.getElem_toArray, List.getElem_cons_zero, List.getElem_cons_succ]
      refine wpAnyH_take (i := 7) (v := ?_) rfl (by kernel_rfl) (by kernel_rfl) (by kernel_rfl) (fun _ _ _ h => h) (Or.inl ⟨by rfl, ?_⟩) (by assumption) ?_
      rotate_left
      · (intro w hSw; (try dsimp only at hSw); go_simp; try with_reducible rfl)
      try simp only [Act.put, List.setIfInBounds_toArray, List.set_cons_zero, List.set_cons_succ, List.getElem_toArray, List.getElem_cons_zero, List.getElem_cons_succ]
      refine wpAnyH_ready (rs := [8]) (by kernel_rfl) (by simp) (AllReadyH.cons (i := 8) rfl (fun K hK => ?_) AllReadyH.nil)
      try simp only [List.getElem_toArray, List.getElem_cons_zero, List.getElem_cons_succ]
      go_simp
      go_at_call 55
      refine (KC.out _).mono ?_
      rintro e w9 ⟨rfl, rfl⟩
      refine hK.out _ _ s8x (fun hHeld => ?_)
      clear hK K
      try simp only [Act.put, List.setIfInBounds_toArray, List.set_cons_zero, List.set_cons_succ]
      refine wpAnyH_ready (rs := [9]) (by kernel_rfl) (by simp) (AllReadyH.cons (i := 9) rfl (fun K hK => ?_) AllReadyH.nil)
      try simp only [List.getElem_toArray, List.getElem_cons_zero, List.getElem_cons_succ]
      go_simp
      go_at_call 54
      refine HKB.out.mono ?_
      rintro e w2 ⟨rfl, hz2⟩
      have j0 : w2.cell? ⟨g, 8, none⟩ = some (.int .i64 (st : Int)) := by have h8 := hz2.cells.2.2.2.2.1; rw [← HST.out] at h8; exact h8
      have HZ2 := Lib.hid hz2
      clear hz2
      refine hK.out _ _ j0 (fun hHeld => ?_)
      clear hK K
      try simp only [Act.put, List.setIfInBounds_toArray, List.set_cons_zero, List.set_cons_succ]
      refine wpAnyH_take (i := 10) (v := ?_) rfl (by kernel_rfl) (by kernel_rfl) (by kernel_rfl) (fun _ _ _ h => h) (Or.inl ⟨by rfl, ?_⟩) (by assumption) ?_
      rotate_left
      · (intro w hSw; (try dsimp only at hSw); go_simp; try with_reducible rfl)
      try simp only [Act.put, List.setIfInBounds_toArray, List.set_cons_zero, List.set_cons_succ, List.getElem_toArray, List.getElem_cons_zero, List.getElem_cons_succ]
      refine wpAnyH_done (by kernel_rfl) ?_ _
      clear HKB KC s8x f1 gb gb'
      by_cases hb50 : B5.1 = 0
      · have hres : kd5 B5 = (4, false, B5.2) := by unfold kd5; rw [if_pos hb50]
        rw [hb50]
        clear hb50
        go_wp2_with fail
        go_ret
        rw [HR.out, HD2.out, HD3.out, HD4.out, HD5.out, hres]
        exact ⟨rfl, kind_end HZ2.out⟩
      · have hres : kd5 B5 = (5, false, B5.2) := by unfold kd5; rw [if_neg hb50]
        obtain ⟨b5, hb5⟩ : ∃ b, b = B5.1 := ⟨_, rfl⟩
        have gb : ¬ (b5 : Int) = 0 := by omega
        have gb' : ((b5 : Int) == 0) = false := by simp; omega
        rw [← hb5]
        clear hb50 hb5
        go_wp2_with fail
        go_ret
        rw [HR.out, HD2.out, HD3.out, HD4.out, HD5.out, hres]
        exact ⟨rfl, kind_end HZ2.out⟩
end
end Go.Proofs.YtoencondpbkomaaGreat

/-
  The reference's decoder: each call a contract.
-/
namespace Go.Proofs.YtoencondpbkomaaGreat
open Go.RowKit

def decCells (A : Option Addr) (n c at_ r k : Nat) (b : Bool) : Array Value := #[.slice A n c, .int .i64 (at_ : Int), .int .u64 (r : Int), .int .u64 (k : Int), .bool b]

section
variable {g n c at_ r k : Nat} {A : Option Addr} {w : World} {bs : List UInt8} {bad : Bool}

end

/-- Block g is a decoder of the reference over bs; what lies in the source's memory is apart from it. -/
def DecAt (w : World) (g : Nat) (lo : Nat → Prop) (bs : List UInt8) (d : Dc) : Prop :=
  ∃ A c at_ r k bad, Blk w g 95 (decCells A bs.length c at_ r k bad) ∧ Sl w A bs.length (bv bs) ∧ bs.length ≤ c ∧ c ≤ maxLen ∧ at_ ≤ bs.length ∧ (0 < bs.length → ∀ b o, A = some ⟨b, o, none⟩ → lo b ∧ b ≠ g) ∧
    r < 4294967296 ∧ k < 4294967296 ∧ ((bad = true ∧ d = none) ∨ (bad = false ∧ d = some (r, k, bs.drop at_)))

end Go.Proofs.YtoencondpbkomaaGreat

/-
  The reference's decoder is evened out.
-/
namespace Go.Proofs.YtoencondpbkomaaGreat
open Go.RowKit

section
variable {g n c at_ r k : Nat} {A : Option Addr} {w : World} {bad : Bool}

end

/-- A decoder's cells are those of a state d. -/
def Tells (bs : List UInt8) (d : Dc) (at_ r k : Nat) (bad : Bool) : Prop :=
  at_ ≤ bs.length ∧ r < 4294967296 ∧ k < 4294967296 ∧ ((bad = true ∧ d = none) ∨ (bad = false ∧ d = some (r, k, bs.drop at_)))

end Go.Proofs.YtoencondpbkomaaGreat

/-
  The reference's decoder tells a bit.
-/
namespace Go.Proofs.YtoencondpbkomaaGreat
open Go.RowKit

section
variable {g c at_ r k p : Nat} {A : Option Addr} {w : World} {bs : List UInt8}

/-- What a bit leaves: behind a definition, so that no walk looks into it. -/
def BitPost (w : World) (g c : Nat) (A : Option Addr) (bs : List UInt8) (b q : Nat) (d : Dc) (e : Ending) (w' : World) : Prop :=
  e = .returned (.tuple #[.int .i64 (b : Int), .int .u16 (q : Int)]) ∧ ∃ at' r' k' bad', Blk w' g 95 (decCells A bs.length c at' r' k' bad') ∧ Tells bs d at' r' k' bad' ∧ w.grownBy w' (some g)

end
end Go.Proofs.YtoencondpbkomaaGreat
