/-
  CwFits: put together.
-/
import Derived.Test.YtoencondpbkomaaGreatQ05
import Derived.Test.YtoencondpbkomaaGreatQ07
import Derived.Deep.Cut
import Derived.Test.YtoencondpbkomaaGreatQ10
set_option linter.unusedVariables false
set_option linter.unusedSimpArgs false
/-
  The program's coder of LZMA: whether a packet fits.
-/
namespace Go.Proofs.YtoencondpbkomaaGreat
open Go.RowKit

section
variable {K : Koc} {w w' : World} {Ge Ge' : Option Nat} {A' : Option Addr} {c : Nat} {z : Lzs} {k : Nat} {t : Pm En}
theorem fits_ended {kd len : Int} {d : Nat} (h : z.ended = true) : fitsP z kd d len = false := by unfold fitsP lateP; rw [h]; rfl
theorem fits_free {kd len : Int} {d : Nat} (h : z.ended = false) (hk : kd = 0 ∨ kd = 7) : fitsP z kd d len = true := by
  unfold fitsP lateP hasP
  rw [h, if_pos hk]
  have : decide (kd ≠ 0 ∧ kd ≠ 6 ∧ kd ≠ 7 ∧ (len < 2 ∨ 273 < len)) = false := decide_eq_false (by omega)
  rw [this]
  rfl
theorem fits_long {kd len : Int} {d : Nat} (h : z.ended = false) (hk : kd ≠ 0 ∧ kd ≠ 6 ∧ kd ≠ 7) (hl : ¬ (2 ≤ len ∧ len ≤ 273)) : fitsP z kd d len = false := by
  unfold fitsP lateP
  rw [h, decide_eq_true (show kd ≠ 0 ∧ kd ≠ 6 ∧ kd ≠ 7 ∧ (len < 2 ∨ 273 < len) by omega)]
  rfl
theorem fits_has {kd len : Int} {d : Nat} (h : z.ended = false) (hk : kd = 6 ∨ (2 ≤ len ∧ len ≤ 273)) : fitsP z kd d len = hasP z kd d := by
  unfold fitsP lateP
  rw [h, decide_eq_false (show ¬ (kd ≠ 0 ∧ kd ≠ 6 ∧ kd ≠ 7 ∧ (len < 2 ∨ 273 < len)) by omega)]
  rfl
theorem fits_other {kd len : Int} {d : Nat} (hk : ¬ (0 ≤ kd ∧ kd ≤ 7)) : fitsP z kd d len = false := by
  unfold fitsP hasP
  split
  · rfl
  · rw [if_neg (by omega), if_neg (by omega), if_neg (by omega), if_neg (by omega), if_neg (by omega), if_neg (by omega), if_neg (by omega)]

set_option maxRecDepth 100000 in
set_option maxHeartbeats 16000000 in
theorem cfits_any {d : Nat} {kd len : Int} {by_ : UInt8} (h : Cw K w Ge A' c z k t) (hd : d < 4294967296) (hr : z.r0 < 4294967296 ∧ z.r1 < 4294967296 ∧ z.r2 < 4294967296 ∧ z.r3 < 4294967296) :
    Calls Tryz.prog 63 #[.pointer (some ⟨K.g, 0, none⟩), .agg #[.int .i64 kd, .int .u8 (by_.toNat : Int), .int .i64 len, .int .u32 (d : Int)]] w fun e w' => e = .returned (.bool (fitsP z kd d len)) ∧ Only (fun _ => False) w w' := by
  obtain ⟨w1, hw1⟩ : ∃ w1, w1 = w.alloc (.cells #[.int .i64 kd, .int .u8 (by_.toNat : Int), .int .i64 len, .int .u32 (d : Int)] 59) := ⟨_, rfl⟩
  have hO : Only (fun _ => False) w w1 := by rw [hw1]; exact (Only.refl _ _).alloc _
  have HBk : Blk w1 w.heap.size 59 #[.int .i64 kd, .int .u8 (by_.toNat : Int), .int .i64 len, .int .u32 (d : Int)] := by rw [hw1]; exact Blk.fresh w _ _
  have h1 := h.quiet hO
  have o0 : w1.cell? ⟨w.heap.size, 0, none⟩ = some (.int .i64 kd) := HBk.cell 0
  have o2 : w1.cell? ⟨w.heap.size, 2, none⟩ = some (.int .i64 len) := HBk.cell 2
  have o3 : w1.cell? ⟨w.heap.size, 3, none⟩ = some (.int .u32 (d : Int)) := HBk.cell 3
  have f := h1.f
  have cE := f.ended
  have KH := Lib.hid (fun (n : Nat) (e : Nat) (he : e < 4294967296) => chas_any (h1.drewN n) he)
  have KL := Lib.hid (fun w => clen_any len w)
  obtain ⟨res, hres⟩ : ∃ b, b = fitsP z kd d len := ⟨_, rfl⟩
  rw [← hres]
  have HW1 := Lib.hid hw1
  have HO := Lib.hid hO
  have HD := Lib.hid (And.intro hd hr)
  obtain ⟨c7, c8, c9, c10⟩ : _ ∧ _ ∧ _ ∧ _ := ⟨f.c7, f.c8, f.c9, f.c10⟩
  clear hw1 hO HBk h1 h f hd hr
  cases he : z.ended with
  | true =>
    rw [he] at cE
    obtain rfl : res = false := by rw [hres, fits_ended he]
    clear hres he KH KL c7 c8 c9 c10 o2 o3
    go_enter Tryz.func63, Tryz.ntmps63
    go_upto_region 1 with fail
    rw [← HW1.out]
    clear HW1
    go_wp2_with fail
    go_ret
    exact ⟨rfl, HO.out⟩
  | false =>
    rw [he] at cE
    by_cases hk07 : kd = 0 ∨ kd = 7
    · obtain rfl : res = true := by rw [hres, fits_free he hk07]
      rcases hk07 with rfl | rfl
      · clear hres he KH KL c7 c8 c9 c10 o2 o3
        go_enter Tryz.func63, Tryz.ntmps63
        go_upto_region 1 with fail
        rw [← HW1.out]
        clear HW1
        go_wp2_with fail
        go_ret
        exact ⟨rfl, HO.out⟩
      · clear hres he KH KL c7 c8 c9 c10 o2 o3
        go_enter Tryz.func63, Tryz.ntmps63
        go_upto_region 1 with fail
        rw [← HW1.out]
        clear HW1
        go_wp2_with fail
        go_ret
        exact ⟨rfl, HO.out⟩
    by_cases hk6 : kd = 6
    · subst hk6
      have hh : res = z.has z.r0 := by rw [hres, fits_has he (.inl rfl)]; rfl
      rw [hh]
      have KH0 := Lib.hid (KH.out 0 z.r0 HD.out.2.1)
      clear hres hh he KH KL c8 c9 c10 o2 o3 hk07
      go_enter Tryz.func63, Tryz.ntmps63
      go_upto_region 1 with fail
      rw [← HW1.out]
      clear HW1
      go_wp2_with fail
      refine KH0.out.mono ?_
      rintro e w2 ⟨rfl, n2, rfl⟩
      have HO2 := Lib.hid (HO.out.drewN n2)
      go_wp2_with fail
      go_ret
      exact ⟨rfl, HO2.out⟩
    by_cases hin : 0 ≤ kd ∧ kd ≤ 7
    · by_cases hl : 2 ≤ len ∧ len ≤ 273
      · have hh : res = hasP z kd d := by rw [hres, fits_has he (.inr hl)]
        rw [decide_eq_true hl] at KL
        clear hres he hl
        have hk : kd = 1 ∨ kd = 2 ∨ kd = 3 ∨ kd = 4 ∨ kd = 5 := by omega
        rcases hk with rfl | rfl | rfl | rfl | rfl
        · have hh2 : res = z.has (d) := hh
          rw [hh2]
          have KHX := Lib.hid (fun n => KH.out n (d) HD.out.1)
          clear hh hh2
          clear KH hk07 hk6 hin c7 c8 c9 c10
          go_enter Tryz.func63, Tryz.ntmps63
          go_upto_region 1 with fail
          rw [← HW1.out]
          clear HW1
          go_wp2_with fail
          refine (KL.out _).mono ?_
          rintro e w2 ⟨rfl, rfl⟩
          go_wp2_with fail
          refine (KHX.out 0).mono ?_
          rintro e w3 ⟨rfl, n3, rfl⟩
          have HO2 := Lib.hid (HO.out.drewN n3)
          go_wp2_with fail
          go_ret
          exact ⟨rfl, HO2.out⟩
        · have hh2 : res = z.has (z.r0) := hh
          rw [hh2]
          have KHX := Lib.hid (fun n => KH.out n (z.r0) HD.out.2.1)
          clear hh hh2
          clear KH hk07 hk6 hin c8 c9 c10
          go_enter Tryz.func63, Tryz.ntmps63
          go_upto_region 1 with fail
          rw [← HW1.out]
          clear HW1
          have ei : IntKind.i64.wrap ((2 : Int) - 2) = 0 := (IntWalk.i64_in _ (by decide)).trans (by decide)
          have ei2 : wrap64 ((2 : Int) - 2) = 0 := (IntWalk.wrap64_in _ (by decide)).trans (by decide)
          have ei3 : (0 : Int) < 4 := by decide
          have ei4 : IntKind.i64.wrap (0 : Int) = 0 := IntWalk.i64_in _ (by decide)
          have ei5 : (0 : Int) ≤ (0 : Int) := by decide
          go_wp2_with fail
          go_region_held3 (fun w' => w'.cell? ⟨w.heap.size, 0, none⟩ = some (.int .i64 2) ∧ w'.cell? ⟨w.heap.size, 2, none⟩ = some (.int .i64 len) ∧ w'.cell? ⟨K.g, 7, none⟩ = some (.int .u32 (z.r0 : Int))) (first | assumption | go_keep | exact ⟨o0, o2, c7⟩) (first | (go_at_call 81; refine (KL.out _).mono ?_; rintro e w2 ⟨rfl, rfl⟩) | (go_at_call 82; refine (KHX.out _).mono ?_; rintro e w3 ⟨rfl, n3, hw3⟩; have HO2 := Lib.hid (show Only (fun _ => False) w w3 from hw3 ▸ ((HO.out.drewN _).drewN n3)); have p := (show w3.cell? ⟨w.heap.size, 0, none⟩ = some (.int .i64 2) ∧ w3.cell? ⟨w.heap.size, 2, none⟩ = some (.int .i64 len) ∧ w3.cell? ⟨K.g, 7, none⟩ = some (.int .u32 (z.r0 : Int)) from hw3 ▸ ⟨o0, o2, c7⟩); clear hw3))
          go_wp2_with fail
          go_ret
          exact ⟨rfl, HO2.out⟩
        · have hh2 : res = z.has (z.r1) := hh
          rw [hh2]
          have KHX := Lib.hid (fun n => KH.out n (z.r1) HD.out.2.2.1)
          clear hh hh2
          clear KH hk07 hk6 hin c7 c9 c10
          go_enter Tryz.func63, Tryz.ntmps63
          go_upto_region 1 with fail
          rw [← HW1.out]
          clear HW1
          have ei : IntKind.i64.wrap ((3 : Int) - 2) = 1 := (IntWalk.i64_in _ (by decide)).trans (by decide)
          have ei2 : wrap64 ((3 : Int) - 2) = 1 := (IntWalk.wrap64_in _ (by decide)).trans (by decide)
          have ei3 : (1 : Int) < 4 := by decide
          have ei4 : IntKind.i64.wrap (1 : Int) = 1 := IntWalk.i64_in _ (by decide)
          have ei5 : (0 : Int) ≤ (1 : Int) := by decide
          go_wp2_with fail
          go_region_held3 (fun w' => w'.cell? ⟨w.heap.size, 0, none⟩ = some (.int .i64 3) ∧ w'.cell? ⟨w.heap.size, 2, none⟩ = some (.int .i64 len) ∧ w'.cell? ⟨K.g, 8, none⟩ = some (.int .u32 (z.r1 : Int))) (first | assumption | go_keep | exact ⟨o0, o2, c8⟩) (first | (go_at_call 81; refine (KL.out _).mono ?_; rintro e w2 ⟨rfl, rfl⟩) | (go_at_call 82; refine (KHX.out _).mono ?_; rintro e w3 ⟨rfl, n3, hw3⟩; have HO2 := Lib.hid (show Only (fun _ => False) w w3 from hw3 ▸ ((HO.out.drewN _).drewN n3)); have p := (show w3.cell? ⟨w.heap.size, 0, none⟩ = some (.int .i64 3) ∧ w3.cell? ⟨w.heap.size, 2, none⟩ = some (.int .i64 len) ∧ w3.cell? ⟨K.g, 8, none⟩ = some (.int .u32 (z.r1 : Int)) from hw3 ▸ ⟨o0, o2, c8⟩); clear hw3))
          go_wp2_with fail
          go_ret
          exact ⟨rfl, HO2.out⟩
        · have hh2 : res = z.has (z.r2) := hh
          rw [hh2]
          have KHX := Lib.hid (fun n => KH.out n (z.r2) HD.out.2.2.2.1)
          clear hh hh2
          clear KH hk07 hk6 hin c7 c8 c10
          go_enter Tryz.func63, Tryz.ntmps63
          go_upto_region 1 with fail
          rw [← HW1.out]
          clear HW1
          have ei : IntKind.i64.wrap ((4 : Int) - 2) = 2 := (IntWalk.i64_in _ (by decide)).trans (by decide)
          have ei2 : wrap64 ((4 : Int) - 2) = 2 := (IntWalk.wrap64_in _ (by decide)).trans (by decide)
          have ei3 : (2 : Int) < 4 := by decide
          have ei4 : IntKind.i64.wrap (2 : Int) = 2 := IntWalk.i64_in _ (by decide)
          have ei5 : (0 : Int) ≤ (2 : Int) := by decide
          go_wp2_with fail
          go_region_held3 (fun w' => w'.cell? ⟨w.heap.size, 0, none⟩ = some (.int .i64 4) ∧ w'.cell? ⟨w.heap.size, 2, none⟩ = some (.int .i64 len) ∧ w'.cell? ⟨K.g, 9, none⟩ = some (.int .u32 (z.r2 : Int))) (first | assumption | go_keep | exact ⟨o0, o2, c9⟩) (first | (go_at_call 81; refine (KL.out _).mono ?_; rintro e w2 ⟨rfl, rfl⟩) | (go_at_call 82; refine (KHX.out _).mono ?_; rintro e w3 ⟨rfl, n3, hw3⟩; have HO2 := Lib.hid (show Only (fun _ => False) w w3 from hw3 ▸ ((HO.out.drewN _).drewN n3)); have p := (show w3.cell? ⟨w.heap.size, 0, none⟩ = some (.int .i64 4) ∧ w3.cell? ⟨w.heap.size, 2, none⟩ = some (.int .i64 len) ∧ w3.cell? ⟨K.g, 9, none⟩ = some (.int .u32 (z.r2 : Int)) from hw3 ▸ ⟨o0, o2, c9⟩); clear hw3))
          go_wp2_with fail
          go_ret
          exact ⟨rfl, HO2.out⟩
        · have hh2 : res = z.has (z.r3) := hh
          rw [hh2]
          have KHX := Lib.hid (fun n => KH.out n (z.r3) HD.out.2.2.2.2)
          clear hh hh2
          clear KH hk07 hk6 hin c7 c8 c9
          go_enter Tryz.func63, Tryz.ntmps63
          go_upto_region 1 with fail
          rw [← HW1.out]
          clear HW1
          have ei : IntKind.i64.wrap ((5 : Int) - 2) = 3 := (IntWalk.i64_in _ (by decide)).trans (by decide)
          have ei2 : wrap64 ((5 : Int) - 2) = 3 := (IntWalk.wrap64_in _ (by decide)).trans (by decide)
          have ei3 : (3 : Int) < 4 := by decide
          have ei4 : IntKind.i64.wrap (3 : Int) = 3 := IntWalk.i64_in _ (by decide)
          have ei5 : (0 : Int) ≤ (3 : Int) := by decide
          go_wp2_with fail
          go_region_held3 (fun w' => w'.cell? ⟨w.heap.size, 0, none⟩ = some (.int .i64 5) ∧ w'.cell? ⟨w.heap.size, 2, none⟩ = some (.int .i64 len) ∧ w'.cell? ⟨K.g, 10, none⟩ = some (.int .u32 (z.r3 : Int))) (first | assumption | go_keep | exact ⟨o0, o2, c10⟩) (first | (go_at_call 81; refine (KL.out _).mono ?_; rintro e w2 ⟨rfl, rfl⟩) | (go_at_call 82; refine (KHX.out _).mono ?_; rintro e w3 ⟨rfl, n3, hw3⟩; have HO2 := Lib.hid (show Only (fun _ => False) w w3 from hw3 ▸ ((HO.out.drewN _).drewN n3)); have p := (show w3.cell? ⟨w.heap.size, 0, none⟩ = some (.int .i64 5) ∧ w3.cell? ⟨w.heap.size, 2, none⟩ = some (.int .i64 len) ∧ w3.cell? ⟨K.g, 10, none⟩ = some (.int .u32 (z.r3 : Int)) from hw3 ▸ ⟨o0, o2, c10⟩); clear hw3))
          go_wp2_with fail
          go_ret
          exact ⟨rfl, HO2.out⟩
      · obtain rfl : res = false := by rw [hres, fits_long he (by omega) hl]
        rw [decide_eq_false hl] at KL
        clear hres he hl
        have hk : kd = 1 ∨ kd = 2 ∨ kd = 3 ∨ kd = 4 ∨ kd = 5 := by omega
        rcases hk with rfl | rfl | rfl | rfl | rfl
        · clear KH hk07 hk6 hin c7 c8 c9 c10
          go_enter Tryz.func63, Tryz.ntmps63
          go_upto_region 1 with fail
          rw [← HW1.out]
          clear HW1
          go_wp2_with fail
          refine (KL.out _).mono ?_
          rintro e w2 ⟨rfl, rfl⟩
          go_wp2_with fail
          go_ret
          exact ⟨rfl, HO.out⟩
        · clear KH hk07 hk6 hin c8 c9 c10
          go_enter Tryz.func63, Tryz.ntmps63
          go_upto_region 1 with fail
          rw [← HW1.out]
          clear HW1
          have ei : IntKind.i64.wrap ((2 : Int) - 2) = 0 := (IntWalk.i64_in _ (by decide)).trans (by decide)
          have ei2 : wrap64 ((2 : Int) - 2) = 0 := (IntWalk.wrap64_in _ (by decide)).trans (by decide)
          have ei3 : (0 : Int) < 4 := by decide
          have ei4 : IntKind.i64.wrap (0 : Int) = 0 := IntWalk.i64_in _ (by decide)
          have ei5 : (0 : Int) ≤ (0 : Int) := by decide
          go_wp2_with fail
          refine wp_region_held_drew (S := fun w' => w'.cell? ⟨w.heap.size, 2, none⟩ = some (.int .i64 len)) (by kernel_rfl) o2 (fun hHeld => ?_)
          refine wpAnyH_take (i := 0) (v := ?_) rfl (by kernel_rfl) (by kernel_rfl) (by kernel_rfl) (fun _ _ _ h => h) (Or.inl ⟨by rfl, ?_⟩) (by assumption) ?_
          rotate_left
          · (intro w hSw; (try dsimp only at hSw); go_simp; try with_reducible rfl)
          try simp only [Act.put, List.setIfInBounds_toArray, List.set_cons_zero, List.set_cons_succ, List.getElem_toArray, List.getElem_cons_zero, List.getElem_cons_succ]
          refine wpAnyH_take (i := 1) (v := ?_) rfl (by kernel_rfl) (by kernel_rfl) (by kernel_rfl) (fun _ _ _ h => h) (Or.inl ⟨by rfl, ?_⟩) (by assumption) ?_
          rotate_left
          · (intro w hSw; (try dsimp only at hSw); go_simp; try with_reducible rfl)
          try simp only [Act.put, List.setIfInBounds_toArray, List.set_cons_zero, List.set_cons_succ, List.getElem_toArray, List.getElem_cons_zero, List.getElem_cons_succ]
          refine wpAnyH_ready (rs := [2]) (by kernel_rfl) (by simp) (AllReadyH.cons (i := 2) rfl (fun K hK => ?_) AllReadyH.nil)
          try simp only [List.getElem_toArray, List.getElem_cons_zero, List.getElem_cons_succ]
          go_simp
          refine (KL.out _).mono ?_
          rintro e w2 ⟨rfl, rfl⟩
          refine hK.out _ _ o2 (fun hHeld => ?_)
          clear hK K
          try simp only [Act.put, List.setIfInBounds_toArray, List.set_cons_zero, List.set_cons_succ]
          refine wpAnyH_take (i := 3) (v := ?_) rfl (by kernel_rfl) (by kernel_rfl) (by kernel_rfl) (fun _ _ _ h => h) (Or.inl ⟨by rfl, ?_⟩) (by assumption) ?_
          rotate_left
          · (intro w hSw; (try dsimp only at hSw); go_simp; try with_reducible rfl)
          try simp only [Act.put, List.setIfInBounds_toArray, List.set_cons_zero, List.set_cons_succ, List.getElem_toArray, List.getElem_cons_zero, List.getElem_cons_succ]
          refine wpAnyH_take (i := 4) (v := undef) rfl (by kernel_rfl) (by kernel_rfl) (by kernel_rfl) (fun _ _ _ h => h) (Or.inr ⟨by rfl, rfl⟩) (by assumption) ?_
          try simp only [Act.put, List.setIfInBounds_toArray, List.set_cons_zero, List.set_cons_succ, List.getElem_toArray, List.getElem_cons_zero, List.getElem_cons_succ]
          refine wpAnyH_take (i := 5) (v := undef) rfl (by kernel_rfl) (by kernel_rfl) (by kernel_rfl) (fun _ _ _ h => h) (Or.inr ⟨by rfl, rfl⟩) (by assumption) ?_
          try simp only [Act.put, List.setIfInBounds_toArray, List.set_cons_zero, List.set_cons_succ, List.getElem_toArray, List.getElem_cons_zero, List.getElem_cons_succ]
          refine wpAnyH_take (i := 6) (v := undef) rfl (by kernel_rfl) (by kernel_rfl) (by kernel_rfl) (fun _ _ _ h => h) (Or.inr ⟨by rfl, rfl⟩) (by assumption) ?_
          try simp only [Act.put, List.setIfInBounds_toArray, List.set_cons_zero, List.set_cons_succ, List.getElem_toArray, List.getElem_cons_zero, List.getElem_cons_succ]
          refine wpAnyH_take (i := 7) (v := undef) rfl (by kernel_rfl) (by kernel_rfl) (by kernel_rfl) (fun _ _ _ h => h) (Or.inr ⟨by rfl, rfl⟩) (by assumption) ?_
          try simp only [Act.put, List.setIfInBounds_toArray, List.set_cons_zero, List.set_cons_succ, List.getElem_toArray, List.getElem_cons_zero, List.getElem_cons_succ]
          refine wpAnyH_take (i := 8) (v := undef) rfl (by kernel_rfl) (by kernel_rfl) (by kernel_rfl) (fun _ _ _ h => h) (Or.inr ⟨by rfl, rfl⟩) (by assumption) ?_
          try simp only [Act.put, List.setIfInBounds_toArray, List.set_cons_zero, List.set_cons_succ, List.getElem_toArray, List.getElem_cons_zero, List.getElem_cons_succ]
          refine wpAnyH_take (i := 9) (v := undef) rfl (by kernel_rfl) (by kernel_rfl) (by kernel_rfl) (fun _ _ _ h => h) (Or.inr ⟨by rfl, rfl⟩) (by assumption) ?_
          try simp only [Act.put, List.setIfInBounds_toArray, List.set_cons_zero, List.set_cons_succ, List.getElem_toArray, List.getElem_cons_zero, List.getElem_cons_succ]
          refine wpAnyH_take (i := 10) (v := undef) rfl (by kernel_rfl) (by kernel_rfl) (by kernel_rfl) (fun _ _ _ h => h) (Or.inr ⟨by rfl, rfl⟩) (by assumption) ?_
          try simp only [Act.put, List.setIfInBounds_toArray, List.set_cons_zero, List.set_cons_succ, List.getElem_toArray, List.getElem_cons_zero, List.getElem_cons_succ]
          refine wpAnyH_take (i := 11) (v := undef) rfl (by kernel_rfl) (by kernel_rfl) (by kernel_rfl) (fun _ _ _ h => h) (Or.inr ⟨by rfl, rfl⟩) (by assumption) ?_
          try simp only [Act.put, List.setIfInBounds_toArray, List.set_cons_zero, List.set_cons_succ, List.getElem_toArray, List.getElem_cons_zero, List.getElem_cons_succ]
          refine wpAnyH_take (i := 12) (v := undef) rfl (by kernel_rfl) (by kernel_rfl) (by kernel_rfl) (fun _ _ _ h => h) (Or.inr ⟨by rfl, rfl⟩) (by assumption) ?_
          try simp only [Act.put, List.setIfInBounds_toArray, List.set_cons_zero, List.set_cons_succ, List.getElem_toArray, List.getElem_cons_zero, List.getElem_cons_succ]
          refine wpAnyH_take (i := 13) (v := undef) rfl (by kernel_rfl) (by kernel_rfl) (by kernel_rfl) (fun _ _ _ h => h) (Or.inr ⟨by rfl, rfl⟩) (by assumption) ?_
          try simp only [Act.put, List.setIfInBounds_toArray, List.set_cons_zero, List.set_cons_succ, List.getElem_toArray, List.getElem_cons_zero, List.getElem_cons_succ]
          refine wpAnyH_take (i := 14) (v := ?_) rfl (by kernel_rfl) (by kernel_rfl) (by kernel_rfl) (fun _ _ _ h => h) (Or.inl ⟨by rfl, ?_⟩) (by assumption) ?_
          rotate_left
          · (intro w hSw; (try dsimp only at hSw); go_simp; try with_reducible rfl)
          try simp only [Act.put, List.setIfInBounds_toArray, List.set_cons_zero, List.set_cons_succ, List.getElem_toArray, List.getElem_cons_zero, List.getElem_cons_succ]
          refine wpAnyH_take (i := 15) (v := ?_) rfl (by kernel_rfl) (by kernel_rfl) (by kernel_rfl) (fun _ _ _ h => h) (Or.inl ⟨by rfl, ?_⟩) (by assumption) ?_
          rotate_left
          · (intro w hSw; (try dsimp only at hSw); go_simp; try with_reducible rfl)
          try simp only [Act.put, List.setIfInBounds_toArray, List.set_cons_zero, List.set_cons_succ, List.getElem_toArray, List.getElem_cons_zero, List.getElem_cons_succ]
          refine wpAnyH_done (by kernel_rfl) ?_ _
          go_wp2_with fail
          go_ret
          exact ⟨rfl, HO.out.drewN _⟩
        · clear KH hk07 hk6 hin c7 c9 c10
          go_enter Tryz.func63, Tryz.ntmps63
          go_upto_region 1 with fail
          rw [← HW1.out]
          clear HW1
          have ei : IntKind.i64.wrap ((3 : Int) - 2) = 1 := (IntWalk.i64_in _ (by decide)).trans (by decide)
          have ei2 : wrap64 ((3 : Int) - 2) = 1 := (IntWalk.wrap64_in _ (by decide)).trans (by decide)
          have ei3 : (1 : Int) < 4 := by decide
          have ei4 : IntKind.i64.wrap (1 : Int) = 1 := IntWalk.i64_in _ (by decide)
          have ei5 : (0 : Int) ≤ (1 : Int) := by decide
          go_wp2_with fail
          refine wp_region_held_drew (S := fun w' => w'.cell? ⟨w.heap.size, 2, none⟩ = some (.int .i64 len)) (by kernel_rfl) o2 (fun hHeld => ?_)
          refine wpAnyH_take (i := 0) (v := ?_) rfl (by kernel_rfl) (by kernel_rfl) (by kernel_rfl) (fun _ _ _ h => h) (Or.inl ⟨by rfl, ?_⟩) (by assumption) ?_
          rotate_left
          · (intro w hSw; (try dsimp only at hSw); go_simp; try with_reducible rfl)
          try simp only [Act.put, List.setIfInBounds_toArray, List.set_cons_zero, List.set_cons_succ, List.getElem_toArray, List.getElem_cons_zero, List.getElem_cons_succ]
          refine wpAnyH_take (i := 1) (v := ?_) rfl (by kernel_rfl) (by kernel_rfl) (by kernel_rfl) (fun _ _ _ h => h) (Or.inl ⟨by rfl, ?_⟩) (by assumption) ?_
          rotate_left
          · (intro w hSw; (try dsimp only at hSw); go_simp; try with_reducible rfl)
          try simp only [Act.put, List.setIfInBounds_toArray, List.set_cons_zero, List.set_cons_succ, List.getElem_toArray, List.getElem_cons_zero, List.getElem_cons_succ]
          refine wpAnyH_ready (rs := [2]) (by kernel_rfl) (by simp) (AllReadyH.cons (i := 2) rfl (fun K hK => ?_) AllReadyH.nil)
          try simp only [List.getElem_toArray, List.getElem_cons_zero, List.getElem_cons_succ]
          go_simp
          refine (KL.out _).mono ?_
          rintro e w2 ⟨rfl, rfl⟩
          refine hK.out _ _ o2 (fun hHeld => ?_)
          clear hK K
          try simp only [Act.put, List.setIfInBounds_toArray, List.set_cons_zero, List.set_cons_succ]
          refine wpAnyH_take (i := 3) (v := ?_) rfl (by kernel_rfl) (by kernel_rfl) (by kernel_rfl) (fun _ _ _ h => h) (Or.inl ⟨by rfl, ?_⟩) (by assumption) ?_
          rotate_left
          · (intro w hSw; (try dsimp only at hSw); go_simp; try with_reducible rfl)
          try simp only [Act.put, List.setIfInBounds_toArray, List.set_cons_zero, List.set_cons_succ, List.getElem_toArray, List.getElem_cons_zero, List.getElem_cons_succ]
          refine wpAnyH_take (i := 4) (v := undef) rfl (by kernel_rfl) (by kernel_rfl) (by kernel_rfl) (fun _ _ _ h => h) (Or.inr ⟨by rfl, rfl⟩) (by assumption) ?_
          try simp only [Act.put, List.setIfInBounds_toArray, List.set_cons_zero, List.set_cons_succ, List.getElem_toArray, List.getElem_cons_zero, List.getElem_cons_succ]
          refine wpAnyH_take (i := 5) (v := undef) rfl (by kernel_rfl) (by kernel_rfl) (by kernel_rfl) (fun _ _ _ h => h) (Or.inr ⟨by rfl, rfl⟩) (by assumption) ?_
          try simp only [Act.put, List.setIfInBounds_toArray, List.set_cons_zero, List.set_cons_succ, List.getElem_toArray, List.getElem_cons_zero, List.getElem_cons_succ]
          refine wpAnyH_take (i := 6) (v := undef) rfl (by kernel_rfl) (by kernel_rfl) (by kernel_rfl) (fun _ _ _ h => h) (Or.inr ⟨by rfl, rfl⟩) (by assumption) ?_
          try simp only [Act.put, List.setIfInBounds_toArray, List.set_cons_zero, List.set_cons_succ, List.getElem_toArray, List.getElem_cons_zero, List.getElem_cons_succ]
          refine wpAnyH_take (i := 7) (v := undef) rfl (by kernel_rfl) (by kernel_rfl) (by kernel_rfl) (fun _ _ _ h => h) (Or.inr ⟨by rfl, rfl⟩) (by assumption) ?_
          try simp only [Act.put, List.setIfInBounds_toArray, List.set_cons_zero, List.set_cons_succ, List.getElem_toArray, List.getElem_cons_zero, List.getElem_cons_succ]
          refine wpAnyH_take (i := 8) (v := undef) rfl (by kernel_rfl) (by kernel_rfl) (by kernel_rfl) (fun _ _ _ h => h) (Or.inr ⟨by rfl, rfl⟩) (by assumption) ?_
          try simp only [Act.put, List.setIfInBounds_toArray, List.set_cons_zero, List.set_cons_succ, List.getElem_toArray, List.getElem_cons_zero, List.getElem_cons_succ]
          refine wpAnyH_take (i := 9) (v := undef) rfl (by kernel_rfl) (by kernel_rfl) (by kernel_rfl) (fun _ _ _ h => h) (Or.inr ⟨by rfl, rfl⟩) (by assumption) ?_
          try simp only [Act.put, List.setIfInBounds_toArray, List.set_cons_zero, List.set_cons_succ, List.getElem_toArray, List.getElem_cons_zero, List.getElem_cons_succ]
          refine wpAnyH_take (i := 10) (v := undef) rfl (by kernel_rfl) (by kernel_rfl) (by kernel_rfl) (fun _ _ _ h => h) (Or.inr ⟨by rfl, rfl⟩) (by assumption) ?_
          try simp only [Act.put, List.setIfInBounds_toArray, List.set_cons_zero, List.set_cons_succ, List.getElem_toArray, List.getElem_cons_zero, List.getElem_cons_succ]
          refine wpAnyH_take (i := 11) (v := undef) rfl (by kernel_rfl) (by kernel_rfl) (by kernel_rfl) (fun _ _ _ h => h) (Or.inr ⟨by rfl, rfl⟩) (by assumption) ?_
          try simp only [Act.put, List.setIfInBounds_toArray, List.set_cons_zero, List.set_cons_succ, List.getElem_toArray, List.getElem_cons_zero, List.getElem_cons_succ]
          refine wpAnyH_take (i := 12) (v := undef) rfl (by kernel_rfl) (by kernel_rfl) (by kernel_rfl) (fun _ _ _ h => h) (Or.inr ⟨by rfl, rfl⟩) (by assumption) ?_
          try simp only [Act.put, List.setIfInBounds_toArray, List.set_cons_zero, List.set_cons_succ, List.getElem_toArray, List.getElem_cons_zero, List.getElem_cons_succ]
          refine wpAnyH_take (i := 13) (v := undef) rfl (by kernel_rfl) (by kernel_rfl) (by kernel_rfl) (fun _ _ _ h => h) (Or.inr ⟨by rfl, rfl⟩) (by assumption) ?_
          try simp only [Act.put, List.setIfInBounds_toArray, List.set_cons_zero, List.set_cons_succ, List.getElem_toArray, List.getElem_cons_zero, List.getElem_cons_succ]
          refine wpAnyH_take (i := 14) (v := ?_) rfl (by kernel_rfl) (by kernel_rfl) (by kernel_rfl) (fun _ _ _ h => h) (Or.inl ⟨by rfl, ?_⟩) (by assumption) ?_
          rotate_left
          · (intro w hSw; (try dsimp only at hSw); go_simp; try with_reducible rfl)
          try simp only [Act.put, List.setIfInBounds_toArray, List.set_cons_zero, List.set_cons_succ, List.getElem_toArray, List.getElem_cons_zero, List.getElem_cons_succ]
          refine wpAnyH_take (i := 15) (v := ?_) rfl (by kernel_rfl) (by kernel_rfl) (by kernel_rfl) (fun _ _ _ h => h) (Or.inl ⟨by rfl, ?_⟩) (by assumption) ?_
          rotate_left
          · (intro w hSw; (try dsimp only at hSw); go_simp; try with_reducible rfl)
          try simp only [Act.put, List.setIfInBounds_toArray, List.set_cons_zero, List.set_cons_succ, List.getElem_toArray, List.getElem_cons_zero, List.getElem_cons_succ]
          refine wpAnyH_done (by kernel_rfl) ?_ _
          go_wp2_with fail
          go_ret
          exact ⟨rfl, HO.out.drewN _⟩
        · clear KH hk07 hk6 hin c7 c8 c10
          go_enter Tryz.func63, Tryz.ntmps63
          go_upto_region 1 with fail
          rw [← HW1.out]
          clear HW1
          have ei : IntKind.i64.wrap ((4 : Int) - 2) = 2 := (IntWalk.i64_in _ (by decide)).trans (by decide)
          have ei2 : wrap64 ((4 : Int) - 2) = 2 := (IntWalk.wrap64_in _ (by decide)).trans (by decide)
          have ei3 : (2 : Int) < 4 := by decide
          have ei4 : IntKind.i64.wrap (2 : Int) = 2 := IntWalk.i64_in _ (by decide)
          have ei5 : (0 : Int) ≤ (2 : Int) := by decide
          go_wp2_with fail
          refine wp_region_held_drew (S := fun w' => w'.cell? ⟨w.heap.size, 2, none⟩ = some (.int .i64 len)) (by kernel_rfl) o2 (fun hHeld => ?_)
          refine wpAnyH_take (i := 0) (v := ?_) rfl (by kernel_rfl) (by kernel_rfl) (by kernel_rfl) (fun _ _ _ h => h) (Or.inl ⟨by rfl, ?_⟩) (by assumption) ?_
          rotate_left
          · (intro w hSw; (try dsimp only at hSw); go_simp; try with_reducible rfl)
          try simp only [Act.put, List.setIfInBounds_toArray, List.set_cons_zero, List.set_cons_succ, List.getElem_toArray, List.getElem_cons_zero, List.getElem_cons_succ]
          refine wpAnyH_take (i := 1) (v := ?_) rfl (by kernel_rfl) (by kernel_rfl) (by kernel_rfl) (fun _ _ _ h => h) (Or.inl ⟨by rfl, ?_⟩) (by assumption) ?_
          rotate_left
          · (intro w hSw; (try dsimp only at hSw); go_simp; try with_reducible rfl)
          try simp only [Act.put, List.setIfInBounds_toArray, List.set_cons_zero, List.set_cons_succ, List.getElem_toArray, List.getElem_cons_zero, List.getElem_cons_succ]
          refine wpAnyH_ready (rs := [2]) (by kernel_rfl) (by simp) (AllReadyH.cons (i := 2) rfl (fun K hK => ?_) AllReadyH.nil)
          try simp only [List.getElem_toArray, List.getElem_cons_zero, List.getElem_cons_succ]
          go_simp
          refine (KL.out _).mono ?_
          rintro e w2 ⟨rfl, rfl⟩
          refine hK.out _ _ o2 (fun hHeld => ?_)
          clear hK K
          try simp only [Act.put, List.setIfInBounds_toArray, List.set_cons_zero, List.set_cons_succ]
          refine wpAnyH_take (i := 3) (v := ?_) rfl (by kernel_rfl) (by kernel_rfl) (by kernel_rfl) (fun _ _ _ h => h) (Or.inl ⟨by rfl, ?_⟩) (by assumption) ?_
          rotate_left
          · (intro w hSw; (try dsimp only at hSw); go_simp; try with_reducible rfl)
          try simp only [Act.put, List.setIfInBounds_toArray, List.set_cons_zero, List.set_cons_succ, List.getElem_toArray, List.getElem_cons_zero, List.getElem_cons_succ]
          refine wpAnyH_take (i := 4) (v := undef) rfl (by kernel_rfl) (by kernel_rfl) (by kernel_rfl) (fun _ _ _ h => h) (Or.inr ⟨by rfl, rfl⟩) (by assumption) ?_
          try simp only [Act.put, List.setIfInBounds_toArray, List.set_cons_zero, List.set_cons_succ, List.getElem_toArray, List.getElem_cons_zero, List.getElem_cons_succ]
          refine wpAnyH_take (i := 5) (v := undef) rfl (by kernel_rfl) (by kernel_rfl) (by kernel_rfl) (fun _ _ _ h => h) (Or.inr ⟨by rfl, rfl⟩) (by assumption) ?_
          try simp only [Act.put, List.setIfInBounds_toArray, List.set_cons_zero, List.set_cons_succ, List.getElem_toArray, List.getElem_cons_zero, List.getElem_cons_succ]
          refine wpAnyH_take (i := 6) (v := undef) rfl (by kernel_rfl) (by kernel_rfl) (by kernel_rfl) (fun _ _ _ h => h) (Or.inr ⟨by rfl, rfl⟩) (by assumption) ?_
          try simp only [Act.put, List.setIfInBounds_toArray, List.set_cons_zero, List.set_cons_succ, List.getElem_toArray, List.getElem_cons_zero, List.getElem_cons_succ]
          refine wpAnyH_take (i := 7) (v := undef) rfl (by kernel_rfl) (by kernel_rfl) (by kernel_rfl) (fun _ _ _ h => h) (Or.inr ⟨by rfl, rfl⟩) (by assumption) ?_
          try simp only [Act.put, List.setIfInBounds_toArray, List.set_cons_zero, List.set_cons_succ, List.getElem_toArray, List.getElem_cons_zero, List.getElem_cons_succ]
          refine wpAnyH_take (i := 8) (v := undef) rfl (by kernel_rfl) (by kernel_rfl) (by kernel_rfl) (fun _ _ _ h => h) (Or.inr ⟨by rfl, rfl⟩) (by assumption) ?_
          try simp only [Act.put, List.setIfInBounds_toArray, List.set_cons_zero, List.set_cons_succ, List.getElem_toArray, List.getElem_cons_zero, List.getElem_cons_succ]
          refine wpAnyH_take (i := 9) (v := undef) rfl (by kernel_rfl) (by kernel_rfl) (by kernel_rfl) (fun _ _ _ h => h) (Or.inr ⟨by rfl, rfl⟩) (by assumption) ?_
          try simp only [Act.put, List.setIfInBounds_toArray, List.set_cons_zero, List.set_cons_succ, List.getElem_toArray, List.getElem_cons_zero, List.getElem_cons_succ]
          refine wpAnyH_take (i := 10) (v := undef) rfl (by kernel_rfl) (by kernel_rfl) (by kernel_rfl) (fun _ _ _ h => h) (Or.inr ⟨by rfl, rfl⟩) (by assumption) ?_
          try simp only [Act.put, List.setIfInBounds_toArray, List.set_cons_zero, List.set_cons_succ, List.getElem_toArray, List.getElem_cons_zero, List.getElem_cons_succ]
          refine wpAnyH_take (i := 11) (v := undef) rfl (by kernel_rfl) (by kernel_rfl) (by kernel_rfl) (fun _ _ _ h => h) (Or.inr ⟨by rfl, rfl⟩) (by assumption) ?_
          try simp only [Act.put, List.setIfInBounds_toArray, List.set_cons_zero, List.set_cons_succ, List.getElem_toArray, List.getElem_cons_zero, List.getElem_cons_succ]
          refine wpAnyH_take (i := 12) (v := undef) rfl (by kernel_rfl) (by kernel_rfl) (by kernel_rfl) (fun _ _ _ h => h) (Or.inr ⟨by rfl, rfl⟩) (by assumption) ?_
          try simp only [Act.put, List.setIfInBounds_toArray, List.set_cons_zero, List.set_cons_succ, List.getElem_toArray, List.getElem_cons_zero, List.getElem_cons_succ]
          refine wpAnyH_take (i := 13) (v := undef) rfl (by kernel_rfl) (by kernel_rfl) (by kernel_rfl) (fun _ _ _ h => h) (Or.inr ⟨by rfl, rfl⟩) (by assumption) ?_
          try simp only [Act.put, List.setIfInBounds_toArray, List.set_cons_zero, List.set_cons_succ, List.getElem_toArray, List.getElem_cons_zero, List.getElem_cons_succ]
          refine wpAnyH_take (i := 14) (v := ?_) rfl (by kernel_rfl) (by kernel_rfl) (by kernel_rfl) (fun _ _ _ h => h) (Or.inl ⟨by rfl, ?_⟩) (by assumption) ?_
          rotate_left
          · (intro w hSw; (try dsimp only at hSw); go_simp; try with_reducible rfl)
          try simp only [Act.put, List.setIfInBounds_toArray, List.set_cons_zero, List.set_cons_succ, List.getElem_toArray, List.getElem_cons_zero, List.getElem_cons_succ]
          refine wpAnyH_take (i := 15) (v := ?_) rfl (by kernel_rfl) (by kernel_rfl) (by kernel_rfl) (fun _ _ _ h => h) (Or.inl ⟨by rfl, ?_⟩) (by assumption) ?_
          rotate_left
          · (intro w hSw; (try dsimp only at hSw); go_simp; try with_reducible rfl)
          try simp only [Act.put, List.setIfInBounds_toArray, List.set_cons_zero, List.set_cons_succ, List.getElem_toArray, List.getElem_cons_zero, List.getElem_cons_succ]
          refine wpAnyH_done (by kernel_rfl) ?_ _
          go_wp2_with fail
          go_ret
          exact ⟨rfl, HO.out.drewN _⟩
        · clear KH hk07 hk6 hin c7 c8 c9
          go_enter Tryz.func63, Tryz.ntmps63
          go_upto_region 1 with fail
          rw [← HW1.out]
          clear HW1
          have ei : IntKind.i64.wrap ((5 : Int) - 2) = 3 := (IntWalk.i64_in _ (by decide)).trans (by decide)
          have ei2 : wrap64 ((5 : Int) - 2) = 3 := (IntWalk.wrap64_in _ (by decide)).trans (by decide)
          have ei3 : (3 : Int) < 4 := by decide
          have ei4 : IntKind.i64.wrap (3 : Int) = 3 := IntWalk.i64_in _ (by decide)
          have ei5 : (0 : Int) ≤ (3 : Int) := by decide
          go_wp2_with fail
          refine wp_region_held_drew (S := fun w' => w'.cell? ⟨w.heap.size, 2, none⟩ = some (.int .i64 len)) (by kernel_rfl) o2 (fun hHeld => ?_)
          refine wpAnyH_take (i := 0) (v := ?_) rfl (by kernel_rfl) (by kernel_rfl) (by kernel_rfl) (fun _ _ _ h => h) (Or.inl ⟨by rfl, ?_⟩) (by assumption) ?_
          rotate_left
          · (intro w hSw; (try dsimp only at hSw); go_simp; try with_reducible rfl)
          try simp only [Act.put, List.setIfInBounds_toArray, List.set_cons_zero, List.set_cons_succ, List.getElem_toArray, List.getElem_cons_zero, List.getElem_cons_succ]
          refine wpAnyH_take (i := 1) (v := ?_) rfl (by kernel_rfl) (by kernel_rfl) (by kernel_rfl) (fun _ _ _ h => h) (Or.inl ⟨by rfl, ?_⟩) (by assumption) ?_
          rotate_left
          · (intro w hSw; (try dsimp only at hSw); go_simp; try with_reducible rfl)
          try simp only [Act.put, List.setIfInBounds_toArray, List.set_cons_zero, List.set_cons_succ, List.getElem_toArray, List.getElem_cons_zero, List.getElem_cons_succ]
          refine wpAnyH_ready (rs := [2]) (by kernel_rfl) (by simp) (AllReadyH.cons (i := 2) rfl (fun K hK => ?_) AllReadyH.nil)
          try simp only [List.getElem_toArray, List.getElem_cons_zero, List.getElem_cons_succ]
          go_simp
          refine (KL.out _).mono ?_
          rintro e w2 ⟨rfl, rfl⟩
          refine hK.out _ _ o2 (fun hHeld => ?_)
          clear hK K
          try simp only [Act.put, List.setIfInBounds_toArray, List.set_cons_zero, List.set_cons_succ]
          refine wpAnyH_take (i := 3) (v := ?_) rfl (by kernel_rfl) (by kernel_rfl) (by kernel_rfl) (fun _ _ _ h => h) (Or.inl ⟨by rfl, ?_⟩) (by assumption) ?_
          rotate_left
          · (intro w hSw; (try dsimp only at hSw); go_simp; try with_reducible rfl)
          try simp only [Act.put, List.setIfInBounds_toArray, List.set_cons_zero, List.set_cons_succ, List.getElem_toArray, List.getElem_cons_zero, List.getElem_cons_succ]
          refine wpAnyH_take (i := 4) (v := undef) rfl (by kernel_rfl) (by kernel_rfl) (by kernel_rfl) (fun _ _ _ h => h) (Or.inr ⟨by rfl, rfl⟩) (by assumption) ?_
          try simp only [Act.put, List.setIfInBounds_toArray, List.set_cons_zero, List.set_cons_succ, List.getElem_toArray, List.getElem_cons_zero, List.getElem_cons_succ]
          refine wpAnyH_take (i := 5) (v := undef) rfl (by kernel_rfl) (by kernel_rfl) (by kernel_rfl) (fun _ _ _ h => h) (Or.inr ⟨by rfl, rfl⟩) (by assumption) ?_
          try simp only [Act.put, List.setIfInBounds_toArray, List.set_cons_zero, List.set_cons_succ, List.getElem_toArray, List.getElem_cons_zero, List.getElem_cons_succ]
          refine wpAnyH_take (i := 6) (v := undef) rfl (by kernel_rfl) (by kernel_rfl) (by kernel_rfl) (fun _ _ _ h => h) (Or.inr ⟨by rfl, rfl⟩) (by assumption) ?_
          try simp only [Act.put, List.setIfInBounds_toArray, List.set_cons_zero, List.set_cons_succ, List.getElem_toArray, List.getElem_cons_zero, List.getElem_cons_succ]
          refine wpAnyH_take (i := 7) (v := undef) rfl (by kernel_rfl) (by kernel_rfl) (by kernel_rfl) (fun _ _ _ h => h) (Or.inr ⟨by rfl, rfl⟩) (by assumption) ?_
          try simp only [Act.put, List.setIfInBounds_toArray, List.set_cons_zero, List.set_cons_succ, List.getElem_toArray, List.getElem_cons_zero, List.getElem_cons_succ]
          refine wpAnyH_take (i := 8) (v := undef) rfl (by kernel_rfl) (by kernel_rfl) (by kernel_rfl) (fun _ _ _ h => h) (Or.inr ⟨by rfl, rfl⟩) (by assumption) ?_
          try simp only [Act.put, List.setIfInBounds_toArray, List.set_cons_zero, List.set_cons_succ, List.getElem_toArray, List.getElem_cons_zero, List.getElem_cons_succ]
          refine wpAnyH_take (i := 9) (v := undef) rfl (by kernel_rfl) (by kernel_rfl) (by kernel_rfl) (fun _ _ _ h => h) (Or.inr ⟨by rfl, rfl⟩) (by assumption) ?_
          try simp only [Act.put, List.setIfInBounds_toArray, List.set_cons_zero, List.set_cons_succ, List.getElem_toArray, List.getElem_cons_zero, List.getElem_cons_succ]
          refine wpAnyH_take (i := 10) (v := undef) rfl (by kernel_rfl) (by kernel_rfl) (by kernel_rfl) (fun _ _ _ h => h) (Or.inr ⟨by rfl, rfl⟩) (by assumption) ?_
          try simp only [Act.put, List.setIfInBounds_toArray, List.set_cons_zero, List.set_cons_succ, List.getElem_toArray, List.getElem_cons_zero, List.getElem_cons_succ]
          refine wpAnyH_take (i := 11) (v := undef) rfl (by kernel_rfl) (by kernel_rfl) (by kernel_rfl) (fun _ _ _ h => h) (Or.inr ⟨by rfl, rfl⟩) (by assumption) ?_
          try simp only [Act.put, List.setIfInBounds_toArray, List.set_cons_zero, List.set_cons_succ, List.getElem_toArray, List.getElem_cons_zero, List.getElem_cons_succ]
          refine wpAnyH_take (i := 12) (v := undef) rfl (by kernel_rfl) (by kernel_rfl) (by kernel_rfl) (fun _ _ _ h => h) (Or.inr ⟨by rfl, rfl⟩) (by assumption) ?_
          try simp only [Act.put, List.setIfInBounds_toArray, List.set_cons_zero, List.set_cons_succ, List.getElem_toArray, List.getElem_cons_zero, List.getElem_cons_succ]
          refine wpAnyH_take (i := 13) (v := undef) rfl (by kernel_rfl) (by kernel_rfl) (by kernel_rfl) (fun _ _ _ h => h) (Or.inr ⟨by rfl, rfl⟩) (by assumption) ?_
          try simp only [Act.put, List.setIfInBounds_toArray, List.set_cons_zero, List.set_cons_succ, List.getElem_toArray, List.getElem_cons_zero, List.getElem_cons_succ]
          refine wpAnyH_take (i := 14) (v := ?_) rfl (by kernel_rfl) (by kernel_rfl) (by kernel_rfl) (fun _ _ _ h => h) (Or.inl ⟨by rfl, ?_⟩) (by assumption) ?_
          rotate_left
          · (intro w hSw; (try dsimp only at hSw); go_simp; try with_reducible rfl)
          try simp only [Act.put, List.setIfInBounds_toArray, List.set_cons_zero, List.set_cons_succ, List.getElem_toArray, List.getElem_cons_zero, List.getElem_cons_succ]
          refine wpAnyH_take (i := 15) (v := ?_) rfl (by kernel_rfl) (by kernel_rfl) (by kernel_rfl) (fun _ _ _ h => h) (Or.inl ⟨by rfl, ?_⟩) (by assumption) ?_
          rotate_left
          · (intro w hSw; (try dsimp only at hSw); go_simp; try with_reducible rfl)
          try simp only [Act.put, List.setIfInBounds_toArray, List.set_cons_zero, List.set_cons_succ, List.getElem_toArray, List.getElem_cons_zero, List.getElem_cons_succ]
          refine wpAnyH_done (by kernel_rfl) ?_ _
          go_wp2_with fail
          go_ret
          exact ⟨rfl, HO.out.drewN _⟩
    · obtain rfl : res = false := by rw [hres, fits_other hin]
      have g0 : ¬ kd = 0 := by omega
      have g1 : ¬ kd = 1 := by omega
      have g2 : ¬ kd = 2 := by omega
      have g3 : ¬ kd = 3 := by omega
      have g4 : ¬ kd = 4 := by omega
      have g5 : ¬ kd = 5 := by omega
      have g6 : ¬ kd = 6 := by omega
      have g7 : ¬ kd = 7 := by omega
      clear hres he KH KL c7 c8 c9 c10 o2 o3 hk07 hk6 hin
      go_enter Tryz.func63, Tryz.ntmps63
      go_upto_region 1 with fail
      rw [← HW1.out]
      clear HW1
      go_wp2_with fail
      go_ret
      exact ⟨rfl, HO.out⟩
end
end Go.Proofs.YtoencondpbkomaaGreat
