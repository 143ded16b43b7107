/-
  What the laws of stage 6 ask first, over what the program's coder and decoder owe.
-/
import Derived.Test.YtkjhdpfomofggaaPrCon
import Derived.Deep.RegionLaw
namespace Go.Proofs.Ytkjhdpfomofggaa
open Go.RowKit

theorem zlit6 (W : World) : Sl (W.alloc (.cells #[.int .u8 0, .int .u8 0, .int .u8 0, .int .u8 0, .int .u8 0] 5)) (some ⟨W.heap.size, 0, none⟩) 5 (bv [0, 0, 0, 0, 0]) := sl_lit W _ #[.int .u8 0, .int .u8 0, .int .u8 0, .int .u8 0, .int .u8 0] (by decide)
theorem alit6 (W : World) : Sl (W.alloc (.cells #[.int .u8 0, .int .u8 127, .int .u8 255, .int .u8 255, .int .u8 255] 5)) (some ⟨W.heap.size, 0, none⟩) 5 (bv [0, 127, 255, 255, 255]) := sl_lit W _ #[.int .u8 0, .int .u8 127, .int .u8 255, .int .u8 255, .int .u8 255] (by decide)
theorem awake6_be : be [0, 127, 255, 255, 255] = (putE En.new 0 1 1 2).n := by decide
theorem awake6_len : (putE En.new 0 1 1 2).l = 5 := by decide
theorem started6 : started [0, 0, 0, 0, 0] = some (4294967295, 0, []) := rfl
theorem place6 : placeD (some (4294967295, 0, [])) 7 = (0, some (613566756, 0, [])) := rfl

/-- What a finish leaves, as the laws' beginning asks it. -/
def FStep6 (Pn : World → Nat → (Nat → Prop) → En → Prop) (w w4 W : World) (B g : Nat) (Gd : Nat → Prop) (cs : List UInt8) (x : Ending) (w5 : World) : Prop :=
  ∃ A m G', x = .returned (.slice A 5 m) ∧ Sl w5 A 5 (bv cs) ∧ Pn w5 g G' En.new ∧ (∀ i, Gd i → ¬ G' i) ∧ (∀ i, G' i → B ≤ i) ∧ Below B w w5 ∧ Only (fun i => ¬ Gd i) W w5 ∧
    (∀ (W0 : World) (xs : List Value), Only (fun _ => False) w4 W0 → Sl W (some ⟨W0.heap.size, 0, none⟩) 5 xs → Sl w5 (some ⟨W0.heap.size, 0, none⟩) 5 xs)

theorem fin_step6 {Pn : World → Nat → (Nat → Prop) → En → Prop} (C : CoderCon Pn) {w w4 W : World} {B g : Nat} {G Gd : Nat → Prop} {e : En} {cs : List UInt8} (h : Pn w4 g G e) (hd : ∀ i, Gd i → ¬ G i) (hdo : ∀ i, Gd i → i < w4.heap.size) (hB : Below B w w4) (hBw : B ≤ w.heap.size) (hG : ∀ i, G i → B ≤ i)
    (hb : be cs = e.n) (hl : cs.length = 5) (hl2 : e.l = 5) (hW : Only (fun _ => False) w4 W) :
    Calls Try.prog 28 #[.pointer (some ⟨g, 0, none⟩)] W (FStep6 Pn w w4 W B g Gd cs) := by
  refine (C.finish (C.only h hW (fun _ _ h => h)) (by omega)).mono ?_
  rintro x w5 ⟨A, m, bs, G', rfl, hsl, hn, hl3, hPn, hN, hO⟩
  obtain rfl : bs = cs := be_inj _ _ (by omega) (by omega)
  rw [hl] at hsl
  have hBW : Below B w W := hB.trans (hW.below (Nat.le_trans hBw hB.size) (fun _ h => h.elim))
  have hs := hW.size
  refine ⟨A, m, G', by rw [hl], hsl, hPn, fun i hi hg => ?_, con_new hBw hBW hG hN, con_below hBw hBW hG hO, hO.mono (fun i hi hgd => hd i hgd hi), fun W0 xs hW0 hS => ?_⟩
  · rcases hN i hg with h1 | h1
    · exact hd i hi h1
    · have := hdo i hi; omega
  · refine hS.only hO fun _ q o e hh => ?_
    injection e with e
    injection e with e
    have h1 := hW0.size
    have := C.old h hh
    omega

set_option maxRecDepth 100000 in
set_option maxHeartbeats 8000000 in
theorem awake6_any {Pn : World → Nat → (Nat → Prop) → En → Prop} (C : CoderCon Pn) {Pd : World → Nat → Nat → (Nat → Prop) → List UInt8 → Dc → Prop} (D : DecCon Pd) : AwakeCon := by
  intro w
  have hmk : ∀ w, (Instr.makeSlice 22 (.int .i64 5) (.int .i64 5)).run Try.prog w = .ok (.slice (some ⟨w.heap.size, 0, none⟩) 5 5) (w.alloc (.cells #[.int .u8 0, .int .u8 0, .int .u8 0, .int .u8 0, .int .u8 0] 5)) := fun _ => by kernel_rfl
  have HMK := Lib.hid hmk
  clear hmk
  go_enter Try.func8, Try.ntmps8
  go_wp2_with fail
  refine (C.new w).mono ?_
  rintro e w1 ⟨g, G1, rfl, hP, hG, hb⟩
  have HP1 := Lib.hid hP
  have HG1 := Lib.hid hG
  have HB1 := Lib.hid hb
  clear hP hG hb
  have KP := Lib.hid (show Calls Try.prog 24 #[.pointer (some ⟨g, 0, none⟩), .agg #[.int .i64 0, .int .u32 1, .int .u32 1, .int .u32 2]] w1 (OwnPost (fun w' G' => Pn w' g G' (putE En.new 0 1 1 2)) w1 G1 (.tuple #[])) from
    C.put (Q := ⟨0, 1, 1, 2⟩) HP1.out enOk_new ⟨by decide, by decide, by decide, by decide⟩ (.inl ⟨rfl, by decide, by decide, by decide, by decide⟩) (by decide))
  go_wp2_with fail
  refine KP.out.mono ?_
  rintro e w2 ⟨rfl, G2, hP2, hN2, hO2⟩
  have HP2 := Lib.hid hP2
  have HG2 := Lib.hid (con_new (Nat.le_refl _) HB1.out HG1.out hN2)
  have HB2 := Lib.hid (con_below (Nat.le_refl _) HB1.out HG1.out hO2)
  clear hP2 hN2 hO2 HP1 HG1 HB1 KP
  have hmk := HMK.out
  have hOz := (Only.refl (fun _ => False) w2).alloc (.cells #[.int .u8 0, .int .u8 0, .int .u8 0, .int .u8 0, .int .u8 0] 5)
  have HP3 := Lib.hid (C.only HP2.out hOz (fun _ _ h => h))
  have HOLD := Lib.hid (fun i (hi : G2 i) => show i < w2.heap.size from C.old HP2.out hi)
  have HZ3 := Lib.hid (zlit6 w2)
  have HB3 := Lib.hid (HB2.out.alloc (o := .cells #[.int .u8 0, .int .u8 0, .int .u8 0, .int .u8 0, .int .u8 0] 5) HB2.out.size)
  have hsz3 := hOz.size
  clear hOz HP2 HB2
  go_wp2_with fail
  generalize w2.alloc (.cells #[.int .u8 0, .int .u8 0, .int .u8 0, .int .u8 0, .int .u8 0] 5) = w3 at *
  refine (newFeed_any (bs := [0, 0, 0, 0, 0]) HZ3.out (by omega)).mono ?_
  rintro e w4 ⟨f, rfl, hf, hF, hb4⟩
  have HF4 := Lib.hid hF
  have HP4 := Lib.hid (C.only HP3.out (Only.of_below (S := fun _ => False) hb4) (fun _ _ h => h))
  have HB4 := Lib.hid (below_trans HB3.out hb4)
  have hlo := HB3.out.size
  clear hF hb4 HZ3 HP3 HB3
  generalize w3.heap.size = lo at *
  go_wp2_with fail
  refine (D.new HF4.out (by decide)).mono ?_
  rintro e w5 ⟨gd, Gd, rfl, hPd, hGd, hb5⟩
  rw [started6] at hPd
  have hOb := hb5
  have HD5 := Lib.hid hPd
  have HP5 := Lib.hid (C.only HP4.out (S := fun i => lo ≤ i) ⟨hOb.os, hOb.tape, hOb.output, hOb.size, fun i _ hn => hOb.block i (by omega)⟩ (fun i hi hh => by have := HOLD.out i hi; omega))
  have HDJ := Lib.hid (show ∀ i, Gd i → ¬ G2 i from fun i hi h => by have := hGd i hi; have := HOLD.out i h; omega)
  have HDO := Lib.hid (show ∀ i, Gd i → i < w5.heap.size from fun i hi => D.old hPd hi)
  have HGD := Lib.hid (show ∀ i, Gd i → w.heap.size ≤ i from fun i hi => Nat.le_trans hlo (hGd i hi))
  have HB5 := Lib.hid (HB4.out.trans (hb5.mono hlo))
  clear hPd hGd hb5 hOb HF4 HP4 HB4 HOLD hf hsz3
  go_wp2_with fail
  go_region_law (first
    | (go_simp; go_at_call 28; refine (fin_step6 C HP5.out HDJ.out HDO.out HB5.out (Nat.le_refl _) HG2.out awake6_be rfl awake6_len (by first | exact (Only.refl _ w5).drewN _ | exact ((Only.refl _ w5).drewN _).alloc _)).mono ?_; rintro e w6 ⟨A, m, G6, rfl, hS, hP6, hJ6, hG6, hB6, hO6, hkeep⟩; have HSA := Lib.hid hS; have HP6 := Lib.hid hP6; have HJ6 := Lib.hid hJ6; have HG6 := Lib.hid hG6; have HB6 := Lib.hid hB6; have HD6 := Lib.hid (D.only (D.only HD5.out (show Only (fun _ => False) w5 _ by first | exact (Only.refl _ w5).drewN 1 | exact ((Only.refl _ w5).drewN 1).alloc _) (fun _ _ h => h)) hO6 (fun i hi hn => hn hi)); have hs6 := hO6.size; have HDO6 := Lib.hid (show ∀ i, Gd i → i < w6.heap.size from fun i hi => D.old HD6.out hi); try have HSB := Lib.hid (hkeep _ _ ((Only.refl _ w5).drewN 1) (alit6 _)); clear hS hP6 hJ6 hG6 hB6 hO6 hkeep hs6)
    | (go_simp; go_at_call 27; refine (bytesSame_any (bs := [0, 127, 255, 255, 255]) (by first | exact HSA.out | exact HSA.out.alloc _) (by first | exact HSB.out | exact alit6 _) (by omega)).mono ?_; rintro e w7 ⟨rfl, d, hw7⟩; have hO7 : Only (fun _ => False) w6 w7 := (by rw [← hw7]; first | exact (Only.refl _ w6).drewN _ | exact ((Only.refl _ w6).alloc _).drewN _); have HP7 := Lib.hid (C.only HP6.out hO7 (fun _ _ h => h)); have HD7 := Lib.hid (D.only HD6.out hO7 (fun _ _ h => h)); have HB7 := Lib.hid (HB6.out.trans (Only.below (B := w.heap.size) hO7 HB6.out.size (fun _ h => h.elim))); have HDO7 := Lib.hid (show ∀ i, Gd i → i < w7.heap.size from fun i hi => D.old HD7.out hi); clear hO7 hw7)
    | (go_simp; go_at_call 28; refine (fin_step6 C HP7.out HJ6.out HDO7.out HB7.out (Nat.le_refl _) HG6.out (cs := [0, 0, 0, 0, 0]) rfl rfl rfl (by first | exact Only.refl _ w7 | exact (Only.refl _ w7).alloc _)).mono ?_; rintro e w8 ⟨A2, m2, G8, rfl, hS, hP8, hJ8, hG8, hB8, hO8, hkeep⟩; have HSC := Lib.hid hS; have HB8 := Lib.hid hB8; have HD8 := Lib.hid (D.only (D.only HD7.out (show Only (fun _ => False) w7 _ by first | exact Only.refl _ w7 | exact (Only.refl _ w7).alloc _) (fun _ _ h => h)) hO8 (fun i hi hn => hn hi)); try have HSD := Lib.hid (hkeep _ _ (Only.refl _ w7) (zlit6 _)); clear hS hP8 hJ8 hG8 hB8 hO8 hkeep)
    | (go_simp; go_at_call 27; refine (bytesSame_any (bs := [0, 0, 0, 0, 0]) (by first | exact HSC.out | exact HSC.out.alloc _) (by first | exact HSD.out | exact zlit6 _) (by omega)).mono ?_; rintro e w9 ⟨rfl, d9, hw9⟩; have hO9 : Only (fun _ => False) w8 w9 := (by rw [← hw9]; first | exact (Only.refl _ w8).drewN _ | exact ((Only.refl _ w8).alloc _).drewN _); have HD9 := Lib.hid (D.only HD8.out hO9 (fun _ _ h => h)); have HB9 := Lib.hid (HB8.out.trans (Only.below (B := w.heap.size) hO9 HB8.out.size (fun _ h => h.elim))); have KDN := Lib.hid (show Calls Try.prog 21 #[.pointer (some ⟨gd, 0, none⟩)] w9 (fun x w' => x = .returned (.bool true) ∧ ∃ n, w9.drewN n = w') from D.done HD9.out); clear hO9 hw9)
    | (go_simp; go_at_call 21; refine KDN.out.mono ?_; rintro e w10 ⟨rfl, d10, hw10⟩; have hO10 : Only (fun _ => False) w9 w10 := (by rw [← hw10]; exact (Only.refl _ w9).drewN _); have HD10 := Lib.hid (D.only HD9.out hO10 (fun _ _ h => h)); have HB10 := Lib.hid (HB9.out.trans (Only.below (B := w.heap.size) hO10 HB9.out.size (fun _ h => h.elim))); have KPL := Lib.hid (show Calls Try.prog 15 #[.pointer (some ⟨gd, 0, none⟩), .int .u32 7] w10 (OwnPost (fun w' G' => Pd w' gd f G' [0, 0, 0, 0, 0] (some (613566756, 0, []))) w10 Gd (.int .u32 0)) from D.place (t := 7) HD10.out (fun r c s h => by injection h with h; injection h with h1 h; injection h with h2 h3; omega) (by omega) (by omega) (by decide)); clear hO10 hw10)
    | (go_simp; go_at_call 15; refine KPL.out.mono ?_; rintro e w11 ⟨rfl, G11, _, hN11, hO11⟩; have HB11 := Lib.hid (con_below (Nat.le_refl _) HB10.out HGD.out hO11); clear hN11 hO11))
  all_goals go_wp2_with fail
  all_goals go_ret
  all_goals exact ⟨rfl, HB11.out⟩
end Go.Proofs.Ytkjhdpfomofggaa
