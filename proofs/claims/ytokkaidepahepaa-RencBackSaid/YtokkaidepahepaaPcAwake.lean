/-
  What the laws of the coder ask first.
-/
import Derived.Test.YtokkaidepahepaaPcPut
import Derived.Test.YtokkaidepahepaaPcFin
import Derived.Test.YtokkaidepahepaaRdMore
import Derived.Deep.RegionLaw
namespace Go.Proofs.Ytokkaidepahepaa
open Go.RowKit

theorem awake_be : be [0, 127, 255, 252, 0] = (En.new.bit ((List.replicate 1 1024).getD 0 0) 1).n := by decide
theorem awake_len : (En.new.bit ((List.replicate 1 1024).getD 0 0) 1).l = 5 := by decide
theorem awake_ps : (List.replicate 1 1024).set 0 (upOf ((List.replicate 1 1024).getD 0 0) 1) = [992] := by decide

/-- What a finish leaves, as the laws' beginning asks it. -/
def FStep (w w4 W : World) (B g b : Nat) (ps : List Nat) (c : Nat) (cs : List UInt8) (x : Ending) (w5 : World) : Prop :=
  ∃ A m, x = .returned (.slice A 5 m) ∧ Sl w5 A 5 (bv cs) ∧ Pn w5 g none En.new ∧ Row w5 b ps c ∧ Below B w w5 ∧
    (∀ (W0 : World) (xs : List Value), Only (fun _ => False) w4 W0 → Sl W (some ⟨W0.heap.size, 0, none⟩) 5 xs → Sl w5 (some ⟨W0.heap.size, 0, none⟩) 5 xs)

theorem fin_step {w w4 W : World} {B g b c : Nat} {G : Option Nat} {e : En} {ps : List Nat} {cs : List UInt8} (h : Pn w4 g G e) (hR : Row w4 b ps c) (hbg : b ≠ g) (hbG : G ≠ some b) (hB : Below B w w4) (hBw : B ≤ w.heap.size) (hg : B ≤ g) (hGB : ∀ i, G = some i → B ≤ i)
    (hb : be cs = e.n) (hl : cs.length = 5) (hl2 : e.l = 5) (hW : Only (fun _ => False) w4 W) :
    Calls Try.prog 17 #[.pointer (some ⟨g, 0, none⟩)] W (FStep w w4 W B g b ps c cs) := by
  refine (finish_any (h.only hW (fun h => h) (fun _ _ h => h)) (by omega)).mono ?_
  rintro x w5 ⟨A, m, bs, rfl, hown, hn, hl3, hnw, hne, hPn, hO⟩
  obtain rfl : bs = cs := be_inj _ _ (by omega) (by omega)
  have hbs : ¬ pset g G b := fun hh => by
    rcases hh with hh | hh
    · exact hbg hh
    · exact hbG hh
  have hs := (own_facts hown).1
  rw [hl] at hs
  refine ⟨A, m, by rw [hl], hs, hPn, (hR.only hW (fun h => h)).only hO hbs, ?_, ?_⟩
  · exact below_only (hB.trans (Only.below (B := B) hW (Nat.le_trans hBw hB.size) (fun _ h => h.elim))) hO hBw (fun i hi => by
      rcases hi with hi | hi
      · rw [hi]; exact hg
      · exact hGB i hi)
  · intro W0 xs hW0 hS
    refine hS.only hO fun _ q o e hh => ?_
    injection e with e
    injection e with e
    have h1 := hW0.size
    have h2 := h.lt
    rcases hh with hh | hh
    · omega
    · have := h.old hh
      omega
theorem zlit (W : World) : Sl (W.alloc (.cells #[.int .u8 0, .int .u8 0, .int .u8 0, .int .u8 0, .int .u8 0] 5)) (some ⟨W.heap.size, 0, none⟩) 5 (bv [0, 0, 0, 0, 0]) := sl_lit W _ #[.int .u8 0, .int .u8 0, .int .u8 0, .int .u8 0, .int .u8 0] (by decide)
theorem alit (W : World) : Sl (W.alloc (.cells #[.int .u8 0, .int .u8 127, .int .u8 255, .int .u8 252, .int .u8 0] 5)) (some ⟨W.heap.size, 0, none⟩) 5 (bv [0, 127, 255, 252, 0]) := sl_lit W _ #[.int .u8 0, .int .u8 127, .int .u8 255, .int .u8 252, .int .u8 0] (by decide)

set_option maxRecDepth 100000 in
set_option maxHeartbeats 4000000 in
theorem awake_any (w : World) : Calls Try.prog 7 #[] w fun e w' => e = .returned (.bool true) ∧ Below w.heap.size w w' := by
  have hmk : ∀ w, (Instr.makeSlice 38 (.int .i64 5) (.int .i64 5)).run Try.prog w = .ok (.slice (some ⟨w.heap.size, 0, none⟩) 5 5) (w.alloc (.cells #[.int .u8 0, .int .u8 0, .int .u8 0, .int .u8 0, .int .u8 0] 5)) := fun _ => by kernel_rfl
  have HMK := Lib.hid hmk
  clear hmk
  have KN := Lib.hid (cnew_any w)
  go_enter Try.func7, Try.ntmps7
  go_wp2_with fail
  refine KN.out.mono ?_
  rintro e w1 ⟨rfl, hw1⟩
  have HP1 := Lib.hid (show Pn w1 w.heap.size none En.new by rw [hw1]; exact pn_fresh w)
  have HB1 := Lib.hid (show Below w.heap.size w w1 by rw [hw1]; exact (Below.refl _ _).alloc (Nat.le_refl _) _)
  clear hw1 KN
  generalize hgg : w.heap.size = g at *
  have HGG := Lib.hid hgg
  clear hgg
  go_wp2_with fail
  refine (fresh_any (n := 1) (by omega) w1).mono ?_
  rintro e w2 ⟨rfl, hR, hb2⟩
  have hg1 := HP1.out.lt
  have HP2 := Lib.hid (HP1.out.only (Only.of_below (S := fun _ => False) hb2) (fun h => h) (fun _ _ h => h))
  have HR2 := Lib.hid hR
  have HB2 := Lib.hid (HB1.out.trans (hb2.mono (Nat.le_of_lt hg1)))
  clear hR hb2 HP1 HB1
  generalize w1.heap.size = b at *
  go_wp2_with fail
  refine (fresh_any (n := 600) (by omega) w2).mono ?_
  rintro e w3 ⟨rfl, _, hb3⟩
  have hb2l := HR2.out.lt
  have HP3 := Lib.hid (HP2.out.only (Only.of_below (S := fun _ => False) hb3) (fun h => h) (fun _ _ h => h))
  have HR3 := Lib.hid (HR2.out.only (Only.of_below (S := fun _ => False) hb3) (fun h => h))
  have HB3 := Lib.hid (HB2.out.trans (hb3.mono (by omega)))
  have hsz3 := hb3.size
  clear hb3 HP2 HR2 HB2
  have KB := Lib.hid (pbit_any (i := 0) (bit := 1) HP3.out enOk_new HR3.out (by decide) (by exact pOk_fresh) (by omega) (by simp) (by omega) (by decide))
  go_wp2_with fail
  refine KB.out.mono ?_
  rintro e w4 ⟨rfl, G, hP4, hN4, hR4, hO4⟩
  rw [awake_ps] at hR4
  have hx4 : w4.cell? ⟨b, 0, none⟩ = some (.int .u16 992) := hR4.cell (by decide)
  have HB4 := Lib.hid (below_only HB3.out hO4 (Nat.le_of_eq HGG.out.symm) (fun i hi => by
    rcases hi with hi | hi | hi
    · omega
    · cases hi
    · omega))
  have HP4 := Lib.hid hP4
  have HR4 := Lib.hid hR4
  have HG4 := Lib.hid (fun i (hi : G = some i) => show w3.heap.size ≤ i from (hN4 i hi).elim (fun h => by cases h) id)
  have hsz4 := hO4.size
  clear hP4 hN4 hR4 hO4 HP3 HR3 HB3 KB
  go_wp2_with fail
  have HGB := Lib.hid (show ∀ i, G = some i → g ≤ i from fun i hi => by have := HG4.out i hi; omega)
  have HNE := Lib.hid (show G ≠ some b from fun hi => by have := HG4.out b hi; omega)
  have HBG := Lib.hid (show b ≠ g by omega)
  have hmk := HMK.out
  go_region_law (first
    | (go_simp; go_at_call 17; refine (fin_step HP4.out HR4.out HBG.out HNE.out HB4.out (Nat.le_of_eq HGG.out.symm) (Nat.le_refl _) HGB.out awake_be rfl awake_len (by first | exact (Only.refl _ w4).drewN _ | exact ((Only.refl _ w4).drewN _).alloc _)).mono ?_; rintro e w5 ⟨A, m, rfl, hS, hP5, hR5, hB5, hkeep⟩; have HSA := Lib.hid hS; have HP5 := Lib.hid hP5; have HR5 := Lib.hid hR5; have HB5 := Lib.hid hB5; try have HSB := Lib.hid (hkeep _ _ ((Only.refl _ w4).drewN 1) (alit _)); clear hS hP5 hR5 hB5 hkeep)
    | (go_simp; go_at_call 16; refine (bytesSame_any (bs := [0, 127, 255, 252, 0]) (by first | exact HSA.out | exact HSA.out.alloc _) (by first | exact HSB.out | exact alit _) (by omega)).mono ?_; rintro e w6 ⟨rfl, d, hw6⟩; have hO6 : Only (fun _ => False) w5 w6 := (by rw [← hw6]; first | exact (Only.refl _ w5).drewN _ | exact ((Only.refl _ w5).alloc _).drewN _); have HP6 := Lib.hid (HP5.out.only hO6 (fun h => h) (fun _ _ h => h)); have HR6 := Lib.hid (HR5.out.only hO6 (fun h => h)); have HB6 := Lib.hid (HB5.out.trans (Only.below (B := g) hO6 (Nat.le_trans (Nat.le_of_eq HGG.out.symm) HB5.out.size) (fun _ h => h.elim))); clear hO6 hw6)
    | (go_simp; go_at_call 17; refine (fin_step HP6.out HR6.out HBG.out (by simp) HB6.out (Nat.le_of_eq HGG.out.symm) (Nat.le_refl _) (fun _ h => by cases h) (cs := [0, 0, 0, 0, 0]) rfl rfl rfl (by first | exact Only.refl _ w6 | exact (Only.refl _ w6).alloc _)).mono ?_; rintro e w7 ⟨A2, m2, rfl, hS, hP7, hR7, hB7, hkeep⟩; have HSC := Lib.hid hS; have HP7 := Lib.hid hP7; have HR7 := Lib.hid hR7; have HB7 := Lib.hid hB7; try have HSD := Lib.hid (hkeep _ _ (Only.refl _ w6) (zlit _)); clear hS hP7 hR7 hB7 hkeep)
    | (go_simp; go_at_call 16; refine (bytesSame_any (bs := [0, 0, 0, 0, 0]) (by first | exact HSC.out | exact HSC.out.alloc _) (by first | exact HSD.out | exact zlit _) (by omega)).mono ?_; rintro e w8 ⟨rfl, d8, hw8⟩; have hO8 : Only (fun _ => False) w7 w8 := (by rw [← hw8]; first | exact (Only.refl _ w7).drewN _ | exact ((Only.refl _ w7).alloc _).drewN _); have hx8 : w8.cell? ⟨b, 0, none⟩ = some (.int .u16 992) := (HR7.out.only hO8 (fun h => h)).cell (by decide); have HB8 := Lib.hid (HB7.out.trans (Only.below (B := g) hO8 (Nat.le_trans (Nat.le_of_eq HGG.out.symm) HB7.out.size) (fun _ h => h.elim))); clear hO8 hw8))
  all_goals go_wp2_with fail
  all_goals go_ret
  all_goals exact ⟨rfl, by rw [HGG.out]; exact HB8.out⟩
end Go.Proofs.Ytokkaidepahepaa
