/-
  The law PrcTells, over what the program's decoder owes.
-/
import Derived.Test.YtkjhdpfomofggaaPrTl
import Derived.Test.YtkjhdpfomofggaaHeld
import Derived.LoopTactic
namespace Go.Proofs.Ytkjhdpfomofggaa
open Go.RowKit

theorem min2_u32 {P : Program} (ts : Array TypeId) (t : TypeId) (x y k : Nat) (hk : k = min x y) : ∀ w, (Builtin.min_ ts t #[.int .u32 (x : Int), .int .u32 (y : Int)]).run P w = .ok (.int .u32 (k : Int)) w := by
  intro w
  have e : (if (y : Int) < (x : Int) then (y : Int) else (x : Int)) = (k : Int) := by
    split <;> omega
  rw [← e]
  simp [Builtin.min_, Builtin.min2]

/-- without a box -/
structure Tl' (Pd : World → Nat → Nat → (Nat → Prop) → List UInt8 → Dc → Prop) (w wr : World) (g f gr na : Nat) (A : Option Addr) (bs : List UInt8) (bx : Array Value) (d1 d2 : Dc) (G : Nat → Prop) : Prop where
  pd : Pd wr g f G bs d1
  dr : Dr wr gr A bs d2
  gB : ∀ i, G i → w.heap.size ≤ i
  n1 : ¬ G gr
  b1 : w.heap.size ≤ gr
  hA : 0 < bs.length → ∀ b o, A = some ⟨b, o, none⟩ → b < w.heap.size
  bel : Below w.heap.size w wr
theorem Tl.less {Pd : World → Nat → Nat → (Nat → Prop) → List UInt8 → Dc → Prop} {w wr : World} {g f gr na : Nat} {A : Option Addr} {bs : List UInt8} {bx : Array Value} {d1 d2 : Dc} {G : Nat → Prop} (h : Tl Pd w wr g f gr na A bs bx d1 d2 G) : Tl' Pd w wr g f gr na A bs bx d1 d2 G :=
  ⟨h.pd, h.dr, h.gB, h.n1, h.b1, h.hA, h.bel⟩
theorem Tl'.only {Pd : World → Nat → Nat → (Nat → Prop) → List UInt8 → Dc → Prop} (D : DecCon Pd) {w wr w' : World} {g f gr na : Nat} {A : Option Addr} {bs : List UInt8} {bx : Array Value} {d1 d2 : Dc} {G : Nat → Prop} (h : Tl' Pd w wr g f gr na A bs bx d1 d2 G) (hO : Only (fun _ => False) wr w') : Tl' Pd w w' g f gr na A bs bx d1 d2 G :=
  ⟨D.only h.pd hO (fun _ _ h => h), h.dr.only hO (fun h => h) (fun _ _ _ _ h => h), h.gB, h.n1, h.b1, h.hA, h.bel.trans (hO.below h.bel.size (fun _ h => h.elim))⟩
theorem Tl'.box {Pd : World → Nat → Nat → (Nat → Prop) → List UInt8 → Dc → Prop} (D : DecCon Pd) {w wr : World} {g f gr na : Nat} {A : Option Addr} {bs : List UInt8} {bx : Array Value} {d1 d2 : Dc} {G : Nat → Prop} (h : Tl' Pd w wr g f gr na A bs bx d1 d2 G) (bx' : Array Value) : Tl Pd w (wr.alloc (.cells bx' 33)) g f gr wr.heap.size A bs bx' d1 d2 G := by
  have h0 := h.only D ((Only.refl (fun _ => False) wr).alloc (.cells bx' 33))
  have l1 := h.dr.lt
  exact ⟨h0.pd, h0.dr, h0.gB, h0.n1, fun hg => by have := D.old h.pd hg; omega, by omega, h0.b1, h.bel.size, h0.hA, Blk.fresh wr _ _, h0.bel⟩

set_option maxRecDepth 100000 in
set_option maxHeartbeats 3000000 in
theorem prcTells_walk {Pd : World → Nat → Nat → (Nat → Prop) → List UInt8 → Dc → Prop} (D : DecCon Pd) (Aw : AwakeCon) {A : Option Addr} {n c : Nat} {bs : List UInt8} {B : Option Addr} {m mc : Nat} {qs : Nat → Shr} {w : World} (hS : Sl w A n (bv bs)) (hn : n ≤ maxLen) (hB : Shrs w B m qs) (hqs : ∀ i, i < m → ShrLit (qs i)) (hm : m ≤ maxLen) :
    Calls Try.prog 3 #[.slice A n c, .slice B m mc] w fun e w' => e = .returned (.bool true) ∧ Below w.heap.size w w' := by
  unfold maxLen at hm hn
  have HSC := Lib.hid hB
  have HQS := Lib.hid hqs
  have hbl : bs.length = n := by rw [← bv_length]; exact hS.1
  subst hbl
  have HS := Lib.hid hS
  have HAL := Lib.hid (show 0 < bs.length → ∀ b o, A = some ⟨b, o, none⟩ → b < w.heap.size from fun h b o e => by
    obtain ⟨b', o', e', hb, _⟩ := hS.2 h
    rw [e] at e'
    injection e' with e'
    injection e' with e'
    omega)
  clear hB hqs hS
  by_cases hbig : bs.length ≤ 65536
  · have hbig' : ¬ (bs.length : Int) > 65536 := by omega
    have HBIG := Lib.hid (show bs.length ≤ 1000000000 by omega)
    clear hbig
    go_enter Try.func3, Try.ntmps3
    go_wp2_with fail
    refine (Aw w).mono ?_
    rintro e w1 ⟨rfl, hb⟩
    have HB1 := Lib.hid hb
    have HS1 := Lib.hid (HS.out.below hb)
    have hlo : w.heap.size ≤ w1.heap.size := hb.size
    clear hb
    go_wp2_with fail
    refine (newFeed_any HS1.out (by have := HBIG.out; omega)).mono ?_
    rintro e w3 ⟨f, rfl, hf, hF, hb⟩
    have HB3 := Lib.hid (below_trans HB1.out hb)
    have HF3 := Lib.hid hF
    clear hF hb HB1 HS1
    generalize w1.heap.size = lo at *
    go_wp2_with fail
    refine (D.new HF3.out HBIG.out).mono ?_
    rintro e w4 ⟨g, G0, rfl, hP, hG, hb⟩
    have HP4 := Lib.hid hP
    have HG4 := Lib.hid (show ∀ i, G0 i → w.heap.size ≤ i from fun i hi => Nat.le_trans hlo (hG i hi))
    have HB4 := Lib.hid (HB3.out.trans (hb.mono hlo))
    clear hP hG hb HF3 HB3 hf hlo
    go_wp2_with fail
    refine (rbegin_any (HS.out.below HB4.out) HBIG.out).mono ?_
    rintro e w5 ⟨rfl, hR, hb5⟩
    have hs4 := HB4.out.size
    have HT5 := Lib.hid (show ∀ na, ¬ na = w4.heap.size → w.heap.size ≤ na → ¬ G0 na → ∀ bx, Blk w5 na 33 bx → Tl Pd w w5 g f w4.heap.size na A bs bx (started bs) (started bs) G0 from fun na h1 h2 h3 bx h4 =>
      ⟨D.only HP4.out (Only.of_below (S := fun _ => False) hb5) (fun _ _ h => h), hR, HG4.out, fun h => by have := D.old HP4.out h; omega, h3, h1, hs4, h2, HAL.out, h4, HB4.out.trans (hb5.mono hs4)⟩)
    have HR5 := Lib.hid (show (Pd w5 g f G0 bs (started bs) ∧ Dr w5 w4.heap.size A bs (started bs)) ∧ (∀ i, G0 i → w.heap.size ≤ i) ∧ ¬ G0 w4.heap.size ∧ w.heap.size ≤ w4.heap.size ∧ Below w.heap.size w w5 from
      ⟨⟨D.only HP4.out (Only.of_below (S := fun _ => False) hb5) (fun _ _ h => h), hR⟩, HG4.out, fun h => by have := D.old HP4.out h; omega, hs4, HB4.out.trans (hb5.mono hs4)⟩)
    clear hR hb5 HP4 HG4 HB4 HT5 hs4
    generalize w4.heap.size = gr at *
    go_wp2_with fail
    go_loopw [8] (fun i wr => ∃ (j : Nat) (na : Nat) (bx : Array Value) (G : Nat → Prop) (d : Dc), j ≤ m ∧ j ≤ 2000 ∧ i = .int .i64 (j : Int) ∧ Tl' Pd w wr g f gr na A bs bx d d G ∧ DcOk d) (fun i _ => m - (intOf i).toNat)
    case atStart => exact ⟨0, 0, #[], G0, _, by omega, by omega, rfl, ⟨HR5.out.1.1, HR5.out.1.2, HR5.out.2.1, HR5.out.2.2.1, HR5.out.2.2.2.1, HAL.out, HR5.out.2.2.2.2⟩, dcOk_started _⟩
    case round =>
      clear HR5
      obtain ⟨j, na, bx, G, d, hj, hj5, rfl, hT, hd⟩ := hrel
      have HT := Lib.hid hT
      have HD := Lib.hid hd
      clear hT hd
      by_cases hgo : j < m ∧ j < 2000
      · obtain ⟨hjm, hj2⟩ := hgo
        obtain ⟨bq, oq, rfl, hbl, c0, c1, c2, c3⟩ := HSC.out.cells HT.out.bel hjm
        have hlit := HQS.out j hjm
        generalize hq : qs j = q at *
        obtain ⟨k, s, z, t⟩ := q
        dsimp only at c0 c1 c2 c3
        have HLIT := Lib.hid hlit
        clear hq hlit
        have i0 : (0 : Int) ≤ (j : Int) := by omega
        have i1 : (j : Int) < (m : Int) := by omega
        have i2 : (j : Int) < 2000 := by omega
        have HTA := Lib.hid (HT.out.box D #[.int .i64 k, .int .u32 s, .int .u32 z, .int .u32 t])
        clear HT na bx
        go_wp2_with fail
        generalize wr.alloc (.cells #[.int .i64 k, .int .u32 s, .int .u32 z, .int .u32 t] 33) = wA at *
        generalize wr.heap.size = na at *
        refine (show Calls Try.prog 12 #[.agg #[.int .i64 k, .int .u32 s, .int .u32 z, .int .u32 t]] wA _ from share_any ⟨k, s, z, t⟩ HLIT.out wA).mono ?_
        rintro e w6 ⟨bb, rfl, hbb, hb6⟩
        have HT6 := Lib.hid (HTA.out.only D (Only.of_below hb6))
        obtain ⟨x0, x1, x2, x3⟩ : w6.cell? ⟨na, 0, none⟩ = some (.int .i64 k) ∧ w6.cell? ⟨na, 1, none⟩ = some (.int .u32 s) ∧ w6.cell? ⟨na, 2, none⟩ = some (.int .u32 z) ∧ w6.cell? ⟨na, 3, none⟩ = some (.int .u32 t) := ⟨HT6.out.bx.cell 0, HT6.out.bx.cell 1, HT6.out.bx.cell 2, HT6.out.bx.cell 3⟩
        have HBB := Lib.hid hbb
        clear hb6 hbb HTA c0 c1 c2 c3
        cases bb
        · go_wp2_with fail
          go_roundw
          case rel => exact ⟨j + 1, na, _, G, d, by omega, by omega, by go_num, HT6.out.less, HD.out⟩
          case measure => simp [intOf]; omega
        · have hq := HBB.out.1 rfl
          have hN := rightN_of hq
          obtain ⟨_, ⟨s0, s1⟩, ⟨z0, z1⟩, ⟨t0, t1⟩⟩ := HLIT.out
          dsimp only at s0 s1 z0 z1 t0 t1 hN
          clear HBB HLIT
          obtain ⟨s, rfl⟩ := Int.eq_ofNat_of_zero_le s0
          obtain ⟨z, rfl⟩ := Int.eq_ofNat_of_zero_le z0
          obtain ⟨t, rfl⟩ := Int.eq_ofNat_of_zero_le t0
          rcases hq with ⟨rfl, _⟩ | ⟨rfl, _⟩
          · rcases hN with ⟨_, h1, h2, h3⟩ | ⟨h0, _⟩
            · have h2' : s + z ≤ t := h2
              have h1' : 1 ≤ z := h1
              have h3' : t ≤ 1048576 := h3
              have KP := Lib.hid (D.place (t := t) HT6.out.pd HD.out (by omega) (by omega) HBIG.out)
              have KR := Lib.hid (fun (w7 : World) (h : Dr w7 gr A bs d) => rplace_any (t := t) h HD.out (by omega) (by omega))
              obtain ⟨m1, m2, m3⟩ := placeD_mid (t := t) HD.out (by omega) (by omega)
              obtain ⟨p, hp⟩ : ∃ p, p = (placeD d t).1 := ⟨_, rfl⟩
              obtain ⟨d7, hd7⟩ : ∃ d1, d1 = (placeD d t).2 := ⟨_, rfl⟩
              rw [← hp, ← hd7] at KP KR m2
              rw [← hp] at m1
              obtain ⟨h, hh⟩ : ∃ h, h = p / 2 := ⟨_, rfl⟩
              obtain ⟨y, hy⟩ : ∃ y, y = min z (t - p - 1) := ⟨_, rfl⟩
              have u1 : (p : Int) / 2 = (h : Int) := by omega
              have u2 : IntKind.u32.wrap (h : Int) = (h : Int) := u32_is _ (by omega) (by omega)
              have u3 : IntKind.u32.wrap ((h : Int) + 1) = ((h + 1 : Nat) : Int) := by rw [show (h : Int) + 1 = ((h + 1 : Nat) : Int) by omega]; exact u32_is _ (by omega) (by omega)
              have u4 : IntKind.u32.wrap ((t : Int) - (p : Int)) = ((t - p : Nat) : Int) := by rw [show (t : Int) - (p : Int) = ((t - p : Nat) : Int) by omega]; exact u32_is _ (by omega) (by omega)
              have u5 : IntKind.u32.wrap (((t - p : Nat) : Int) - 1) = ((t - p - 1 : Nat) : Int) := by rw [show ((t - p : Nat) : Int) - 1 = ((t - p - 1 : Nat) : Int) by omega]; exact u32_is _ (by omega) (by omega)
              have u6 := fun (w : World) => min2_u32 (P := Try.prog) #[31, 31] 31 z (t - p - 1) y hy w
              have u7 : IntKind.u32.wrap (((h + 1 : Nat) : Int) + (y : Int)) = ((h + 1 + y : Nat) : Int) := by rw [← Int.natCast_add]; exact u32_is _ (by omega) (by omega)
              have u8 : IntKind.u32.wrap ((p : Int) - (h : Int)) = ((p - h : Nat) : Int) := by rw [show (p : Int) - (h : Int) = ((p - h : Nat) : Int) by omega]; exact u32_is _ (by omega) (by omega)
              have HNUM := Lib.hid (show p - h ≤ p ∧ p < p - h + (h + 1 + y) ∧ p - h + (h + 1 + y) ≤ t ∧ t < 4294967296 by omega)
              have HM2 := Lib.hid m2
              have HTK := Lib.hid (show ∀ r k' s', d7 = some (r, k', s') → (p - h) * r ≤ k' ∧ k' - (p - h) * r < r * (h + 1 + y) ∧ r * (h + 1 + y) < 4294967296 ∧ 1 ≤ r * (h + 1 + y) from fun r k' s' he => by
                obtain ⟨a1, a2, a3, a4⟩ := HM2.out r k' s' he
                exact takeD_in a1 a2 a3 a4 HNUM.out.1 HNUM.out.2.1 HNUM.out.2.2.1)
              have HD8 := Lib.hid (takeD_ok HM2.out HNUM.out.1 HNUM.out.2.1 HNUM.out.2.2.1)
              clear hp hd7 m1 m2 m3 hh hy h1 h2 h3 h1' h2' h3' s0 s1 z0 z1 t0 t1
              generalize h + 1 + y = sz at *
              generalize h + 1 = hb1 at *
              generalize t - p - 1 = tp1 at *
              generalize t - p = tp at *
              generalize p - h = ph at *
              go_wp2_with fail
              refine KP.out.mono ?_
              intro e w7 hc
              obtain ⟨rfl, G7, hT7⟩ := tl_prog D HT6.out hc
              have HT7 := Lib.hid hT7
              have y3 : w7.cell? ⟨na, 3, none⟩ = some (.int .u32 (t : Int)) := hT7.bx.cell 3
              clear hc hT7 HT6 x0 x1 x2 x3 KP
              go_wp2_with fail
              refine (KR.out w7 HT7.out.dr).mono ?_
              intro e w8 hc
              obtain ⟨rfl, hT8⟩ := tl_ref D HT7.out hc
              have HT8 := Lib.hid hT8
              have y2 : w8.cell? ⟨na, 2, none⟩ = some (.int .u32 (z : Int)) := hT8.bx.cell 2
              have y3 : w8.cell? ⟨na, 3, none⟩ = some (.int .u32 (t : Int)) := hT8.bx.cell 3
              have KT := Lib.hid (D.take (a := ph) (z := sz) hT8.pd HBIG.out (by have := HNUM.out; omega) (by have := HNUM.out; omega) HTK.out)
              clear hc hT8 HT7 KR
              go_wp2_with fail
              refine KT.out.mono ?_
              intro e w9 hc
              obtain ⟨rfl, G9, hT9⟩ := tl_prog D HT8.out hc
              have HT9 := Lib.hid hT9
              have KT2 := Lib.hid (rtake_any (a := ph) (z := sz) hT9.dr HBIG.out (by have := HNUM.out; omega) (by have := HNUM.out; omega) HTK.out)
              clear hc hT9 HT8 KT y2 y3
              go_wp2_with fail
              refine KT2.out.mono ?_
              intro e w10 hc
              obtain ⟨rfl, hT10⟩ := tl_ref D HT9.out hc
              have HT8 := Lib.hid hT10
              clear hc hT10 HT9 KT2 HTK HM2 HNUM
              generalize takeD d7 ph sz = d1 at *
              obtain ⟨a8, k8, bad8, j4, j1, j3, hbad, ha8, hs8⟩ := HT8.out.dr.cells
              cases hd8 : d1 with
              | none =>
                rw [hd8] at HT8 HD8 hbad
                obtain rfl : bad8 = true := hbad
                have hKB : ∀ n, Calls Try.prog 19 #[.pointer (some ⟨g, 0, none⟩)] (w10.drewN n) (fun x w' => x = .returned (.bool true) ∧ ∃ m, (w10.drewN n).drewN m = w') := fun n => D.bad (HT8.out.only D ((Only.refl (fun _ => False) w10).drewN n)).pd
                have HKB := Lib.hid hKB
                clear hKB hs8 ha8
                go_wp2_with fail
                go_quiet ((go_at_call 19; exact quiet_drew_at (HKB.out _)))
                go_wp2_with fail
                go_roundw
                case rel => exact ⟨j + 1, na, _, G9, none, by omega, by omega, by go_num, (HT8.out.only D ((Only.refl (fun _ => False) w10).drewN nq)).less, HD8.out⟩
                case measure => simp [intOf]; omega
              | some y =>
                obtain ⟨r8, c8, s8⟩ := y
                rw [hd8] at HT8 HD8 hbad
                obtain rfl : bad8 = false := hbad
                obtain ⟨lo9, at9, hF9, hdr9⟩ := D.feed HT8.out.pd
                obtain ⟨_, hs9⟩ := hs8 r8 c8 s8 hd8
                have hle9 := hF9.le
                have hat : ((bs.length : Nat) : Int) - (at9 : Int) = (bs.length : Int) - (a8 : Int) := by
                  have := congrArg List.length (hdr9.trans hs9)
                  rw [List.length_drop, List.length_drop] at this
                  omega
                have hKL : ∀ n, Calls Try.prog 20 #[.pointer (some ⟨f, 0, none⟩)] (w10.drewN n) (fun x w' => x = .returned (.int .i64 ((bs.length : Int) - (a8 : Int))) ∧ ∃ m, (w10.drewN n).drewN m = w') := fun n => by
                  have := feedLeft_any (hF9.drewN n)
                  rw [hat] at this
                  exact this
                have hKB : ∀ n, Calls Try.prog 19 #[.pointer (some ⟨g, 0, none⟩)] (w10.drewN n) (fun x w' => x = .returned (.bool false) ∧ ∃ m, (w10.drewN n).drewN m = w') := fun n => D.bad (HT8.out.only D ((Only.refl (fun _ => False) w10).drewN n)).pd
                have HKB := Lib.hid hKB
                have HKL := Lib.hid hKL
                have e9 : IntKind.i64.wrap ((bs.length : Int) - (a8 : Int)) = (bs.length : Int) - (a8 : Int) := IntWalk.i64_in _ (by have := HBIG.out; omega)
                clear hKB hKL hs8 ha8 hF9 hdr9 hle9 hat hs9
                go_wp2_with fail
                go_quiet ((first | (go_at_call 19; exact quiet_drew_at (HKB.out _)) | (go_at_call 20; exact quiet_drew_at (HKL.out _))))
                go_wp2_with fail
                go_roundw
                case rel => exact ⟨j + 1, na, _, G9, some (r8, c8, s8), by omega, by omega, by go_num, (HT8.out.only D ((Only.refl (fun _ => False) w10).drewN nq)).less, HD8.out⟩
                case measure => simp [intOf]; omega
            · cases h0
          · rcases hN with ⟨h0, _⟩ | ⟨_, h1, h2, h3, h4, h5⟩
            · cases h0
            · have h3' : t ≤ 16 := h3
              have h4' : 1 ≤ z := h4
              have h5' : z < 2 ^ t := h5
              have KB := Lib.hid (D.bit (z := z) (t := t) (HT6.out.only D ((Only.refl (fun _ => False) w6).drewN 1)).pd HD.out HBIG.out h3' h4' h5')
              have HD8 := Lib.hid (shareBit_ok (z := z) (t := t) HD.out h3' h4' h5').2
              have e5 : IntKind.i64.wrap (t : Int) = (t : Int) := IntWalk.i64_in _ (by omega)
              go_wp2_with fail
              refine wp_region_held_drew (S := fun w' => w'.cell? ⟨na, 2, none⟩ = some (.int .u32 (z : Int)) ∧ w'.cell? ⟨na, 3, none⟩ = some (.int .u32 (t : Int))) (by kernel_rfl) ⟨x2, x3⟩ (fun hHeld => ?_)
              refine wpAnyH_take (i := 0) (v := ?_) rfl (by kernel_rfl) (by kernel_rfl) (by kernel_rfl) (fun _ _ _ h => h) (Or.inl ⟨by rfl, ?_⟩) (by assumption) ?_
              rotate_left
              · (intro w hSw; (try dsimp only at hSw); go_simp; try with_reducible rfl)
              try simp only [Act.put, List.setIfInBounds_toArray, List.set_cons_zero, List.set_cons_succ, List.getElem_toArray, List.getElem_cons_zero, List.getElem_cons_succ]
              refine wpAnyH_take (i := 1) (v := ?_) rfl (by kernel_rfl) (by kernel_rfl) (by kernel_rfl) (fun _ _ _ h => h) (Or.inl ⟨by rfl, ?_⟩) (by assumption) ?_
              rotate_left
              · (intro w hSw; (try dsimp only at hSw); go_simp; try with_reducible rfl)
              try simp only [Act.put, List.setIfInBounds_toArray, List.set_cons_zero, List.set_cons_succ, List.getElem_toArray, List.getElem_cons_zero, List.getElem_cons_succ]
              refine wpAnyH_take (i := 2) (v := ?_) rfl (by kernel_rfl) (by kernel_rfl) (by kernel_rfl) (fun _ _ _ h => h) (Or.inl ⟨by rfl, ?_⟩) (by assumption) ?_
              rotate_left
              · (intro w hSw; (try dsimp only at hSw); go_simp; try with_reducible rfl)
              try simp only [Act.put, List.setIfInBounds_toArray, List.set_cons_zero, List.set_cons_succ, List.getElem_toArray, List.getElem_cons_zero, List.getElem_cons_succ]
              refine wpAnyH_take (i := 3) (v := ?_) rfl (by kernel_rfl) (by kernel_rfl) (by kernel_rfl) (fun _ _ _ h => h) (Or.inl ⟨by rfl, ?_⟩) (by assumption) ?_
              rotate_left
              · (intro w hSw; (try dsimp only at hSw); go_simp; try with_reducible rfl)
              try simp only [Act.put, List.setIfInBounds_toArray, List.set_cons_zero, List.set_cons_succ, List.getElem_toArray, List.getElem_cons_zero, List.getElem_cons_succ]
              refine wpAnyH_take (i := 4) (v := ?_) rfl (by kernel_rfl) (by kernel_rfl) (by kernel_rfl) (fun _ _ _ h => h) (Or.inl ⟨by rfl, ?_⟩) (by assumption) ?_
              rotate_left
              · (intro w hSw; (try dsimp only at hSw); go_simp; try with_reducible rfl)
              try simp only [Act.put, List.setIfInBounds_toArray, List.set_cons_zero, List.set_cons_succ, List.getElem_toArray, List.getElem_cons_zero, List.getElem_cons_succ]
              refine wpAnyH_take (i := 5) (v := ?_) rfl (by kernel_rfl) (by kernel_rfl) (by kernel_rfl) (fun _ _ _ h => h) (Or.inl ⟨by rfl, ?_⟩) (by assumption) ?_
              rotate_left
              · (intro w hSw; (try dsimp only at hSw); go_simp; try with_reducible rfl)
              try simp only [Act.put, List.setIfInBounds_toArray, List.set_cons_zero, List.set_cons_succ, List.getElem_toArray, List.getElem_cons_zero, List.getElem_cons_succ]
              refine wpAnyH_take (i := 7) (v := ?_) rfl (by kernel_rfl) (by kernel_rfl) (by kernel_rfl) (fun _ _ _ h => h) (Or.inl ⟨by rfl, ?_⟩) (by assumption) ?_
              rotate_left
              · (intro w hSw; (try dsimp only at hSw); go_simp; try with_reducible rfl)
              try simp only [Act.put, List.setIfInBounds_toArray, List.set_cons_zero, List.set_cons_succ, List.getElem_toArray, List.getElem_cons_zero, List.getElem_cons_succ]
              refine wpAnyH_take (i := 8) (v := ?_) rfl (by kernel_rfl) (by kernel_rfl) (by kernel_rfl) (fun _ _ _ h => h) (Or.inl ⟨by rfl, ?_⟩) (by assumption) ?_
              rotate_left
              · (intro w hSw; (try dsimp only at hSw); go_simp; try with_reducible rfl)
              try simp only [Act.put, List.setIfInBounds_toArray, List.set_cons_zero, List.set_cons_succ, List.getElem_toArray, List.getElem_cons_zero, List.getElem_cons_succ]
              refine wpAnyH_take (i := 9) (v := ?_) rfl (by kernel_rfl) (by kernel_rfl) (by kernel_rfl) (fun _ _ _ h => h) (Or.inl ⟨by rfl, ?_⟩) (by assumption) ?_
              rotate_left
              · (intro w hSw; (try dsimp only at hSw); go_simp; try with_reducible rfl)
              try simp only [Act.put, List.setIfInBounds_toArray, List.set_cons_zero, List.set_cons_succ, List.getElem_toArray, List.getElem_cons_zero, List.getElem_cons_succ]
              refine wpAnyH_take (i := 10) (v := ?_) rfl (by kernel_rfl) (by kernel_rfl) (by kernel_rfl) (fun _ _ _ h => h) (Or.inl ⟨by rfl, ?_⟩) (by assumption) ?_
              rotate_left
              · (intro w hSw; (try dsimp only at hSw); go_simp; try with_reducible rfl)
              try simp only [Act.put, List.setIfInBounds_toArray, List.set_cons_zero, List.set_cons_succ, List.getElem_toArray, List.getElem_cons_zero, List.getElem_cons_succ]
              refine wpAnyH_take (i := 11) (v := ?_) rfl (by kernel_rfl) (by kernel_rfl) (by kernel_rfl) (fun _ _ _ h => h) (Or.inl ⟨by rfl, ?_⟩) (by assumption) ?_
              rotate_left
              · (intro w hSw; (try dsimp only at hSw); go_simp; try with_reducible rfl)
              try simp only [Act.put, List.setIfInBounds_toArray, List.set_cons_zero, List.set_cons_succ, List.getElem_toArray, List.getElem_cons_zero, List.getElem_cons_succ]
              refine wpAnyH_take (i := 12) (v := ?_) rfl (by kernel_rfl) (by kernel_rfl) (by kernel_rfl) (fun _ _ _ h => h) (Or.inl ⟨by rfl, ?_⟩) (by assumption) ?_
              rotate_left
              · (intro w hSw; (try dsimp only at hSw); go_simp; try with_reducible rfl)
              try simp only [Act.put, List.setIfInBounds_toArray, List.set_cons_zero, List.set_cons_succ, List.getElem_toArray, List.getElem_cons_zero, List.getElem_cons_succ]
              refine wpAnyH_ready (rs := [6]) (by kernel_rfl) (by simp) (AllReadyH.cons (i := 6) rfl (fun K hK => ?_) AllReadyH.nil)
              try simp only [List.getElem_toArray, List.getElem_cons_zero, List.getElem_cons_succ]
              go_simp
              refine KB.out.mono ?_
              intro e w7 hc
              obtain ⟨rfl, G7, hT7⟩ := tl_prog D (HT6.out.only D ((Only.refl (fun _ => False) w6).drewN 1)) hc
              have hc7 : w7.cell? ⟨na, 2, none⟩ = some (.int .u32 (z : Int)) ∧ w7.cell? ⟨na, 3, none⟩ = some (.int .u32 (t : Int)) := ⟨hT7.bx.cell 2, hT7.bx.cell 3⟩
              have HT7 := Lib.hid hT7
              clear hc hT7
              refine hK.out _ _ hc7 (fun hHeld => ?_)
              clear hK K
              try simp only [Act.put, List.setIfInBounds_toArray, List.set_cons_zero, List.set_cons_succ]
              refine wpAnyH_ready (rs := [13]) (by kernel_rfl) (by simp) (AllReadyH.cons (i := 13) rfl (fun K hK => ?_) AllReadyH.nil)
              try simp only [List.getElem_toArray, List.getElem_cons_zero, List.getElem_cons_succ]
              go_simp
              refine (rshare_any HT7.out.dr HD.out HBIG.out h3' h4' h5').mono ?_
              intro e w8 hc
              obtain ⟨rfl, hT8⟩ := tl_ref D HT7.out hc
              have hc8 : w8.cell? ⟨na, 2, none⟩ = some (.int .u32 (z : Int)) ∧ w8.cell? ⟨na, 3, none⟩ = some (.int .u32 (t : Int)) := ⟨hT8.bx.cell 2, hT8.bx.cell 3⟩
              have HT8 := Lib.hid hT8
              clear hc hT8 HT7
              refine hK.out _ _ hc8 (fun hHeld => ?_)
              clear hK K
              try simp only [Act.put, List.setIfInBounds_toArray, List.set_cons_zero, List.set_cons_succ]
              refine wpAnyH_take (i := 14) (v := ?_) rfl (by kernel_rfl) (by kernel_rfl) (by kernel_rfl) (fun _ _ _ h => h) (Or.inl ⟨by rfl, ?_⟩) (by assumption) ?_
              rotate_left
              · (intro w hSw; (try dsimp only at hSw); go_simp; try with_reducible rfl)
              try simp only [Act.put, List.setIfInBounds_toArray, List.set_cons_zero, List.set_cons_succ, List.getElem_toArray, List.getElem_cons_zero, List.getElem_cons_succ]
              refine wpAnyH_done (by kernel_rfl) ?_ _
              clear KB HT6 x0 x1 x2 x3 hc7 hc8 h1 h2 h3 h4 h5 h3' h4' h5' s0 s1 z0 z1 t0 t1
              generalize (shareBit d z t).1 = v at *
              generalize (shareBit d z t).2 = d1 at *
              obtain ⟨a8, k8, bad8, j4, j1, j3, hbad, ha8, hs8⟩ := HT8.out.dr.cells
              cases hd8 : d1 with
              | none =>
                rw [hd8] at HT8 HD8 hbad
                obtain rfl : bad8 = true := hbad
                have hKB : ∀ n, Calls Try.prog 19 #[.pointer (some ⟨g, 0, none⟩)] (w8.drewN n) (fun x w' => x = .returned (.bool true) ∧ ∃ m, (w8.drewN n).drewN m = w') := fun n => D.bad (HT8.out.only D ((Only.refl (fun _ => False) w8).drewN n)).pd
                have HKB := Lib.hid hKB
                clear hKB hs8 ha8
                go_wp2_with fail
                go_quiet ((go_at_call 19; exact quiet_drew_at (HKB.out _)))
                go_wp2_with fail
                go_roundw
                case rel => exact ⟨j + 1, na, _, G7, none, by omega, by omega, by go_num, (HT8.out.only D ((Only.refl (fun _ => False) w8).drewN nq)).less, HD8.out⟩
                case measure => simp [intOf]; omega
              | some y =>
                obtain ⟨r8, c8, s8⟩ := y
                rw [hd8] at HT8 HD8 hbad
                obtain rfl : bad8 = false := hbad
                obtain ⟨lo9, at9, hF9, hdr9⟩ := D.feed HT8.out.pd
                obtain ⟨_, hs9⟩ := hs8 r8 c8 s8 hd8
                have hle9 := hF9.le
                have hat : ((bs.length : Nat) : Int) - (at9 : Int) = (bs.length : Int) - (a8 : Int) := by
                  have := congrArg List.length (hdr9.trans hs9)
                  rw [List.length_drop, List.length_drop] at this
                  omega
                have hKL : ∀ n, Calls Try.prog 20 #[.pointer (some ⟨f, 0, none⟩)] (w8.drewN n) (fun x w' => x = .returned (.int .i64 ((bs.length : Int) - (a8 : Int))) ∧ ∃ m, (w8.drewN n).drewN m = w') := fun n => by
                  have := feedLeft_any (hF9.drewN n)
                  rw [hat] at this
                  exact this
                have hKB : ∀ n, Calls Try.prog 19 #[.pointer (some ⟨g, 0, none⟩)] (w8.drewN n) (fun x w' => x = .returned (.bool false) ∧ ∃ m, (w8.drewN n).drewN m = w') := fun n => D.bad (HT8.out.only D ((Only.refl (fun _ => False) w8).drewN n)).pd
                have HKB := Lib.hid hKB
                have HKL := Lib.hid hKL
                have e9 : IntKind.i64.wrap ((bs.length : Int) - (a8 : Int)) = (bs.length : Int) - (a8 : Int) := IntWalk.i64_in _ (by have := HBIG.out; omega)
                clear hKB hKL hs8 ha8 hF9 hdr9 hle9 hat hs9
                go_wp2_with fail
                go_quiet ((first | (go_at_call 19; exact quiet_drew_at (HKB.out _)) | (go_at_call 20; exact quiet_drew_at (HKL.out _))))
                go_wp2_with fail
                go_roundw
                case rel => exact ⟨j + 1, na, _, G7, some (r8, c8, s8), by omega, by omega, by go_num, (HT8.out.only D ((Only.refl (fun _ => False) w8).drewN nq)).less, HD8.out⟩
                case measure => simp [intOf]; omega
      · by_cases hjm : j < m
        · obtain rfl : j = 2000 := by omega
          have i1 : ((2000 : Nat) : Int) < (m : Int) := by omega
          go_wp2_with fail
          obtain ⟨a8, k8, bad8, j4, j1, j3, hbad, ha8, hs8⟩ := HT.out.dr.cells
          cases hd8 : d with
          | none =>
            rw [hd8] at HT hbad
            obtain rfl : bad8 = true := hbad
            have hKB : ∀ n, Calls Try.prog 21 #[.pointer (some ⟨g, 0, none⟩)] (wr.drewN n) (fun x w' => x = .returned (.bool false) ∧ ∃ m, (wr.drewN n).drewN m = w') := fun n => D.done (HT.out.only D ((Only.refl (fun _ => False) wr).drewN n)).pd
            have HKB := Lib.hid hKB
            clear hKB hs8 ha8
            go_quiet ((go_at_call 21; exact quiet_drew_at (HKB.out _)))
            go_wp2_with fail
            go_ret
            exact ⟨rfl, below_drewN HT.out.bel nq⟩
          | some y =>
            obtain ⟨r8, c8, s8⟩ := y
            obtain ⟨hc8, _⟩ := hs8 r8 c8 s8 hd8
            rw [hd8] at HT hbad
            obtain rfl : bad8 = false := hbad
            subst hc8
            obtain ⟨v, hv⟩ : ∃ v : Bool, v = decide (c8 = 0) := ⟨_, rfl⟩
            have hKB : ∀ n, Calls Try.prog 21 #[.pointer (some ⟨g, 0, none⟩)] (wr.drewN n) (fun x w' => x = .returned (.bool v) ∧ ∃ m, (wr.drewN n).drewN m = w') := fun n => by rw [hv]; exact D.done (HT.out.only D ((Only.refl (fun _ => False) wr).drewN n)).pd
            have HKB := Lib.hid hKB
            have HV := Lib.hid hv
            clear hKB hs8 ha8 hv
            by_cases hz : c8 = 0
            · have hvv : v = true := by rw [HV.out]; simp [hz]
              subst hz hvv
              go_quiet ((go_at_call 21; exact quiet_drew_at (HKB.out _)))
              go_wp2_with fail
              go_ret
              exact ⟨rfl, below_drewN HT.out.bel nq⟩
            · have hvv : v = false := by rw [HV.out]; simp [hz]
              have hz2 : ((c8 : Int) == 0) = false := by simp [hz]
              subst hvv
              go_quiet ((go_at_call 21; exact quiet_drew_at (HKB.out _)))
              go_wp2_with fail
              go_ret
              exact ⟨by simp [hz], below_drewN HT.out.bel nq⟩
        · obtain rfl : j = m := by omega
          clear hjm hgo
          go_wp2_with fail
          obtain ⟨a8, k8, bad8, j4, j1, j3, hbad, ha8, hs8⟩ := HT.out.dr.cells
          cases hd8 : d with
          | none =>
            rw [hd8] at HT hbad
            obtain rfl : bad8 = true := hbad
            have hKB : ∀ n, Calls Try.prog 21 #[.pointer (some ⟨g, 0, none⟩)] (wr.drewN n) (fun x w' => x = .returned (.bool false) ∧ ∃ m, (wr.drewN n).drewN m = w') := fun n => D.done (HT.out.only D ((Only.refl (fun _ => False) wr).drewN n)).pd
            have HKB := Lib.hid hKB
            clear hKB hs8 ha8
            go_quiet ((go_at_call 21; exact quiet_drew_at (HKB.out _)))
            go_wp2_with fail
            go_ret
            exact ⟨rfl, below_drewN HT.out.bel nq⟩
          | some y =>
            obtain ⟨r8, c8, s8⟩ := y
            obtain ⟨hc8, _⟩ := hs8 r8 c8 s8 hd8
            rw [hd8] at HT hbad
            obtain rfl : bad8 = false := hbad
            subst hc8
            obtain ⟨v, hv⟩ : ∃ v : Bool, v = decide (c8 = 0) := ⟨_, rfl⟩
            have hKB : ∀ n, Calls Try.prog 21 #[.pointer (some ⟨g, 0, none⟩)] (wr.drewN n) (fun x w' => x = .returned (.bool v) ∧ ∃ m, (wr.drewN n).drewN m = w') := fun n => by rw [hv]; exact D.done (HT.out.only D ((Only.refl (fun _ => False) wr).drewN n)).pd
            have HKB := Lib.hid hKB
            have HV := Lib.hid hv
            clear hKB hs8 ha8 hv
            by_cases hz : c8 = 0
            · have hvv : v = true := by rw [HV.out]; simp [hz]
              subst hz hvv
              go_quiet ((go_at_call 21; exact quiet_drew_at (HKB.out _)))
              go_wp2_with fail
              go_ret
              exact ⟨rfl, below_drewN HT.out.bel nq⟩
            · have hvv : v = false := by rw [HV.out]; simp [hz]
              have hz2 : ((c8 : Int) == 0) = false := by simp [hz]
              subst hvv
              go_quiet ((go_at_call 21; exact quiet_drew_at (HKB.out _)))
              go_wp2_with fail
              go_ret
              exact ⟨by simp [hz], below_drewN HT.out.bel nq⟩
  · have hbig' : (bs.length : Int) > 65536 := by omega
    go_enter Try.func3, Try.ntmps3
    go_wp2_with fail
    refine (Aw w).mono ?_
    rintro e w1 ⟨rfl, hb⟩
    go_wp2_with fail
    go_ret
    exact ⟨rfl, hb⟩
end Go.Proofs.Ytkjhdpfomofggaa
