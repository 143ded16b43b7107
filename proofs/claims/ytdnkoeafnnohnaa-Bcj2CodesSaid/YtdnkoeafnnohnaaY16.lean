/-
  B2RefC: put together.
-/
import Derived.Test.YtdnkoeafnnohnaaY15
import Derived.Test.YtdnkoeafnnohnaaY12
import Derived.Test.YtdnkoeafnnohnaaY07
set_option linter.unusedVariables false
set_option linter.unusedSimpArgs false
/-
  The document's Code: the walk.
-/
namespace Go.Proofs.Ytdnkoeafnnohnaa
set_option linter.unusedVariables false
open Go.RowKit

theorem ones4 (a b c d : Int) : ∀ u ∈ [Value.int .u8 a, .int .u8 b, .int .u8 c, .int .u8 d], u.oneCell' = true := by
  intro u hu
  simp only [List.mem_cons, List.not_mem_nil, or_false] at hu
  rcases hu with rfl | rfl | rfl | rfl <;> rfl
theorem ahd_one {b : List UInt8} {i n : Nat} (h : n = i + 1) : ahd b n = (b.getD i 0).toNat := by
  subst h
  unfold ahd
  rw [if_neg (by omega), Nat.add_sub_cancel]
theorem markI_none {a x : Nat} (h : mark a x = none) : markI a x = -1 := by unfold markI; rw [h]
theorem markI_some {a x k : Nat} (h : mark a x = some k) : markI a x = (k : Int) := by unfold markI; rw [h]
set_option maxRecDepth 100000 in
set_option maxHeartbeats 16000000 in
theorem rcode_any {w : World} {A : Option Addr} {c : Nat} {b : List UInt8} (hS : Sl w A b.length (bv b)) (hc : b.length ≤ c) (hn : b.length ≤ 16384) :
    Calls Try.prog 14 #[.slice A b.length c] w (CodePost w b) := by
  obtain ⟨i8, hi8, hz0, hz1, hz2⟩ := info_parts info_u8
  obtain ⟨w0, hw0⟩ : ∃ w0, w0 = w.alloc (.cells #[.slice none 0 0, .slice none 0 0, .slice none 0 0, .slice none 0 0] 24) := ⟨_, rfl⟩
  have hs0 : w0.heap.size = w.heap.size + 1 := by rw [hw0]; simp
  have hS1 : Sl w0 A b.length (bv b) := by rw [hw0]; exact hS.alloc _
  have hbx : Blk w0 w.heap.size 24 #[.slice none 0 0, .slice none 0 0, .slice none 0 0, .slice none 0 0] := by rw [hw0]; exact Blk.fresh _ _ _
  have hb0 : Below w.heap.size w w0 := by rw [hw0]; exact (Below.refl _ _).alloc (Nat.le_refl _) _
  have KN := Lib.hid (rnew5_any w0)
  obtain ⟨l, hL⟩ : ∃ l, l = List.replicate 258 1024 := ⟨_, rfl⟩
  have KF := Lib.hid (fun W => (show Calls Try.prog 20 #[.int .i64 258] W (fun e w' => ∃ A' c', e = .returned (.slice A' 258 c') ∧ w'.ownsRow W.heap.size 46 1 (.slice A' 258 c') 258 (pv (List.replicate 258 1024)) ∧ Below W.heap.size W w') from reffresh_any (n := 258) (by decide) W))
  rw [← hL] at KF
  have HS := Lib.hid (And.intro hS1 (And.intro hc hn))
  have HB0 := Lib.hid (And.intro hbx (And.intro hb0 hs0))
  have HL := Lib.hid hL
  have HW := Lib.hid hw0
  clear hS hS1 hc hn hbx hb0 hs0 hL hw0
  go_enter Try.func14, Try.ntmps14
  go_upto_region 1 with fail
  rw [← HW.out]
  clear HW
  go_wp2_with fail
  refine KN.out.mono ?_
  rintro e w1 ⟨rfl, hr1, hb1⟩
  have HR := Lib.hid (And.intro hr1 hb1)
  clear hr1 hb1 KN
  go_wp2_with fail
  refine (KF.out _).mono ?_
  rintro e w2 ⟨A', pc, rfl, ho, hb2⟩
  obtain ⟨pb, pc', hv, hbb, hblt⟩ := ho.form (by decide)
  injection hv with hA hc'
  subst hA
  have h258 : l.length = 258 := by rw [HL.out, List.length_replicate]
  obtain ⟨w3, hw3⟩ : ∃ w3, w3 = w2.alloc (.cells #[.slice none 0 0, .slice none 0 0, .slice none 0 0, .slice none 0 0] 24) := ⟨_, rfl⟩
  have hR0 : Rd w0 w3 w2.heap.size (w0.heap.size + 1) w0.heap.size pb pc V0 (fun _ => []) l En.new := by
    obtain ⟨hr1, hb1⟩ := HR.out
    have hO2 := Only.of_below (S := fun _ => False) hb2
    have hO3 : Only (fun _ => False) w2 w3 := by rw [hw3]; exact (Only.refl _ w2).alloc _
    have hlt := hr1.lt
    have hs2 := hb2.size
    have hs1 := hb1.size
    have hrow : Row w2 pb l pc := by
      unfold Row
      rw [h258]
      exact own_mono ho (Nat.zero_le _)
    have hb13 := (hb1.trans (hb2.mono hs1)).trans (hO3.below (Nat.le_trans hs1 hs2) (fun _ h => h.elim))
    refine ⟨by rw [hw3]; exact Blk.fresh _ _ _, (hr1.only hO2 (fun h => h) (fun h => h)).only hO3 (fun h => h) (fun h => h), enOk_new, hrow.only hO3 (fun h => h), fun p hp => by rw [HL.out] at hp; rw [List.eq_of_mem_replicate hp]; exact pOk_fresh, h258, fun k _ => World.ownsRow_nil _ _ _ 1, rfl, hb13, ⟨by omega, by omega, Nat.le_refl _, by omega⟩, ⟨by omega, by omega, by omega, by omega, by omega⟩, fun k _ p hp => by cases hp⟩
  have HR0 := Lib.hid hR0
  have HK := Lib.hid (show w0.heap.size ≤ w2.heap.size from Nat.le_trans HR.out.2.size hb2.size)
  have HW3 := Lib.hid hw3
  obtain ⟨T, hT⟩ : ∃ T, T = totE (fun _ => []) (enc b b.length 0 l En.new) := ⟨_, rfl⟩
  have HT := Lib.hid hT
  clear hR0 hbb hblt ho hb2 hc' h258 hw3 hT HR KF
  go_upto_region 4 with fail
  rw [← HW3.out]
  clear HW3
  generalize w2.heap.size = K at *
  obtain ⟨g, hg⟩ : ∃ g, g = w0.heap.size + 1 := ⟨_, rfl⟩
  obtain ⟨q0, hq0⟩ : ∃ q0, q0 = w0.heap.size := ⟨_, rfl⟩
  rw [← hg, ← hq0] at HR0
  have HG := Lib.hid (And.intro hg hq0)
  rw [← hg]
  clear hg hq0
  go_wp2_with fail
  go_loopw [6, 7] (fun a i wr => ∃ (iN q : Nat) (V : Nat → Value) (R : Nat → List UInt8) (ps : List Nat) (e : En) (f : Nat), a = .int .u8 ((ahd b iN : Nat) : Int) ∧ i = .int .i64 (iN : Int) ∧ iN ≤ b.length ∧ b.length - iN ≤ f ∧ Rd w0 wr K g q pb pc V R ps e ∧ totE R (enc b f iN ps e) = T ∧ sumR R = iN ∧ e.l ≤ 5 + iN) (fun _ i _ => b.length - (intOf i).toNat)
  case atStart => exact ⟨0, q0, V0, fun _ => [], l, En.new, b.length, rfl, rfl, Nat.zero_le _, by omega, HR0.out, HT.out.symm, rfl, Nat.le_refl _⟩
  case round =>
    obtain ⟨iN, q, V, R, ps, e, f, rfl, rfl, hi, hf, hR, hT, hs, hl⟩ := hrel
    clear HR0
    by_cases hlt : iN < b.length
    · obtain ⟨f, rfl⟩ : ∃ f', f = f' + 1 := ⟨f - 1, by omega⟩
      have hS := HS.out.1.below hR.bel
      obtain ⟨qa, oa, rfl, _, hcell⟩ := hS.2 (by omega)
      have cx : wr.cell? ⟨qa, oa + iN, none⟩ = some (.int .u8 ((b.getD iN 0).toNat : Int)) := by rw [hcell iN hlt, bv_get _ _ hlt]
      have hql : qa < w0.heap.size := by
        obtain ⟨q', o', e', hlt, _⟩ := HS.out.1.2 (by omega)
        injection e' with e'
        injection e' with e'
        omega
      obtain ⟨A0, c0, hv0, hrow⟩ := own_form (hR.row 0 (by decide))
      have cv := hR.cell.1
      rw [hv0] at cv
      obtain ⟨x, hx⟩ : ∃ x, x = b.getD iN 0 := ⟨_, rfl⟩
      rw [← hx] at cx
      have i0 : (0 : Int) ≤ (iN : Int) := by omega
      have i1 : (iN : Int) < (b.length : Int) := by omega
      have i2 : (b.length : Int) ≤ 16384 := by have := HS.out.2.2; omega
      have HLL := Lib.hid (show ((R 0).length + 1) * 1 ≤ 140737488355328 by unfold sumR at hs; omega)
      have HLM := Lib.hid (show (R 0).length + 1 ≤ maxLen by unfold sumR at hs; unfold maxLen; omega)
      have HOW := Lib.hid (fun (m : Nat) (ob : Obj) => World.ownsRow.alloc (show (wr.drewN m).ownsRow w0.heap.size 5 1 (.slice A0 (R 0).length c0) (R 0).length (bv (R 0)) from hrow) ob)
      have HNW := Lib.hid (fun (m : Nat) (u : Value) => (sl_one (wr.drewN m) 5 u).news)
      have HBB := Lib.hid (fun (m : Nat) (ob : Obj) => (show w0.heap.size ≤ ((wr.drewN m).alloc ob).heap.size by have h1 := hR.bel.size; have h2 : (wr.drewN m).heap.size = wr.heap.size := rfl; simp; omega))
      have cva : ∀ (m : Nat) (ob : Obj), ((wr.drewN m).alloc ob).cell? ⟨K, 0, none⟩ = some (.slice A0 (R 0).length c0) := fun m ob => ((hR.blk.only (((Only.refl (fun _ => False) wr).drewN m).alloc ob) (fun h => h)).cell 0).trans (by rw [← hv0]; rfl)
      have cvb : ∀ (ob : Obj), ((wr.alloc ob).drew).cell? ⟨K, 0, none⟩ = some (.slice A0 (R 0).length c0) := fun ob => ((hR.blk.only (((Only.refl (fun _ => False) wr).alloc ob).drew) (fun h => h)).cell 0).trans (by rw [← hv0]; rfl)
      have cvc : ∀ (m : Nat) (ob : Obj), ((wr.alloc ob).drewN m).cell? ⟨K, 0, none⟩ = some (.slice A0 (R 0).length c0) := fun m ob => ((hR.blk.only (((Only.refl (fun _ => False) wr).alloc ob).drewN m) (fun h => h)).cell 0).trans (by rw [← hv0]; rfl)
      have HAP := Lib.hid (fun (w1 w3 : World) (q' c2 : Nat) (h1 : Only (fun _ => False) wr w1) (ho : w3.ownsRow w0.heap.size 5 1 (.slice (some ⟨q', 0, none⟩) ((R 0).length + 1) c2) ((R 0).length + 1) (bv (R 0) ++ [Value.int .u8 (x.toNat : Int)]))
          (hg : w1.grownBy w3 (Value.slice A0 (R 0).length c0).ownBlock) (hq : (Value.slice A0 (R 0).length c0).ownBlock = some q' ∨ q' = w1.heap.size) =>
        (show w3.cell? ⟨K, 0, none⟩ = some (.slice A0 (R 0).length c0) ∧ w3.frozen? ⟨K, 0, none⟩ = false ∧ w3.cell? ⟨qa, oa + iN, none⟩ = some (.int .u8 (x.toNat : Int)) ∧ ∃ V', Rd w0 (w3.setCell ⟨K, 0, none⟩ (.slice (some ⟨q', 0, none⟩) ((R 0).length + 1) c2)) K g q pb pc V' (put1 R x) ps e from by
          obtain ⟨z1, z2, z3⟩ := hR.app (k := 0) (w1 := w1) (w3 := w3) (A' := some ⟨q', 0, none⟩) (c' := c2) (x := [x]) (by decide) h1 ho (by rw [hv0]; exact hg) (by
            rw [hv0]
            rcases hq with e | e
            · exact .inl e.symm
            · exact .inr (by rw [e]; rfl))
          have hk := hR.low.1
          have z4 : w3.cell? ⟨qa, oa + iN, none⟩ = wr.cell? ⟨qa, oa + iN, none⟩ := by
            have a1 := z3.bel.cell (p := ⟨qa, oa + iN, none⟩) hql
            have a2 := hR.bel.cell (p := ⟨qa, oa + iN, none⟩) hql
            rw [a2, ← a1]
            exact (World.cell?_setCell_other _ _ _ _ (fun e => by injection e with e; omega)).symm
          exact ⟨by rw [z1, hv0], z2, by rw [z4]; exact cx, _, z3⟩))
      have HJ := Lib.hid (And.intro hf (And.intro hT (And.intro hs (And.intro hl (And.intro hlt (And.intro hx hql))))))
      clear hR hS hcell hrow hv0 hi hf hT hs hl hlt hx hql
      go_wp2_with fail
      go_region_law (first
        | (refine step_append_lies _ rfl (.tmp 21) (.tmp 26) 22 rfl w0.heap.size 5 i8 _ 1 1 Try.underlying22 hi8 hz0 hz1 hz2 rfl (by omega) _ (R 0).length (bv (R 0)) rfl (HOW.out _ _) _ 1 1 [.int .u8 (x.toNat : Int)] rfl rfl (HNW.out _ _) (one_one _ _) (by omega) HLM.out HLL.out (HBB.out _ _) _ rfl ?_; intro q' c' w3 hod hgd hqd hql3; obtain ⟨d5, f5, _, hp⟩ := HAP.out _ w3 q' c' (by first | exact ((Only.refl _ wr).alloc _).drew | exact ((Only.refl _ wr).drewN _).alloc _ | exact (((Only.refl _ wr).alloc _).drewN _)) hod hgd hqd; have HP := Lib.hid hp; clear hod hgd hqd hp))
      all_goals
        as_aux_lemma =>
          obtain ⟨V1, hR1⟩ := HP.out
          generalize w3.setCell ⟨K, 0, none⟩ (.slice (some ⟨q', 0, none⟩) ((R 0).length + 1) c') = w4 at *
          obtain ⟨hf, hT, hs, hl, hlt, hx, hql⟩ := HJ.out
          have hS4 := HS.out.1.below hR1.bel
          obtain ⟨q2, o2, e2, _, hcell1⟩ := hS4.2 (by omega)
          injection e2 with e2
          injection e2 with e2 e3
          subst e2 e3
          have HCL := Lib.hid (show ∀ j, j < b.length → w4.cell? ⟨qa, oa + j, none⟩ = some (.int .u8 ((b.getD j 0).toNat : Int)) from fun j hj => by rw [hcell1 j hj, bv_get _ _ hj])
          have cx4 : w4.cell? ⟨qa, oa + iN, none⟩ = some (.int .u8 (x.toNat : Int)) := by rw [hcell1 iN hlt, bv_get _ _ hlt, ← hx]
          have ha256 := ahd_lt b iN
          have hx256 := x.toNat_lt
          have KM := Lib.hid (fun W => which_any (a := ahd b iN) (x := x.toNat) ha256 hx256 W)
          have HR1 := Lib.hid hR1
          have HX := Lib.hid hx
          have HLT := Lib.hid hlt
          clear HP HAP HOW HNW HBB cva cvb cvc HLL HLM cx cv d5 f5 hS4 hcell1 hR1 hql3 hf hT hs hl hql hx hx256 ha256
          obtain ⟨aN, haN⟩ : ∃ aN, aN = ahd b iN := ⟨_, rfl⟩
          obtain ⟨xN, hxN⟩ : ∃ xN, xN = x.toNat := ⟨_, rfl⟩
          rw [← haN, ← hxN] at KM
          rw [← hxN] at cx4
          have HXN := Lib.hid (And.intro haN hxN)
          clear haN hxN
          cases hm : mark aN xN with
          | none =>
            rw [markI_none hm] at KM
            have HM := Lib.hid (show mark (ahd b iN) (b.getD iN 0).toNat = none by rw [← HX.out, ← HXN.out.1, ← HXN.out.2]; exact hm)
            clear hm hlt
            go_wp2_with fail
            rw [← HXN.out.1, ← HXN.out.2]
            refine (KM.out _).mono ?_
            rintro e5 w5 ⟨rfl, rfl⟩
            clear KM
            go_wp2_with fail
            go_roundw
            case rel =>
              obtain ⟨hf, hT, hs, hl, hlt, hx, hql⟩ := HJ.out
              exact ⟨iN + 1, q, V1, put1 R x, ps, e, f, by rw [ahd_one rfl, ← hx, ← HXN.out.2], by go_num, by omega, by omega, HR1.out, by rw [← hT, enc_none hlt HM.out, ← hx, put1_tot], by rw [put1_sum, hs], by omega⟩
            case measure => have := HLT.out; simp [intOf]; omega
          | some k =>
            rw [markI_some hm] at KM
            have hmm : mark (ahd b iN) (b.getD iN 0).toNat = some k := by rw [← HX.out, ← HXN.out.1, ← HXN.out.2]; exact hm
            have hk := mark_lt (ahd_lt b iN) hmm
            have HM := Lib.hid (And.intro hmm (And.intro hk (mark_call (ahd_lt b iN) hmm)))
            have k0 : (0 : Int) ≤ (k : Int) := by omega
            have k1 : (k : Int) < 258 := by omega
            have nk : ¬ (k : Int) < 0 := by omega
            clear hm hmm hk
            by_cases hlast : iN + 1 = b.length
            · have j1 : ((iN : Int) == (b.length : Int) - 1) = true := by simp; omega
              have HLS := Lib.hid hlast
              clear hlast hlt
              go_wp2_with fail
              rw [← HXN.out.1, ← HXN.out.2]
              refine (KM.out _).mono ?_
              rintro e5 w5 ⟨rfl, rfl⟩
              clear KM
              go_wp2_with fail
              go_roundw
              case rel =>
                obtain ⟨hf, hT, hs, hl, hlt, hx, hql⟩ := HJ.out
                exact ⟨iN + 1, q, V1, put1 R x, ps, e, f, by rw [ahd_one rfl, ← hx, ← HXN.out.2], by go_num, by omega, by omega, HR1.out, by rw [← hT, enc_last HLS.out HM.out.1, ← hx, put1_tot], by rw [put1_sum, hs], by omega⟩
              case measure => have := HLT.out; simp [intOf]; omega
            · have j1 : ((iN : Int) == (b.length : Int) - 1) = false := by simp; omega
              have HLS := Lib.hid (show iN + 1 < b.length by omega)
              by_cases h4 : 4 < b.length - iN
              · have j4 : (b.length : Int) - (iN : Int) > 4 := by omega
                have x1 : w4.cell? ⟨qa, oa + (iN + 1), none⟩ = some (.int .u8 ((b.getD (iN + 1) 0).toNat : Int)) := HCL.out (iN + 1) (by omega)
                have x2 : w4.cell? ⟨qa, oa + (iN + 2), none⟩ = some (.int .u8 ((b.getD (iN + 2) 0).toNat : Int)) := HCL.out (iN + 2) (by omega)
                have x3 : w4.cell? ⟨qa, oa + (iN + 3), none⟩ = some (.int .u8 ((b.getD (iN + 3) 0).toNat : Int)) := HCL.out (iN + 3) (by omega)
                have x4 : w4.cell? ⟨qa, oa + (iN + 4), none⟩ = some (.int .u8 ((b.getD (iN + 4) 0).toNat : Int)) := HCL.out (iN + 4) (by omega)
                have hpl : plc b iN = ((b.getD (iN + 1) 0).toNat + (b.getD (iN + 2) 0).toNat * 256 + (b.getD (iN + 3) 0).toNat * 65536 + (b.getD (iN + 4) 0).toNat * 16777216 + iN + 5) % 4294967296 := rfl
                have l1 := (b.getD (iN + 1) 0).toNat_lt
                have l2 := (b.getD (iN + 2) 0).toNat_lt
                have l3 := (b.getD (iN + 3) 0).toNat_lt
                have l4 := (b.getD (iN + 4) 0).toNat_lt
                obtain ⟨b1, hb1⟩ : ∃ y, y = (b.getD (iN + 1) 0).toNat := ⟨_, rfl⟩
                obtain ⟨b2, hb2⟩ : ∃ y, y = (b.getD (iN + 2) 0).toNat := ⟨_, rfl⟩
                obtain ⟨b3, hb3⟩ : ∃ y, y = (b.getD (iN + 3) 0).toNat := ⟨_, rfl⟩
                obtain ⟨b4, hb4⟩ : ∃ y, y = (b.getD (iN + 4) 0).toNat := ⟨_, rfl⟩
                rw [← hb1] at x1 hpl l1
                rw [← hb2] at x2 hpl l2
                rw [← hb3] at x3 hpl l3
                rw [← hb4] at x4 hpl l4
                obtain ⟨P, hP⟩ : ∃ P, P = plc b iN := ⟨_, rfl⟩
                rw [← hP] at hpl
                have HPL := Lib.hid (And.intro hP hpl)
                have u1 : (0 : Int) ≤ (b1 : Int) := by omega
                have u2 : (0 : Int) ≤ (b2 : Int) := by omega
                have u3 : (0 : Int) ≤ (b3 : Int) := by omega
                have u4 : (0 : Int) ≤ (b4 : Int) := by omega
                have v1 : (b1 : Int) ≤ 255 := by omega
                have v2 : (b2 : Int) ≤ 255 := by omega
                have v3 : (b3 : Int) ≤ 255 := by omega
                have v4 : (b4 : Int) ≤ 255 := by omega
                have y4 : (iN : Int) + 4 < (b.length : Int) := by omega
                have HPB := Lib.hid (show ((b1 : Int) + (b2 : Int) * 256 + (b3 : Int) * 65536 + (b4 : Int) * 16777216 + (iN : Int) + 5) % 4294967296 = (P : Int) by rw [hpl]; omega)
                have H4 := Lib.hid h4
                clear hlast hlt h4 hpl l1 l2 l3 l4 hb1 hb2 hb3 hb4 hP
                go_wp2_with fail
                rw [← HXN.out.1, ← HXN.out.2]
                refine (KM.out _).mono ?_
                rintro e5 w5 ⟨rfl, rfl⟩
                clear KM
                go_wp2_with fail
                go_quiet (fail)
                rw [HPB.out]
                have HR5 := Lib.hid (HR1.out.drewN nq)
                clear x1 x2 x3 x4 u1 u2 u3 u4 v1 v2 v3 v4 HPB HR1 cx4
                generalize w4.drewN nq = w5 at *
                cases hap : apart b iN with
                | false =>
                  have HAPT := Lib.hid hap
                  have jP : ¬ (P : Int) < (b.length : Int) := by
                    have h := hap
                    unfold apart at h
                    rw [← HPL.out.1, decide_eq_true (by have := H4.out; exact this), Bool.true_and] at h
                    have := of_decide_eq_false h
                    omega
                  clear hap
                  have hk := HM.out.2.1
                  have cp := HR5.out.prob (i := k) hk
                  have hpk : POk (ps.getD k 0) := getD_ok HR5.out.ps_ok (by rw [HR5.out.len]; exact hk)
                  have KB := Lib.hid (rbit5_any (p := ps.getD k 0) (b := 0) HR5.out.rn HR5.out.en hpk (by decide) (by have := HJ.out.2.2.2.1; have := HS.out.2.2; have := HLT.out; omega))
                  have HPO := Lib.hid hpk
                  obtain ⟨p, hpp⟩ : ∃ p, p = ps.getD k 0 := ⟨_, rfl⟩
                  rw [← hpp] at KB cp
                  have HPP := Lib.hid hpp
                  clear hk hpk hpp
                  go_wp2_with fail
                  refine KB.out.mono ?_
                  rintro e6 w6 ⟨rfl, qn, hrn, hqn, hon⟩
                  have hR6 := HR5.out.turn hrn hqn hon (bit_ok HR5.out.en (HPP.out ▸ HPO.out))
                  have s6 := hR6.prob (i := k) HM.out.2.1
                  have z6 := hR6.prw.free k
                  have HR7 := Lib.hid (hR6.set k (pOk_upOf (b := 0) (HPP.out ▸ HPO.out : POk p)))
                  clear hR6 hrn hqn hon KB HR5 cp
                  go_wp2_with fail
                  go_roundw
                  case rel =>
                    obtain ⟨hf, hT, hs, hl, hlt, hx, hql⟩ := HJ.out
                    exact ⟨iN + 1, qn, V1, put1 R x, _, _, f, by rw [ahd_one rfl, ← hx, ← HXN.out.2], by go_num, by omega, by omega, HR7.out, by rw [← hT, enc_zero HLS.out HM.out.1 HAPT.out, ← hx, put1_tot, HPP.out], by rw [put1_sum, hs], by have := bit_len e p 0; omega⟩
                  case measure => have := HLT.out; simp [intOf]; omega
                | true =>
                  have HAPT := Lib.hid hap
                  have jP : (P : Int) < (b.length : Int) := by
                    have h := hap
                    unfold apart at h
                    rw [← HPL.out.1, decide_eq_true (by have := H4.out; exact this), Bool.true_and] at h
                    have := of_decide_eq_true h
                    omega
                  clear hap
                  have hk := HM.out.2.1
                  have cp := HR5.out.prob (i := k) hk
                  have hpk : POk (ps.getD k 0) := getD_ok HR5.out.ps_ok (by rw [HR5.out.len]; exact hk)
                  have KB := Lib.hid (rbit5_any (p := ps.getD k 0) (b := 1) HR5.out.rn HR5.out.en hpk (by decide) (by have := HJ.out.2.2.2.1; have := HS.out.2.2; have := HLT.out; omega))
                  have HPO := Lib.hid hpk
                  obtain ⟨p, hpp⟩ : ∃ p, p = ps.getD k 0 := ⟨_, rfl⟩
                  rw [← hpp] at KB cp
                  have HPP := Lib.hid hpp
                  clear hk hpk hpp
                  go_wp2_with fail
                  refine KB.out.mono ?_
                  rintro e6 w6 ⟨rfl, qn, hrn, hqn, hon⟩
                  have hR6 := HR5.out.turn hrn hqn hon (bit_ok HR5.out.en (HPP.out ▸ HPO.out))
                  have s6 := hR6.prob (i := k) HM.out.2.1
                  have z6 := hR6.prw.free k
                  have HR7 := Lib.hid (hR6.set k (pOk_upOf (b := 1) (HPP.out ▸ HPO.out : POk p)))
                  clear hR6 hrn hqn hon KB HR5 cp
                  go_upto_region 20 with fail
                  clear s6 z6
                  generalize w6.setCell ⟨pb, k, none⟩ (.int .u16 ((upOf p 1 : Nat) : Int)) = w7 at *
                  obtain ⟨y3, hy3⟩ : ∃ y, y = P / 16777216 := ⟨_, rfl⟩
                  obtain ⟨y2, hy2⟩ : ∃ y, y = P / 65536 % 256 := ⟨_, rfl⟩
                  obtain ⟨y1, hy1⟩ : ∃ y, y = P / 256 % 256 := ⟨_, rfl⟩
                  obtain ⟨y0, hy0⟩ : ∃ y, y = P % 256 := ⟨_, rfl⟩
                  have hP32 : P < 4294967296 := by rw [HPL.out.2]; omega
                  have d3 : (P : Int) / 16777216 = (y3 : Int) := by omega
                  have d2 : (P : Int) / 65536 % 256 = (y2 : Int) := by omega
                  have d1 : (P : Int) / 256 % 256 = (y1 : Int) := by omega
                  have d0 : (P : Int) % 256 = (y0 : Int) := by omega
                  have l3 : (y3 : Int) ≤ 255 := by omega
                  have l2 : (y2 : Int) ≤ 255 := by omega
                  have l1 : (y1 : Int) ≤ 255 := by omega
                  have l0 : (y0 : Int) ≤ 255 := by omega
                  have g3 : (0 : Int) ≤ (y3 : Int) := by omega
                  have g2 : (0 : Int) ≤ (y2 : Int) := by omega
                  have g1 : (0 : Int) ≤ (y1 : Int) := by omega
                  have g0 : (0 : Int) ≤ (y0 : Int) := by omega
                  have p0 : (0 : Int) ≤ (P : Int) := by omega
                  have p1 : (P : Int) ≤ 4294967295 := by omega
                  have HBV := Lib.hid (show bv (be4 P) = [.int .u8 (y3 : Int), .int .u8 (y2 : Int), .int .u8 (y1 : Int), .int .u8 (y0 : Int)] by
                    have e3 : (UInt8.ofNat (P / 16777216)).toNat = y3 := by rw [UInt8.toNat_ofNat']; omega
                    have e2 : (UInt8.ofNat (P / 65536)).toNat = y2 := by rw [UInt8.toNat_ofNat']; omega
                    have e1 : (UInt8.ofNat (P / 256)).toNat = y1 := by rw [UInt8.toNat_ofNat']; omega
                    have e0 : (UInt8.ofNat P).toNat = y0 := by rw [UInt8.toNat_ofNat']; omega
                    unfold be4 bv
                    simp only [List.map_cons, List.map_nil, e3, e2, e1, e0])
                  clear hy3 hy2 hy1 hy0 hP32
                  obtain ⟨v8, hv8⟩ : ∃ v8, v8 = w7.alloc (.cells #[.int .u8 (y3 : Int), .int .u8 (y2 : Int), .int .u8 (y1 : Int), .int .u8 (y0 : Int)] 5) := ⟨_, rfl⟩
                  have hb8 : Below w7.heap.size w7 v8 := by rw [hv8]; exact (Below.refl _ _).alloc (Nat.le_refl _) _
                  have hR8 := HR7.out.below hb8
                  obtain ⟨R1, hR1⟩ : ∃ R1, R1 = put1 R x := ⟨_, rfl⟩
                  rw [← hR1] at hR8
                  have HRE := Lib.hid hR1
                  have HR8 := Lib.hid hR8
                  have HSL := Lib.hid (show Sl v8 (some ⟨w7.heap.size, 0, none⟩) 4 [.int .u8 (y3 : Int), .int .u8 (y2 : Int), .int .u8 (y1 : Int), .int .u8 (y0 : Int)] from by rw [hv8]; exact sl_lit w7 5 #[.int .u8 (y3 : Int), .int .u8 (y2 : Int), .int .u8 (y1 : Int), .int .u8 (y0 : Int)] (by simp))
                  have HAB := Lib.hid (show ∀ m, m < 3 → ((R1 m).length + 4) * 1 ≤ 140737488355328 from fun m hm => by
                    have h1 := put1_sum R x
                    have h2 := HJ.out.2.2.1
                    have h3 := HS.out.2.2
                    have h4 := HLT.out
                    rw [← hR1] at h1
                    unfold sumR at h1
                    have : m = 0 ∨ m = 1 ∨ m = 2 := by omega
                    unfold sumR at h2
                    rcases this with rfl | rfl | rfl <;> omega)
                  obtain ⟨b5, hb5⟩ : ∃ b5, b5 = (b.getD (iN + 4) 0).toNat := ⟨_, rfl⟩
                  have HB5 := Lib.hid hb5
                  have HCB := Lib.hid (show ∀ W, Below w0.heap.size w0 W → W.cell? ⟨qa, oa + iN, none⟩ = some (.int .u8 (xN : Int)) ∧ W.cell? ⟨qa, oa + (iN + 4), none⟩ = some (.int .u8 (b5 : Int)) from fun W hW => by
                    have h4 := H4.out
                    obtain ⟨q9, o9, e9, _, hc9⟩ := (HS.out.1.below hW).2 (by omega)
                    injection e9 with e9
                    injection e9 with e9 e10
                    subst e9 e10
                    exact ⟨by rw [hc9 iN (by omega), bv_get _ _ (by omega), ← HX.out, ← HXN.out.2], by rw [hc9 (iN + 4) (by omega), bv_get _ _ (by omega), hb5]⟩)
                  have HV8 := Lib.hid hv8
                  clear hb8 hR8 HR7 hR1 hv8 hb5
                  go_upto_region 21 with fail
                  rw [← HV8.out]
                  clear HV8 d0 d1 d2 d3 l0 l1 l2 l3 g0 g1 g2 g3 p0 p1 jP j4 j1
                  have cx8 := (HCB.out v8 HR8.out.bel).1
                  by_cases hk2 : k < 256
                  · have hxe : (xN : Int) = 232 := by
                      have := HM.out.2.2.2 hk2
                      rw [← HX.out, ← HXN.out.2] at this
                      omega
                    obtain ⟨A1, c1, hv1, hrow1⟩ := own_form (HR8.out.row 1 (by decide))
                    have cv1 := HR8.out.cell.2.1
                    rw [hv1] at cv1
                    have HOW1 := Lib.hid hrow1
                    have HV1 := Lib.hid hv1
                    clear hrow1 hv1
                    go_wp2_with (first
                      | (at_builtin; refine wpList_appO _ rfl (.tmp 134) (.tmp 135) 22 rfl w0.heap.size 5 i8 _ 1 Try.underlying22 hi8 hz0 hz1 hz2 rfl _ (R1 1).length (bv (R1 1)) rfl HOW1.out _ 4 4 _ rfl HSL.out (ones4 _ _ _ _) (HAB.out 1 (by decide)) (by decide) HR8.out.bel.size ?_)
                      | fail)
                    intro O9 c9 w9 ho9 hg9 hq9
                    obtain ⟨z1, z2, z3⟩ := HR8.out.app (k := 1) (w1 := v8) (w3 := w9) (A' := O9) (c' := c9) (x := be4 P) (by decide) (Only.refl _ v8) (by rw [HBV.out]; exact ho9) (by rw [HV1.out]; exact hg9) (by rw [HV1.out]; exact hq9)
                    rw [HV1.out] at z1
                    rw [show (be4 P).length = 4 from rfl] at z3
                    have HR9 := Lib.hid z3
                    have cxx := (HCB.out _ z3.bel).2
                    clear ho9 hg9 hq9 HOW1 z3 cv1
                    go_upto_region 24 with fail
                    clear z1 z2
                    generalize w9.setCell ⟨K, 1, none⟩ (.slice O9 ((R1 1).length + 4) c9) = wa at *
                    go_wp2_with fail
                    go_roundw
                    case rel =>
                      obtain ⟨hf, hT, hs, hl, hlt, hx, hql⟩ := HJ.out
                      have h5 := H4.out
                      exact ⟨iN + 5, qn, _, _, _, _, f, by rw [ahd_one (i := iN + 4) (by omega), HB5.out], by first | go_num | (congr 1; omega), by omega, by omega, HR9.out, by rw [← hT, enc_one HLS.out HM.out.1 HAPT.out, ← hx, put1_tot, put4_tot (m := 1) R x k (plc b iN) _ (by rw [if_pos hk2]), HPP.out, HPL.out.1, HRE.out], by rw [HRE.out, put4_sum R x P (by decide), hs], by have := bit_len e p 1; omega⟩
                    case measure => have := HLT.out; simp [intOf]; omega
                  · have hxe : ¬ (xN : Int) = 232 := fun h => hk2 (HM.out.2.2.1 (by rw [← HX.out, ← HXN.out.2]; omega))
                    obtain ⟨A1, c1, hv1, hrow1⟩ := own_form (HR8.out.row 2 (by decide))
                    have cv1 := HR8.out.cell.2.2.1
                    rw [hv1] at cv1
                    have HOW1 := Lib.hid hrow1
                    have HV1 := Lib.hid hv1
                    clear hrow1 hv1
                    go_wp2_with (first
                      | (at_builtin; refine wpList_appO _ rfl (.tmp 139) (.tmp 140) 22 rfl w0.heap.size 5 i8 _ 1 Try.underlying22 hi8 hz0 hz1 hz2 rfl _ (R1 2).length (bv (R1 2)) rfl HOW1.out _ 4 4 _ rfl HSL.out (ones4 _ _ _ _) (HAB.out 2 (by decide)) (by decide) HR8.out.bel.size ?_)
                      | fail)
                    intro O9 c9 w9 ho9 hg9 hq9
                    obtain ⟨z1, z2, z3⟩ := HR8.out.app (k := 2) (w1 := v8) (w3 := w9) (A' := O9) (c' := c9) (x := be4 P) (by decide) (Only.refl _ v8) (by rw [HBV.out]; exact ho9) (by rw [HV1.out]; exact hg9) (by rw [HV1.out]; exact hq9)
                    rw [HV1.out] at z1
                    rw [show (be4 P).length = 4 from rfl] at z3
                    have HR9 := Lib.hid z3
                    have cxx := (HCB.out _ z3.bel).2
                    clear ho9 hg9 hq9 HOW1 z3 cv1
                    go_upto_region 24 with fail
                    clear z1 z2
                    generalize w9.setCell ⟨K, 2, none⟩ (.slice O9 ((R1 2).length + 4) c9) = wa at *
                    go_wp2_with fail
                    go_roundw
                    case rel =>
                      obtain ⟨hf, hT, hs, hl, hlt, hx, hql⟩ := HJ.out
                      have h5 := H4.out
                      exact ⟨iN + 5, qn, _, _, _, _, f, by rw [ahd_one (i := iN + 4) (by omega), HB5.out], by first | go_num | (congr 1; omega), by omega, by omega, HR9.out, by rw [← hT, enc_one HLS.out HM.out.1 HAPT.out, ← hx, put1_tot, put4_tot (m := 2) R x k (plc b iN) _ (by rw [if_neg hk2]), HPP.out, HPL.out.1, HRE.out], by rw [HRE.out, put4_sum R x P (by decide), hs], by have := bit_len e p 1; omega⟩
                    case measure => have := HLT.out; simp [intOf]; omega
              · have j4 : ¬ ((b.length : Int) - (iN : Int) > 4) := by omega
                have hap : apart b iN = false := by unfold apart; rw [decide_eq_false h4, Bool.false_and]
                have HAPT := Lib.hid hap
                clear hap h4 hlast hlt
                go_wp2_with fail
                rw [← HXN.out.1, ← HXN.out.2]
                refine (KM.out _).mono ?_
                rintro e5 w5 ⟨rfl, rfl⟩
                clear KM
                have HR5 := HR1
                clear HR1
                have hk := HM.out.2.1
                have cp := HR5.out.prob (i := k) hk
                have hpk : POk (ps.getD k 0) := getD_ok HR5.out.ps_ok (by rw [HR5.out.len]; exact hk)
                have KB := Lib.hid (rbit5_any (p := ps.getD k 0) (b := 0) HR5.out.rn HR5.out.en hpk (by decide) (by have := HJ.out.2.2.2.1; have := HS.out.2.2; have := HLT.out; omega))
                have HPO := Lib.hid hpk
                obtain ⟨p, hpp⟩ : ∃ p, p = ps.getD k 0 := ⟨_, rfl⟩
                rw [← hpp] at KB cp
                have HPP := Lib.hid hpp
                clear hk hpk hpp
                go_wp2_with fail
                refine KB.out.mono ?_
                rintro e6 w6 ⟨rfl, qn, hrn, hqn, hon⟩
                have hR6 := HR5.out.turn hrn hqn hon (bit_ok HR5.out.en (HPP.out ▸ HPO.out))
                have s6 := hR6.prob (i := k) HM.out.2.1
                have z6 := hR6.prw.free k
                have HR7 := Lib.hid (hR6.set k (pOk_upOf (b := 0) (HPP.out ▸ HPO.out : POk p)))
                clear hR6 hrn hqn hon KB HR5 cp
                go_wp2_with fail
                go_roundw
                case rel =>
                  obtain ⟨hf, hT, hs, hl, hlt, hx, hql⟩ := HJ.out
                  exact ⟨iN + 1, qn, V1, put1 R x, _, _, f, by rw [ahd_one rfl, ← hx, ← HXN.out.2], by go_num, by omega, by omega, HR7.out, by rw [← hT, enc_zero HLS.out HM.out.1 HAPT.out, ← hx, put1_tot, HPP.out], by rw [put1_sum, hs], by have := bit_len e p 0; omega⟩
                case measure => have := HLT.out; simp [intOf]; omega
    · obtain rfl : iN = b.length := by omega
      have hnl : ¬ (b.length : Int) < (b.length : Int) := by omega
      obtain ⟨cq, bs, hB, hY, hbe, hbl, hqg⟩ := hR.rn
      rw [enc_end (Nat.lt_irrefl _)] at hT
      have e0 : wr.cell? ⟨g, 0, none⟩ = some (.slice (some ⟨q, 0, none⟩) bs.length cq) := hB.cell 0
      obtain ⟨d1, d2, d3, d4, d5⟩ := hR.dis
      have z3 := hR.blk.free 3
      have y9 := hR.cell.2.2.2
      rw [hR.code] at y9
      obtain ⟨Aa, ca, ha, hra⟩ := own_form (hR.row 0 (by decide))
      obtain ⟨Ab, cb, hb, hrb⟩ := own_form (hR.row 1 (by decide))
      obtain ⟨Ac, cc, hcc, hrc⟩ := own_form (hR.row 2 (by decide))
      have hB7 := hR.blk.put 3 (.slice (some ⟨q, 0, none⟩) bs.length cq)
      have hO7 := (Only.refl (fun i => i = K) wr).setCell (p := ⟨K, 3, none⟩) (.inl rfl) (.slice (some ⟨q, 0, none⟩) bs.length cq)
      have y0 : (wr.setCell ⟨K, 3, none⟩ (.slice (some ⟨q, 0, none⟩) bs.length cq)).cell? ⟨K, 0, none⟩ = some (.slice Aa (R 0).length ca) := (hB7.cell 0).trans (by rw [← ha]; rfl)
      have y1 : (wr.setCell ⟨K, 3, none⟩ (.slice (some ⟨q, 0, none⟩) bs.length cq)).cell? ⟨K, 1, none⟩ = some (.slice Ab (R 1).length cb) := (hB7.cell 1).trans (by rw [← hb]; rfl)
      have y2 : (wr.setCell ⟨K, 3, none⟩ (.slice (some ⟨q, 0, none⟩) bs.length cq)).cell? ⟨K, 2, none⟩ = some (.slice Ac (R 2).length cc) := (hB7.cell 2).trans (by rw [← hcc]; rfl)
      have y3 : (wr.setCell ⟨K, 3, none⟩ (.slice (some ⟨q, 0, none⟩) bs.length cq)).cell? ⟨K, 3, none⟩ = some (.slice (some ⟨q, 0, none⟩) bs.length cq) := (hB7.cell 3).trans rfl
      have hb7 : Below w0.heap.size w0 (wr.setCell ⟨K, 3, none⟩ (.slice (some ⟨q, 0, none⟩) bs.length cq)) := hR.bel.trans (hO7.below hR.bel.size (fun i hi => by have hi : i = K := hi; rw [hi]; exact hR.low.1))
      have hbx7 := HB0.out.1.below hb7
      have v0 := hbx7.cell 0
      have v1 := hbx7.cell 1
      have v2 := hbx7.cell 2
      have v3 := hbx7.cell 3
      have u0 := hbx7.free 0
      have u1 := hbx7.free 1
      have u2 := hbx7.free 2
      have u3 := hbx7.free 3
      have r0 := own_onlyC hra hO7 (fun p hp hs => (hR.off 0 (by decide) p (by rw [ha]; exact hp)).1 hs)
      have r1 := own_onlyC hrb hO7 (fun p hp hs => (hR.off 1 (by decide) p (by rw [hb]; exact hp)).1 hs)
      have r2 := own_onlyC hrc hO7 (fun p hp hs => (hR.off 2 (by decide) p (by rw [hcc]; exact hp)).1 hs)
      have r3 : Byt (wr.setCell ⟨K, 3, none⟩ (.slice (some ⟨q, 0, none⟩) bs.length cq)) q cq bs := hY.only hO7 (fun e => d2 e.symm)
      have HR := Lib.hid (And.intro r0 (And.intro r1 (And.intro r2 (And.intro r3 (And.intro hR.low.2.2.1 hb7)))))
      have HFI := Lib.hid (And.intro hT (And.intro hs (And.intro hl (And.intro hbe hbl))))
      clear hB hY hbe hbl hqg d1 d2 d3 d4 d5 ha hb hcc hra hrb hrc hB7 hO7 hb7 hbx7 r0 r1 r2 r3 hR hT hs hl hi hf hlt
      go_wp2_with fail
      obtain ⟨r0, r1, r2, r3, r4, hb7⟩ := HR.out
      obtain ⟨hT, hs, hl, hbe, hbl⟩ := HFI.out
      clear y0 y1 y2 y3 v0 v1 v2 v3 u0 u1 u2 u3 z3 y9 e0
      generalize wr.setCell ⟨K, 3, none⟩ (.slice (some ⟨q, 0, none⟩) bs.length cq) = w7 at *
      have hO8 : Only (fun i => i = w.heap.size) w7 ((((w7.setCell ⟨w.heap.size, 0, none⟩ (.slice Aa (R 0).length ca)).setCell ⟨w.heap.size, 1, none⟩ (.slice Ab (R 1).length cb)).setCell ⟨w.heap.size, 2, none⟩ (.slice Ac (R 2).length cc)).setCell ⟨w.heap.size, 3, none⟩ (.slice (some ⟨q, 0, none⟩) bs.length cq)) :=
        ((((Only.refl (fun i => i = w.heap.size) w7).setCell (p := ⟨w.heap.size, 0, none⟩) (.inl rfl) _).setCell (p := ⟨w.heap.size, 1, none⟩) (.inl rfl) _).setCell (p := ⟨w.heap.size, 2, none⟩) (.inl rfl) _).setCell (p := ⟨w.heap.size, 3, none⟩) (.inl rfl) _
      have hB8 := ((((HB0.out.1.below hb7).put 0 (.slice Aa (R 0).length ca)).put 1 (.slice Ab (R 1).length cb)).put 2 (.slice Ac (R 2).length cc)).put 3 (.slice (some ⟨q, 0, none⟩) bs.length cq)
      generalize ((((w7.setCell ⟨w.heap.size, 0, none⟩ (.slice Aa (R 0).length ca)).setCell ⟨w.heap.size, 1, none⟩ (.slice Ab (R 1).length cb)).setCell ⟨w.heap.size, 2, none⟩ (.slice Ac (R 2).length cc)).setCell ⟨w.heap.size, 3, none⟩ (.slice (some ⟨q, 0, none⟩) bs.length cq)) = w8 at *
      have k0 : w8.cell? ⟨w.heap.size, 0, none⟩ = some (.slice Aa (R 0).length ca) := hB8.cell 0
      have k1 : w8.cell? ⟨w.heap.size, 1, none⟩ = some (.slice Ab (R 1).length cb) := hB8.cell 1
      have k2 : w8.cell? ⟨w.heap.size, 2, none⟩ = some (.slice Ac (R 2).length cc) := hB8.cell 2
      have k3 : w8.cell? ⟨w.heap.size, 3, none⟩ = some (.slice (some ⟨q, 0, none⟩) bs.length cq) := hB8.cell 3
      refine bodyPost_ret (v := .agg #[.slice Aa (R 0).length ca, .slice Ab (R 1).length cb, .slice Ac (R 2).length cc, .slice (some ⟨q, 0, none⟩) bs.length cq]) (by simp [results, Try.results14, go_sem, k0, k1, k2, k3]) rfl ?_
      have hs0 := HB0.out.2.2
      have f0 := own_facts (own_onlyC r0 hO8 (fun q hq hs' => by have := (own_atC r0 hq).1; have hs' : q = w.heap.size := hs'; omega))
      have f1 := own_facts (own_onlyC r1 hO8 (fun q hq hs' => by have := (own_atC r1 hq).1; have hs' : q = w.heap.size := hs'; omega))
      have f2 := own_facts (own_onlyC r2 hO8 (fun q hq hs' => by have := (own_atC r2 hq).1; have hs' : q = w.heap.size := hs'; omega))
      have f3 := r3.only hO8 (fun e => by omega)
      have hbW : Below w.heap.size w w7 := HB0.out.2.1.trans (hb7.mono (by omega))
      have hn := HS.out.2.2
      unfold sumR at hs
      refine ⟨pick4 Aa Ab Ac (some ⟨q, 0, none⟩), pick4 ca cb cc cq, pick4 (R 0) (R 1) (R 2) bs, rfl, hbW.trans (hO8.below hbW.size (fun i hi => by have hi : i = w.heap.size := hi; omega)), ⟨fun i hi => ?_, fun i hi => ?_, fun i hi => ?_⟩, ?_⟩
      · have : i = 0 ∨ i = 1 ∨ i = 2 ∨ i = 3 := by omega
        rcases this with rfl | rfl | rfl | rfl
        · exact f0.1
        · exact f1.1
        · exact f2.1
        · exact f3.sl
      · have : i = 0 ∨ i = 1 ∨ i = 2 ∨ i = 3 := by omega
        rcases this with rfl | rfl | rfl | rfl
        · exact ⟨f0.2.1, f0.2.2.1⟩
        · exact ⟨f1.2.1, f1.2.2.1⟩
        · exact ⟨f2.2.1, f2.2.2.1⟩
        · exact f3.cap
      · have : i = 0 ∨ i = 1 ∨ i = 2 ∨ i = 3 := by omega
        rcases this with rfl | rfl | rfl | rfl
        · show (R 0).length ≤ _; omega
        · show (R 1).length ≤ _; omega
        · show (R 2).length ≤ _; omega
        · show bs.length ≤ _; omega
      · rw [← HL.out]
        rw [HT.out] at hT
        unfold totE at hT
        simp only [List.append_nil, List.nil_append, Prod.mk.injEq] at hT
        obtain ⟨q0, q1, q2, q3⟩ := hT
        exact ⟨q0, q1, q2, by rw [← q3]; exact hbe, by rw [← q3]; exact hbl⟩
end Go.Proofs.Ytdnkoeafnnohnaa
