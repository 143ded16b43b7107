/-
  CkPut, CkPiece, CkOwn, CkIter, CkMay, LqProp: put together.
-/
import Derived.Test.YtoencondpbkomaaGreatQ14
import Derived.Test.YtoencondpbkomaaGreatQ17
import Derived.Deep.RegionLaw
import Derived.Deep.AppendLies
import Derived.Deep.RegionHeld3
import Derived.RangeFuncWrites
import Derived.RangeFuncNested
import Derived.RangeFuncBound
import Derived.RangeFuncCalls
import Derived.RangeFuncLeaves
import Derived.Shelf.Abstract
import Derived.WalkKit
import Derived.OwnWalkIn
import Derived.TacticsInMore
import Derived.LoopNIn
import Derived.LoopIn
import Derived.RegionIn
import Derived.Shelf.RegionOpen
import Derived.Sort.QuietIn
import Derived.Test.YtoencondpbkomaaGreatQ13
import Derived.Test.YtoencondpbkomaaGreatQ05
import Derived.Test.YtoencondpbkomaaGreatQ01
set_option linter.unusedVariables false
set_option linter.unusedSimpArgs false
/-
  The coder of LZMA2: a packed chunk.
-/
namespace Go.Proofs.YtoencondpbkomaaGreat
open Go.RowKit

theorem how_byte {how : Nat} (h : how ≤ 3) : IntKind.u8.wrap (128 + (how : Int) * 32) = ((UInt8.ofNat (128 + 32 * how)).toNat : Int) := by
  have : IntKind.u8.wrap (128 + (how : Int) * 32) = (128 + (how : Int) * 32) % 256 := by simp [IntKind.wrap, IntKind.signed, IntKind.bits]
  rw [this, UInt8.toNat_ofNat']
  omega
section
variable {Q : Kq} {w : World} {F m how : Nat} {s : Lzs × Pm En} {out : List UInt8} {k : Ckn} {G : Nat → Prop}
/-- what a drawn region needs to put one byte -/
theorem Kst.one {K : Koc} {Ge : Option Nat} {A : Option Addr} {c : Nat} {Ao : Option Addr} {co : Nat} {w1 w3 : World} {q c2 : Nat} {x : UInt8} (h : Kst Q K w Ge A c F k m Ao co)
    (hG : ∀ i, G i ↔ Kow Q K Ge (tb A k.s.1.out.length c) (tb Ao k.out.length co) i) (h1 : Only (fun _ => False) w w1)
    (ho : w3.ownsRow 0 5 1 (.slice (some ⟨q, 0, none⟩) (k.out.length + 1) c2) (k.out.length + 1) (bv k.out ++ [.int .u8 (x.toNat : Int)])) (hg : w1.grownBy w3 (Value.slice Ao k.out.length co).ownBlock)
    (hq : (Value.slice Ao k.out.length co).ownBlock = some q ∨ q = w1.heap.size) :
    (w3.cell? ⟨Q.kg, 8, none⟩ = some (.slice Ao k.out.length co) ∧ w3.frozen? ⟨Q.kg, 8, none⟩ = false) ∧
    OwnPost (fun w G => Kwn Q w F ⟨k.how, k.s, k.out ++ [x]⟩ m G) w G (.tuple #[]) (.returned (.tuple #[])) (w3.setCell ⟨Q.kg, 8, none⟩ (.slice (some ⟨q, 0, none⟩) (k.out.length + 1) c2)) :=
  h.puts hG (xs := [x]) rfl h1 ho hg (hq.imp (fun h => h.symm) (fun h => congrArg some h))

theorem pprops5 {lc lp pb dict : Nat} (h : SetOk lc lp pb dict) (w : World) : Calls Tryz.prog 53 #[.agg #[.int .i64 (lc : Int), .int .i64 (lp : Int), .int .i64 (pb : Int), .int .i64 (dict : Int)]] w fun e w' =>
    ∃ b o c, e = .returned (.slice (some ⟨b, o, none⟩) 5 c) ∧ w'.cell? ⟨b, o, none⟩ = some (.int .u8 ((UInt8.ofNat (45 * pb + 9 * lp + lc)).toNat : Int)) ∧ Below w.heap.size w w' := by
  refine (pprops_any h w).mono ?_
  rintro e w1 ⟨A, c, rfl, hS, hb⟩
  obtain ⟨b, o, rfl, hlt, hc⟩ := hS.2 (show 0 < (propsOf lc lp pb dict).length from Nat.succ_pos 4)
  exact ⟨b, o, c, rfl, hc 0 (show 0 < (propsOf lc lp pb dict).length from Nat.succ_pos 4), hb⟩
set_option maxRecDepth 100000 in
set_option maxHeartbeats 16000000 in
theorem kpacked_any {B : Option Addr} {n l c : Nat} {st : List UInt8} {p0 : UInt8} (hp0 : p0 = UInt8.ofNat (45 * Q.pb + 9 * Q.lp + Q.lc)) (h : Kwn Q w F ⟨how, s, out⟩ m G) (hh : how ≤ 3) (hq : SetOk Q.lc Q.lp Q.pb Q.dict) (hS : Sl w B l (bv st)) (ha : Apt B G) (hn : 1 ≤ n) (hn2 : n ≤ 65536) (hl : 1 ≤ l) (hl2 : l ≤ 65536) (ho : out.length ≤ 90000000) :
    Calls Tryz.prog 29 #[.pointer (some ⟨Q.kg, 0, none⟩), .int .i64 (n : Int), .slice B l c] w (OwnPost (fun w G => Kwn Q w F ⟨0, s, out ++ packedB how p0 n st⟩ m G) w G (.tuple #[])) := by
  obtain ⟨i, hi, hz0, hz1, hz2⟩ := info_parts info_u8
  have hxl : st.length = l := by rw [← bv_length]; exact hS.1
  have HS := Lib.hid (And.intro hS ha)
  have HN := Lib.hid (And.intro hn (And.intro hn2 (And.intro hl (And.intro hl2 (And.intro ho hxl)))))
  have HQ := Lib.hid hq
  have HP0 := Lib.hid hp0
  clear hp0
  have hc7 := (h.hows 0).1
  have c7 : w.cell? ⟨Q.kg, 7, none⟩ = some (.int .i64 (how : Int)) := hc7
  obtain ⟨K, Ge, A, cc, Ao, co, hs, hG⟩ := h
  have c8 : w.cell? ⟨Q.kg, 8, none⟩ = some (.slice Ao out.length co) := hs.blk.cell 8
  have HT := Lib.hid (And.intro hs hG)
  have e1 : IntKind.i64.wrap ((how : Int) * 32) = (how : Int) * 32 := IntWalk.i64_in _ (by omega)
  have e2 : IntKind.i64.wrap (128 + (how : Int) * 32) = 128 + (how : Int) * 32 := IntWalk.i64_in _ (by omega)
  obtain ⟨x, hx⟩ : ∃ x, x = UInt8.ofNat (128 + 32 * how) := ⟨_, rfl⟩
  have e3 : IntKind.u8.wrap (128 + (how : Int) * 32) = (x.toNat : Int) := by rw [hx]; exact how_byte hh
  have HX := Lib.hid hx
  have HH := Lib.hid hh
  have HOW := Lib.hid (fun (W : World) (hW : Only (fun _ => False) w W) => (hs.only hW (fun _ _ h => h)).own)
  have HNW := Lib.hid (fun (u : Value) => (sl_one w 5 u).news)
  have c8a : ∀ (o : Obj), (w.alloc o).cell? ⟨Q.kg, 8, none⟩ = some (.slice Ao out.length co) := fun o => (hs.only ((Only.refl (fun _ => False) w).alloc o) (fun _ _ h => h)).blk.cell 8
  have c7a : ∀ (o : Obj), (w.alloc o).cell? ⟨Q.kg, 7, none⟩ = some (.int .i64 (how : Int)) := fun o => (hs.only ((Only.refl (fun _ => False) w).alloc o) (fun _ _ h => h)).blk.cell 7
  have HPU := Lib.hid (fun (w1 w3 : World) (q c2 : Nat) (h1 : Only (fun _ => False) w w1) => Kst.one (w1 := w1) (w3 := w3) (q := q) (c2 := c2) (x := x) hs hG h1)
  have HOL := Lib.hid (show out.length ≤ 90000000 from ho)
  clear hS ha hn hn2 hl hl2 ho hxl hq hs hG hh hc7 hx
  go_enter Tryz.func29, Tryz.ntmps29
  go_wp2_with fail
  go_region_law (first
    | (refine step_append_lies _ rfl (.tmp 10) (.tmp 18) 22 rfl 0 5 i _ 1 1 Tryz.underlying22 hi hz0 hz1 hz2 rfl (by omega) _ out.length (bv out) rfl (HOW.out _ (((Only.refl (fun _ => False) w).alloc _).drew)) _ 1 1 [.int .u8 (x.toNat : Int)] rfl rfl (fun j u hj => HNW.out _ j u hj) (one_one _ _) (by omega) (by have := HOL.out; unfold maxLen; omega) (by have := HOL.out; omega) (Nat.zero_le _) _ rfl ?_; intro q' c' w3 hod hgd hqd hql3; obtain ⟨⟨d8, f8⟩, hp⟩ := HPU.out _ w3 q' c' (((Only.refl (fun _ => False) w).alloc _).drew) hod hgd hqd; have HP := Lib.hid hp; clear hod hgd hqd hp))
  all_goals
    have HWG := Lib.hid (show ∃ G1, Kwn Q (w3.setCell ⟨Q.kg, 8, none⟩ (.slice (some ⟨q', 0, none⟩) (out.length + 1) c')) F ⟨how, s, out ++ [x]⟩ m G1 ∧ Stp w G (w3.setCell ⟨Q.kg, 8, none⟩ (.slice (some ⟨q', 0, none⟩) (out.length + 1) c')) G1 from by obtain ⟨_, G1, k1, n1, o1⟩ := HP.out; exact ⟨G1, k1, n1, o1⟩)
    clear HP HPU HOW HNW c7 c8 c7a c8a e1 e2 e3 d8 f8 HT hql3
    generalize w3.setCell ⟨Q.kg, 8, none⟩ (.slice (some ⟨q', 0, none⟩) (out.length + 1) c') = w4 at *
    obtain ⟨G4, k4, s4⟩ := HWG.out
    have HK4 := Lib.hid k4
    have HS4 := Lib.hid s4
    clear HWG k4 s4
    have HKC := Lib.hid (kcount_any (n := n) HK4.out HN.out.1 HN.out.2.1 (by have := HN.out; simp; omega))
    go_wp2_with fail
    refine HKC.out.mono ?_
    rintro e w5 hp5
    obtain ⟨rfl, G5, k5, n5, o5⟩ := HS4.out.own hp5
    have HK5 := Lib.hid k5
    have HS5 := Lib.hid (Stp.mk n5 o5)
    clear hp5 k5 n5 o5 HK4 HS4 HKC
    have HKC := Lib.hid (kcount_any (n := l) HK5.out HN.out.2.2.1 HN.out.2.2.2.1 (by have := HN.out; simp [cntB]; omega))
    go_wp2_with fail
    refine HKC.out.mono ?_
    rintro e w6 hp6
    obtain ⟨rfl, G6, k6, n6, o6⟩ := HS5.out.own hp6
    obtain ⟨D, hD⟩ : ∃ D, D = ((out ++ [x]) ++ cntB n) ++ cntB l := ⟨_, rfl⟩
    have k6 : Kwn Q w6 F ⟨how, s, D⟩ m G6 := by rw [hD]; exact k6
    have HDL := Lib.hid (show D.length = out.length + 5 by rw [hD]; simp [cntB])
    have HD := Lib.hid hD
    have HK6 := Lib.hid k6
    have HS6 := Lib.hid (Stp.mk n6 o6)
    have hc7 := (k6.hows 0).1
    have c7 : w6.cell? ⟨Q.kg, 7, none⟩ = some (.int .i64 (how : Int)) := hc7
    clear hp6 k6 n6 o6 HK5 HS5 HKC hD hc7
    by_cases h2 : 2 ≤ how
    · have g2 : (how : Int) ≥ 2 := by omega
      obtain ⟨K, Ge, A, cc, Ao, co, hs, hG⟩ := HK6.out
      have c8 : w6.cell? ⟨Q.kg, 8, none⟩ = some (.slice Ao D.length co) := hs.blk.cell 8
      have b2 : w6.cell? ⟨Q.kg, 2, none⟩ = some (.int .i64 (Q.lc : Int)) := hs.blk.cell 2
      have b3 : w6.cell? ⟨Q.kg, 3, none⟩ = some (.int .i64 (Q.lp : Int)) := hs.blk.cell 3
      have b4 : w6.cell? ⟨Q.kg, 4, none⟩ = some (.int .i64 (Q.pb : Int)) := hs.blk.cell 4
      have b5 : w6.cell? ⟨Q.kg, 5, none⟩ = some (.int .i64 (Q.dict : Int)) := hs.blk.cell 5
      have HT := Lib.hid (And.intro hs hG)
      obtain ⟨y, hy⟩ : ∃ y, y = UInt8.ofNat (45 * Q.pb + 9 * Q.lp + Q.lc) := ⟨_, rfl⟩
      have HY := Lib.hid (show p0 = y by rw [hy]; exact HP0.out)
      have KPR := Lib.hid (fun W => pprops5 HQ.out W)
      rw [← hy] at KPR
      have HQT := Lib.hid (fun (W : World) (hW : Only (fun _ => False) w6 W) => hs.only hW (fun _ _ h => h))
      have HPU := Lib.hid (fun (w1 w3 : World) (q c2 : Nat) (h1 : Only (fun _ => False) w6 w1) => Kst.one (w1 := w1) (w3 := w3) (q := q) (c2 := c2) (x := y) hs hG h1)
      clear hs hG hy
      go_wp2_with fail
      go_region_law (first
        | (go_simp; go_at_call 53; refine (KPR.out _).mono ?_; rintro e wa ⟨bp, op, cp, rfl, hcp, hbp⟩; have hoa : Only (fun _ => False) w6 wa := (by first | exact Only.of_below hbp | exact (Only.of_below hbp).of_drew | exact (Only.of_below hbp).of_drewN); have HOA := Lib.hid hoa; have c8b : wa.cell? ⟨Q.kg, 8, none⟩ = some (.slice Ao D.length co) := (HQT.out wa hoa).blk.cell 8; have c8c : ∀ (o : Obj), (wa.alloc o).cell? ⟨Q.kg, 8, none⟩ = some (.slice Ao D.length co) := (fun o => (HQT.out _ (hoa.alloc o)).blk.cell 8); have HNW := Lib.hid (fun (u : Value) => (sl_one wa 5 u).news); clear hbp hoa)
        | (refine step_append_lies _ rfl (.tmp 38) (.tmp 46) 22 rfl 0 5 i _ 1 1 Tryz.underlying22 hi hz0 hz1 hz2 rfl (by omega) _ D.length (bv D) rfl (HQT.out _ (by first | exact HOA.out.alloc _ | exact ((HOA.out.alloc _).drew) | exact (HOA.out.drewN _).alloc _ | exact (HOA.out.alloc _).drewN _ | exact (HOA.out.drew).alloc _)).own _ 1 1 [.int .u8 (y.toNat : Int)] rfl rfl (fun j u hj => HNW.out _ j u hj) (one_one _ _) (by omega) (by have := HOL.out; have := HDL.out; unfold maxLen; omega) (by have := HOL.out; have := HDL.out; omega) (Nat.zero_le _) _ rfl ?_; intro q' c' w3 hod hgd hqd hql3; obtain ⟨⟨d8, f8⟩, hp⟩ := HPU.out _ w3 q' c' (by first | exact HOA.out.alloc _ | exact ((HOA.out.alloc _).drew) | exact (HOA.out.drewN _).alloc _ | exact (HOA.out.alloc _).drewN _ | exact (HOA.out.drew).alloc _) hod hgd hqd; have HP := Lib.hid hp; clear hod hgd hqd hp))
      all_goals
        obtain ⟨E, hE⟩ : ∃ E, E = D ++ [y] := ⟨_, rfl⟩
        have HWG := Lib.hid (show ∃ G1, Kwn Q (w3.setCell ⟨Q.kg, 8, none⟩ (.slice (some ⟨q', 0, none⟩) (D.length + 1) c')) F ⟨how, s, E⟩ m G1 ∧ Stp w G (w3.setCell ⟨Q.kg, 8, none⟩ (.slice (some ⟨q', 0, none⟩) (D.length + 1) c')) G1 from by obtain ⟨_, G1, k1, n1, o1⟩ := HP.out; exact ⟨G1, by rw [hE]; exact k1, HS6.out.trans ⟨n1, o1⟩⟩)
        have HEL := Lib.hid (show E.length ≤ out.length + 6 by rw [hE, List.length_append, HDL.out]; exact Nat.le_refl _)
        have HE := Lib.hid (show out ++ packedB how p0 n st = E ++ st by
          rw [hE, HD.out, HX.out, ← HY.out]
          unfold packedB
          rw [if_pos h2, HN.out.2.2.2.2.2]
          simp only [List.append_assoc])
        clear HP HPU HQT c8 c8b c8c c7 b2 b3 b4 b5 d8 f8 HT hql3 HK6 HS6 HOA HNW KPR hcp hE
        generalize w3.setCell ⟨Q.kg, 8, none⟩ (.slice (some ⟨q', 0, none⟩) (D.length + 1) c') = w8 at *
        obtain ⟨G8, k8, s8⟩ := HWG.out
        have HK8 := Lib.hid k8
        have HS8 := Lib.hid s8
        clear HWG k8 s8
        obtain ⟨K, Ge, A, cc, Ao, co, hs, hG⟩ := HK8.out
        have c8 : w8.cell? ⟨Q.kg, 8, none⟩ = some (.slice Ao E.length co) := hs.blk.cell 8
        have HT := Lib.hid (And.intro hs hG)
        have HSL := Lib.hid (HS8.out.sl HS.out.1 HS.out.2)
        clear hs hG
        go_wp2_with (first
          | (at_builtin; refine wpList_appO _ rfl (.tmp 54) (.tmp 55) 22 rfl 0 5 i _ 1 Tryz.underlying22 hi hz0 hz1 hz2 rfl _ E.length _ rfl HT.out.1.own _ l _ (bv st) rfl HSL.out (bv_one _) (by have := HN.out; have := HEL.out; omega) (by decide) (Nat.zero_le _) ?_)
          | fail)
        intro A9 c9 w9 ho9 hg9 hv9
        obtain ⟨⟨d8, f8⟩, hp⟩ := HT.out.1.puts HT.out.2 (xs := st) (n := l) HN.out.2.2.2.2.2 (Only.refl _ w8) ho9 hg9 hv9
        obtain ⟨_, G10, k10, n10, o10⟩ := HS8.out.own hp
        have k10 : Kwn Q (w9.setCell ⟨Q.kg, 8, none⟩ (.slice A9 (E.length + l) c9)) F ⟨how, s, E ++ st⟩ m G10 := k10
        rw [← HE.out] at k10
        have HK10 := Lib.hid (And.intro k10 (Stp.mk n10 o10))
        clear ho9 hg9 hv9 hp c8 HT HSL HK8 HS8 k10 n10 o10
        go_upto_region 6 with fail
        clear d8 f8
        generalize w9.setCell ⟨Q.kg, 8, none⟩ (.slice A9 (E.length + l) c9) = w10 at *
        obtain ⟨c7, f7, k7, s7⟩ := HK10.out.1.hows 0
        have HP := Lib.hid (show OwnPost (fun w G => Kwn Q w F ⟨0, s, out ++ packedB how p0 n st⟩ m G) w G (.tuple #[]) (.returned (.tuple #[])) (w10.setCell ⟨Q.kg, 7, none⟩ (.int .i64 0)) from by obtain ⟨a, b⟩ := HK10.out.2.trans s7; exact ⟨rfl, G10, k7, a, b⟩)
        clear k7 s7
        have c7 : w10.cell? ⟨Q.kg, 7, none⟩ = some (.int .i64 (how : Int)) := c7
        go_wp2_with fail
        first | go_end0 | refine bodyPost_ret (results_none rfl _ _ _) rfl ?_
        exact HP.out
    · have g2 : ¬ (how : Int) ≥ 2 := by omega
      obtain ⟨E, hE⟩ : ∃ E, E = D := ⟨_, rfl⟩
      rw [← hE] at HK6
      have HEL := Lib.hid (show E.length ≤ out.length + 6 by rw [hE, HDL.out]; omega)
      have HE := Lib.hid (show out ++ packedB how p0 n st = E ++ st by
        rw [hE, HD.out, HX.out]
        unfold packedB
        rw [if_neg h2, HN.out.2.2.2.2.2]
        simp only [List.append_assoc, List.append_nil, List.nil_append])
      have HK8 := HK6
      have HS8 := HS6
      clear HK6 HS6 hE
      go_upto_region 5 with fail
      clear c7
      generalize w6 = w8 at *
      generalize G6 = G8 at *
      obtain ⟨K, Ge, A, cc, Ao, co, hs, hG⟩ := HK8.out
      have c8 : w8.cell? ⟨Q.kg, 8, none⟩ = some (.slice Ao E.length co) := hs.blk.cell 8
      have HT := Lib.hid (And.intro hs hG)
      have HSL := Lib.hid (HS8.out.sl HS.out.1 HS.out.2)
      clear hs hG
      go_wp2_with (first
        | (at_builtin; refine wpList_appO _ rfl (.tmp 54) (.tmp 55) 22 rfl 0 5 i _ 1 Tryz.underlying22 hi hz0 hz1 hz2 rfl _ E.length _ rfl HT.out.1.own _ l _ (bv st) rfl HSL.out (bv_one _) (by have := HN.out; have := HEL.out; omega) (by decide) (Nat.zero_le _) ?_)
        | fail)
      intro A9 c9 w9 ho9 hg9 hv9
      obtain ⟨⟨d8, f8⟩, hp⟩ := HT.out.1.puts HT.out.2 (xs := st) (n := l) HN.out.2.2.2.2.2 (Only.refl _ w8) ho9 hg9 hv9
      obtain ⟨_, G10, k10, n10, o10⟩ := HS8.out.own hp
      have k10 : Kwn Q (w9.setCell ⟨Q.kg, 8, none⟩ (.slice A9 (E.length + l) c9)) F ⟨how, s, E ++ st⟩ m G10 := k10
      rw [← HE.out] at k10
      have HK10 := Lib.hid (And.intro k10 (Stp.mk n10 o10))
      clear ho9 hg9 hv9 hp c8 HT HSL HK8 HS8 k10 n10 o10
      go_upto_region 6 with fail
      clear d8 f8
      generalize w9.setCell ⟨Q.kg, 8, none⟩ (.slice A9 (E.length + l) c9) = w10 at *
      obtain ⟨c7, f7, k7, s7⟩ := HK10.out.1.hows 0
      have HP := Lib.hid (show OwnPost (fun w G => Kwn Q w F ⟨0, s, out ++ packedB how p0 n st⟩ m G) w G (.tuple #[]) (.returned (.tuple #[])) (w10.setCell ⟨Q.kg, 7, none⟩ (.int .i64 0)) from by obtain ⟨a, b⟩ := HK10.out.2.trans s7; exact ⟨rfl, G10, k7, a, b⟩)
      clear k7 s7
      have c7 : w10.cell? ⟨Q.kg, 7, none⟩ = some (.int .i64 (how : Int)) := c7
      go_wp2_with fail
      first | go_end0 | refine bodyPost_ret (results_none rfl _ _ _) rfl ?_
      exact HP.out
end
end Go.Proofs.YtoencondpbkomaaGreat

/-
  The coder of LZMA2: a piece.
-/
namespace Go.Proofs.YtoencondpbkomaaGreat
open Go.RowKit

theorem Apt.stp {w w' : World} {B : Option Addr} {G G' : Nat → Prop} (h : Apt B G) (hlt : ∀ q o, B = some ⟨q, o, none⟩ → q < w.heap.size) (hs : Stp w G w' G') : Apt B G' := fun q o e hg => by
  rcases hs.nw q hg with e2 | e2
  · exact h q o e e2
  · have := hlt q o e
    omega

section
variable {Q : Kq} {w : World} {F T m how at_ : Nat} {s : Lzs × Pm En} {out : List UInt8} {G : Nat → Prop} {b : List UInt8}
set_option maxRecDepth 100000 in
set_option maxHeartbeats 4000000 in
theorem kpiece_any {B : Option Addr} {n c : Nat} {xs : List UInt8} (h : Kwn Q w at_ ⟨how, s, out⟩ m G) (hq : StrIn Q b (min at_ Q.n) (min (at_ + n) Q.n)) (hn1 : 1 ≤ n ∧ n ≤ 65536) (hat : at_ + n ≤ 1000000000) (hh : how ≤ 3)
    (hc : Cmd b Q.dict (1847 + 768 * 2 ^ (Q.lc + Q.lp)) (min at_ Q.n) s) (hs : s.1.lc = Q.lc ∧ s.1.lp = Q.lp ∧ s.1.pb = Q.pb) (hS : Sl w Q.A Q.n (bv b)) (ha : Apt Q.A G) (ho : out.length ≤ 90000000)
    (hB : Sl w B n (bv xs)) (hb : Apt B G) (hlt : ∀ q o, B = some ⟨q, o, none⟩ → q < w.heap.size) :
    Calls Tryz.prog 15 #[.pointer (some ⟨Q.kg, 0, none⟩), .slice B n c] w (OwnPost (fun w G => Kwn Q w (at_ + n) (pieceN b (headB Q.lc Q.lp Q.pb) Q.dict at_ xs ⟨how, s, out⟩) 0 G) w G (.tuple #[])) := by
  obtain ⟨F, hF⟩ : ∃ F, F = min at_ Q.n := ⟨_, rfl⟩
  obtain ⟨T, hT⟩ : ∃ T, T = min (at_ + n) Q.n := ⟨_, rfl⟩
  obtain ⟨p0, hp0⟩ : ∃ p0, p0 = headB Q.lc Q.lp Q.pb := ⟨_, rfl⟩
  have hxl : xs.length = n := by rw [← bv_length]; exact hB.1
  rw [← hF] at hc
  rw [← hF, ← hT] at hq
  have KS := Lib.hid (kstream_any h hq ⟨hF, hT, hat⟩ hc hs hS ha)
  obtain ⟨s2, hs2⟩ : ∃ s2, s2 = strS b Q.dict F T how s := ⟨_, rfl⟩
  have hfive : 5 ≤ s2.2.x.l := by
    rw [hs2]
    exact (str_all (hc.pre (how := how)) hq.ft (by have := hq.tn; have := hq.len; omega) (by have := hq.len; have := hq.most; omega) _ rfl).2.2.2.1
  rw [← hs2] at KS
  have hpn : pieceN b (headB Q.lc Q.lp Q.pb) Q.dict at_ xs ⟨how, s, out⟩ = if s2.2.x.l < n then ⟨0, finS s2, out ++ packedB how p0 n (strB s2)⟩ else ⟨nextH how, finS s2, out ++ plainB how xs⟩ := by
    rw [hs2, hF, hT, hp0, ← hq.len]
    unfold pieceN
    rw [hxl]
  rw [hpn]
  have HB := Lib.hid (And.intro hB (And.intro hb hlt))
  have HQ := Lib.hid (And.intro (show p0 = UInt8.ofNat (45 * Q.pb + 9 * Q.lp + Q.lc) from hp0) (And.intro hq (And.intro hn1.1 (And.intro hh ho))))
  have hn65 : n ≤ 65536 := hn1.2
  obtain ⟨l, hl⟩ : ∃ l, l = s2.2.x.l := ⟨_, rfl⟩
  have HL := Lib.hid hl
  rw [← hl] at hfive ⊢
  have HF5 := Lib.hid (And.intro hfive hn65)
  obtain ⟨st, hst⟩ : ∃ st, st = strB s2 := ⟨_, rfl⟩
  rw [← hst]
  have KS := Lib.hid (show Calls Tryz.prog 28 #[.pointer (some ⟨Q.kg, 0, none⟩), .int .i64 (n : Int)] w fun x w' => ∃ B c G', x = .returned (.slice B l c) ∧ Sl w' B l (bv st) ∧ Apt B G' ∧ Kwn Q w' (at_ + n) ⟨how, finS s2, out⟩ 0 G' ∧ Stp w G w' G' from KS.out.mono fun x w' h => by rw [hl, hst]; exact h)
  clear h hp0 hq hn1 hh hat hF hT hxl hc hs hS ha ho hB hb hlt hs2 hpn hl hst hfive hn65
  go_enter Tryz.func15, Tryz.ntmps15
  go_wp2_with fail
  refine KS.out.mono ?_
  rintro x w1 ⟨B1, c1, G1, rfl, hsl, hap, hk1, hs1⟩
  have HK1 := Lib.hid hk1
  have HS1 := Lib.hid hs1
  have HT1 := Lib.hid (And.intro hsl hap)
  have HP1 := Lib.hid (And.intro (hs1.sl HB.out.1 HB.out.2.1) (HB.out.2.1.stp HB.out.2.2 hs1))
  clear hsl hap hk1 hs1 KS
  by_cases hlt : l < n
  · have g1 : (l : Int) < (n : Int) := by omega
    have KP := Lib.hid (kpacked_any (n := n) (c := c1) HQ.out.1 HK1.out HQ.out.2.2.2.1 HQ.out.2.1.set HT1.out.1 HT1.out.2 HQ.out.2.2.1 HF5.out.2 (by have := HF5.out.1; omega) (by have := HF5.out.2; omega) HQ.out.2.2.2.2)
    go_wp2_with fail
    refine KP.out.mono ?_
    rintro x w2 hp
    have HP := Lib.hid (show OwnPost (fun w G => Kwn Q w (at_ + n) (if l < n then ⟨0, finS s2, out ++ packedB how p0 n st⟩ else ⟨nextH how, finS s2, out ++ plainB how xs⟩) 0 G) w G (.tuple #[]) x w2 from by rw [if_pos hlt]; exact HS1.out.own hp)
    obtain ⟨rfl, _⟩ := hp
    clear KP
    go_wp2_with fail
    first | go_end0 | refine bodyPost_ret (results_none rfl _ _ _) rfl ?_
    have h9 := HP.out
    rw [if_pos hlt] at h9
    exact h9
  · have g1 : ¬ (l : Int) < (n : Int) := by omega
    have KP := Lib.hid (kplain_any (c := c) HK1.out HQ.out.2.2.2.1 HP1.out.1 HP1.out.2 HQ.out.2.2.1 HF5.out.2 HQ.out.2.2.2.2)
    go_wp2_with fail
    refine KP.out.mono ?_
    rintro x w2 hp
    have HP := Lib.hid (show OwnPost (fun w G => Kwn Q w (at_ + n) (if l < n then ⟨0, finS s2, out ++ packedB how p0 n st⟩ else ⟨nextH how, finS s2, out ++ plainB how xs⟩) 0 G) w G (.tuple #[]) x w2 from by rw [if_neg hlt]; exact HS1.out.own hp)
    obtain ⟨rfl, _⟩ := hp
    clear KP
    go_wp2_with fail
    first | go_end0 | refine bodyPost_ret (results_none rfl _ _ _) rfl ?_
    have h9 := HP.out
    rw [if_neg hlt] at h9
    exact h9
end
end Go.Proofs.YtoencondpbkomaaGreat

/-
  The coder of LZMA2: its blocks hold cells; so it stands through a loop over an iterator.
-/
namespace Go.Proofs.YtoencondpbkomaaGreat
open Go.RowKit

theorem own_isCells {w : World} {base : Nat} {e : TypeId} {A : Option Addr} {n c : Nat} {xs : List Value} (h : w.ownsRow base e 1 (.slice A n c) n xs) {i : Nat} (hi : (Value.slice A n c).ownBlock = some i) : ∃ o, w.heap[i]? = some o ∧ o.isCells = true := by
  rcases h.2 with ⟨hv, _⟩ | ⟨g', cap, cur, hv, hb', hh, r⟩
  · rw [hv] at hi
    exact (nomatch hi)
  · rw [hv] at hi
    have hi : some g' = some i := hi
    injection hi with hi
    subst hi
    exact ⟨_, hh, rfl⟩
section
variable {Q : Kq} {K : Koc} {w w' : World} {Ge : Option Nat} {A : Option Addr} {c F m : Nat} {k : Ckn} {Ao : Option Addr} {co : Nat} {G : Nat → Prop}
theorem Kst.cells (h : Kst Q K w Ge A c F k m Ao co) {i : Nat} (hi : Kow Q K Ge (tb A k.s.1.out.length c) (tb Ao k.out.length co) i) : ∃ o, w.heap[i]? = some o ∧ o.isCells = true := by
  have hp := h.cw.mch.pn
  have hr := h.cw.mch.row
  obtain ⟨e, hP, _⟩ := hp
  obtain ⟨A1, m1, hB, hO, hE, hn⟩ := hP
  rcases hi with ((e | e | e | e) | e) | e | e
  · subst e
    exact ⟨_, hB, rfl⟩
  · exact own_isCells hO (hE.trans e)
  · have e : i = K.g := e
    subst e
    obtain ⟨cs, hb, _⟩ := hr.1
    exact ⟨_, hb, rfl⟩
  · have e : i = K.lb := e
    subst e
    exact own_isCells hr.2.1 rfl
  · exact own_isCells h.cw.told e
  · subst e
    exact ⟨_, h.blk, rfl⟩
  · exact own_isCells h.own e
theorem Kwn.cells (h : Kwn Q w F k m G) {i : Nat} (hi : G i) : ∃ o, w.heap[i]? = some o ∧ o.isCells = true := by
  obtain ⟨K, Ge, A, c, Ao, co, hs, hG⟩ := h
  exact hs.cells ((hG i).1 hi)
theorem only_grown {row : Option Nat} (hg : w.grownBy w' row) : Only (fun i => row = some i) w w' := ⟨hg.os, hg.tape, hg.output, hg.size, fun i hi hn => hg.block i hi fun e => hn e.symm⟩
/-- blocks that are no cells may turn -/
theorem Kwn.grown {row : Option Nat} (h : Kwn Q w F k m G) (hg : w.grownBy w' row) (hr : ∀ r, row = some r → ∃ o : Obj, w.heap[r]? = some o ∧ o.isCells = false) : Kwn Q w' F k m G :=
  h.only (only_grown hg) fun i hi e => by
    obtain ⟨o, ho, hf⟩ := hr i e
    obtain ⟨o', ho', ht⟩ := h.cells hi
    rw [ho] at ho'
    injection ho' with ho'
    subst ho'
    rw [hf] at ht
    exact (nomatch ht)
theorem Kwn.keeps (h : Kwn Q w F k m G) (hO : Only G w w') (B : Nat) : KeepsFrom B w w' :=
  ⟨hO.size, fun i o hB hi ho => (hO.block i (Array.getElem?_eq_some_iff.1 hi).1 fun hg => by
    obtain ⟨o', ho', ht⟩ := h.cells hg
    rw [hi] at ho'
    injection ho' with ho'
    subst ho'
    rw [ho] at ht
    exact (nomatch ht)).trans hi⟩
end
end Go.Proofs.YtoencondpbkomaaGreat

/-
  The library's iterator over a slice's chunks.
-/
namespace Go.Proofs.YtoencondpbkomaaGreat
open Go.RowKit Go.Shelf
attribute [local go_sem] Oper.semAt_some

/-- what a round keeps: the iterator's two variables -/
def KpC (B1 B2 : Nat) (W W' : World) : Prop := W'.cell? ⟨B1, 0, none⟩ = W.cell? ⟨B1, 0, none⟩ ∧ W'.cell? ⟨B2, 0, none⟩ = W.cell? ⟨B2, 0, none⟩
/-- chunk number x of the bytes at q -/
def encC (q o n p : Nat) (x : { j : Nat // j < manyN n p }) : Array Value := #[.slice (some ⟨q, o + x.1 * p, none⟩) (min p (n - x.1 * p)) (min p (n - x.1 * p))]
def ofN (n p : Nat) : Nat → List { j : Nat // j < manyN n p }
  | 0 => []
  | k + 1 => if h : k < manyN n p then ofN n p k ++ [⟨k, h⟩] else ofN n p k
theorem ofN_succ {n p k : Nat} (h : k < manyN n p) : ofN n p (k + 1) = ofN n p k ++ [⟨k, h⟩] := dif_pos h
theorem ofN_len {n p : Nat} : ∀ {k : Nat}, k ≤ manyN n p → (ofN n p k).length = k
  | 0, _ => rfl
  | k + 1, h => by
    rw [ofN_succ (by omega), List.length_append, ofN_len (by omega)]
    rfl
theorem ofN_val {n p : Nat} : ∀ {k : Nat}, k ≤ manyN n p → (ofN n p k).map (·.1) = List.range k
  | 0, _ => rfl
  | k + 1, h => by
    rw [ofN_succ (by omega), List.map_append, ofN_val (by omega), List.range_succ]
    rfl

set_option maxHeartbeats 1000000 in
theorem chunk_in {A : Option Addr} {n c p : Nat} (hp : 1 ≤ p) (d : Nat) (w : World) :
    CallsIn Fence.wide d Tryz.prog 14 #[.slice A n c, .int .i64 (p : Int)] w fun e w' => e = .returned (.func (.func 27) #[] #[.pointer (some ⟨w.heap.size, 0, none⟩), .pointer (some ⟨w.heap.size + 1, 0, none⟩)]) ∧
      w' = (w.alloc (.cells #[.slice A n c] 22)).alloc (.cells #[.int .i64 (p : Int)] 3) := by
  have g1 : ¬ (p : Int) < 1 := by omega
  refine callsIn_of_wp Tryz.func14 rfl trivial ?_ rfl
  simp only [Tryz.ntmps14, List.size_toArray, List.length_cons, List.length_nil, Nat.reduceAdd, Nat.reduceSub, Array.replicate_succ, Array.replicate_zero, List.push_toArray, List.append_toArray, List.nil_append, List.cons_append]
  gi_wp2
  go_ret
  exact ⟨rfl, rfl⟩

set_option maxRecDepth 100000 in
set_option maxHeartbeats 4000000 in
theorem chunk1_in (d : Nat) (hd : 1 ≤ d) (l B1 B2 q o n c p : Nat) (hp : 1 ≤ p) (hp2 : p ≤ 65536) (hn : n ≤ 1000000) {A : Option Addr} (hA : 0 < n → A = some ⟨q, o, none⟩) (hnc : n ≤ c) (hc : c ≤ maxLen) (J Jx : List { j : Nat // j < manyN n p } → World → Prop) (hJd : ∀ pre W k, J pre W → J pre (W.drewN k))
    (hY : ∀ pre x W, J pre W → pre.length < manyN n p → YieldAt Fence.wide (d - 1) Tryz.prog l (encC q o n p x) W fun e W' =>
      (e = .returned (.bool true) ∧ J (pre ++ [x]) W' ∧ KpC B1 B2 W W') ∨ (e = .returned (.bool false) ∧ Jx (pre ++ [x]) W'))
    (W : World) (hB1 : W.cell? ⟨B1, 0, none⟩ = some (.slice A n c)) (hB2 : W.cell? ⟨B2, 0, none⟩ = some (.int .i64 (p : Int))) (h0 : J [] W) :
    CallsIn Fence.wide d Tryz.prog 27 #[.func (.yield l) #[] #[], .pointer (some ⟨B1, 0, none⟩), .pointer (some ⟨B2, 0, none⟩)] W fun e W' => (∃ v, e = .returned v) ∧
      ((∃ ys, ys = ofN n p (manyN n p) ∧ J ys W') ∨ (∃ pre, True ∧ Jx pre W')) := by
  unfold maxLen at hc
  refine callsIn_of_wp Tryz.func27 rfl trivial ?_ rfl
  simp only [Tryz.ntmps27, List.size_toArray, List.length_cons, List.length_nil, Nat.reduceAdd, Nat.reduceSub, Array.replicate_succ, Array.replicate_zero, List.push_toArray, List.append_toArray, List.nil_append, List.cons_append]
  gi_wp2
  gi_loopw [4] (fun i wr => ∃ k : Nat, k ≤ manyN n p ∧ i = .int .i64 ((k * p : Nat) : Int) ∧ J (ofN n p k) wr ∧ KpC B1 B2 W wr)
    (fun i _ => n + p - (intOf i).toNat)
  case atStart => exact ⟨0, Nat.zero_le _, by simp, h0, rfl, rfl⟩
  case round =>
    obtain ⟨k, hk, rfl, hJs, hk1, hk2⟩ := hrel
    have c1 := hk1.trans hB1
    have c2 := hk2.trans hB2
    obtain ⟨kp, hkp⟩ : ∃ kp, kp = k * p := ⟨_, rfl⟩
    rw [← hkp]
    by_cases hlt : k < manyN n p
    · have hlt2 : kp < n := by rw [hkp]; exact (many_lt hp).1 hlt
      obtain rfl := hA (by omega)
      obtain ⟨e, he⟩ : ∃ e, e = min p (n - kp) := ⟨_, rfl⟩
      have i1 : (kp : Int) < (n : Int) := by omega
      have hle : e ≤ n - kp := by omega
      have m1 := min2_int (P := Tryz.prog) #[3, 3] 3 (p : Int) ((n : Int) - (kp : Int)) (e : Int) (by omega)
      have m2 := min2_int (P := Tryz.prog) #[3, 3] 3 (p : Int) ((n - kp : Nat) : Int) (e : Int) (by omega)
      have he0 : 1 ≤ e := by omega
      have HKP := Lib.hid hkp
      have HE := Lib.hid he
      clear hkp he
      have w1 : IntKind.i64.wrap ((kp : Int) + (e : Int)) = ((kp + e : Nat) : Int) := by rw [IntWalk.i64_in _ (by omega)]; omega
      have w2 : IntKind.i64.wrap ((kp : Int) + (p : Int)) = ((kp + p : Nat) : Int) := by rw [IntWalk.i64_in _ (by omega)]; omega
      have j1 : (kp : Int) ≤ ((kp + e : Nat) : Int) := by omega
      have j2 : ((kp + e : Nat) : Int) ≤ (c : Int) := by omega
      gi_wp2
      gi_quiet (fail)
      obtain ⟨fn, tmps, assign, body, hy, hR⟩ := hY _ ⟨k, hlt⟩ (wr.drewN nq) (hJd _ _ _ hJs) (by rw [ofN_len hk]; exact hlt)
      unfold encC at hy
      dsimp only at hy
      rw [← HKP.out, ← HE.out] at hy
      have c1x : (wr.drewN nq).cell? ⟨B1, 0, none⟩ = some (.slice (some ⟨q, o, none⟩) n c) := c1
      have c2x : (wr.drewN nq).cell? ⟨B2, 0, none⟩ = some (.int .i64 (p : Int)) := c2
      have k1x : KpC B1 B2 wr (wr.drewN nq) := ⟨rfl, rfl⟩
      generalize wr.drewN nq = wx at *
      gi_wp2
      refine hR.mono ?_
      rintro e1 W3 (⟨rfl, hJ3, hk3⟩ | ⟨rfl, hJx3⟩)
      · have c2y := hk3.2.trans c2x
        gi_wp2
        go_roundw
        case rel => exact ⟨k + 1, by omega, by rw [show (k + 1) * p = kp + p by rw [Nat.succ_mul, ← HKP.out]]; first | rfl | go_num | (simp; done), by rw [ofN_succ hlt]; exact hJ3, hk3.1.trans (k1x.1.trans hk1), hk3.2.trans (k1x.2.trans hk2)⟩
        case measure => simp [intOf]; omega
      · gi_wp2
        refine bodyPost_ret (results_none rfl _ _ _) rfl ?_
        exact ⟨⟨_, rfl⟩, .inr ⟨_, trivial, hJx3⟩⟩
    · obtain rfl : k = manyN n p := by omega
      have i1 : ¬ (kp : Int) < (n : Int) := by
        have : ¬ kp < n := by rw [hkp]; exact fun h => hlt ((many_lt hp).2 h)
        omega
      clear hkp
      gi_wp2
      go_end0
      first | exact ⟨⟨_, rfl⟩, .inl hJs⟩ | exact ⟨⟨_, rfl⟩, .inl ⟨_, rfl, hJs⟩⟩
theorem chunk_stops {d B1 B2 q o n c p : Nat} {A : Option Addr} {w : World} (hd : 1 ≤ d) (hp : 1 ≤ p) (hp2 : p ≤ 65536) (hn : n ≤ 1000000) (hA : 0 < n → A = some ⟨q, o, none⟩) (hnc : n ≤ c) (hc : c ≤ maxLen) (hb1 : B1 < w.heap.size) (hb2 : B2 < w.heap.size)
    (hB1 : w.cell? ⟨B1, 0, none⟩ = some (.slice A n c)) (hB2 : w.cell? ⟨B2, 0, none⟩ = some (.int .i64 (p : Int))) :
    SeqStopsK Fence.wide d Tryz.prog 27 #[.pointer (some ⟨B1, 0, none⟩), .pointer (some ⟨B2, 0, none⟩)] (encC q o n p) (KpC B1 B2) (fun ys => ys = ofN n p (manyN n p)) (fun _ => True) (manyN n p) w := fun l J Jx W hW hJ _ hY h0 =>
  chunk1_in d hd l B1 B2 q o n c p hp hp2 hn hA hnc hc J Jx (fun pre W k h => hJ pre W (W.drewN k) none h ⟨rfl, rfl, rfl, Nat.le_refl _, fun _ _ _ => rfl⟩ (fun r e => (nomatch e))) hY W ((hW.cell (p := ⟨B1, 0, none⟩) hb1).trans hB1) ((hW.cell (p := ⟨B2, 0, none⟩) hb2).trans hB2) h0
end Go.Proofs.YtoencondpbkomaaGreat

/-
  The coder of LZMA2: which settings may be.
-/
namespace Go.Proofs.YtoencondpbkomaaGreat
open Go.RowKit

def may12 (a b c d : Int) : Bool := maySet a b c d && decide (a + b ≤ 4)
theorem may12_set {a b c d : Int} (h : may12 a b c d = true) : ∃ lc lp pb dict : Nat, a = (lc : Int) ∧ b = (lp : Int) ∧ c = (pb : Int) ∧ d = (dict : Int) ∧ SetOk lc lp pb dict ∧ lc + lp ≤ 4 := by
  unfold may12 at h
  rw [Bool.and_eq_true, decide_eq_true_iff] at h
  obtain ⟨m1, m2, m3, m4, m5, m6, m7, m8⟩ := may_iff.1 h.1
  exact ⟨a.toNat, b.toNat, c.toNat, d.toNat, by omega, by omega, by omega, by omega, ⟨by omega, by omega, by omega, by omega, by omega⟩, by omega⟩
set_option maxRecDepth 100000 in
set_option maxHeartbeats 4000000 in
theorem kmay_any (a b c d : Int) (w : World) : Calls Tryz.prog 5 #[.agg #[.int .i64 a, .int .i64 b, .int .i64 c, .int .i64 d]] w fun e w' => e = .returned (.bool (may12 a b c d)) ∧ Below w.heap.size w w' := by
  obtain ⟨w1, hw1⟩ : ∃ w1, w1 = w.alloc (.cells #[.int .i64 a, .int .i64 b, .int .i64 c, .int .i64 d] 24) := ⟨_, rfl⟩
  have hb1 : Below w.heap.size w w1 := by rw [hw1]; exact (Below.refl _ _).alloc (Nat.le_refl _) _
  have HBk : Blk w1 w.heap.size 24 #[.int .i64 a, .int .i64 b, .int .i64 c, .int .i64 d] := by rw [hw1]; exact Blk.fresh w _ _
  have KM := pmay_any a b c d w1
  have c0 : w1.cell? ⟨w.heap.size, 0, none⟩ = some (.int .i64 a) := HBk.cell 0
  have c1 : w1.cell? ⟨w.heap.size, 1, none⟩ = some (.int .i64 b) := HBk.cell 1
  have c2 : w1.cell? ⟨w.heap.size, 2, none⟩ = some (.int .i64 c) := HBk.cell 2
  have c3 : w1.cell? ⟨w.heap.size, 3, none⟩ = some (.int .i64 d) := HBk.cell 3
  have HBK := Lib.hid HBk
  have HW1 := Lib.hid hw1
  have HB1 := Lib.hid hb1
  have hbw : w.heap.size < w1.heap.size := HBk.lt
  have HLT := Lib.hid hbw
  by_cases hm : maySet a b c d = true
  · obtain ⟨m1, m2, m3, m4, m5, m6, m7, m8⟩ := may_iff.1 hm
    have e1 : IntKind.i64.wrap (a + b) = a + b := IntWalk.i64_in _ (by omega)
    have hres : may12 a b c d = decide (a + b ≤ 4) := by unfold may12; rw [hm]; rfl
    rw [hm] at KM
    rw [hres]
    have KM := Lib.hid KM
    clear hw1 hb1 HBk hres hm m1 m2 m3 m4 m5 m6 m7 m8 hbw
    go_enter Tryz.func5, Tryz.ntmps5
    go_upto_region 1 with fail
    rw [← HW1.out]
    clear HW1
    generalize hB : w.heap.size = B at *
    go_wp2_with fail
    refine KM.out.mono ?_
    rintro e w2 ⟨rfl, hb2⟩
    have hk2 := HBK.out.below hb2
    have d0 : w2.cell? ⟨B, 0, none⟩ = some (.int .i64 a) := hk2.cell 0
    have d1 : w2.cell? ⟨B, 1, none⟩ = some (.int .i64 b) := hk2.cell 1
    have HB2 := Lib.hid (show Below B w w2 from HB1.out.trans ⟨hb2.os, hb2.tape, hb2.output, hb2.size, fun i hi => hb2.block i (by have := HLT.out; omega)⟩)
    clear hb2 hk2 KM c0 c1 c2 c3 HB1 HBK
    go_wp2_with fail
    go_ret
    exact ⟨rfl, by rw [hB]; exact HB2.out⟩
  · have h0 : maySet a b c d = false := by simpa using hm
    have hres : may12 a b c d = false := by unfold may12; rw [h0]; rfl
    rw [h0] at KM
    rw [hres]
    have KM := Lib.hid KM
    clear hw1 hb1 HBk hres hm h0 hbw
    go_enter Tryz.func5, Tryz.ntmps5
    go_upto_region 1 with fail
    rw [← HW1.out]
    clear HW1
    generalize hB : w.heap.size = B at *
    go_wp2_with fail
    refine KM.out.mono ?_
    rintro e w2 ⟨rfl, hb2⟩
    have HB2 := Lib.hid (show Below B w w2 from HB1.out.trans ⟨hb2.os, hb2.tape, hb2.output, hb2.size, fun i hi => hb2.block i (by have := HLT.out; omega)⟩)
    clear hb2 KM c0 c1 c2 c3 HB1 HBK
    go_wp2_with fail
    go_ret
    exact ⟨rfl, by rw [hB]; exact HB2.out⟩
end Go.Proofs.YtoencondpbkomaaGreat

/-
  The property of LZMA2.
-/
namespace Go.Proofs.YtoencondpbkomaaGreat
open Go.RowKit

def dictN (p : Nat) : Nat := if p > 40 then 0 else if p = 40 then 4294967295 else (2 + p % 2) * 2 ^ (p / 2 + 11)
def dictC (p : Nat) : Int := if p > 40 then 11 else 0
set_option maxRecDepth 100000 in
set_option maxHeartbeats 1000000 in
theorem qdict_any {p : Nat} (hp : p < 256) (w : World) :
    Calls Tryz.prog 24 #[.int .u8 (p : Int)] w fun e w' => e = .returned (.tuple #[.int .i64 (dictN p : Int), .int .i64 (dictC p)]) ∧ w = w' := by
  unfold dictN dictC
  by_cases h1 : p > 40
  · have c1 : (p : Int) > 40 := by omega
    rw [if_pos h1, if_pos h1]
    clear h1
    go_enter Tryz.func24, Tryz.ntmps24
    go_wp2_with fail
    go_ret2
    exact ⟨rfl, rfl⟩
  · have c1 : ¬ (p : Int) > 40 := by omega
    rw [if_neg h1, if_neg h1]
    by_cases h2 : p = 40
    · subst h2
      rw [if_pos rfl]
      clear h1 c1
      go_enter Tryz.func24, Tryz.ntmps24
      go_wp2_with fail
      go_ret2
      exact ⟨rfl, rfl⟩
    · rw [if_neg h2]
      have c2 : ((p : Int) == 40) = false := by simp; omega
      have hb : (2 : Nat) ^ (p / 2 + 11) ≤ 2 ^ 31 := Nat.pow_le_pow_right (by decide) (by omega)
      have hc : ((2 : Int) ^ (p / 2 + 11)) = ((2 ^ (p / 2 + 11) : Nat) : Int) := by simp
      have hx : (2 + (p : Int) % 2) * 2 ^ (p / 2 + 11) = (((2 + p % 2) * 2 ^ (p / 2 + 11) : Nat) : Int) := by rw [hc]; simp
      have hs : (2 + p % 2) * 2 ^ (p / 2 + 11) ≤ 3 * 2 ^ 31 := Nat.mul_le_mul (by omega) hb
      have e1 : wrap64 ((2 + (p : Int) % 2) * 2 ^ (p / 2 + 11)) = (2 + (p : Int) % 2) * 2 ^ (p / 2 + 11) := by
        refine IntWalk.wrap64_in _ ?_
        rw [hx]
        omega
      clear hx hs hb hc
      go_enter Tryz.func24, Tryz.ntmps24
      go_wp2_with fail
      go_ret2
      exact ⟨by simp, rfl⟩

/-- the least property whose dictionary is great enough, or none -/
def IsProp (dict : Int) (r : Nat) (c : Int) : Prop := (c = 0 ∧ r ≤ 40 ∧ dict ≤ (dictN r : Int) ∧ ∀ j, j < r → (dictN j : Int) < dict) ∨ (c = 11 ∧ r = 0 ∧ ∀ j, j ≤ 40 → (dictN j : Int) < dict)
theorem isProp_one {dict : Int} {r r' : Nat} {c c' : Int} (h : IsProp dict r c) (h' : IsProp dict r' c') : r = r' ∧ c = c' := by
  rcases h with ⟨rfl, h1, h2, h3⟩ | ⟨rfl, rfl, h3⟩ <;> rcases h' with ⟨rfl, k1, k2, k3⟩ | ⟨rfl, rfl, k3⟩
  · refine ⟨?_, rfl⟩
    rcases Nat.lt_trichotomy r r' with h | h | h
    · have := k3 r h; omega
    · exact h
    · have := h3 r' h; omega
  · have := k3 r h1; omega
  · have := h3 r' k1; omega
  · exact ⟨rfl, rfl⟩
def PropPost (dict : Int) (w : World) (e : Ending) (w' : World) : Prop := ∃ r c, e = .returned (.tuple #[.int .u8 ((r : Nat) : Int), .int .i64 c]) ∧ IsProp dict r c ∧ Below w.heap.size w w'

set_option maxRecDepth 100000 in
set_option maxHeartbeats 2000000 in
theorem qprop_any (dict : Int) (w : World) : Calls Tryz.prog 12 #[.int .i64 dict] w (PropPost dict w) := by
  have KD := Lib.hid (fun (p : Nat) (hp : p < 256) (w : World) => qdict_any hp w)
  go_enter Tryz.func12, Tryz.ntmps12
  go_wp2_with fail
  go_loopw [7] (fun v wr => ∃ i : Nat, v = .int .u8 (i : Int) ∧ i ≤ 41 ∧ (∀ j, j < i → (dictN j : Int) < dict) ∧ Below w.heap.size w wr) (fun v wr => 41 - (match v with | .int _ n => n.toNat | _ => 0))
  case atStart => exact ⟨0, rfl, by omega, fun j hj => absurd hj (Nat.not_lt_zero j), Below.refl _ _⟩
  case round =>
    obtain ⟨i, rfl, hi, hlow, hb⟩ := hrel
    have HI := Lib.hid (And.intro hi (And.intro hlow hb))
    by_cases hlt : i < 41
    · have c1 : (i : Int) < 41 := by omega
      have K := Lib.hid (KD.out i (by omega) wr)
      clear hi hlow hb
      go_wp2_with fail
      refine K.out.mono ?_
      rintro e w1 ⟨rfl, rfl⟩
      clear K
      by_cases hge : (dictN i : Int) ≥ dict
      · go_wp2_with fail
        go_ret2
        exact ⟨i, 0, rfl, .inl ⟨rfl, by omega, hge, HI.out.2.1⟩, HI.out.2.2⟩
      · have e1 : IntKind.u8.wrap ((i : Int) + 1) = ((i + 1 : Nat) : Int) := by simp [IntKind.wrap, IntKind.bits, IntKind.signed]; omega
        go_wp2_with fail
        go_roundw
        case rel =>
          refine ⟨i + 1, by simp [e1], by omega, fun j hj => ?_, HI.out.2.2⟩
          rcases Nat.lt_or_ge j i with h | h
          · exact HI.out.2.1 j h
          · obtain rfl : j = i := by omega
            omega
        case measure =>
          simp [e1]
          omega
    · have c1 : ¬ (i : Int) < 41 := by omega
      clear hi hlow hb
      go_wp2_with fail
      go_ret2
      exact ⟨0, 11, rfl, .inr ⟨rfl, rfl, fun j hj => HI.out.2.1 j (by omega)⟩, HI.out.2.2⟩
end Go.Proofs.YtoencondpbkomaaGreat
