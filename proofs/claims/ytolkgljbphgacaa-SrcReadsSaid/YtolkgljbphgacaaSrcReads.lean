/-
  The law SrcReads returns true for all bytes and scripts of readings, and leaves all that was there as it was. No condition.
-/
import Derived.Test.YtolkgljbphgacaaAwake
import Derived.Test.YtolkgljbphgacaaModels
namespace Go.Proofs.Ytolkgljbphgacaa.srcReads
open Go.ChangeShapes Go.WideShapes Go.ChangeAt Go.RowKit
set_option linter.unusedVariables false

theorem own : ownKnob Try.prog.godebug = none := by kernel_rfl
theorem laidOut : laidOutB Try.prog = true := by kernel_rfl

/-- The law's own copy of the bytes, which it overwrites. -/
def OwnAt (W : World) (A : Option Addr) (n lo hi : Nat) : Prop :=
  n = 0 ∨ ∃ go cs, A = some ⟨go, 0, none⟩ ∧ Blk W go 5 cs ∧ n ≤ cs.size ∧ lo ≤ go ∧ go < hi

set_option maxRecDepth 100000 in
set_option maxHeartbeats 4000000 in
theorem walk {A B : Option Addr} {l c m mc : Nat} {bs : List UInt8} {q : Nat → Int × Int} {w : World} (hA : Sl w A l (bv bs)) (hlc : l ≤ c) (hc : c ≤ maxLen) (hB : Script w B m q)
    (hq : ∀ i, i < m → (-9223372036854775808 ≤ (q i).1 ∧ (q i).1 ≤ 9223372036854775807) ∧ (-9223372036854775808 ≤ (q i).2 ∧ (q i).2 ≤ 9223372036854775807)) (hm : m ≤ maxLen) :
    Calls Try.prog 3 #[.slice A l c, .slice B m mc] w fun e w' => e = .returned (.bool true) ∧ Below w.heap.size w w' := by
  obtain rfl : bs.length = l := by rw [← hA.1, bv_length]
  obtain ⟨i, hi, hz0, hz1, hz2⟩ := info_parts info_u8
  have HA := Lib.hid hA
  have HSC := Lib.hid hB
  have HQ := Lib.hid hq
  have hcm := hc
  unfold maxLen at hcm hm
  clear hA hB hq
  go_enter Try.func3, Try.ntmps3
  go_wp2_with fail
  refine (awake_any _).mono ?_
  rintro e w1 ⟨rfl, hb⟩
  have HB1 := Lib.hid hb
  clear hb
  by_cases hbig : bs.length ≤ 65536
  · go_wp2_with (at_builtin; refine wpList_app _ rfl (.tmp 20) (.tmp 21) 22 rfl w1.heap.size 5 i _ 1 Try.underlying22 hi hz0 hz1 hz2 rfl _ 0 [] rfl (own_empty w1 (Nat.le_refl _) _) A bs.length c (bv bs) rfl ((HA.out.below HB1.out).alloc _) (bv_one bs) (by omega) (by omega) (by simp) ?_)
    intro A1 c1 w2 ho hg
    have hb2 := ((Below.refl w1.heap.size w1).alloc (Nat.le_refl _) _).grown hg (by simp) (fun k e => by simp [Value.ownBlock] at e; omega)
    have hown : OwnAt w2 A1 bs.length w1.heap.size w2.heap.size := by
      rcases ho.2 with ⟨hv, h0⟩ | ⟨go, cap, cur, hv, hbg, hh, hnc, hcx, hsz, htk⟩
      · exact .inl h0
      · injection hv with e1 e2 e3
        exact .inr ⟨go, cur, e1, hh, by omega, hbg, Blk.lt hh⟩
    have hs2 := (own_facts ho).1
    have HB2 := Lib.hid (below_trans HB1.out hb2)
    have HS2 := Lib.hid hs2
    have HOW := Lib.hid hown
    have H12 := Lib.hid HB1.out.size
    have H22 := Lib.hid hb2.size
    clear ho hg hb2 hown hs2
    go_wp2_with fail
    refine (new_any (c := c1) HS2.out (by omega)).mono ?_
    rintro e w3 ⟨g, rfl, hgl, hcur, hb3⟩
    have HOW3 : Hid (OwnAt w3 A1 bs.length w1.heap.size w2.heap.size) := Lib.hid (by
      rcases HOW.out with h | ⟨go, cs, e, hbk, h1, h2, h3⟩
      · exact .inl h
      · exact .inr ⟨go, cs, e, hbk.below hb3, h1, h2, h3⟩)
    have HB3 := Lib.hid (HB2.out.trans (hb3.mono HB2.out.size))
    have hap : Apart w g w3.heap.size (fun b => w2.heap.size ≤ b ∧ b < w3.heap.size) (fun b => b < w.heap.size) := by
      have := HB2.out.size
      have := hcur.lt
      have := HB3.out.size
      exact ⟨by omega, by omega, by omega, fun b hb => ⟨by omega, by omega⟩, fun b hb => hb⟩
    have hboth : Both w g w3.heap.size (fun b => w2.heap.size ≤ b ∧ b < w3.heap.size) (fun b => b < w.heap.size) bs 0 0 (w3.alloc (.cells #[.slice A bs.length c, .int .i64 0, .int .i64 0] 30)) := by
      refine ⟨hcur.old.below ((Below.refl _ _).alloc (Nat.le_refl _) _), ⟨A, c, Blk.fresh _ _ _, (HA.out.below HB3.out).alloc _, hlc, hc, Nat.zero_le _, fun hn b o e => ?_⟩, HB3.out.alloc HB3.out.size _⟩
      obtain ⟨b', o', e', hlt, _⟩ := HA.out.2 hn
      rw [e] at e'
      injection e' with e'
      injection e' with e'
      have := HB3.out.size
      exact ⟨by omega, by omega⟩
    have HAP := Lib.hid hap
    have HBO := Lib.hid hboth
    have HLT := Lib.hid hcur.lt
    have HGL := Lib.hid hgl
    clear hgl hcur hb3 hap hboth
    go_wp2_with fail
    go_loopw [8] (fun x wr => ∃ j : Nat, j ≤ bs.length ∧ x = .int .i64 j ∧ OwnAt wr A1 bs.length w1.heap.size w2.heap.size ∧ Both w g w3.heap.size (fun b => w2.heap.size ≤ b ∧ b < w3.heap.size) (fun b => b < w.heap.size) bs 0 0 wr) (fun x _ => bs.length - (intOf x).toNat)
    case atStart =>
      refine ⟨0, Nat.zero_le _, rfl, ?_, HBO.out⟩
      rcases HOW3.out with h | ⟨go, cs, e, hbk, h1, h2, h3⟩
      · exact .inl h
      · exact .inr ⟨go, cs, e, hbk.alloc _, h1, h2, h3⟩
    case round =>
      clear HOW3 HBO
      obtain ⟨j, hj, rfl, how, hbo⟩ := hrel
      have HOr := Lib.hid how
      have HBr := Lib.hid hbo
      clear how hbo
      by_cases hjl : j < bs.length
      · have hex : ∃ go cs, A1 = some ⟨go, 0, none⟩ ∧ Blk wr go 5 cs ∧ bs.length ≤ cs.size ∧ w1.heap.size ≤ go ∧ go < w2.heap.size := by
          rcases HOr.out with h | h
          · omega
          · exact h
        obtain ⟨go, cs, rfl, hbk, h1, h2, h3⟩ := hex
        have hcell : wr.cell? ⟨go, j, none⟩ = some (cs[j]'(by omega)) := by rw [hbk.cell j]; exact Array.getElem?_eq_getElem _
        have hfr : wr.frozen? ⟨go, j, none⟩ = false := hbk.free j
        have HBK := Lib.hid hbk
        generalize cs[j]'(by omega) = old at hcell
        clear hbk
        go_wp2_with fail
        go_roundw
        case rel =>
          refine ⟨j + 1, by omega, by go_num, .inr ⟨go, _, rfl, HBK.out.put j _, by simpa using h1, h2, h3⟩, ?_⟩
          have a1 := H12.out
          have a2 := HGL.out
          have a3 := HLT.out
          exact HBr.out.store (by show w.heap.size ≤ go; omega) (by show go ≠ g; omega) (by show go ≠ w3.heap.size; omega) (by show ¬ (w2.heap.size ≤ go ∧ go < w3.heap.size); omega) (by show ¬ go < w.heap.size; omega) _
        case measure => simp [intOf]; omega
      · go_wp2_with fail
        generalize w3.heap.size = gr at HAP HBr
        generalize (fun b => w2.heap.size ≤ b ∧ b < gr) = lo at HAP HBr
        generalize (fun b => b < w.heap.size) = lr at HAP HBr
        clear HOr HB2 HS2 HOW H12 H22 HB3 HLT HGL HA
        go_loopw [9] (fun x wr => ∃ (j k : Nat) (code : Int), j ≤ m ∧ x = .int .i64 j ∧ Both w g gr lo lr bs k code wr) (fun x _ => m - (intOf x).toNat)
        case atStart => exact ⟨0, 0, 0, Nat.zero_le _, rfl, HBr.out⟩
        case round =>
          clear HBr
          obtain ⟨j, k, code, hj, rfl, hbo⟩ := hrel
          have HBr := Lib.hid hbo
          have HSr := Lib.hid (HSC.out.below hbo.below)
          clear hbo
          by_cases hjm : j < m
          · by_cases hj2 : j < 200
            · obtain ⟨b2, o2, rfl, _, hc⟩ := HSr.out (by omega)
              obtain ⟨c0, c1⟩ := hc j hjm
              have hqb := HQ.out j hjm
              generalize (q j).1 = kd at c0 hqb
              generalize (q j).2 = nn at c1 hqb
              clear hc
              by_cases k0 : kd = 0
              · subst k0
                go_wp2_with fail
                refine (num_all HBr.out.src (by omega)).mono ?_
                rintro e wa ⟨rfl, hc1, hg1⟩
                have HR1 := Lib.hid (HBr.out.read HAP.out hg1)
                have HC1 := Lib.hid hc1
                clear hc1 hg1
                go_wp2_with fail
                refine (curNum_all HR1.out.1 (by omega)).mono ?_
                rintro e wt ⟨rfl, hc2, hg2⟩
                have hbt := Both.then_ HAP.out HC1.out HR1.out.2 hg2 hc2
                clear hc2 hg2 HR1 HC1
                generalize numM bs k code nn = mm at hbt
                obtain ⟨v, k', code'⟩ := mm
                simp only at hbt
                have HBT := Lib.hid hbt
                clear hbt
                have hcell1 : wt.cell? ⟨gr, 1, none⟩ = some (.int .i64 (k' : Int)) := by obtain ⟨A, c, hB, _⟩ := HBT.out.ref; exact hB.cell 1
                have hcell2 : wt.cell? ⟨gr, 2, none⟩ = some (.int .i64 code') := by obtain ⟨A, c, hB, _⟩ := HBT.out.ref; exact hB.cell 2
                go_wp2_with fail
                go_quiet ((first | (go_at_call 25; exact quiet_drew_at (left_any (HBT.out.src.drewN _))) | (go_at_call 26; exact quiet_drew_at (curLeft_any (HBT.out.ref.drewN _))) | (go_at_call 27; exact quiet_same_at (at_any (HBT.out.src.drewN _))) | (go_at_call 28; exact quiet_same_at (code_any (HBT.out.src.drewN _)))))
                go_wp2_with fail
                go_roundw
                case rel => exact ⟨j + 1, k', code', by omega, by go_num, HBT.out.drewN _⟩
                case measure => simp [intOf]; omega
              · have e0 : (kd == 0) = false := by simpa using k0
                by_cases k1 : kd = 1
                · subst k1
                  go_wp2_with fail
                  refine (number_all HBr.out.src (by omega)).mono ?_
                  rintro e wa ⟨rfl, hc1, hg1⟩
                  have HR1 := Lib.hid (HBr.out.read HAP.out hg1)
                  have HC1 := Lib.hid hc1
                  clear hc1 hg1
                  go_wp2_with fail
                  refine (curNumber_all HR1.out.1 (by omega)).mono ?_
                  rintro e wt ⟨rfl, hc2, hg2⟩
                  have hbt := Both.then_ HAP.out HC1.out HR1.out.2 hg2 hc2
                  clear hc2 hg2 HR1 HC1
                  generalize numberM bs k code = mm at hbt
                  obtain ⟨v, k', code'⟩ := mm
                  simp only at hbt
                  have HBT := Lib.hid hbt
                  clear hbt
                  have hcell1 : wt.cell? ⟨gr, 1, none⟩ = some (.int .i64 (k' : Int)) := by obtain ⟨A, c, hB, _⟩ := HBT.out.ref; exact hB.cell 1
                  have hcell2 : wt.cell? ⟨gr, 2, none⟩ = some (.int .i64 code') := by obtain ⟨A, c, hB, _⟩ := HBT.out.ref; exact hB.cell 2
                  go_wp2_with fail
                  go_quiet ((first | (go_at_call 25; exact quiet_drew_at (left_any (HBT.out.src.drewN _))) | (go_at_call 26; exact quiet_drew_at (curLeft_any (HBT.out.ref.drewN _))) | (go_at_call 27; exact quiet_same_at (at_any (HBT.out.src.drewN _))) | (go_at_call 28; exact quiet_same_at (code_any (HBT.out.src.drewN _)))))
                  go_wp2_with fail
                  go_roundw
                  case rel => exact ⟨j + 1, k', code', by omega, by go_num, HBT.out.drewN _⟩
                  case measure => simp [intOf]; omega
                · have e1 : (kd == 1) = false := by simpa using k1
                  by_cases k2 : kd = 2
                  · subst k2
                    have hu : ∃ u : Nat, IntKind.u64.wrap nn = (u : Int) := ⟨(IntKind.u64.wrap nn).toNat, by
                      rw [IntKind.wrap_u64]
                      omega⟩
                    obtain ⟨u, hu⟩ := hu
                    have hlen := takeM_len bs k code u
                    go_wp2_with fail
                    refine (take_any (n := u) HBr.out.src (by omega) rfl).mono ?_
                    rintro e wa ⟨Aa, ca, rfl, ho1, hc1, hg1⟩
                    have HR1 := Lib.hid (HBr.out.read HAP.out hg1)
                    have HC1 := Lib.hid hc1
                    have HO1 := Lib.hid ho1
                    clear hc1 hg1 ho1
                    go_wp2_with fail
                    refine (curTake_any (n := u) HR1.out.1 (by omega) rfl).mono ?_
                    rintro e wb ⟨Ab, cb, rfl, ho2, hc2, hg2⟩
                    have HT := Lib.hid (Both.then_ HAP.out HC1.out HR1.out.2 hg2 hc2)
                    have HO3 := Lib.hid (told_stays HO1.out hg2 HBr.out.ref.lt)
                    have HS2 := Lib.hid (own_facts ho2).1
                    clear hc2 hg2 HR1 HC1 HO1 ho2
                    generalize takeM bs k code u = mm at *
                    obtain ⟨row, k', code'⟩ := mm
                    simp only at *
                    go_wp2_with fail
                    refine (bytes_any (own_facts HO3.out).1 HS2.out (by omega) (by omega)).mono ?_
                    rintro e wt ⟨rfl, d, rfl⟩
                    rw [decide_eq_true rfl]
                    have hbt := HT.out.drewN d
                    have HO4 := Lib.hid (show (wb.drewN d).ownsRow _ _ _ _ _ _ from HO3.out)
                    clear HT HO3 HS2
                    generalize wb.drewN d = wt at hbt HO4 ⊢
                    go_wp2_with fail
                    obtain ⟨Z, Y, z1, z2, z3, how⟩ : ∃ Z Y : Nat, w.heap.size ≤ Z ∧ g < Z ∧ gr < Z ∧ OwnAt wt Aa row.length Z Y := by
                      refine ⟨wr.heap.size, wt.heap.size, HBr.out.below.size, HBr.out.src.lt, HBr.out.ref.lt, ?_⟩
                      rcases HO4.out.2 with ⟨hv, h0⟩ | ⟨go, cap, cur, hv, hbg, hh, hnc, hcx, hsz, htk⟩
                      · exact .inl h0
                      · injection hv with e1 e2 e3
                        exact .inr ⟨go, cur, e1, hh, by omega, hbg, Blk.lt hh⟩
                    have HLO := Lib.hid (fun bb h => (HAP.out.lo bb h).2)
                    have HLR := Lib.hid (fun bb h => HAP.out.lr bb h)
                    have HBT0 := Lib.hid hbt
                    have HOW0 := Lib.hid how
                    clear hbt how HO4 hu
                    go_loopw [14] (fun x wx => ∃ h : Nat, h ≤ row.length ∧ x = .int .i64 h ∧ OwnAt wx Aa row.length Z Y ∧ Both w g gr lo lr bs k' code' wx) (fun x _ => row.length - (intOf x).toNat)
                    case atStart => exact ⟨0, Nat.zero_le _, rfl, HOW0.out, HBT0.out⟩
                    case round =>
                      clear HBT0 HOW0
                      obtain ⟨h, hh, rfl, how, hbt⟩ := hrel
                      by_cases hhl : h < row.length
                      · have HBx := Lib.hid hbt
                        have hex : ∃ go cs, Aa = some ⟨go, 0, none⟩ ∧ Blk wr go 5 cs ∧ row.length ≤ cs.size ∧ Z ≤ go ∧ go < Y := by
                          rcases how with h | h
                          · omega
                          · exact h
                        obtain ⟨go, cs, rfl, hbk, h1, h2, h3⟩ := hex
                        have hcell : wr.cell? ⟨go, h, none⟩ = some (cs[h]'(by omega)) := by rw [hbk.cell h]; exact Array.getElem?_eq_getElem _
                        have hfr : wr.frozen? ⟨go, h, none⟩ = false := hbk.free h
                        have HBK := Lib.hid hbk
                        generalize cs[h]'(by omega) = old at hcell
                        clear hbk how hbt
                        go_wp2_with fail
                        go_roundw
                        case rel =>
                          refine ⟨h + 1, by omega, by go_num, .inr ⟨go, _, rfl, HBK.out.put h _, by simpa using h1, h2, h3⟩, ?_⟩
                          exact HBx.out.store (by show w.heap.size ≤ go; omega) (by show go ≠ g; omega) (by show go ≠ gr; omega) (fun hl => by have := HLO.out go hl; omega) (fun hl => by have := HLR.out go hl; omega) _
                        case measure => simp [intOf]; omega
                      · clear how
                        have HBT := Lib.hid hbt
                        clear hbt
                        have hcell1 : wr.cell? ⟨gr, 1, none⟩ = some (.int .i64 (k' : Int)) := by obtain ⟨A, c, hB, _⟩ := HBT.out.ref; exact hB.cell 1
                        have hcell2 : wr.cell? ⟨gr, 2, none⟩ = some (.int .i64 code') := by obtain ⟨A, c, hB, _⟩ := HBT.out.ref; exact hB.cell 2
                        go_wp2_with fail
                        go_quiet ((first | (go_at_call 25; exact quiet_drew_at (left_any (HBT.out.src.drewN _))) | (go_at_call 26; exact quiet_drew_at (curLeft_any (HBT.out.ref.drewN _))) | (go_at_call 27; exact quiet_same_at (at_any (HBT.out.src.drewN _))) | (go_at_call 28; exact quiet_same_at (code_any (HBT.out.src.drewN _)))))
                        go_wp2_with fail
                        go_roundw
                        case rel => exact ⟨j + 1, k', code', by omega, by go_num, HBT.out.drewN _⟩
                        case measure => simp [intOf]; omega
                  · have e2 : (kd == 2) = false := by simpa using k2
                    by_cases k3 : kd = 3
                    · subst k3
                      have hlen := bitsM_len bs k code nn
                      go_wp2_with fail
                      refine (bits_any HBr.out.src (by omega) (by omega)).mono ?_
                      rintro e wa ⟨Aa, ca, rfl, ho1, hc1, hg1⟩
                      have HR1 := Lib.hid (HBr.out.read HAP.out hg1)
                      have HC1 := Lib.hid hc1
                      have HO1 := Lib.hid ho1
                      clear hc1 hg1 ho1
                      go_wp2_with fail
                      refine (curBits_any HR1.out.1 (by omega) (by omega)).mono ?_
                      rintro e wb ⟨Ab, cb, rfl, ho2, hc2, hg2⟩
                      have HT := Lib.hid (Both.then_ HAP.out HC1.out HR1.out.2 hg2 hc2)
                      have HO3 := Lib.hid (told_stays HO1.out hg2 HBr.out.ref.lt)
                      have HS2 := Lib.hid (own_facts ho2).1
                      clear hc2 hg2 HR1 HC1 HO1 ho2
                      generalize bitsM bs k code nn = mm at *
                      obtain ⟨row, k', code'⟩ := mm
                      simp only at *
                      go_wp2_with fail
                      refine (flags_any (own_facts HO3.out).1 HS2.out (by omega) (by omega)).mono ?_
                      rintro e wt ⟨rfl, d, rfl⟩
                      rw [decide_eq_true rfl]
                      have hbt := HT.out.drewN d
                      have HO4 := Lib.hid (show (wb.drewN d).ownsRow _ _ _ _ _ _ from HO3.out)
                      clear HT HO3 HS2
                      generalize wb.drewN d = wt at hbt HO4 ⊢
                      have HBT := Lib.hid hbt
                      clear hbt
                      have hcell1 : wt.cell? ⟨gr, 1, none⟩ = some (.int .i64 (k' : Int)) := by obtain ⟨A, c, hB, _⟩ := HBT.out.ref; exact hB.cell 1
                      have hcell2 : wt.cell? ⟨gr, 2, none⟩ = some (.int .i64 code') := by obtain ⟨A, c, hB, _⟩ := HBT.out.ref; exact hB.cell 2
                      go_wp2_with fail
                      go_quiet ((first | (go_at_call 25; exact quiet_drew_at (left_any (HBT.out.src.drewN _))) | (go_at_call 26; exact quiet_drew_at (curLeft_any (HBT.out.ref.drewN _))) | (go_at_call 27; exact quiet_same_at (at_any (HBT.out.src.drewN _))) | (go_at_call 28; exact quiet_same_at (code_any (HBT.out.src.drewN _)))))
                      go_wp2_with fail
                      go_roundw
                      case rel => exact ⟨j + 1, k', code', by omega, by go_num, HBT.out.drewN _⟩
                      case measure => simp [intOf]; omega
                    · have e3 : (kd == 3) = false := by simpa using k3
                      by_cases hb16 : 65536 < nn
                      · have hmod : 0 ≤ nn % 65536 ∧ nn % 65536 < 65536 := by omega
                        generalize hnm : nn % 65536 = nm at hmod
                        have hlen := toldM_len bs k code nm
                        go_wp2_with fail
                        refine (told_any HBr.out.src (by omega) (by omega)).mono ?_
                        rintro e wa ⟨Aa, ca, rfl, ho1, hc1, hg1⟩
                        have HR1 := Lib.hid (HBr.out.read HAP.out hg1)
                        have HC1 := Lib.hid hc1
                        have HO1 := Lib.hid ho1
                        clear hc1 hg1 ho1
                        go_wp2_with fail
                        refine (curTold_any HR1.out.1 (by omega) (by omega)).mono ?_
                        rintro e wb ⟨Ab, cb, rfl, ho2, hc2, hg2⟩
                        have HT := Lib.hid (Both.then_ HAP.out HC1.out HR1.out.2 hg2 hc2)
                        have HO3 := Lib.hid (told_stays HO1.out hg2 HBr.out.ref.lt)
                        have HS2 := Lib.hid (own_facts ho2).1
                        clear hc2 hg2 HR1 HC1 HO1 ho2
                        generalize toldM bs k code nm = mm at *
                        obtain ⟨row, k', code'⟩ := mm
                        simp only at *
                        go_wp2_with fail
                        refine (flags_any (own_facts HO3.out).1 HS2.out (by omega) (by omega)).mono ?_
                        rintro e wt ⟨rfl, d, rfl⟩
                        rw [decide_eq_true rfl]
                        have hbt := HT.out.drewN d
                        have HO4 := Lib.hid (show (wb.drewN d).ownsRow _ _ _ _ _ _ from HO3.out)
                        clear HT HO3 HS2
                        generalize wb.drewN d = wt at hbt HO4 ⊢
                        have HBT := Lib.hid hbt
                        clear hbt
                        have hcell1 : wt.cell? ⟨gr, 1, none⟩ = some (.int .i64 (k' : Int)) := by obtain ⟨A, c, hB, _⟩ := HBT.out.ref; exact hB.cell 1
                        have hcell2 : wt.cell? ⟨gr, 2, none⟩ = some (.int .i64 code') := by obtain ⟨A, c, hB, _⟩ := HBT.out.ref; exact hB.cell 2
                        go_wp2_with fail
                        go_quiet ((first | (go_at_call 25; exact quiet_drew_at (left_any (HBT.out.src.drewN _))) | (go_at_call 26; exact quiet_drew_at (curLeft_any (HBT.out.ref.drewN _))) | (go_at_call 27; exact quiet_same_at (at_any (HBT.out.src.drewN _))) | (go_at_call 28; exact quiet_same_at (code_any (HBT.out.src.drewN _)))))
                        go_wp2_with fail
                        go_roundw
                        case rel => exact ⟨j + 1, k', code', by omega, by go_num, HBT.out.drewN _⟩
                        case measure => simp [intOf]; omega
                      · have hb17 : ¬ 65536 < nn := hb16
                        have hlen := toldM_len bs k code nn
                        go_wp2_with fail
                        refine (told_any HBr.out.src (by omega) (by omega)).mono ?_
                        rintro e wa ⟨Aa, ca, rfl, ho1, hc1, hg1⟩
                        have HR1 := Lib.hid (HBr.out.read HAP.out hg1)
                        have HC1 := Lib.hid hc1
                        have HO1 := Lib.hid ho1
                        clear hc1 hg1 ho1
                        go_wp2_with fail
                        refine (curTold_any HR1.out.1 (by omega) (by omega)).mono ?_
                        rintro e wb ⟨Ab, cb, rfl, ho2, hc2, hg2⟩
                        have HT := Lib.hid (Both.then_ HAP.out HC1.out HR1.out.2 hg2 hc2)
                        have HO3 := Lib.hid (told_stays HO1.out hg2 HBr.out.ref.lt)
                        have HS2 := Lib.hid (own_facts ho2).1
                        clear hc2 hg2 HR1 HC1 HO1 ho2
                        generalize toldM bs k code nn = mm at *
                        obtain ⟨row, k', code'⟩ := mm
                        simp only at *
                        go_wp2_with fail
                        refine (flags_any (own_facts HO3.out).1 HS2.out (by omega) (by omega)).mono ?_
                        rintro e wt ⟨rfl, d, rfl⟩
                        rw [decide_eq_true rfl]
                        have hbt := HT.out.drewN d
                        have HO4 := Lib.hid (show (wb.drewN d).ownsRow _ _ _ _ _ _ from HO3.out)
                        clear HT HO3 HS2
                        generalize wb.drewN d = wt at hbt HO4 ⊢
                        have HBT := Lib.hid hbt
                        clear hbt
                        have hcell1 : wt.cell? ⟨gr, 1, none⟩ = some (.int .i64 (k' : Int)) := by obtain ⟨A, c, hB, _⟩ := HBT.out.ref; exact hB.cell 1
                        have hcell2 : wt.cell? ⟨gr, 2, none⟩ = some (.int .i64 code') := by obtain ⟨A, c, hB, _⟩ := HBT.out.ref; exact hB.cell 2
                        go_wp2_with fail
                        go_quiet ((first | (go_at_call 25; exact quiet_drew_at (left_any (HBT.out.src.drewN _))) | (go_at_call 26; exact quiet_drew_at (curLeft_any (HBT.out.ref.drewN _))) | (go_at_call 27; exact quiet_same_at (at_any (HBT.out.src.drewN _))) | (go_at_call 28; exact quiet_same_at (code_any (HBT.out.src.drewN _)))))
                        go_wp2_with fail
                        go_roundw
                        case rel => exact ⟨j + 1, k', code', by omega, by go_num, HBT.out.drewN _⟩
                        case measure => simp [intOf]; omega
            · go_wp2_with fail
              go_ret
              exact ⟨rfl, HBr.out.below⟩
          · go_wp2_with fail
            go_ret
            exact ⟨rfl, HBr.out.below⟩
  · go_wp2
    go_ret
    exact ⟨rfl, HB1.out⟩

set_option maxRecDepth 100000 in
theorem lifted (os : Os) (started : os.Started) (H : Type) (enc : TypeId × Value → H) :
    ReturnsInHanded {} Try.checked os 3 .any (Rows.srcReadsSpec.pre6 enc Try.prog Try.f3 Rows.srcReadsRow.domain false) (Rows.srcReadsSpec.post enc Try.prog Try.f3 false true false false) := by
  refine returnsInHanded_of_change (C := Try.checked) own started (by kernel_rfl) Try.func3
    (ChangeSpec.witness6 (enc := enc) (C := Try.checked) false ⟨#[], #[.slice none 0 0, .slice none 0 0], []⟩ 8 (by kernel_rfl) (by kernel_rfl) (by kernel_rfl) (by kernel_rfl)) ?_
  intro W base args ds gs before hval0 hW hcnd _
  have hval : ∀ (j : Nat) t v, Try.f3.params[j]? = some t → args[j]? = some v → Value.okWide Try.prog W .any base t v := hval0
  have hW' := hW
  obtain ⟨p, q, hA0, hV, rfl, hfz, hnd⟩ := hW
  have hA : DataW.TrodAll enc Try.prog W 0 (fun _ => true) true Try.f3.params.toList args.toList ds p := hA0
  rw [Try.params3] at hA hval
  obtain ⟨v0, vs0, d0, ds0, p0, q0, hargs, rfl, rfl, h0, r0⟩ := trodAll_cons hA
  obtain ⟨v1, vs1, d1, ds1, p1, q1, rfl, rfl, rfl, h1, r1⟩ := trodAll_cons r0
  obtain ⟨rfl, rfl, rfl⟩ := trodAll_nil r1
  obtain rfl : args = #[v0, v1] := by cases args; simp_all
  obtain ⟨rfl, rfl⟩ := trodVars_none hV
  obtain ⟨a0, len0, cap0, rfl⟩ := okWide_slice Try.underlying22 (hval 0 22 v0 rfl rfl)
  have k0 := h0
  have lt0 : ∀ x ∈ p0, x.block < W.heap.size := by obtain ⟨m, hm⟩ := k0; exact DataW.trod_lt m _ _ _ hm
  obtain ⟨bs, w0, hl0, hm0⟩ := open_bytes Try.underlying22 Try.underlying5 (by kernel_rfl) h0
  obtain ⟨a1, len1, cap1, rfl⟩ := okWide_slice Try.underlying23 (hval 1 23 v1 rfl rfl)
  have k1 := h1
  have lt1 : ∀ x ∈ p1, x.block < W.heap.size := by obtain ⟨m, hm⟩ := k1; exact DataW.trod_lt m _ _ _ hm
  obtain ⟨qs, w1, hw1, hl1, hm1⟩ := open_script Try.underlying23 Try.underlying32 (by kernel_rfl) rfl rfl (by kernel_rfl) (by kernel_rfl) Try.underlying3 Try.underlying3 h1
  clear hA0 hval0
  refine (walk w0 hl0 hm0 w1 (fun i hi => ⟨bounds_i64 (hw1 i hi).1, bounds_i64 (hw1 i hi).2⟩) (by omega)).mono fun e W' ⟨he, bel⟩ => ?_
  subst he
  exact ⟨_, rfl, _, _, _, [], _, [], hW', trodAll_mk1 (shut_bool Try.underlying4 _), (trodAll_cons_mk (Below.trod laidOut (by kernel_rfl) (of_decide_eq_true (by kernel_rfl)) k0 bel lt0) (trodAll_cons_mk (Below.trod laidOut (by kernel_rfl) (of_decide_eq_true (by kernel_rfl)) k1 bel lt1) trodAll_mk0)), rfl, bel.frame _, fun h => by cases h⟩

theorem proved : Rows.SrcReadsSaid :=
  OpenClaim.holds_of_wide 3 Try.f3 rfl rfl rfl rfl rfl rfl rfl ⟨rfl, rfl, rfl, rfl, rfl⟩ rfl rfl rfl rfl rfl (by kernel_rfl) Try.func3 (by kernel_rfl)
    (of_decide_eq_true (by kernel_rfl)) (by unfold Func.isWrapper; first | (rw [if_pos (by decide +kernel)]; kernel_rfl) | (rw [if_neg (by decide +kernel)]; exact ⟨rfl, rfl⟩))
    (fun os started H enc _ => lifted os started H enc)
#print axioms proved
end Go.Proofs.Ytolkgljbphgacaa.srcReads
