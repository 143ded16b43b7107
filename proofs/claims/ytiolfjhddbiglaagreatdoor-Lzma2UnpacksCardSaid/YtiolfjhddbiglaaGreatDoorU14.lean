/-
  ZrUnp: put together.
-/
import Derived.Test.YtiolfjhddbiglaaGreatDoorU12
import Derived.Test.YtiolfjhddbiglaaGreatDoorU11
import Derived.Test.YtiolfjhddbiglaaGreatDoorU13
import Derived.Test.YtiolfjhddbiglaaGreatDoorU07
import Derived.Deep.CutRange
import Derived.Deep.CutBlock
import Derived.Deep.RegionLaw
set_option linter.unusedVariables false
set_option linter.unusedSimpArgs false
/-
  The document's Unpack of LZMA2: the walk.
-/
namespace Go.Proofs.YtiolfjhddbiglaaGreatDoor
set_option linter.unusedVariables false
set_option linter.unusedSimpArgs false
open Go.RowKit

/-- what unpacking answers -/
def RUPost (w : World) (o : Option (List UInt8)) (x : Ending) (w' : World) : Prop :=
  Below w.heap.size w w' ∧ ((o = none ∧ x = .returned (.tuple #[.slice none 0 0, .int .i64 12])) ∨ ∃ ys A' c', o = some ys ∧ x = .returned (.tuple #[.slice A' ys.length c', .int .i64 0]) ∧ Sl w' A' ys.length (bv ys))
theorem ru_end {w0 wr : World} {g dict K : Nat} {bs : List UInt8} {res : Option (List UInt8)} {q : Rs} {a : Nat} {em st : Bool} {out : List UInt8} {Ro : Option Addr} {cl : Nat} {G : Nat → Prop}
    (h : RInv w0 g dict K bs res q a em st out Ro cl G wr) (hz : a = bs.length ∨ ∃ c r, q.r = c :: r ∧ c.toNat = 0) : (res = if a + 1 = bs.length ∧ out.length = K then some out else none) := by
  rcases hz with hz | ⟨c, r, hr, hc⟩
  · rw [if_neg (by omega)]
    exact h.nil hz
  · rw [h.zero hr hc]
    have hd : bs.drop a = c :: r := h.r ▸ hr
    have hl : bs.length - a = r.length + 1 := by rw [← List.length_drop, hd]; rfl
    have hle := h.le
    by_cases h1 : r = []
    · subst h1
      simp at hl
      by_cases h2 : out.length = K
      · rw [if_pos ⟨rfl, h2⟩, if_pos ⟨by omega, h2⟩]
      · rw [if_neg (fun h => h2 h.2), if_neg (fun h => h2 h.2)]
    · have : r.length ≠ 0 := fun h => h1 (List.length_eq_zero_iff.1 h)
      rw [if_neg (fun h => h1 h.1), if_neg (fun h => by omega)]

theorem ru_nums {a hv gv m : Nat} (ha : a ≤ 10000000) (h1 : hv < 256) (h2 : gv < 256) (hm : m = 256 * hv + gv + 1) :
    wrap64 ((a : Int) + 1) = (a : Int) + 1 ∧ wrap64 ((a : Int) + 2) = (a : Int) + 2 ∧ wrap64 (256 * (hv : Int)) = 256 * (hv : Int) ∧ wrap64 (256 * (hv : Int) + (gv : Int)) = 256 * (hv : Int) + (gv : Int) ∧ wrap64 (256 * (hv : Int) + (gv : Int) + 1) = (m : Int) ∧ wrap64 (hv : Int) = (hv : Int) ∧ wrap64 (gv : Int) = (gv : Int) := by
  refine ⟨IntWalk.wrap64_in _ (by omega), IntWalk.wrap64_in _ (by omega), IntWalk.wrap64_in _ (by omega), IntWalk.wrap64_in _ (by omega), ?_, IntWalk.wrap64_in _ (by omega), IntWalk.wrap64_in _ (by omega)⟩
  rw [IntWalk.wrap64_in _ (by omega)]
  omega
theorem ru_add {a k F : Nat} (ha : a + k ≤ 1000000000) (hF : F = a + k) : wrap64 ((a : Int) + (k : Int)) = (F : Int) := by
  rw [IntWalk.wrap64_in _ (by omega)]
  omega
theorem ru_meas {a T n : Nat} (h1 : a < T) (h2 : a < n) : n - (intOf (Value.int .i64 (T : Int))).toNat < n - (intOf (Value.int .i64 (a : Int))).toNat := by
  simp [intOf]
  omega
theorem ru_grown {w6 W w8 : World} {v : Option Nat} (hW : Only (fun _ => False) w6 W) (hg : W.grownBy w8 v) (hv : ∀ k, v = some k → w6.heap.size ≤ k) : Below w6.heap.size w6 w8 :=
  (hW.below (Nat.le_refl _) (fun _ h => h.elim)).grown hg hW.size hv
theorem ru_addw {a k F : Nat} (ha : a + k ≤ 1000000000) (hF : F = a + k) : IntKind.i64.wrap ((a : Int) + (k : Int)) = (F : Int) := by
  rw [IntWalk.i64_in _ (by omega)]
  omega
theorem ru_add3 {a F : Nat} (ha : a + 3 ≤ 1000000000) (hF : F = a + 3) : wrap64 ((a : Int) + 3) = (F : Int) := ru_add (k := 3) ha hF
theorem ru_add2 {a F : Nat} (ha : a + 2 ≤ 1000000000) (hF : F = a + 2) : wrap64 ((a : Int) + 2) = (F : Int) := ru_add (k := 2) ha hF
theorem ru_add1 {a F : Nat} (ha : a + 1 ≤ 1000000000) (hF : F = a + 1) : wrap64 ((a : Int) + 1) = (F : Int) := ru_add (k := 1) ha hF
theorem ru_n27 {cv m cr N0 : Nat} (hc : cv < 256) (hm : m ≤ 65536) (h1 : cr = cv % 32) (h2 : N0 = cr * 65536 + m) :
    (cv : Int).tmod 32 = (cr : Int) ∧ wrap64 ((cr : Int) * 65536) = (cr : Int) * 65536 ∧ wrap64 ((m : Int) + (cr : Int) * 65536) = (N0 : Int) ∧ (cv : Int) % 32 = (cr : Int) := by
  refine ⟨?_, IntWalk.wrap64_in _ (by omega), ?_, by omega⟩
  · rw [Int.tmod_eq_emod_of_nonneg (by omega)]; omega
  · rw [IntWalk.wrap64_in _ (by omega)]; omega
theorem ru_n30 {F hv gv m : Nat} (ha : F ≤ 10000000) (h1 : hv < 256) (h2 : gv < 256) (hm : m = 256 * hv + gv + 1) :
    wrap64 ((F : Int) + 1) = (F : Int) + 1 ∧ wrap64 (256 * (hv : Int)) = 256 * (hv : Int) ∧ wrap64 (256 * (hv : Int) + (gv : Int)) = 256 * (hv : Int) + (gv : Int) ∧ wrap64 (256 * (hv : Int) + (gv : Int) + 1) = (m : Int) ∧ wrap64 (hv : Int) = (hv : Int) ∧ wrap64 (gv : Int) = (gv : Int) := by
  obtain ⟨a1, _, a3, a4, a5, a6, a7⟩ := ru_nums ha h1 h2 hm
  exact ⟨a1, a3, a4, a5, a6, a7⟩
theorem ru_n32 {cv hw : Nat} (hc : cv < 256) (h0 : 128 ≤ cv) (h1 : hw = cv / 32 - 4) :
    (cv : Int).tdiv 32 = ((hw + 4 : Nat) : Int) ∧ (cv : Int) / 32 = ((hw + 4 : Nat) : Int) ∧ wrap64 (((hw + 4 : Nat) : Int)) = ((hw + 4 : Nat) : Int) ∧ wrap64 (((hw + 4 : Nat) : Int) - 4) = (hw : Int) ∧ wrap64 ((cv : Int) / 32) = (cv : Int) / 32 ∧ wrap64 ((cv : Int) / 32 - 4) = (hw : Int) := by
  refine ⟨?_, by omega, IntWalk.wrap64_in _ (by omega), ?_, IntWalk.wrap64_in _ (by omega), ?_⟩
  · rw [Int.tdiv_eq_ediv_of_nonneg (by omega)]; omega
  · rw [IntWalk.wrap64_in _ (by omega)]; omega
  · rw [IntWalk.wrap64_in _ (by omega)]; omega
theorem ru_n32b {hw : Nat} (h : hw ≤ 3) : wrap64 (wrap64 ((hw : Int) + 4) - 4) = (hw : Int) := by
  rw [IntWalk.wrap64_in ((hw : Int) + 4) (by omega), IntWalk.wrap64_in _ (by omega)]
  omega
theorem choose_nil {z : Lzs} {how : Nat} (h : 2 ≤ how) : chooseC z how [] = none := by
  unfold chooseC
  rw [if_pos h]
theorem choose_cons {z : Lzs} {how : Nat} {x : UInt8} {r : List UInt8} (h : 2 ≤ how) : chooseC z how (x :: r) = (setN x).map (fun s => (s, r)) := by
  unfold chooseC
  rw [if_pos h]
theorem left_bad {x : Dc} (h : decM.bad x = true) : leftD x = false := by
  cases x with
  | none => rfl
  | some y => cases h
theorem sl_from {w : World} {q o n a : Nat} {b : List UInt8} (h : Sl w (some ⟨q, o, none⟩) n (bv b)) (h1 : a ≤ n) : Sl w (some ⟨q, o + a, none⟩) (n - a) (bv (b.drop a)) := by
  have h2 := sl_mid h h1 (Nat.le_refl n)
  have hl : b.length = n := by rw [← bv_length]; exact h.1
  rwa [List.take_of_length_le (by rw [List.length_drop]; omega)] at h2
set_option maxRecDepth 100000 in
set_option maxHeartbeats 64000000 in
theorem rup_any {w : World} {A : Option Addr} {n c p : Nat} {bs : List UInt8} {size : Int} (hn : n = bs.length) (hS : Sl w A n (bv bs)) (hl : n ≤ 10000000) (hnc : n ≤ c) (hcm : c ≤ maxLen) (hp : p ≤ 40) (h1 : size ≤ 100000) (h0 : -9223372036854775808 ≤ size) :
    Calls Tryz.prog 10 #[.slice A n c, .int .u8 (p : Int), .int .i64 size] w (RUPost w ((rs0 (1847 + 768 * 2 ^ (4 + 0)) (dictN p) bs).tells size.toNat)) := by
  obtain ⟨res, hres⟩ : ∃ r, r = (rs0 (1847 + 768 * 2 ^ (4 + 0)) (dictN p) bs).tells size.toNat := ⟨_, rfl⟩
  rw [← hres]
  have hdc : dictC p = 0 := by unfold dictC; rw [if_neg (by omega)]
  have KD := rdict_any (show p < 256 by omega) w
  rw [hdc] at KD
  obtain ⟨dict, hdict⟩ : ∃ d, d = dictN p := ⟨_, rfl⟩
  have hset : SetOk 4 0 0 dict := by rw [hdict]; exact dict_set hp
  rw [← hdict] at KD hres
  have KN : ∀ W, Calls Tryz.prog 24 #[.agg #[.int .i64 4, .int .i64 0, .int .i64 0, .int .i64 (dict : Int)]] W fun x w' =>
      ∃ g p pc, x = .returned (.pointer (some ⟨g, 0, none⟩)) ∧ Zn w' g p pc (Lzs.start 4 0 0 dict) (probsN 4 0) ∧ W.heap.size ≤ g ∧ W.heap.size ≤ p ∧ Below W.heap.size W w' := fun W => znew_any hset W
  have KD := Lib.hid KD
  have KN := Lib.hid KN
  obtain ⟨K, hK⟩ : ∃ K, K = size.toNat := ⟨_, rfl⟩
  have HK := Lib.hid (show K = size.toNat ∧ K ≤ 100000 from ⟨hK, by omega⟩)
  have HH := Lib.hid (show n = bs.length ∧ n ≤ 10000000 ∧ n ≤ c ∧ c ≤ maxLen ∧ SetOk 4 0 0 dict ∧ size ≤ 100000 ∧ -9223372036854775808 ≤ size from ⟨hn, hl, hnc, hcm, hset, h1, h0⟩)
  have HS := Lib.hid hS
  have HRES := Lib.hid hres
  obtain ⟨iu, hiu, hz0, hz1, hz2⟩ := info_parts info_u8
  clear hres hdc hdict hset hn hS hl hnc hcm hp h1 h0 hK
  go_enter Tryz.func10, Tryz.ntmps10
  go_wp2_with fail
  refine KD.out.mono ?_
  rintro x w2 ⟨rfl, hb2⟩
  have HB2 := Lib.hid hb2
  clear hb2 KD
  go_wp2_with fail
  refine (KN.out _).mono ?_
  rintro x w3 ⟨g, pp, pc, rfl, hz, hg, hpp, hb3⟩
  have hm := R11.begin (w := w) HB2.out hz rfl (Nat.le_trans HB2.out.size hg) (Nat.le_trans HB2.out.size hpp) hb3
  have HI0 := Lib.hid (show RInv w g dict K bs res (rs0 (1847 + 768 * 2 ^ (4 + 0)) dict bs) 0 false false [] none 0 (fun i => i = g ∨ i = pp) w3 from
    ⟨hm, rs0_ok rfl HH.out.2.2.2.2.1.2.2.2.2, rfl, Nat.zero_le _, by rw [HRES.out, HK.out.1]; show _ = Option.map (fun x => x) _; rw [Option.map_id_fun']; rfl, Nat.zero_le _, Nat.zero_le _, rfl, rfl⟩)
  clear hm hz hg hpp hb3 KN HB2 HRES
  go_wp2_with fail
  go_loopw [11, 12, 13, 14, 15] (fun v11 v12 v13 v14 v15 wr => ∃ (q : Rs) (a : Nat) (em st : Bool) (out : List UInt8) (Ro : Option Addr) (cl : Nat) (G : Nat → Prop), v11 = .slice Ro out.length cl ∧ v12 = .bool em ∧ v13 = .bool st ∧ v14 = .bool st ∧ v15 = .int .i64 (a : Int) ∧ RInv w g dict K bs res q a em st out Ro cl G wr) (fun _ _ _ _ v15 _ => n - (intOf v15).toNat)
  case atStart => exact ⟨_, 0, false, false, [], none, 0, _, rfl, rfl, rfl, rfl, rfl, HI0.out⟩
  case round =>
    clear HI0
    obtain ⟨q, a, em, st, out, Ro, cl, G, rfl, rfl, rfl, rfl, rfl, hi⟩ := hrel
    have HI := Lib.hid hi
    have hale := hi.le
    have hnn := HH.out.1
    have HSR := Lib.hid (show Sl wr A n (bv bs) from HS.out.below (hi.mem.bel))
    by_cases hlt : a < n
    · obtain ⟨cb, r, hd⟩ := drop_cons (bs := bs) (a := a) (by omega)
      obtain ⟨hd1, hd2, _⟩ := drop_one hd
      obtain ⟨qb, ob, rfl, hqb, hcb⟩ := HSR.out.2 (by omega)
      have l0 : wr.cell? ⟨qb, ob + a, none⟩ = some (.int .u8 (cb.toNat : Int)) := (hcb a hlt).trans (by simp [bv, hd1])
      have HD := Lib.hid (And.intro hd hd2)
      have i1 : (a : Int) < (n : Int) := by omega
      have i0 : (0 : Int) ≤ (a : Int) := by omega
      have HLT := Lib.hid hlt
      obtain ⟨cv, hcv⟩ : ∃ v, v = cb.toNat := ⟨_, rfl⟩
      have hcl : cv < 256 := by rw [hcv]; exact cb.toNat_lt
      rw [← hcv] at l0
      by_cases hc0 : cv = 0
      · have i2 : ((cv : Int) != 0) = false := by simp [hc0]
        have HRE := Lib.hid (ru_end hi (.inr ⟨cb, r, hi.r.trans hd, hcv.symm.trans hc0⟩))
        clear hi hd hd1 hd2 hqb hcb hc0 hlt hale hnn
        as_aux_lemma =>
          have HE1 := Lib.hid (show wrap64 ((n : Int) - 1) = (n : Int) - 1 from IntWalk.wrap64_in _ (by have := HH.out; omega))
          have HM := Lib.hid (And.intro (Sl.of_own HI.out.mem.row) HI.out.mem.bel)
          have hm := rmax2_int (P := Tryz.prog) #[3, 3] 3 size 0 (K : Int) (by have := HK.out.1; omega)
          clear HI
          by_cases ha : a + 1 = n
          · have i3 : ((a : Int) != (n : Int) - 1) = false := by simp; omega
            by_cases ho : out.length = K
            · have HR := Lib.hid (show res = some out by rw [HRE.out, if_pos ⟨by have := HH.out.1; omega, ho⟩])
              have i4 : ((out.length : Int) != (K : Int)) = false := by simp; omega
              clear ha ho HRE
              have e1 := HE1.out
              go_wp2_with fail
              go_ret2
              exact ⟨HM.out.2, .inr ⟨out, Ro, cl, HR.out, rfl, HM.out.1⟩⟩
            · have HR := Lib.hid (show res = none by rw [HRE.out, if_neg (fun h => ho h.2)])
              have i4 : ((out.length : Int) != (K : Int)) = true := by simp; omega
              clear ha ho HRE
              have e1 := HE1.out
              go_wp2_with fail
              go_ret2
              exact ⟨HM.out.2, .inl ⟨HR.out, rfl⟩⟩
          · have HR := Lib.hid (show res = none by rw [HRE.out, if_neg (fun h => ha (by have := HH.out.1; omega))])
            have i3 : ((a : Int) != (n : Int) - 1) = true := by simp; omega
            clear ha HRE hm
            have e1 := HE1.out
            go_wp2_with fail
            go_ret2
            exact ⟨HM.out.2, .inl ⟨HR.out, rfl⟩⟩
      · have i2 : ((cv : Int) != 0) = true := by simp; omega
        clear hi hd hd1 hd2 hqb hcb hlt hale hnn
        have HCV := Lib.hid (And.intro hcv (And.intro hcl (show cv ≠ 0 from hc0)))
        clear hcv hc0
        obtain ⟨b0, hb0⟩ : ∃ b, b = decide ((2 < cv ∧ cv < 128) ∨ n < a + 3) := ⟨_, rfl⟩
        have HB0 := Lib.hid hb0
        clear hb0
        go_upto_region 12 with fail
        go_cut [62] from 34 to 62 (fun v wx => v = .bool b0 ∧ wx = wr)
        case first =>
          as_aux_lemma =>
            have HE3 := Lib.hid (show wrap64 ((a : Int) + 3) = (a : Int) + 3 from IntWalk.wrap64_in _ (by have := HLT.out; have := HH.out; omega))
            clear l0 i2 i1
            by_cases h2 : 2 < cv
            · have j1 : (cv : Int) > 2 := by omega
              by_cases h3 : cv < 128
              · have j2 : (cv : Int) < 128 := by omega
                have HX := Lib.hid (show b0 = true by rw [HB0.out]; exact decide_eq_true (.inl ⟨h2, h3⟩))
                clear h2 h3
                have e3 := HE3.out
                go_wp2_with fail
                go_meet
                exact ⟨congrArg Value.bool HX.out.symm, rfl⟩
              · have j2 : ¬ (cv : Int) < 128 := by omega
                by_cases h4 : n < a + 3
                · have j3 : (a : Int) + 3 > (n : Int) := by omega
                  have HX := Lib.hid (show b0 = true by rw [HB0.out]; exact decide_eq_true (.inr h4))
                  clear h2 h3 h4
                  have e3 := HE3.out
                  go_wp2_with fail
                  go_meet
                  exact ⟨congrArg Value.bool HX.out.symm, rfl⟩
                · have j3 : ¬ (a : Int) + 3 > (n : Int) := by omega
                  have HX := Lib.hid (show b0 = false by rw [HB0.out]; exact decide_eq_false (by omega))
                  clear h2 h3 h4
                  have e3 := HE3.out
                  go_wp2_with fail
                  go_meet
                  exact ⟨congrArg Value.bool HX.out.symm, rfl⟩
            · have j1 : ¬ (cv : Int) > 2 := by omega
              by_cases h4 : n < a + 3
              · have j3 : (a : Int) + 3 > (n : Int) := by omega
                have HX := Lib.hid (show b0 = true by rw [HB0.out]; exact decide_eq_true (.inr h4))
                clear h2 h4
                have e3 := HE3.out
                go_wp2_with fail
                go_meet
                exact ⟨congrArg Value.bool HX.out.symm, rfl⟩
              · have j3 : ¬ (a : Int) + 3 > (n : Int) := by omega
                have HX := Lib.hid (show b0 = false by rw [HB0.out]; exact decide_eq_false (by omega))
                clear h2 h4
                have e3 := HE3.out
                go_wp2_with fail
                go_meet
                exact ⟨congrArg Value.bool HX.out.symm, rfl⟩
        case rest =>
        obtain ⟨rfl, hw⟩ := hcut
        rw [hw]
        clear hw wc
        cases b0 with
        | true =>
          as_aux_lemma =>
            have HR := Lib.hid (show res = none by
              have hq := HI.out.r.trans HD.out.1
              rcases of_decide_eq_true HB0.out.symm with h | h
              · exact HI.out.bad (not_zero hq (by have := HCV.out; omega)) (rchunk_mid hq (by have := HCV.out; omega) (by have := HCV.out; omega))
              · exact HI.out.bad (not_zero hq (by have := HCV.out; omega)) (rchunk_short (by rw [HI.out.r, List.length_drop]; have := HH.out; omega)))
            clear l0 i2 i1
            go_wp2_with fail
            go_ret2
            exact ⟨HI.out.mem.bel, .inl ⟨HR.out, rfl⟩⟩
        | false =>
          as_aux_lemma =>
            have hbb := of_decide_eq_false HB0.out.symm
            have ha3 : a + 3 ≤ n := by omega
            have hnn := HH.out.1
            obtain ⟨hb, r1, hd1⟩ := drop_cons (bs := bs) (a := a + 1) (by omega)
            obtain ⟨hh1, hh2, _⟩ := drop_one hd1
            obtain ⟨gb, r3, hd2⟩ := drop_cons (bs := bs) (a := a + 1 + 1) (by omega)
            obtain ⟨hg1, hg2, _⟩ := drop_one hd2
            have hqr : q.r = cb :: hb :: gb :: r3 := by rw [HI.out.r, HD.out.1, ← HD.out.2, hd1, ← hh2, hd2]
            obtain ⟨F, hF⟩ : ∃ F, F = a + 3 := ⟨_, rfl⟩
            have HQ := Lib.hid (show q.r = cb :: hb :: gb :: r3 ∧ bs.drop F = r3 ∧ F = a + 3 ∧ F ≤ n ∧ ¬ (2 < cv ∧ cv < 128) from ⟨hqr, by rw [hF]; exact hg2, hF, by omega, fun h => hbb (.inl h)⟩)
            obtain ⟨qb', ob', e', hqb, hcb⟩ := HSR.out.2 (by omega)
            injection e' with e'
            injection e' with e1 e2
            subst e1 e2
            obtain ⟨hv, hhv⟩ : ∃ v, v = hb.toNat := ⟨_, rfl⟩
            obtain ⟨gv, hgv⟩ : ∃ v, v = gb.toNat := ⟨_, rfl⟩
            obtain ⟨m, hm⟩ : ∃ m, m = cnt2 hb gb := ⟨_, rfl⟩
            have hhl : hv < 256 := by rw [hhv]; exact hb.toNat_lt
            have hgl : gv < 256 := by rw [hgv]; exact gb.toNat_lt
            have l1 : wr.cell? ⟨qb, ob + (a + 1), none⟩ = some (.int .u8 (hv : Int)) := (hcb (a + 1) (by omega)).trans (by simp [bv, hh1, hhv])
            have l2 : wr.cell? ⟨qb, ob + (a + 2), none⟩ = some (.int .u8 (gv : Int)) := (hcb (a + 2) (by omega)).trans (by have : bs[a + 2]? = some gb := hg1; simp [bv, this, hgv])
            have hmv : m = 256 * hv + gv + 1 := by rw [hm, hhv, hgv]; rfl
            have HM := Lib.hid (show m = cnt2 hb gb ∧ 1 ≤ m ∧ m ≤ 65536 from ⟨hm, by omega, by omega⟩)
            have HE := Lib.hid (ru_nums (show a ≤ 10000000 by have := HH.out; omega) hhl hgl hmv)
            have k1 : (0 : Int) ≤ (a : Int) + 1 ∧ (a : Int) + 1 < (n : Int) := by omega
            have k2 : (0 : Int) ≤ (a : Int) + 2 ∧ (a : Int) + 2 < (n : Int) := by omega
            clear hbb hnn hd1 hh1 hh2 hd2 hg1 hg2 hqr hF hqb hcb hhv hgv hm hmv ha3
            go_upto_region 14 with fail
            go_cut [17] from 63 to 77 (fun v wx => v = .int .i64 (m : Int) ∧ Only (fun _ => False) wr wx)
            case first =>
              as_aux_lemma =>
                have HE2 := Lib.hid (show wrap64 (wrap64 (256 * (hv : Int) + wrap64 (gv : Int)) + 1) = (m : Int) from by obtain ⟨_, _, f5, f6, f7, f8, f9⟩ := HE.out; rw [f9, f6, f7])
                have HE3 := Lib.hid (show wrap64 (wrap64 (wrap64 (256 * wrap64 (hv : Int)) + wrap64 (gv : Int)) + 1) = (m : Int) from by obtain ⟨_, _, f5, f6, f7, f8, f9⟩ := HE.out; rw [f9, f8, f5, f6, f7])
                obtain ⟨e3, e4, e5, e6, e7, -, -⟩ := HE.out
                obtain ⟨k1, k1'⟩ := k1
                obtain ⟨k2, k2'⟩ := k2
                clear l0 i2 i1 HB0
                go_quiet (fail)
                go_wp2_with fail
                go_meet
                exact ⟨by first | rfl | trivial | exact congrArg (Value.int .i64) HE2.out | exact congrArg (Value.int .i64) HE3.out, by first | exact Only.refl _ _ | exact (Only.refl _ _).drew | exact (Only.refl _ _).drewN _⟩
            case rest =>
            obtain ⟨rfl, hO⟩ := hcut
            have HI2 := Lib.hid (HI.out.still hO)
            have HSR2 := Lib.hid (HSR.out.only hO (fun _ _ _ _ h => h))
            clear hO HI HSR l0 l1 l2 k1 k2 hhl hgl HE HB0
            generalize wc = wx at *
            clear wr
            go_upto_region 15 with fail
            go_cut [15] from 78 to 79 (fun v wy => v = .int .i64 (F : Int) ∧ wy = wx)
            case first =>
              as_aux_lemma =>
                have e3 : wrap64 ((a : Int) + 3) = (F : Int) := ru_add3 (by have := HH.out; have := HQ.out; omega) HQ.out.2.2.1
                go_wp2_with fail
                go_meet
                exact ⟨by first | rfl | rw [e3], rfl⟩
            case rest =>
            obtain ⟨rfl, hw⟩ := hcut
            rw [hw]
            clear hw wc
            by_cases hc2 : cv ≤ 2
            · have j1 : (cv : Int) ≤ 2 := Int.ofNat_le.2 hc2
              go_upto_if 83 with fail
              obtain ⟨nd1, hnd1⟩ : ∃ x, x = (if cb.toNat = 1 then 6 else q.nd) := ⟨_, rfl⟩
              obtain ⟨z1, hz1'⟩ : ∃ x, x = (if cb.toNat = 1 then { q.z with out := [] } else q.z) := ⟨_, rfl⟩
              obtain ⟨em1, hem1⟩ : ∃ x, x = decide (nd1 ≠ 7) := ⟨_, rfl⟩
              obtain ⟨st1, hst1⟩ : ∃ x, x = decide (nd1 = 0) := ⟨_, rfl⟩
              have HN1 := Lib.hid (And.intro hnd1 (And.intro hz1' (And.intro hem1 hst1)))
              clear hnd1 hz1' hem1 hst1
              go_cut [12, 13, 14] from 80 to 86 (fun v12 v13 v14 wy => v12 = .bool em1 ∧ v13 = .bool st1 ∧ v14 = .bool st1 ∧ ∃ G1, R11 (fun _ => False) Ku w g z1 ⟨q.ps, ()⟩ out Ro cl G1 wy)
              case first =>
                as_aux_lemma =>
                  by_cases hc1 : cv = 1
                  · have j2 : ((cv : Int) == 1) = true := by simp [hc1]
                    obtain ⟨A7, c7, _, _, hw7⟩ := HI2.out.mem.win
                    obtain ⟨d7, f7, _⟩ := hw7 wx (Only.refl _ _)
                    have hcb1 : cb.toNat = 1 := by rw [← HCV.out.1]; exact hc1
                    have HX := Lib.hid (show em1 = true ∧ st1 = false ∧ z1 = { q.z with out := [] } by
                      obtain ⟨x1, x2, x3, x4⟩ := HN1.out
                      rw [if_pos hcb1] at x1 x2
                      subst x1
                      exact ⟨x3, x4, x2⟩)
                    obtain ⟨G', hG'⟩ := HI2.out.mem.window (xs := []) (A' := none) (c' := 0) (Below.refl _ _) (Nat.le_refl _) (World.ownsRow_nil _ _ _ _)
                    have HG' := Lib.hid hG'
                    clear hc1 hw7 hG' hcb1
                    go_wp2_with fail
                    go_meet
                    exact ⟨by rw [HX.out.1], by rw [HX.out.2.1], by rw [HX.out.2.1], G', by rw [HX.out.2.2]; exact HG'.out⟩
                  · have j2 : ((cv : Int) == 1) = false := by simp; omega
                    have HX := Lib.hid (show em1 = em ∧ st1 = st ∧ z1 = q.z by
                      obtain ⟨x1, x2, x3, x4⟩ := HN1.out
                      rw [if_neg (by rw [← HCV.out.1]; exact hc1)] at x1 x2
                      subst x1
                      exact ⟨x3.trans HI2.out.em.symm, x4.trans HI2.out.st.symm, x2⟩)
                    clear hc1
                    go_wp2_with fail
                    go_meet
                    exact ⟨by rw [HX.out.1], by rw [HX.out.2.1], by rw [HX.out.2.1], G, by rw [HX.out.2.2]; exact HI2.out.mem⟩
              case rest =>
              obtain ⟨rfl, rfl, rfl, G1, hr1⟩ := hcut
              generalize wc = wy at *
              have HR1 := Lib.hid hr1
              clear hr1
              obtain ⟨T, hT⟩ : ∃ T, T = F + m := ⟨_, rfl⟩
              obtain ⟨b1, hb1⟩ : ∃ b, b = decide (nd1 = 7 ∨ n < T ∨ K < out.length + m) := ⟨_, rfl⟩
              have HB1 := Lib.hid (And.intro hb1 (show T = F + m ∧ T ≤ 20000000 from ⟨hT, by have := HM.out; have := HQ.out; have := HH.out; omega⟩))
              clear hb1 hT
              have HOL := Lib.hid HI2.out.ol
              go_upto_region 22 with fail
              go_cut [104] from 87 to 104 (fun v wz => v = .bool b1 ∧ wz = wy)
              case first =>
                as_aux_lemma =>
                  have HE := Lib.hid (show wrap64 ((F : Int) + (m : Int)) = (T : Int) ∧ wrap64 ((out.length : Int) + (m : Int)) = (out.length : Int) + (m : Int) from ⟨ru_add (by have := HB1.out; omega) HB1.out.2.1, IntWalk.wrap64_in _ (by have := HOL.out; have := HK.out; have := HM.out; omega)⟩)
                  clear j1
                  cases em1 with
                  | false =>
                    have HX := Lib.hid (show b1 = true by rw [HB1.out.1]; refine decide_eq_true (.inl ?_); have := of_decide_eq_false HN1.out.2.2.1.symm; omega)
                    go_wp2_with fail
                    go_meet
                    exact ⟨congrArg Value.bool HX.out.symm, rfl⟩
                  | true =>
                    have h7 := of_decide_eq_true HN1.out.2.2.1.symm
                    by_cases h2 : n < T
                    · have j2 : (T : Int) > (n : Int) := by omega
                      have HX := Lib.hid (show b1 = true by rw [HB1.out.1]; exact decide_eq_true (.inr (.inl h2)))
                      obtain ⟨e1, e2⟩ := HE.out
                      clear h2 h7
                      go_wp2_with fail
                      go_meet
                      exact ⟨congrArg Value.bool HX.out.symm, rfl⟩
                    · have j2 : ¬ (T : Int) > (n : Int) := by omega
                      by_cases h3 : K < out.length + m
                      · have j3 : (out.length : Int) + (m : Int) > size := by have := HK.out; have := HM.out; omega
                        have HX := Lib.hid (show b1 = true by rw [HB1.out.1]; exact decide_eq_true (.inr (.inr h3)))
                        obtain ⟨e1, e2⟩ := HE.out
                        clear h2 h7 h3
                        go_wp2_with fail
                        go_meet
                        exact ⟨congrArg Value.bool HX.out.symm, rfl⟩
                      · have j3 : ¬ (out.length : Int) + (m : Int) > size := by have := HK.out; have := HM.out; omega
                        have HX := Lib.hid (show b1 = false by rw [HB1.out.1]; exact decide_eq_false (by omega))
                        obtain ⟨e1, e2⟩ := HE.out
                        clear h2 h7 h3
                        go_wp2_with fail
                        go_meet
                        exact ⟨congrArg Value.bool HX.out.symm, rfl⟩
              case rest =>
              obtain ⟨rfl, hw⟩ := hcut
              rw [hw]
              clear hw wc
              have HCN := Lib.hid (show chunkN q = plainC nd1 z1 q.ps r3 m ∧ q.r ≠ [0] ∧ r3.length = n - F from by
                refine ⟨?_, not_zero HQ.out.1 (by have := HCV.out; omega), ?_⟩
                · rw [HN1.out.1, HN1.out.2.1, HM.out.1]
                  exact ru_plain HQ.out.1 (by have := HCV.out.1; omega) (by have := HCV.out; omega)
                · rw [← HQ.out.2.1, List.length_drop, HH.out.1])
              have HND := Lib.hid (show nd1 = 0 ∨ nd1 = 6 ∨ nd1 = 7 from by
                have h := HN1.out.1
                by_cases hx : cb.toNat = 1
                · rw [if_pos hx] at h
                  exact .inr (.inl h)
                · rw [if_neg hx] at h
                  rw [h]
                  exact HI2.out.ok.nd)
              cases b1 with
              | true =>
                as_aux_lemma =>
                  have HR := Lib.hid (show res = none by
                    rcases of_decide_eq_true HB1.out.1.symm with h | h | h
                    · exact HI2.out.bad HCN.out.2.1 (HCN.out.1.trans (plain_no (.inl (by omega))))
                    · exact HI2.out.bad HCN.out.2.1 (HCN.out.1.trans (plain_no (.inr (by have := HCN.out.2.2; have := HB1.out; have := HQ.out; omega))))
                    · exact HI2.out.over HCN.out.2.1 (m := m) (fun xs q' h => plainC_len (HCN.out.1.symm.trans h)) h)
                  go_wp2_with fail
                  go_ret2
                  exact ⟨HR1.out.bel, .inl ⟨HR.out, rfl⟩⟩
              | false =>
                as_aux_lemma =>
                  have hbb := of_decide_eq_false HB1.out.1.symm
                  have hTn : T ≤ n := by omega
                  have hKm : out.length + m ≤ K := by omega
                  obtain ⟨xs, hxs⟩ : ∃ xs, xs = r3.take m := ⟨_, rfl⟩
                  have HXS := Lib.hid (show xs = r3.take m ∧ xs.length = m ∧ T - F = m ∧ T ≤ n ∧ out.length + m ≤ K from ⟨hxs, by rw [hxs, List.length_take, HCN.out.2.2]; have := HB1.out; omega, by have := HB1.out; omega, hTn, hKm⟩)
                  have HCY := Lib.hid (show chunkN q = some (xs, ⟨nd1, { z1 with out := z1.out ++ xs }, q.ps, r3.drop m⟩) ∧ nd1 ≠ 7 from by
                    refine ⟨?_, fun h => hbb (.inl h)⟩
                    rw [HCN.out.1, hxs]
                    refine plain_yes (fun h => ?_)
                    rcases h with h | h
                    · rcases HND.out with h1 | h1 | h1
                      · omega
                      · omega
                      · exact hbb (.inl h1)
                    · have := HCN.out.2.2
                      have := HB1.out
                      omega)
                  clear hbb hTn hKm hxs
                  have HSC := Lib.hid (show ∀ W, Below w.heap.size w W → Sl W (some ⟨qb, ob + F, none⟩) (T - F) (bv xs) from fun W hW => by
                    have h := (sl_mid HS.out (show F ≤ T by have := HB1.out; omega) HXS.out.2.2.2.1).below hW
                    rw [HQ.out.2.1, HXS.out.2.2.1, ← HXS.out.1] at h
                    rw [HXS.out.2.2.1]
                    exact h)
                  have HSX := Lib.hid (show (F : Int) ≤ (T : Int) ∧ (T : Int) ≤ (c : Int) ∧ ¬ c = F from by
                    have := HB1.out; have := HXS.out; have := HH.out; have := HM.out
                    exact ⟨by omega, by omega, by omega⟩)
                  have HBY := Lib.hid (show (out.length + (T - F)) * 1 ≤ 140737488355328 by have := HXS.out; have := HK.out; omega)
                  obtain ⟨s1, s2, s3⟩ := HSX.out
                  clear j1
                  have s0 : wrap64 ((F : Int) + (m : Int)) = (T : Int) := ru_add (by have := HB1.out; omega) HB1.out.2.1
                  go_wp2_with (first
                    | (at_builtin; refine wpList_appO _ rfl (.tmp 105) (.tmp 111) 22 rfl w.heap.size 5 iu _ 1 Tryz.underlying22 hiu hz0 hz1 hz2 rfl _ out.length _ rfl HR1.out.row _ (T - F) _ (bv xs) rfl (HSC.out _ HR1.out.bel) (bv_one _) HBY.out (by decide) HR1.out.bel.size ?_)
                    | fail)
                  intro A6 c6 w6 ho6 hg6 hn6
                  have hr6 := HR1.out.apps (news := xs) ku_mem (fun _ h => h.elim) (HXS.out.2.1.trans HXS.out.2.2.1.symm) ho6 hg6 hn6
                  have hol : out.length + (T - F) = (out ++ xs).length := by rw [List.length_append, HXS.out.2.1, HXS.out.2.2.1]
                  obtain ⟨o2, ho2⟩ : ∃ o2, o2 = out ++ xs := ⟨_, rfl⟩
                  rw [← ho2] at hr6 hol
                  have HR6 := Lib.hid hr6
                  have HO2 := Lib.hid ho2
                  rw [hol]
                  clear ho6 hg6 hn6 hr6 hol ho2 HR1 s1 s2 s3 s0 HBY
                  go_upto_region 25 with fail
                  go_cut [] from 105 to 128 (fun wz => ∃ G2, R11 (fun _ => False) Ku w g { z1 with out := z1.out ++ xs } ⟨q.ps, ()⟩ o2 A6 c6 G2 wz)
                  case first =>
                    as_aux_lemma =>
                      obtain ⟨A7, c7, h7a, h7b, hw7⟩ := HR6.out.win
                      have HW7 := Lib.hid hw7
                      have HBY := Lib.hid (show (0 + z1.out.length) * 1 ≤ 140737488355328 ∧ (z1.out.length + (T - F)) * 1 ≤ 140737488355328 by
                        have h1 := HXS.out
                        have h2 := HK.out
                        have h3 : z1.out.length ≤ q.z.out.length := by
                          rw [HN1.out.2.1]
                          split
                          · exact Nat.zero_le _
                          · exact Nat.le_refl _
                        have h4 := HI2.out.zl
                        have h5 := HI2.out.ol
                        omega)
                      have d7 : w6.cell? ⟨g, 7, none⟩ = some (.slice A7 z1.out.length c7) := (hw7 w6 (Only.refl _ _)).1
                      have d7a : ∀ o : Obj, (w6.alloc o).cell? ⟨g, 7, none⟩ = some (.slice A7 z1.out.length c7) := fun o => (hw7 _ ((Only.refl _ _).alloc o)).1
                      obtain ⟨s1, s2, s3⟩ := HSX.out
                      have s4 : F ≤ T := by have := HB1.out; omega
                      have s0 : IntKind.i64.wrap ((F : Int) + (m : Int)) = (T : Int) := ru_addw (Nat.le_trans (Nat.le_of_eq HB1.out.2.1.symm) (Nat.le_trans HB1.out.2.2 (by decide))) HB1.out.2.1
                      clear hw7 h7a h7b
                      go_wp2_with fail
                      refine wp_region_held_drew (S := fun _ => True) (by kernel_rfl) trivial (fun hHeld => ?_)
                      refine wpAnyH_take (i := 0) (v := ?_) rfl (by kernel_rfl) (by kernel_rfl) (by kernel_rfl) (fun _ _ _ h => h) (Or.inl ⟨by rfl, ?_⟩) (by assumption) ?_
                      rotate_left
                      · (intro w hSw; (try dsimp only at hSw); go_simp; try with_reducible rfl)
                      try simp only [Act.put, List.setIfInBounds_toArray, List.set_cons_zero, List.set_cons_succ, List.getElem_toArray, List.getElem_cons_zero, List.getElem_cons_succ]
                      refine wpAnyH_take (i := 2) (v := ?_) rfl (by kernel_rfl) (by kernel_rfl) (by kernel_rfl) (fun _ _ _ h => h) (Or.inl ⟨by rfl, ?_⟩) (by assumption) ?_
                      rotate_left
                      · (intro w hSw; (try dsimp only at hSw); go_simp; try with_reducible rfl)
                      try simp only [Act.put, List.setIfInBounds_toArray, List.set_cons_zero, List.set_cons_succ, List.getElem_toArray, List.getElem_cons_zero, List.getElem_cons_succ]
                      refine wpAnyH_take (i := 3) (v := ?_) rfl (by kernel_rfl) (by kernel_rfl) (by kernel_rfl) (fun _ _ _ h => h) (Or.inl ⟨by rfl, ?_⟩) (by assumption) ?_
                      rotate_left
                      · (intro w hSw; (try dsimp only at hSw); go_simp; try with_reducible rfl)
                      try simp only [Act.put, List.setIfInBounds_toArray, List.set_cons_zero, List.set_cons_succ, List.getElem_toArray, List.getElem_cons_zero, List.getElem_cons_succ]
                      refine wpAnyH_take (i := 4) (v := ?_) rfl (by kernel_rfl) (by kernel_rfl) (by kernel_rfl) (fun _ _ _ h => h) (Or.inl ⟨by rfl, ?_⟩) (by assumption) ?_
                      rotate_left
                      · (intro w hSw; (try dsimp only at hSw); go_simp; try with_reducible rfl)
                      try simp only [Act.put, List.setIfInBounds_toArray, List.set_cons_zero, List.set_cons_succ, List.getElem_toArray, List.getElem_cons_zero, List.getElem_cons_succ]
                      refine wpAnyH_take (i := 7) (v := ?_) rfl (by kernel_rfl) (by kernel_rfl) (by kernel_rfl) (fun _ _ _ h => h) (Or.inl ⟨by rfl, ?_⟩) (by assumption) ?_
                      rotate_left
                      · (intro w hSw; (try dsimp only at hSw); go_simp; try with_reducible rfl)
                      try simp only [Act.put, List.setIfInBounds_toArray, List.set_cons_zero, List.set_cons_succ, List.getElem_toArray, List.getElem_cons_zero, List.getElem_cons_succ]
                      refine wpAnyH_take (i := 8) (v := ?_) rfl (by kernel_rfl) (by kernel_rfl) (by kernel_rfl) (fun _ _ _ h => h) (Or.inl ⟨by rfl, ?_⟩) (by assumption) ?_
                      rotate_left
                      · (intro w hSw; (try dsimp only at hSw); go_simp; try with_reducible rfl)
                      try simp only [Act.put, List.setIfInBounds_toArray, List.set_cons_zero, List.set_cons_succ, List.getElem_toArray, List.getElem_cons_zero, List.getElem_cons_succ]
                      refine wpAnyH_take (i := 9) (v := ?_) rfl (by kernel_rfl) (by kernel_rfl) (by kernel_rfl) (fun _ _ _ h => h) (Or.inl ⟨by rfl, ?_⟩) (by assumption) ?_
                      rotate_left
                      · (intro w hSw; (try dsimp only at hSw); go_simp; try with_reducible rfl)
                      try simp only [Act.put, List.setIfInBounds_toArray, List.set_cons_zero, List.set_cons_succ, List.getElem_toArray, List.getElem_cons_zero, List.getElem_cons_succ]
                      refine wpAnyH_take (i := 10) (v := ?_) rfl (by kernel_rfl) (by kernel_rfl) (by kernel_rfl) (fun _ _ _ h => h) (Or.inl ⟨by rfl, ?_⟩) (by assumption) ?_
                      rotate_left
                      · (intro w hSw; (try dsimp only at hSw); go_simp; try with_reducible rfl)
                      try simp only [Act.put, List.setIfInBounds_toArray, List.set_cons_zero, List.set_cons_succ, List.getElem_toArray, List.getElem_cons_zero, List.getElem_cons_succ]
                      refine wpAnyH_take (i := 11) (v := ?_) rfl (by kernel_rfl) (by kernel_rfl) (by kernel_rfl) (fun _ _ _ h => h) (Or.inl ⟨by rfl, ?_⟩) (by assumption) ?_
                      rotate_left
                      · (intro w hSw; (try dsimp only at hSw); go_simp; try with_reducible rfl)
                      try simp only [Act.put, List.setIfInBounds_toArray, List.set_cons_zero, List.set_cons_succ, List.getElem_toArray, List.getElem_cons_zero, List.getElem_cons_succ]
                      refine wpAnyH_take (i := 12) (v := ?_) rfl (by kernel_rfl) (by kernel_rfl) (by kernel_rfl) (fun _ _ _ h => h) (Or.inl ⟨by rfl, ?_⟩) (by assumption) ?_
                      rotate_left
                      · (intro w hSw; (try dsimp only at hSw); go_simp; try with_reducible rfl)
                      try simp only [Act.put, List.setIfInBounds_toArray, List.set_cons_zero, List.set_cons_succ, List.getElem_toArray, List.getElem_cons_zero, List.getElem_cons_succ]
                      refine wpAnyH_ready (rs := [1, 5]) (by kernel_rfl) (by simp) (AllReadyH.cons (i := 1) rfl (fun K hK => ?_) (AllReadyH.cons (i := 5) rfl (fun K hK => ?_) AllReadyH.nil))
                      · try simp only [List.getElem_toArray, List.getElem_cons_zero, List.getElem_cons_succ]
                        go_simp
                        refine hK.out _ _ trivial (fun hHeld => ?_)
                        clear hK K
                        try simp only [Act.put, List.setIfInBounds_toArray, List.set_cons_zero, List.set_cons_succ]
                        refine wpAnyH_ready (rs := [5]) (by kernel_rfl) (by simp) (AllReadyH.cons (i := 5) rfl (fun K hK => ?_) AllReadyH.nil)
                        try simp only [List.getElem_toArray, List.getElem_cons_zero, List.getElem_cons_succ]
                        go_simp
                        refine hK.out _ _ trivial (fun hHeld => ?_)
                        clear hK K
                        try simp only [Act.put, List.setIfInBounds_toArray, List.set_cons_zero, List.set_cons_succ]
                        refine wpAnyH_ready (rs := [6]) (by kernel_rfl) (by simp) (AllReadyH.cons (i := 6) rfl (fun K hK => ?_) AllReadyH.nil)
                        try simp only [List.getElem_toArray, List.getElem_cons_zero, List.getElem_cons_succ]
                        refine step_appT _ rfl (.tmp 114) (.tmp 118) 22 rfl w6.heap.size 5 iu _ 1 Tryz.underlying22 hiu hz0 hz1 hz2 rfl _ 0 [] rfl (own_empty w6 (Nat.le_refl _) _) A7 z1.out.length c7 (bv z1.out) rfl (HW7.out _ (by first | exact ((Only.refl _ w6).alloc _).drew | exact ((Only.refl _ w6).alloc _) | exact ((Only.refl _ w6).drew.alloc _) | exact ((Only.refl _ w6).drewN _).alloc _ | exact ((Only.refl _ w6).alloc _).drewN _)).2.2 (bv_one _) HBY.out.1 (by decide) ((Only.refl (fun _ => False) w6).alloc (.cells #[] 5)).size ?_
                        intro A8 c8 w8 ho8 hg8 hn8
                        have HB8 := Lib.hid (ru_grown (w6 := w6) (by first | exact ((Only.refl _ w6).alloc _).drew | exact ((Only.refl _ w6).alloc _) | exact ((Only.refl _ w6).drew.alloc _) | exact ((Only.refl _ w6).drewN _).alloc _ | exact ((Only.refl _ w6).alloc _).drewN _) hg8 (fun k e => by have e2 : some w6.heap.size = some k := e; injection e2 with e2; exact Nat.le_of_eq e2))
                        have HO8 := Lib.hid (show w8.ownsRow w6.heap.size 5 1 (.slice A8 z1.out.length c8) z1.out.length (bv z1.out) from by simpa using ho8)
                        clear ho8 hg8 hn8
                        refine hK.out _ _ trivial (fun hHeld => ?_)
                        clear hK K
                        try simp only [Act.put, List.setIfInBounds_toArray, List.set_cons_zero, List.set_cons_succ, Nat.zero_add]
                        refine wpAnyH_ready (rs := [13]) (by kernel_rfl) (by simp) (AllReadyH.cons (i := 13) rfl (fun K hK => ?_) AllReadyH.nil)
                        try simp only [List.getElem_toArray, List.getElem_cons_zero, List.getElem_cons_succ]
                        refine step_appT _ rfl (.tmp 119) (.tmp 125) 22 rfl w6.heap.size 5 iu _ 1 Tryz.underlying22 hiu hz0 hz1 hz2 rfl (.slice A8 z1.out.length c8) z1.out.length (bv z1.out) rfl HO8.out (some ⟨qb, ob + F, none⟩) (T - F) (c - F) (bv xs) rfl (HSC.out _ (HR6.out.bel.trans (HB8.out.mono HR6.out.bel.size))) (bv_one _) HBY.out.2 (by decide) HB8.out.size ?_
                        intro A9 c9 w9 ho9 hg9 hn9
                        have HB9 := Lib.hid (show Below w6.heap.size w6 w9 from HB8.out.grown hg9 HB8.out.size (fun k e => (World.ownsRow.lt HO8.out k e).1))
                        have HO9 := Lib.hid ho9
                        have d9 := (HW7.out w9 (Only.of_below HB9.out)).1
                        have f9 := (HW7.out w9 (Only.of_below HB9.out)).2.1
                        clear ho9 hg9 hn9
                        refine hK.out _ _ trivial (fun hHeld => ?_)
                        clear hK K
                        try simp only [Act.put, List.setIfInBounds_toArray, List.set_cons_zero, List.set_cons_succ]
                        refine wpAnyH_take (i := 14) (v := ?_) rfl (by kernel_rfl) (by kernel_rfl) (by kernel_rfl) (fun _ _ _ h => h) (Or.inl ⟨by rfl, ?_⟩) (by assumption) ?_
                        rotate_left
                        · (intro w hSw; (try dsimp only at hSw); go_simp; try with_reducible rfl)
                        try simp only [Act.put, List.setIfInBounds_toArray, List.set_cons_zero, List.set_cons_succ, List.getElem_toArray, List.getElem_cons_zero, List.getElem_cons_succ]
                        refine wpAnyH_take (i := 15) (v := ?_) rfl (by kernel_rfl) (by kernel_rfl) (by kernel_rfl) (fun _ _ _ h => h) (Or.inl ⟨by rfl, ?_⟩) (by assumption) ?_
                        rotate_left
                        · (intro w hSw; (try dsimp only at hSw); go_simp; try with_reducible rfl)
                        try simp only [Act.put, List.setIfInBounds_toArray, List.set_cons_zero, List.set_cons_succ, List.getElem_toArray, List.getElem_cons_zero, List.getElem_cons_succ]
                        refine wpAnyH_ready (rs := [16]) (by kernel_rfl) (by simp) (AllReadyH.cons (i := 16) rfl (fun K hK => ?_) AllReadyH.nil)
                        try simp only [List.getElem_toArray, List.getElem_cons_zero, List.getElem_cons_succ]
                        go_simp
                        refine hK.out _ _ trivial (fun hHeld => ?_)
                        clear hK K
                        try simp only [Act.put, List.setIfInBounds_toArray, List.set_cons_zero, List.set_cons_succ]
                        refine wpAnyH_done (by kernel_rfl) ?_ _
                        have HW9 := Lib.hid (show ∃ G', R11 (fun _ => False) Ku w g { z1 with out := z1.out ++ xs } ⟨q.ps, ()⟩ o2 A6 c6 G' (w9.setCell ⟨g, 7, none⟩ (.slice A9 (z1.out.length + (T - F)) c9)) from by
                          have e : z1.out.length + (T - F) = (z1.out ++ xs).length := by rw [List.length_append, HXS.out.2.1, HXS.out.2.2.1]
                          have ho := HO9.out
                          rw [← bv_append] at ho
                          rw [e] at ho ⊢
                          exact HR6.out.window HB9.out (Nat.le_refl _) ho)
                        clear HB8 HO8 HB9 HO9 d7 d7a
                        go_wp2_with fail
                        go_meet
                        exact HW9.out
                      · try simp only [List.getElem_toArray, List.getElem_cons_zero, List.getElem_cons_succ]
                        go_simp
                        refine hK.out _ _ trivial (fun hHeld => ?_)
                        clear hK K
                        try simp only [Act.put, List.setIfInBounds_toArray, List.set_cons_zero, List.set_cons_succ]
                        refine wpAnyH_ready (rs := [1]) (by kernel_rfl) (by simp) (AllReadyH.cons (i := 1) rfl (fun K hK => ?_) AllReadyH.nil)
                        try simp only [List.getElem_toArray, List.getElem_cons_zero, List.getElem_cons_succ]
                        go_simp
                        refine hK.out _ _ trivial (fun hHeld => ?_)
                        clear hK K
                        try simp only [Act.put, List.setIfInBounds_toArray, List.set_cons_zero, List.set_cons_succ]
                        refine wpAnyH_ready (rs := [6]) (by kernel_rfl) (by simp) (AllReadyH.cons (i := 6) rfl (fun K hK => ?_) AllReadyH.nil)
                        try simp only [List.getElem_toArray, List.getElem_cons_zero, List.getElem_cons_succ]
                        refine step_appT _ rfl (.tmp 114) (.tmp 118) 22 rfl w6.heap.size 5 iu _ 1 Tryz.underlying22 hiu hz0 hz1 hz2 rfl _ 0 [] rfl (own_empty w6 (Nat.le_refl _) _) A7 z1.out.length c7 (bv z1.out) rfl (HW7.out _ (by first | exact ((Only.refl _ w6).alloc _).drew | exact ((Only.refl _ w6).alloc _) | exact ((Only.refl _ w6).drew.alloc _) | exact ((Only.refl _ w6).drewN _).alloc _ | exact ((Only.refl _ w6).alloc _).drewN _)).2.2 (bv_one _) HBY.out.1 (by decide) ((Only.refl (fun _ => False) w6).alloc (.cells #[] 5)).size ?_
                        intro A8 c8 w8 ho8 hg8 hn8
                        have HB8 := Lib.hid (ru_grown (w6 := w6) (by first | exact ((Only.refl _ w6).alloc _).drew | exact ((Only.refl _ w6).alloc _) | exact ((Only.refl _ w6).drew.alloc _) | exact ((Only.refl _ w6).drewN _).alloc _ | exact ((Only.refl _ w6).alloc _).drewN _) hg8 (fun k e => by have e2 : some w6.heap.size = some k := e; injection e2 with e2; exact Nat.le_of_eq e2))
                        have HO8 := Lib.hid (show w8.ownsRow w6.heap.size 5 1 (.slice A8 z1.out.length c8) z1.out.length (bv z1.out) from by simpa using ho8)
                        clear ho8 hg8 hn8
                        refine hK.out _ _ trivial (fun hHeld => ?_)
                        clear hK K
                        try simp only [Act.put, List.setIfInBounds_toArray, List.set_cons_zero, List.set_cons_succ, Nat.zero_add]
                        refine wpAnyH_ready (rs := [13]) (by kernel_rfl) (by simp) (AllReadyH.cons (i := 13) rfl (fun K hK => ?_) AllReadyH.nil)
                        try simp only [List.getElem_toArray, List.getElem_cons_zero, List.getElem_cons_succ]
                        refine step_appT _ rfl (.tmp 119) (.tmp 125) 22 rfl w6.heap.size 5 iu _ 1 Tryz.underlying22 hiu hz0 hz1 hz2 rfl (.slice A8 z1.out.length c8) z1.out.length (bv z1.out) rfl HO8.out (some ⟨qb, ob + F, none⟩) (T - F) (c - F) (bv xs) rfl (HSC.out _ (HR6.out.bel.trans (HB8.out.mono HR6.out.bel.size))) (bv_one _) HBY.out.2 (by decide) HB8.out.size ?_
                        intro A9 c9 w9 ho9 hg9 hn9
                        have HB9 := Lib.hid (show Below w6.heap.size w6 w9 from HB8.out.grown hg9 HB8.out.size (fun k e => (World.ownsRow.lt HO8.out k e).1))
                        have HO9 := Lib.hid ho9
                        have d9 := (HW7.out w9 (Only.of_below HB9.out)).1
                        have f9 := (HW7.out w9 (Only.of_below HB9.out)).2.1
                        clear ho9 hg9 hn9
                        refine hK.out _ _ trivial (fun hHeld => ?_)
                        clear hK K
                        try simp only [Act.put, List.setIfInBounds_toArray, List.set_cons_zero, List.set_cons_succ]
                        refine wpAnyH_take (i := 14) (v := ?_) rfl (by kernel_rfl) (by kernel_rfl) (by kernel_rfl) (fun _ _ _ h => h) (Or.inl ⟨by rfl, ?_⟩) (by assumption) ?_
                        rotate_left
                        · (intro w hSw; (try dsimp only at hSw); go_simp; try with_reducible rfl)
                        try simp only [Act.put, List.setIfInBounds_toArray, List.set_cons_zero, List.set_cons_succ, List.getElem_toArray, List.getElem_cons_zero, List.getElem_cons_succ]
                        refine wpAnyH_take (i := 15) (v := ?_) rfl (by kernel_rfl) (by kernel_rfl) (by kernel_rfl) (fun _ _ _ h => h) (Or.inl ⟨by rfl, ?_⟩) (by assumption) ?_
                        rotate_left
                        · (intro w hSw; (try dsimp only at hSw); go_simp; try with_reducible rfl)
                        try simp only [Act.put, List.setIfInBounds_toArray, List.set_cons_zero, List.set_cons_succ, List.getElem_toArray, List.getElem_cons_zero, List.getElem_cons_succ]
                        refine wpAnyH_ready (rs := [16]) (by kernel_rfl) (by simp) (AllReadyH.cons (i := 16) rfl (fun K hK => ?_) AllReadyH.nil)
                        try simp only [List.getElem_toArray, List.getElem_cons_zero, List.getElem_cons_succ]
                        go_simp
                        refine hK.out _ _ trivial (fun hHeld => ?_)
                        clear hK K
                        try simp only [Act.put, List.setIfInBounds_toArray, List.set_cons_zero, List.set_cons_succ]
                        refine wpAnyH_done (by kernel_rfl) ?_ _
                        have HW9 := Lib.hid (show ∃ G', R11 (fun _ => False) Ku w g { z1 with out := z1.out ++ xs } ⟨q.ps, ()⟩ o2 A6 c6 G' (w9.setCell ⟨g, 7, none⟩ (.slice A9 (z1.out.length + (T - F)) c9)) from by
                          have e : z1.out.length + (T - F) = (z1.out ++ xs).length := by rw [List.length_append, HXS.out.2.1, HXS.out.2.2.1]
                          have ho := HO9.out
                          rw [← bv_append] at ho
                          rw [e] at ho ⊢
                          exact HR6.out.window HB9.out (Nat.le_refl _) ho)
                        clear HB8 HO8 HB9 HO9 d7 d7a
                        go_wp2_with fail
                        go_meet
                        exact HW9.out
                  case rest =>
                  obtain ⟨G2, hr2⟩ := hcut
                  generalize wc = wz at *
                  have HIN := Lib.hid (show RInv w g dict K bs res ⟨nd1, { z1 with out := z1.out ++ xs }, q.ps, r3.drop m⟩ T em1 st1 o2 A6 c6 G2 wz from by
                    rw [HO2.out] at hr2 ⊢
                    have h3 : z1.out.length ≤ q.z.out.length := by
                      rw [HN1.out.2.1]
                      split
                      · exact Nat.zero_le _
                      · exact Nat.le_refl _
                    have h4 := HI2.out.zl
                    have hz : ({ z1 with out := z1.out ++ xs } : Lzs) = { q.z with out := z1.out ++ xs } := by
                      rw [HN1.out.2.1]
                      split <;> rfl
                    refine HI2.out.next HCN.out.2.1 HCY.out.1 (by rw [HXS.out.2.1]; exact HXS.out.2.2.2.2) hr2 ?_ ?_ (by rw [← HH.out.1]; exact HXS.out.2.2.2.1) (by show (z1.out ++ xs).length ≤ _; rw [List.length_append]; omega) HN1.out.2.2.1 HN1.out.2.2.2
                    · rw [hz]
                      exact HI2.out.ok.plain HND.out _ _
                    · show r3.drop m = bs.drop T
                      rw [← HQ.out.2.1, List.drop_drop, HB1.out.2.1])
                  have HAT := Lib.hid (show a < T ∧ a < n from ⟨by have := HB1.out; have := HQ.out; omega, HLT.out⟩)
                  clear hr2 HR6 HI2
                  have s0 : wrap64 ((F : Int) + (m : Int)) = (T : Int) := ru_add (Nat.le_trans (Nat.le_of_eq HB1.out.2.1.symm) (Nat.le_trans HB1.out.2.2 (by decide))) HB1.out.2.1
                  go_wp2_with fail
                  go_roundw
                  case rel => exact ⟨_, T, em1, st1, o2, A6, c6, G2, rfl, rfl, rfl, rfl, by first | rfl | rw [s0], HIN.out⟩
                  case measure => first | exact ru_meas HAT.out.1 HAT.out.2 | (rw [s0]; exact ru_meas HAT.out.1 HAT.out.2)
            · have j1 : ¬ (cv : Int) ≤ 2 := fun h => hc2 (Int.ofNat_le.1 h)
              have h128 : 128 ≤ cv := by have := HQ.out; omega
              obtain ⟨cr, hcr⟩ : ∃ x, x = cv % 32 := ⟨_, rfl⟩
              obtain ⟨N0, hN0⟩ : ∃ x, x = cr * 65536 + m := ⟨_, rfl⟩
              obtain ⟨hw, hhw⟩ : ∃ x, x = cv / 32 - 4 := ⟨_, rfl⟩
              have HP := Lib.hid (show 128 ≤ cv ∧ cr = cv % 32 ∧ N0 = cr * 65536 + m ∧ hw = cv / 32 - 4 ∧ hw ≤ 3 ∧ 1 ≤ N0 ∧ N0 ≤ 2097152 from ⟨h128, hcr, hN0, hhw, by omega, by have := HM.out; omega, by have := HM.out; omega⟩)
              have H0 := Lib.hid (show q.r ≠ [0] from not_zero HQ.out.1 (by have := HCV.out; omega))
              clear h128 hcr hN0 hhw hc2
              go_upto_region 27 with fail
              clear j1
              go_cut [17] from 80 to 136 (fun v wy => v = .int .i64 (N0 : Int) ∧ wy = wx)
              case first =>
                as_aux_lemma =>
                  obtain ⟨e1, e2, e3, e4⟩ := ru_n27 (m := m) hcl HM.out.2.2 HP.out.2.1 HP.out.2.2.1
                  go_wp2_with fail
                  go_meet
                  exact ⟨by first | rfl | rw [e3], rfl⟩
              case rest =>
              obtain ⟨rfl, hw'⟩ := hcut
              rw [hw']
              clear hw' wc
              have hnn := HH.out.1
              by_cases hF2 : n < F + 2
              · as_aux_lemma =>
                  have HR := Lib.hid (show res = none by
                    refine HI2.out.bad H0.out (packed_short HQ.out.1 (by have := HCV.out; have := HP.out; omega) ?_)
                    rw [← HQ.out.2.1, List.length_drop]
                    omega)
                  have j2 : (F : Int) + 2 > (n : Int) := by omega
                  clear hF2 hnn
                  have e1 : wrap64 ((F : Int) + 2) = (F : Int) + 2 := IntWalk.wrap64_in _ (by have := HH.out; have := HQ.out; omega)
                  go_wp2_with fail
                  go_ret2
                  exact ⟨HI2.out.mem.bel, .inl ⟨HR.out, rfl⟩⟩
              have j2 : ¬ (F : Int) + 2 > (n : Int) := by omega
              obtain ⟨kb, r4, hd1⟩ := drop_cons (bs := bs) (a := F) (by omega)
              obtain ⟨hh1, hh2, _⟩ := drop_one hd1
              obtain ⟨lb, r5, hd2⟩ := drop_cons (bs := bs) (a := F + 1) (by omega)
              obtain ⟨hg1, hg2, _⟩ := drop_one hd2
              obtain ⟨F2, hF2'⟩ : ∃ x, x = F + 2 := ⟨_, rfl⟩
              obtain ⟨kk, hkk⟩ : ∃ x, x = cnt2 kb lb := ⟨_, rfl⟩
              have HQ2 := Lib.hid (show q.r = cb :: hb :: gb :: kb :: lb :: r5 ∧ bs.drop F2 = r5 ∧ F2 = F + 2 ∧ F2 ≤ n ∧ kk = cnt2 kb lb from
                ⟨by rw [HQ.out.1, ← HQ.out.2.1, hd1, ← hh2, hd2], by rw [hF2']; exact hg2, hF2', by omega, hkk⟩)
              obtain ⟨qb', ob', e', hqb, hcb⟩ := HSR2.out.2 (by omega)
              injection e' with e'
              injection e' with e1 e2
              subst e1 e2
              obtain ⟨kv, hkv⟩ : ∃ v, v = kb.toNat := ⟨_, rfl⟩
              obtain ⟨lv, hlv⟩ : ∃ v, v = lb.toNat := ⟨_, rfl⟩
              have hkl : kv < 256 := by rw [hkv]; exact kb.toNat_lt
              have hll : lv < 256 := by rw [hlv]; exact lb.toNat_lt
              have l1 : wx.cell? ⟨qb, ob + F, none⟩ = some (.int .u8 (kv : Int)) := (hcb F (by omega)).trans (by simp [bv, hh1, hkv])
              have l2 : wx.cell? ⟨qb, ob + (F + 1), none⟩ = some (.int .u8 (lv : Int)) := (hcb (F + 1) (by omega)).trans (by simp [bv, hg1, hlv])
              have hmk : kk = 256 * kv + lv + 1 := by rw [hkk, hkv, hlv]; rfl
              have HKK := Lib.hid (show 1 ≤ kk ∧ kk ≤ 65536 by omega)
              have HE := Lib.hid (ru_n30 (show F ≤ 10000000 by have := HH.out; omega) hkl hll hmk)
              have k1 : (F : Int) < (n : Int) := by omega
              have k2 : (0 : Int) ≤ (F : Int) + 1 ∧ (F : Int) + 1 < (n : Int) := by omega
              have HF2 := Lib.hid (show F + 2 ≤ 1000000000 by have := HH.out; omega)
              clear hh1 hh2 hd1 hd2 hg1 hg2 hF2' hkk hqb hcb hkv hlv hmk hF2 hnn
              go_upto_if 141 with fail
              have e1 : wrap64 ((F : Int) + 2) = (F : Int) + 2 := IntWalk.wrap64_in _ (by have := HF2.out; omega)
              go_upto_region 30 with fail
              clear e1
              go_cut [18] from 137 to 155 (fun v wy => v = .int .i64 (kk : Int) ∧ Only (fun _ => False) wx wy)
              case first =>
                as_aux_lemma =>
                  have HE2 := Lib.hid (show wrap64 (wrap64 (256 * (kv : Int) + wrap64 (lv : Int)) + 1) = (kk : Int) from by obtain ⟨_, f5, f6, f7, f8, f9⟩ := HE.out; rw [f9, f6, f7])
                  have HE3 := Lib.hid (show wrap64 (wrap64 (wrap64 (256 * wrap64 (kv : Int)) + wrap64 (lv : Int)) + 1) = (kk : Int) from by obtain ⟨_, f5, f6, f7, f8, f9⟩ := HE.out; rw [f9, f8, f5, f6, f7])
                  obtain ⟨e3, e5, e6, e7, -, -⟩ := HE.out
                  obtain ⟨k2, k2'⟩ := k2
                  clear j2
                  go_quiet (fail)
                  go_wp2_with fail
                  go_meet
                  exact ⟨by first | rfl | trivial | exact congrArg (Value.int .i64) HE2.out | exact congrArg (Value.int .i64) HE3.out, by first | exact Only.refl _ _ | exact (Only.refl _ _).drew | exact (Only.refl _ _).drewN _⟩
              case rest =>
              obtain ⟨rfl, hO⟩ := hcut
              have HI3 := Lib.hid (HI2.out.still hO)
              clear hO HI2 HSR2 l1 l2 k1 k2 hkl hll HE
              generalize wc = wy at *
              clear wx j2
              go_upto_region 31 with fail
              go_cut [15] from 156 to 157 (fun v wz => v = .int .i64 (F2 : Int) ∧ wz = wy)
              case first =>
                as_aux_lemma =>
                  have e3 : wrap64 ((F : Int) + 2) = (F2 : Int) := ru_add2 HF2.out HQ2.out.2.2.1
                  go_wp2_with fail
                  go_meet
                  exact ⟨by first | rfl | rw [e3], rfl⟩
              case rest =>
              obtain ⟨rfl, hw'⟩ := hcut
              rw [hw']
              clear hw' wc
              go_upto_region 32 with fail
              go_cut [19] from 158 to 160 (fun v wz => v = .int .i64 (hw : Int) ∧ wz = wy)
              case first =>
                as_aux_lemma =>
                  have e7 : wrap64 (wrap64 ((hw : Int) + 4) - 4) = (hw : Int) := ru_n32b HP.out.2.2.2.2.1
                  obtain ⟨e1, e2, e3, e4, e5, e6⟩ := ru_n32 hcl HP.out.1 HP.out.2.2.2.1
                  go_wp2_with fail
                  go_meet
                  exact ⟨by first | rfl | rw [e4] | rw [e6] | exact congrArg (Value.int .i64) e7, rfl⟩
              case rest =>
              obtain ⟨rfl, hw'⟩ := hcut
              rw [hw']
              clear hw' wc
              obtain ⟨z1, hz1'⟩ : ∃ x, x = (if hw = 3 then { q.z with out := [] } else q.z) := ⟨_, rfl⟩
              obtain ⟨em3, hem3⟩ : ∃ x, x = (em || decide (hw = 3)) := ⟨_, rfl⟩
              have HZ1 := Lib.hid (And.intro hz1' hem3)
              clear hz1' hem3
              go_upto_if 162 with fail
              go_cut [12] from 161 to 165 (fun v12 wz => v12 = .bool em3 ∧ ∃ G1, R11 (fun _ => False) Ku w g z1 ⟨q.ps, ()⟩ out Ro cl G1 wz)
              case first =>
                as_aux_lemma =>
                  by_cases h3 : hw = 3
                  · have j3 : ((hw : Int) == 3) = true := by simp [h3]
                    obtain ⟨A7, c7, _, _, hw7⟩ := HI3.out.mem.win
                    obtain ⟨d7, f7, _⟩ := hw7 wy (Only.refl _ _)
                    have HX := Lib.hid (show em3 = true ∧ z1 = { q.z with out := [] } by
                      obtain ⟨x1, x2⟩ := HZ1.out
                      rw [if_pos h3] at x1
                      exact ⟨by rw [x2, decide_eq_true h3, Bool.or_true], x1⟩)
                    obtain ⟨G', hG'⟩ := HI3.out.mem.window (xs := []) (A' := none) (c' := 0) (Below.refl _ _) (Nat.le_refl _) (World.ownsRow_nil _ _ _ _)
                    have HG' := Lib.hid hG'
                    clear h3 hw7 hG'
                    go_wp2_with fail
                    go_meet
                    exact ⟨by rw [HX.out.1], G', by rw [HX.out.2]; exact HG'.out⟩
                  · have j3 : ((hw : Int) == 3) = false := by simp; omega
                    have HX := Lib.hid (show em3 = em ∧ z1 = q.z by
                      obtain ⟨x1, x2⟩ := HZ1.out
                      rw [if_neg h3] at x1
                      exact ⟨by rw [x2, decide_eq_false h3, Bool.or_false], x1⟩)
                    clear h3
                    go_wp2_with fail
                    go_meet
                    exact ⟨by rw [HX.out.1], G, by rw [HX.out.2]; exact HI3.out.mem⟩
              case rest =>
              obtain ⟨rfl, G1, hr1⟩ := hcut
              generalize wc = wz at *
              have HR1 := Lib.hid hr1
              clear hr1
              obtain ⟨st4, hst4⟩ : ∃ x, x = (st || decide (2 ≤ hw)) := ⟨_, rfl⟩
              have HST4 := Lib.hid hst4
              clear hst4
              have HNK := Lib.hid (show chooseC q.z hw r5 = none → res = none from fun h => HI3.out.bad H0.out (packed_unset HQ2.out.1 (by have := HCV.out; have := HP.out; omega) (by rw [← HCV.out.1, ← HP.out.2.2.2.1]; exact h)))
              go_upto_if 167 with fail
              go_cut [14, 15] from 166 to 213 (fun v14 v15 wu => ∃ (s : Nat × Nat × Nat) (r6 : List UInt8) (F3 : Nat) (G2 : Nat → Prop), v14 = .bool st4 ∧ v15 = .int .i64 (F3 : Int) ∧ chooseC q.z hw r5 = some (s, r6) ∧ bs.drop F3 = r6 ∧ F3 ≤ n ∧ F2 ≤ F3 ∧ R11 (fun _ => False) Ku w g { z1 with lc := s.1, lp := s.2.1, pb := s.2.2 } ⟨q.ps, ()⟩ out Ro cl G2 wu)
              case first =>
                as_aux_lemma =>
                  by_cases h2 : 2 ≤ hw
                  · have g2 : (hw : Int) ≥ 2 := by omega
                    have HX := Lib.hid (show st4 = true by rw [HST4.out, decide_eq_true h2, Bool.or_true])
                    have HCU := Lib.hid h2
                    by_cases hlt2 : F2 < n
                    · obtain ⟨xb, r7, hd1⟩ := drop_cons (bs := bs) (a := F2) (by have := HH.out.1; omega)
                      obtain ⟨hh1, hh2, _⟩ := drop_one hd1
                      have h5 : r5 = xb :: r7 := by rw [← HQ2.out.2.1]; exact hd1
                      obtain ⟨xv, hxv⟩ : ∃ v, v = xb.toNat := ⟨_, rfl⟩
                      have hxl : xv < 256 := by rw [hxv]; exact xb.toNat_lt
                      obtain ⟨qb', ob', e', hqb, hcb⟩ := (HS.out.below HR1.out.bel).2 (by omega)
                      injection e' with e'
                      injection e' with e1 e2
                      subst e1 e2
                      have l1 : wz.cell? ⟨qb, ob + F2, none⟩ = some (.int .u8 (xv : Int)) := (hcb F2 hlt2).trans (by simp [bv, hh1, hxv])
                      have HXX := Lib.hid (show xv = xb.toNat ∧ r5 = xb :: r7 ∧ bs.drop (F2 + 1) = r7 ∧ F2 + 1 ≤ n from ⟨hxv, h5, hh2, by omega⟩)
                      have j3 : ¬ (F2 : Int) ≥ (n : Int) := by omega
                      have j4 : (F2 : Int) < (n : Int) := by omega
                      clear hd1 hh1 hh2 h5 hxv hqb hcb hlt2 h2
                      by_cases h225 : xv < 225
                      · have j5 : ¬ (xv : Int) ≥ 225 := by omega
                        have H225 := Lib.hid h225
                        clear h225
                        have hs5 : Sl (wz.alloc (.cells #[.int .u8 (xv : Int), .int .u8 0, .int .u8 0, .int .u8 0, .int .u8 0] 5)) (some ⟨wz.heap.size, 0, none⟩) 5 (bv [xb, 0, 0, 0, 0]) := by rw [HXX.out.1]; exact sl_lit wz 5 (bv [xb, 0, 0, 0, 0]).toArray (show 5 ≤ 1000000000 by decide)
                        obtain ⟨w3, hw3⟩ : ∃ w3, w3 = wz.alloc (.cells #[.int .u8 (xv : Int), .int .u8 0, .int .u8 0, .int .u8 0, .int .u8 0] 5) := ⟨_, rfl⟩
                        have hb3 : Below wz.heap.size wz w3 := by rw [hw3]; exact (Below.refl _ _).alloc (Nat.le_refl _) _
                        rw [← hw3] at hs5
                        have KP : Calls Tryz.prog 25 #[.slice (some ⟨wz.heap.size, 0, none⟩) 5 5] w3 (ParsePost w3 (parseOf [xb, 0, 0, 0, 0])) := zparse_any (c := 5) (bs := [xb, 0, 0, 0, 0]) rfl hs5 (show 5 ≤ 1000000000 by decide)
                        have KP := Lib.hid KP
                        have HB3 := Lib.hid hb3
                        have HW3 := Lib.hid hw3
                        clear hs5 hb3 hw3
                        go_upto_region 39 with fail
                        repeat go_step
                        rw [← HW3.out]
                        clear l1 j3 j4 j5
                        refine KP.out.mono ?_
                        rintro e w4 ⟨hb4, hr⟩
                        rw [parse_set, if_pos (by rw [← HXX.out.1]; exact H225.out)] at hr
                        have HO4 := Lib.hid (show Only (fun _ => False) wz w4 from Only.of_below (HB3.out.trans (hb4.mono HB3.out.size)))
                        clear hb4 KP HW3 HB3
                        rcases hr with ⟨hr, _⟩ | ⟨lc, lp, pb, dd, hr, rfl⟩
                        · exact (nomatch hr)
                        obtain ⟨e1, e2, e3, e4⟩ : xb.toNat % 9 = lc ∧ xb.toNat / 9 % 5 = lp ∧ xb.toNat / 45 = pb ∧ 4096 = dd := by
                          injection hr with hr
                          injection hr with a1 hr
                          injection hr with a2 hr
                          injection hr with a3 a4
                          exact ⟨a1, a2, a3, a4⟩
                        have HL := Lib.hid (show lc ≤ 8 ∧ lp ≤ 4 from ⟨by omega, by omega⟩)
                        have HEE := Lib.hid (And.intro e1 (And.intro e2 e3))
                        clear hr e1 e2 e3 e4
                        go_upto_region 40 with fail
                        obtain ⟨w5, hw5⟩ : ∃ w5, w5 = w4.alloc (.cells #[.int .i64 (lc : Int), .int .i64 (lp : Int), .int .i64 (pb : Int), .int .i64 (dd : Int)] 40) := ⟨_, rfl⟩
                        have hO5 : Only (fun _ => False) w4 w5 := by rw [hw5]; exact (Only.refl _ _).alloc _
                        have hk5 : Blk w5 w4.heap.size 40 #[.int .i64 (lc : Int), .int .i64 (lp : Int), .int .i64 (pb : Int), .int .i64 (dd : Int)] := by rw [hw5]; exact Blk.fresh w4 _ _
                        rw [← hw5]
                        clear hw5
                        have hne : g ≠ w4.heap.size := by
                          have h1 := HR1.out.zz.old HR1.out.zz.own
                          have h2 := HO4.out.size
                          omega
                        obtain ⟨B5, hB5⟩ : ∃ B5, B5 = w4.heap.size := ⟨_, rfl⟩
                        rw [← hB5] at hk5 hne ⊢
                        have HR5 := Lib.hid (HR1.out.still ku_mem (HO4.out.trans hO5))
                        have f0 : w5.cell? ⟨B5, 0, none⟩ = some (.int .i64 (lc : Int)) := hk5.cell 0
                        have f1 : w5.cell? ⟨B5, 1, none⟩ = some (.int .i64 (lp : Int)) := hk5.cell 1
                        have f2 : w5.cell? ⟨B5, 2, none⟩ = some (.int .i64 (pb : Int)) := hk5.cell 2
                        clear hO5 hk5 hB5 HO4
                        by_cases h4 : lc + lp ≤ 4
                        · have g4 : ¬ (lc : Int) + (lp : Int) > 4 := by omega
                          have HSS := Lib.hid (show chooseC q.z hw r5 = some ((lc, lp, pb), r7) from by
                            rw [HXX.out.2.1, choose_cons HCU.out, set_some (by rw [← HXX.out.1]; exact H225.out) (by rw [HEE.out.1, HEE.out.2.1]; exact h4), HEE.out.1, HEE.out.2.1, HEE.out.2.2]
                            rfl)
                          obtain ⟨c0, c1, c2, _, _, _, _, _, _, _, _, hfr⟩ := HR5.out.zz.cells
                          have y0 := hfr 0
                          have y1 := hfr 1
                          have y2 := hfr 2
                          have HFI := Lib.hid (show R11 (fun _ => False) Ku w g { z1 with lc := lc, lp := lp, pb := pb } ⟨q.ps, ()⟩ out Ro cl G1 (((w5.setCell ⟨g, 0, none⟩ (.int .i64 (lc : Int))).setCell ⟨g, 1, none⟩ (.int .i64 (lp : Int))).setCell ⟨g, 2, none⟩ (.int .i64 (pb : Int))) from
                            ((HR5.out.put (i := 0) (u := .int .i64 (lc : Int)) (z' := { z1 with lc := lc }) (fun _ _ _ _ _ _ => rfl) rfl).put (i := 1) (u := .int .i64 (lp : Int)) (z' := { z1 with lc := lc, lp := lp }) (fun _ _ _ _ _ _ => rfl) rfl).put (i := 2) (u := .int .i64 (pb : Int)) (z' := { z1 with lc := lc, lp := lp, pb := pb }) (fun _ _ _ _ _ _ => rfl) rfl)
                          have HF3 := Lib.hid (show F2 + 1 ≤ 1000000000 by have := HXX.out; have := HH.out; omega)
                          clear hfr h4
                          have k2 : wrap64 ((lc : Int) + (lp : Int)) = (lc : Int) + (lp : Int) := IntWalk.wrap64_in _ (by have := HL.out; omega)
                          have k3 : wrap64 ((F2 : Int) + 1) = ((F2 + 1 : Nat) : Int) := ru_add1 HF3.out rfl
                          go_wp2_with fail
                          go_meet
                          exact ⟨(lc, lp, pb), r7, F2 + 1, G1, by rw [HX.out], by first | rfl | rw [k3], HSS.out, HXX.out.2.2.1, HXX.out.2.2.2, Nat.le_succ _, HFI.out⟩
                        · have g4 : (lc : Int) + (lp : Int) > 4 := by omega
                          have HR := Lib.hid (show res = none by
                            refine HNK.out ?_
                            rw [HXX.out.2.1, choose_cons HCU.out, set_none (by rw [HEE.out.1, HEE.out.2.1]; exact fun h => h4 h.2)]
                            rfl)
                          clear h4
                          have k2 : wrap64 ((lc : Int) + (lp : Int)) = (lc : Int) + (lp : Int) := IntWalk.wrap64_in _ (by have := HL.out; omega)
                          go_wp2_with fail
                          go_ret2
                          exact ⟨HR5.out.bel, .inl ⟨HR.out, rfl⟩⟩
                      · have j5 : (xv : Int) ≥ 225 := by omega
                        have HR := Lib.hid (show res = none by
                          refine HNK.out ?_
                          rw [HXX.out.2.1, choose_cons HCU.out, set_none (fun h => h225 (by rw [HXX.out.1]; exact h.1))]
                          rfl)
                        clear h225
                        go_wp2_with fail
                        go_ret2
                        exact ⟨HR1.out.bel, .inl ⟨HR.out, rfl⟩⟩
                    · have j3 : (F2 : Int) ≥ (n : Int) := by omega
                      have HR := Lib.hid (show res = none by
                        refine HNK.out ?_
                        have h5 : r5 = [] := by rw [← HQ2.out.2.1]; exact List.drop_eq_nil_iff.2 (by have := HH.out.1; omega)
                        rw [h5, choose_nil HCU.out])
                      clear hlt2 h2
                      go_wp2_with fail
                      go_ret2
                      exact ⟨HR1.out.bel, .inl ⟨HR.out, rfl⟩⟩
                  · have g2 : ¬ (hw : Int) ≥ 2 := by omega
                    have HX := Lib.hid (show st4 = st ∧ chooseC q.z hw r5 = some ((q.z.lc, q.z.lp, q.z.pb), r5) ∧ R11 (fun _ => False) Ku w g { z1 with lc := q.z.lc, lp := q.z.lp, pb := q.z.pb } ⟨q.ps, ()⟩ out Ro cl G1 wz by
                      refine ⟨by rw [HST4.out, decide_eq_false h2, Bool.or_false], by unfold chooseC; rw [if_neg h2], ?_⟩
                      have e : z1 = q.z := by rw [HZ1.out.1, if_neg (by omega)]
                      rw [e]
                      exact e ▸ HR1.out)
                    clear h2
                    go_wp2_with fail
                    go_meet
                    exact ⟨(q.z.lc, q.z.lp, q.z.pb), r5, F2, G1, by rw [HX.out.1], rfl, HX.out.2.1, HQ2.out.2.1, HQ2.out.2.2.2.1, Nat.le_refl _, HX.out.2.2⟩
              case rest =>
              obtain ⟨s, r6, F3, G2, rfl, rfl, hch, hdr, hF3, hF23, hr2⟩ := hcut
              generalize wc = wu at *
              have HCH := Lib.hid (And.intro hch (And.intro hdr (And.intro hF3 hF23)))
              have HBO := Lib.hid (brought_ok HI3.out.ok hch)
              have HR2 := Lib.hid hr2
              clear hch hdr hF3 hF23 hr2 HR1 HNK
              obtain ⟨st5, hst5⟩ : ∃ x, x = (st || decide (1 ≤ hw)) := ⟨_, rfl⟩
              have HST5 := Lib.hid hst5
              clear hst5
              obtain ⟨z3, hz3⟩ : ∃ x, x = q.z.brought hw s := ⟨_, rfl⟩
              obtain ⟨ps3, hps3⟩ : ∃ x, x = psN q.ps hw s := ⟨_, rfl⟩
              have HZ3 := Lib.hid (And.intro hz3 hps3)
              rw [← hz3, ← hps3] at HBO
              clear hz3 hps3
              go_upto_if 215 with fail
              go_cut [13] from 214 to 221 (fun v13 wv => v13 = .bool st5 ∧ ∃ G3, R11 (fun _ => False) Ku w g z3 ⟨ps3, ()⟩ out Ro cl G3 wv)
              case first =>
                as_aux_lemma =>
                  by_cases h1 : 1 ≤ hw
                  · have g2 : (hw : Int) ≥ 1 := by omega
                    have HX := Lib.hid (show st5 = true by rw [HST5.out, decide_eq_true h1, Bool.or_true])
                    obtain ⟨hc1, hc2, hc3, hc4⟩ := HBO.out.2.2.2.2.2.2.2
                    have hzd : z1.dict = dict := by
                      rw [HZ1.out.1]
                      split
                      · exact HI3.out.ok.dict
                      · exact HI3.out.ok.dict
                    have hset : SetOk s.1 s.2.1 s.2.2 dict := ⟨hc1, hc2, hc3, HH.out.2.2.2.2.1.2.2.2.1, HH.out.2.2.2.2.1.2.2.2.2⟩
                    have KR0 := Lib.hid (rresetU_any HR2.out.zz hset ⟨rfl, rfl, rfl, hzd⟩)
                    obtain ⟨c0', c1', c2', c3', -⟩ := HR2.out.zz.cells
                    have c0 : wu.cell? ⟨g, 0, none⟩ = some (.int .i64 (s.1 : Int)) := c0'
                    have c1 : wu.cell? ⟨g, 1, none⟩ = some (.int .i64 (s.2.1 : Int)) := c1'
                    have c2 : wu.cell? ⟨g, 2, none⟩ = some (.int .i64 (s.2.2 : Int)) := c2'
                    have c3 : wu.cell? ⟨g, 3, none⟩ = some (.int .i64 (dict : Int)) := by rw [← hzd]; exact c3'
                    clear c0' c1' c2' c3'
                    have HY := Lib.hid (show z3 = { { z1 with lc := s.1, lp := s.2.1, pb := s.2.2 } with st := 0, r0 := 0, r1 := 0, r2 := 0, r3 := 0 } ∧ ps3 = List.replicate (probsN s.1 s.2.1) 1024 by
                      obtain ⟨x1, x2⟩ := HZ3.out
                      obtain ⟨y1, _⟩ := HZ1.out
                      refine ⟨?_, by rw [x2]; unfold psN; rw [if_neg (by omega)]; rfl⟩
                      rw [x1, y1]
                      unfold Lzs.brought
                      by_cases h3 : hw = 3
                      · rw [if_pos h3, if_pos h3]; rfl
                      · rw [if_neg h3, if_neg (by omega), if_neg h3]; rfl)
                    have KR := Lib.hid (KR0.out.mono (R' := fun x w' => x = .returned (.tuple #[]) ∧ ∃ G3, R11 (fun _ => False) Ku w g z3 ⟨ps3, ()⟩ out Ro cl G3 w') (by
                      rintro e w5 ⟨he, G3, k1, k2, k3⟩
                      refine ⟨he, G3, ?_⟩
                      rw [HY.out.1, HY.out.2]
                      exact HR2.out.turn k1 k2 k3))
                    clear KR0
                    clear h1 hc1 hc2 hc3 hc4 hset hzd
                    go_wp2_with fail
                    refine KR.out.mono ?_
                    rintro e w5 ⟨rfl, G3, hr5⟩
                    have HR5 := Lib.hid hr5
                    clear hr5 KR c0 c1 c2 c3
                    go_wp2_with fail
                    go_meet
                    exact ⟨by rw [HX.out], G3, HR5.out⟩
                  · have g2 : ¬ (hw : Int) ≥ 1 := by omega
                    have h0 : hw = 0 := by omega
                    have HX := Lib.hid (show st5 = st ∧ R11 (fun _ => False) Ku w g z3 ⟨ps3, ()⟩ out Ro cl G2 wu by
                      refine ⟨by rw [HST5.out, decide_eq_false h1, Bool.or_false], ?_⟩
                      obtain ⟨x1, x2⟩ := HZ3.out
                      have e1 : z1 = q.z := by rw [HZ1.out.1, if_neg (by omega)]
                      have e2 : z3 = q.z := by rw [x1, h0]; rfl
                      have e3 : ps3 = q.ps := by rw [x2, h0]; rfl
                      have hch := HCH.out.1
                      unfold chooseC at hch
                      rw [if_neg (by omega)] at hch
                      injection hch with hch
                      injection hch with hch _
                      have hr := HR2.out
                      rw [← hch, e1] at hr
                      rw [e2, e3]
                      exact hr)
                    clear h1 h0
                    go_wp2_with fail
                    go_meet
                    exact ⟨by rw [HX.out.1], G2, HX.out.2⟩
              case rest =>
              obtain ⟨rfl, G3, hr3⟩ := hcut
              generalize wc = wv at *
              have HR3 := Lib.hid hr3
              clear hr3 HR2
              obtain ⟨b5, hb5⟩ : ∃ b, b = decide (bringsN q.nd hw = false ∨ K < out.length + N0) := ⟨_, rfl⟩
              have HB5 := Lib.hid hb5
              have HBR := Lib.hid (show bringsN q.nd hw = (em3 && (st4 && st5)) from by
                rw [HZ1.out.2, HST4.out, HST5.out, HI3.out.em, HI3.out.st]
                have h3 := HP.out.2.2.2.2.1
                unfold bringsN
                rcases HI3.out.ok.nd with h | h | h
                · rw [h]; simp
                · rw [h]
                  rcases (show hw = 0 ∨ hw = 1 ∨ hw = 2 ∨ hw = 3 by omega) with h | h | h | h <;> rw [h] <;> decide
                · rw [h]
                  rcases (show hw = 0 ∨ hw = 1 ∨ hw = 2 ∨ hw = 3 by omega) with h | h | h | h <;> rw [h] <;> decide)
              clear hb5
              go_upto_region 50 with fail
              go_cut [239] from 222 to 239 (fun v wx => v = .bool b5 ∧ wx = wv)
              case first =>
                as_aux_lemma =>
                  have HX := Lib.hid (show (em3 && (st4 && st5)) = false → b5 = true from fun h => by rw [HB5.out]; exact decide_eq_true (.inl (HBR.out.trans h)))
                  have HE := Lib.hid (show wrap64 ((out.length : Int) + (N0 : Int)) = (out.length : Int) + (N0 : Int) from IntWalk.wrap64_in _ (by have := HI3.out.ol; have := HK.out; have := HP.out; omega))
                  cases em3 with
                  | false =>
                    have HY := Lib.hid (HX.out rfl)
                    go_wp2_with fail
                    go_meet
                    exact ⟨congrArg Value.bool HY.out.symm, rfl⟩
                  | true =>
                    cases st4 with
                    | false =>
                      have HY := Lib.hid (HX.out rfl)
                      go_wp2_with fail
                      go_meet
                      exact ⟨congrArg Value.bool HY.out.symm, rfl⟩
                    | true =>
                      cases st5 with
                      | false =>
                        have HY := Lib.hid (HX.out rfl)
                        go_wp2_with fail
                        go_meet
                        exact ⟨congrArg Value.bool HY.out.symm, rfl⟩
                      | true =>
                        by_cases h3 : K < out.length + N0
                        · have j3 : (out.length : Int) + (N0 : Int) > size := by have := HK.out; have := HP.out; omega
                          have HY := Lib.hid (show b5 = true by rw [HB5.out]; exact decide_eq_true (.inr h3))
                          clear h3
                          have e1 := HE.out
                          go_wp2_with fail
                          go_meet
                          exact ⟨congrArg Value.bool HY.out.symm, rfl⟩
                        · have j3 : ¬ (out.length : Int) + (N0 : Int) > size := by have := HK.out; have := HP.out; omega
                          have HY := Lib.hid (show b5 = false by
                            rw [HB5.out]
                            refine decide_eq_false (fun h => ?_)
                            rcases h with h | h
                            · rw [HBR.out] at h; cases h
                            · exact h3 h)
                          clear h3
                          have e1 := HE.out
                          go_wp2_with fail
                          go_meet
                          exact ⟨congrArg Value.bool HY.out.symm, rfl⟩
              case rest =>
              obtain ⟨rfl, hw'⟩ := hcut
              rw [hw']
              clear hw' wc
              have HCN := Lib.hid (show chunkN q = if bringsN q.nd hw = false then none else bodyC q hw N0 kk s r6 from by
                have h := packed_set (s := s) (r4 := r6) HQ2.out.1 (by have := HCV.out; have := HP.out; omega) (by rw [← HCV.out.1, ← HP.out.2.2.2.1]; exact HCH.out.1)
                rw [h, ← HCV.out.1, ← HP.out.2.2.2.1, ← HP.out.2.1, ← HM.out.1, ← HP.out.2.2.1, ← HQ2.out.2.2.2.2])
              have HBEL := Lib.hid HR3.out.bel
              cases b5 with
              | true =>
                as_aux_lemma =>
                  have HR := Lib.hid (show res = none by
                    rcases of_decide_eq_true HB5.out.symm with h | h
                    · exact HI3.out.bad H0.out (HCN.out.trans (if_pos h))
                    · refine HI3.out.over H0.out (m := N0) (fun xs q' h1 => ?_) h
                      rw [HCN.out] at h1
                      split at h1
                      · cases h1
                      · exact bodyC_len h1)
                  go_wp2_with fail
                  go_ret2
                  exact ⟨HBEL.out, .inl ⟨HR.out, rfl⟩⟩
              | false =>
                as_aux_lemma =>
                  have hbb := of_decide_eq_false HB5.out.symm
                  have HCB := Lib.hid (show chunkN q = bodyC q hw N0 kk s r6 ∧ out.length + N0 ≤ K from ⟨HCN.out.trans (if_neg (fun h => hbb (.inl h))), by have : ¬ K < out.length + N0 := fun h => hbb (.inr h); omega⟩)
                  obtain ⟨rfl, rfl, rfl⟩ : em3 = true ∧ st4 = true ∧ st5 = true := by
                    have h : (em3 && (st4 && st5)) = true := by
                      rw [← HBR.out]
                      cases hx : bringsN q.nd hw with
                      | true => rfl
                      | false => exact absurd (.inl hx) hbb
                    cases em3 <;> cases st4 <;> cases st5 <;> first | exact ⟨rfl, rfl, rfl⟩ | cases h
                  clear hbb HCN HB5 HBR
                  obtain ⟨T, hT⟩ : ∃ T, T = F3 + kk := ⟨_, rfl⟩
                  have HT := Lib.hid (show T = F3 + kk ∧ F3 + kk ≤ 1000000000 from ⟨hT, by have := HCH.out; have := HH.out; have := HKK.out; omega⟩)
                  by_cases hTn : n < T
                  · have j2 : (T : Int) > (n : Int) := by omega
                    have HR := Lib.hid (show res = none by
                      refine HI3.out.bad H0.out (HCB.out.1.trans ?_)
                      unfold bodyC
                      rw [if_pos]
                      rw [← HCH.out.2.1, List.length_drop]
                      have := HCH.out; have := HH.out.1
                      omega)
                    clear hTn hT
                    have e1 : wrap64 ((F3 : Int) + (kk : Int)) = (T : Int) := ru_add HT.out.2 HT.out.1
                    go_wp2_with fail
                    go_ret2
                    exact ⟨HBEL.out, .inl ⟨HR.out, rfl⟩⟩
                  have j2 : ¬ (T : Int) > (n : Int) := by omega
                  have hn1 := HH.out
                  have hk1 := HKK.out
                  have HTN := Lib.hid (show T ≤ n ∧ F3 ≤ T ∧ T - F3 = kk ∧ kk ≤ r6.length from ⟨by omega, by omega, by omega, by rw [← HCH.out.2.1, List.length_drop]; omega⟩)
                  obtain ⟨bs', hbs'⟩ : ∃ x, x = r6.take kk := ⟨_, rfl⟩
                  have HBS := Lib.hid (show bs' = r6.take kk ∧ T - F3 = bs'.length ∧ bs'.length = kk from ⟨hbs', by rw [hbs', List.length_take]; have := HTN.out; omega, by rw [hbs', List.length_take]; have := HTN.out; omega⟩)
                  have HSL := Lib.hid (show ∀ W, Below w.heap.size w W → Sl W (some ⟨qb, ob + F3, none⟩) bs'.length (bv bs') from fun W hW => by
                    have h := (sl_mid HS.out HTN.out.2.1 HTN.out.1).below hW
                    rw [HCH.out.2.1, HTN.out.2.2.1, ← HBS.out.1, ← HBS.out.2.2] at h
                    exact h)
                  have KD := Lib.hid (fun W (hW : Below w.heap.size w W) => refnew_any (n := T - F3) (c := c - F3) HBS.out.2.1 (HSL.out W hW) (by have := HBS.out; have := HKK.out; omega))
                  have HS3 := Lib.hid (show (F3 : Int) ≤ (T : Int) ∧ (T : Int) ≤ (c : Int) ∧ ¬ c = F3 from ⟨by have := HTN.out; omega, by have := HTN.out; have := HH.out; omega, by have := HTN.out; have := HH.out; have := HKK.out; omega⟩)
                  clear hTn hT hn1 hk1 hbs'
                  obtain ⟨s1, s2, s3⟩ := HS3.out
                  have e1 : wrap64 ((F3 : Int) + (kk : Int)) = (T : Int) := ru_add HT.out.2 HT.out.1
                  go_wp2_with fail
                  refine (KD.out _ HBEL.out).mono ?_
                  rintro x w4 ⟨rfl, hR4, hb4⟩
                  have hA : ∀ i, rowOf (some ⟨qb, ob + F3, none⟩) bs'.length i → i < w.heap.size := by
                    rintro i ⟨h0, o, e⟩
                    obtain ⟨b', o', e', hlt, _⟩ := HS.out.2 (by have := HLT.out; omega)
                    injection e with e
                    injection e with e
                    injection e' with e'
                    injection e' with e'
                    omega
                  have hr4 := R11.dec HR3.out hb4 hR4 (Nat.le_refl _) ((HSL.out _ HBEL.out).below hb4) hA (by have := HBS.out; have := HKK.out; omega)
                  obtain ⟨G4, hG4⟩ : ∃ G4, G4 = fun i => G3 i ∨ i = wv.heap.size := ⟨_, rfl⟩
                  rw [← hG4] at hr4
                  have HR4 := Lib.hid hr4
                  have HA := Lib.hid hA
                  obtain ⟨Gm, Dv, Ev, pz, pcz, A7, c7, hz7⟩ := HR3.out.zz
                  have hk4 := hz7.blk.only (Only.of_below (S := fun _ => False) hb4) (fun h => h)
                  have q4 : w4.cell? ⟨g, 4, none⟩ = some Dv := hk4.cell 4
                  have f4 := hk4.free 4
                  obtain ⟨wb, hwb⟩ : ∃ wb, wb = w4.setCell ⟨g, 4, none⟩ (.pointer (some ⟨wv.heap.size, 0, none⟩)) := ⟨_, rfl⟩
                  rw [← hwb] at HR4 hr4
                  obtain ⟨A8, cc8, c8', hS8⟩ := hr4.zz.told
                  have HWB := Lib.hid hwb
                  obtain ⟨L0, hL0⟩ : ∃ x, x = z3.out.length := ⟨_, rfl⟩
                  have c8 : wb.cell? ⟨g, 7, none⟩ = some (.slice A8 L0 cc8) := by rw [hL0]; exact c8'
                  obtain ⟨N, hN⟩ : ∃ x, x = L0 + N0 := ⟨_, rfl⟩
                  have HN := Lib.hid (show L0 = z3.out.length ∧ N = L0 + N0 ∧ L0 ≤ out.length ∧ N ≤ 200000 from ⟨hL0, hN, by
                    have h := HBO.out.2.2.2.2.2.2.1
                    rw [hL0, h]
                    split
                    · exact Nat.zero_le _
                    · exact HI3.out.zl, by
                    have h := HBO.out.2.2.2.2.2.2.1
                    have h4 := HI3.out.zl
                    have h2 : L0 ≤ q.z.out.length := by
                      rw [hL0, h]
                      split
                      · exact Nat.zero_le _
                      · exact Nat.le_refl _
                    have := HCB.out.2
                    have := HK.out
                    omega⟩)
                  clear c8' hb4 hR4 hA hr4 hz7 hk4 hwb hS8 hL0 hN hG4 KD s1 s2 s3 e1 j2
                  go_upto_region 55 with fail
                  rw [← HWB.out]
                  clear q4 f4
                  go_cut [22] from 240 to 260 (fun v wx => v = .int .i64 (L0 : Int) ∧ wx = wb)
                  case first =>
                    go_wp2_with fail
                    go_meet
                    exact ⟨rfl, rfl⟩
                  case rest =>
                  obtain ⟨rfl, hw'⟩ := hcut
                  rw [hw']
                  clear hw' wc c8
                  obtain ⟨L, hL⟩ : ∃ L, L = ps3.length := ⟨_, rfl⟩
                  obtain ⟨t3, ht3⟩ : ∃ t3 : Pm Dc, t3 = ⟨ps3, started bs'⟩ := ⟨_, rfl⟩
                  obtain ⟨U, hU⟩ : ∃ U, U = upG (N : Int) N0 z3 t3 := ⟨_, rfl⟩
                  have HST := Lib.hid (show ZAt (rowOf (some ⟨qb, ob + F3, none⟩) bs'.length) (Kd (some ⟨qb, ob + F3, none⟩) bs') wb G4 wb g z3 t3 ∧ ZNear z3 L N ∧ PmOk okD L (0 + 27) t3 from by
                    refine ⟨by rw [ht3]; exact ZAt.begin HR4.out.zz, ?_, ?_⟩
                    · rw [hL]
                      exact HBO.out.1.more (by have := HN.out; omega)
                    · rw [ht3]
                      exact ⟨HBO.out.2.1, hL.symm, dcOk_started bs'⟩)
                  have HU := Lib.hid (And.intro hU ht3)
                  have HDO := Lib.hid (dec_ops (some ⟨qb, ob + F3, none⟩) bs')
                  have HDM := Lib.hid (dec_more (some ⟨qb, ob + F3, none⟩) bs')
                  have HEND := Lib.hid (show ∀ (wr : World) (z : Lzs) (t : Pm Dc), ZAt (rowOf (some ⟨qb, ob + F3, none⟩) bs'.length) (Kd (some ⟨qb, ob + F3, none⟩) bs') wb G4 wr g z t → Below w.heap.size w wr from by
                    rintro wr z t ⟨G', _, _, hO⟩
                    exact HR4.out.bel.trans (hO.below HR4.out.bel.size (fun i hi => HR4.out.gl i hi)))
                  clear hL ht3 hU
                  go_wp2_with fail
                  go_loopw [] (fun wr => ∃ (f : Nat) (z : Lzs) (t : Pm Dc), ZAt (rowOf (some ⟨qb, ob + F3, none⟩) bs'.length) (Kd (some ⟨qb, ob + F3, none⟩) bs') wb G4 wr g z t ∧ upG (N : Int) f z t = U ∧ (N : Int) ≤ (z.out.length : Int) + (f : Int) ∧ ZNear z L N ∧ PmOk okD L (0 + 27) t ∧ z.out.length ≤ N ∧ z.bad = false ∧ z.ended = false ∧ Like z3 z) (fun wr => N - outLen wr g)
                  case atStart => exact ⟨N0, z3, t3, HST.out.1, HU.out.1.symm, by have := HN.out; omega, HST.out.2.1, HST.out.2.2, by have := HN.out; omega, HBO.out.2.2.1, HBO.out.2.2.2.1, Like.refl _⟩
                  case round =>
                    clear HST
                    obtain ⟨f, z, t, hz, hup, hf, hnear, hpm, hzN, hzb, hze, hzl3⟩ := hrel
                    have HKEEP := Lib.hid (And.intro hzb (And.intro hze hzl3))
                    clear hzb hze hzl3
                    obtain ⟨A7', cc7, c7', hS7⟩ := hz.told
                    have HZ := Lib.hid hz
                    have HUP := Lib.hid (And.intro hup (And.intro hf (And.intro hnear (And.intro hpm hzN))))
                    have HOL := Lib.hid (show outLen wr g = z.out.length by unfold outLen; rw [c7'])
                    have HS7 := Lib.hid hS7
                    have HEN := Lib.hid (show wrap64 ((L0 : Int) + (N0 : Int)) = (N : Int) from ru_add (by have := HN.out; omega) HN.out.2.1)
                    clear hS7
                    by_cases hlt : (z.out.length : Int) < (N : Int)
                    · as_aux_lemma =>
                        obtain ⟨f', rfl⟩ : ∃ f', f = f' + 1 := ⟨f - 1, by omega⟩
                        have KP : Calls Tryz.prog 28 #[.pointer (some ⟨g, 0, none⟩), .agg #[.int .i64 0, .int .u8 0, .int .i64 0, .int .u32 0]] wr (PackPost (rowOf (some ⟨qb, ob + F3, none⟩) bs'.length) (Kd (some ⟨qb, ob + F3, none⟩) bs') wb G4 g (packP decM z t pk0)) :=
                          hz.packet HDO.out HDM.out (k := 0) (p := pk0) hpm hnear (by have := HN.out; omega) pk0_fine (pk0_may z) pk0_len
                        have KP := Lib.hid KP
                        have hnear2 := packP_near decM_ok (k := 0) (p := pk0) hnear hpm pk0_fine (pk0_may z)
                        have HLK0 := packP_like decM z t pk0
                        have hmore := pack_more (size := (N : Int)) (z := z) (t := t)
                        have hgo : stopD (N : Int) (packP decM z t pk0) = false → upG (N : Int) f' (packP decM z t pk0).2.1 (packP decM z t pk0).2.2 = U := fun h => by rw [← hup, upG_go hlt (by rw [h]; simp)]
                        have hno : stopD (N : Int) (packP decM z t pk0) = true → res = none := fun h => by
                          refine HI3.out.bad H0.out (HCB.out.1.trans (body_stop (N := N) ?_ ?_))
                          · rw [HN.out.2.1, HN.out.1, HZ3.out.1]
                          · rw [← HZ3.out.1, ← HZ3.out.2, ← HBS.out.1, ← HU.out.2, ← HU.out.1, ← hup]
                            exact upG_stop hlt h
                        generalize packP decM z t pk0 = r at *
                        have HN2 := Lib.hid hnear2
                        have HMO := Lib.hid hmore
                        have HLK := Lib.hid HLK0
                        clear HLK0
                        have HGO := Lib.hid hgo
                        have HNO := Lib.hid hno
                        have HLT2 := Lib.hid hlt
                        have HF := Lib.hid hf
                        clear hz hup hf hnear hpm hzN hnear2 hmore hgo hno HUP
                        have eN := HEN.out
                        go_wp2_with fail
                        refine KP.out.mono ?_
                        rintro e w6 ⟨rfl, hz6⟩
                        have HZ6 := Lib.hid hz6
                        clear KP c7' hlt eN
                        obtain ⟨sb, hsb⟩ : ∃ sb, sb = stopD (N : Int) r := ⟨_, rfl⟩
                        have HSB := Lib.hid hsb
                        clear hsb hz6
                        go_upto_region 58 with fail
                        go_cut [302] from 261 to 302 (fun v wx => v = .bool sb ∧ wx = w6)
                        case first =>
                          as_aux_lemma =>
                            obtain ⟨db, c4, cb⟩ := HZ6.out.dbad
                            obtain ⟨_, _, _, _, _, _, _, _, _, c13, c14, _⟩ := HZ6.out.cells
                            obtain ⟨A8, cc8, c8, _⟩ := HZ6.out.told
                            have hsb := HSB.out
                            unfold stopD at hsb
                            obtain ⟨b1, hb1⟩ : ∃ b, b = r.2.1.bad := ⟨_, rfl⟩
                            obtain ⟨b2, hb2⟩ : ∃ b, b = r.2.1.ended := ⟨_, rfl⟩
                            obtain ⟨b3, hb3⟩ : ∃ b, b = decM.bad r.2.2.x := ⟨_, rfl⟩
                            rw [← hb1] at c14 hsb
                            rw [← hb2] at c13 hsb
                            rw [← hb3] at cb hsb
                            clear hb1 hb2 hb3
                            cases b1 with
                            | true =>
                              obtain rfl : sb = true := hsb
                              go_wp2_with fail
                              go_meet
                              exact ⟨rfl, rfl⟩
                            | false =>
                              cases b2 with
                              | true =>
                                obtain rfl : sb = true := hsb
                                go_wp2_with fail
                                go_meet
                                exact ⟨rfl, rfl⟩
                              | false =>
                                cases b3 with
                                | true =>
                                  obtain rfl : sb = true := hsb
                                  go_wp2_with fail
                                  go_meet
                                  exact ⟨rfl, rfl⟩
                                | false =>
                                  by_cases hgt : (N : Int) < (r.2.1.out.length : Int)
                                  · obtain rfl : sb = true := by rw [hsb, decide_eq_true hgt]; rfl
                                    have ggt : (r.2.1.out.length : Int) > (N : Int) := hgt
                                    clear hsb hgt
                                    have eN := HEN.out
                                    go_wp2_with fail
                                    go_meet
                                    exact ⟨rfl, rfl⟩
                                  · obtain rfl : sb = false := by rw [hsb, decide_eq_false hgt]; rfl
                                    have ggt : ¬ (r.2.1.out.length : Int) > (N : Int) := hgt
                                    clear hsb hgt
                                    have eN := HEN.out
                                    go_wp2_with fail
                                    go_meet
                                    exact ⟨rfl, rfl⟩
                        case rest =>
                          obtain ⟨rfl, rfl⟩ := hcut
                          cases sb with
                          | true =>
                            have HR := Lib.hid (HNO.out HSB.out.symm)
                            have HB := Lib.hid (HEND.out _ _ _ HZ6.out)
                            go_wp2_with fail
                            go_ret2
                            exact ⟨HB.out, .inl ⟨HR.out, rfl⟩⟩
                          | false =>
                            go_wp2_with fail
                            go_roundw
                            case rel =>
                              have hs := HSB.out.symm
                              have hle := stop_len hs
                              have hN := HN2.out.1
                              have hf := HF.out
                              have hm := HMO.out hs
                              exact ⟨f', r.2.1, r.2.2, HZ6.out, HGO.out hs, by omega, ⟨hN.lc, hN.lp, hN.pb, hN.dict, by omega, hN.st, hN.r0, hN.r1, hN.r2, hN.r3, hN.len⟩, ⟨HN2.out.2.1.ps, HN2.out.2.1.len, HN2.out.2.1.x⟩, by omega, (stop_ok hs).1, (stop_ok hs).2, HKEEP.out.2.2.trans HLK.out⟩
                            case measure =>
                              obtain ⟨A8, cc8, c8, _⟩ := HZ6.out.told
                              have hol2 : outLen wc g = r.2.1.out.length := by unfold outLen; rw [c8]
                              have hm := HMO.out HSB.out.symm
                              have hlt := HLT2.out
                              rw [hol2, HOL.out]
                              omega
                    · as_aux_lemma =>
                        have hzl : z.out.length = N := by omega
                        have hU2 : U = some (z, t) := by rw [← hup, upG_done hlt]
                        have HFI := Lib.hid (And.intro hzl (And.intro hU2 (And.intro hnear hpm)))
                        have KL := Lib.hid hz.left
                        obtain ⟨db, c4, cb⟩ := hz.dbad
                        have HB := Lib.hid (HEND.out _ _ _ HZ.out)
                        obtain ⟨lf, hlf⟩ : ∃ b, b = leftD t.x := ⟨_, rfl⟩
                        rw [← hlf] at KL
                        have HLF := Lib.hid hlf
                        obtain ⟨b3, hb3⟩ : ∃ b, b = decM.bad t.x := ⟨_, rfl⟩
                        have HB3 := Lib.hid hb3
                        rw [← hb3] at cb
                        clear hz hup hf hnear hpm hzN hlf hb3 HUP hzl hU2
                        have eN := HEN.out
                        go_upto_region 60 with fail
                        clear eN hlt
                        go_cut [314] from 261 to 314 (fun v wx => v = .bool (!lf) ∧ ∃ k, wx = wr.drewN k)
                        case first =>
                          as_aux_lemma =>
                            cases b3 with
                            | true =>
                              have HX := Lib.hid (show lf = false by rw [HLF.out]; exact left_bad HB3.out.symm)
                              go_wp2_with fail
                              go_meet
                              exact ⟨by rw [HX.out]; rfl, 0, rfl⟩
                            | false =>
                              go_wp2_with fail
                              refine KL.out.mono ?_
                              rintro e w6 ⟨rfl, k6, rfl⟩
                              go_wp2_with fail
                              go_meet
                              exact ⟨rfl, k6, rfl⟩
                        case rest =>
                        obtain ⟨rfl, k8, rfl⟩ := hcut
                        have HB7 := Lib.hid (below_drewN HB.out k8)
                        cases lf with
                        | false =>
                          have HR := Lib.hid (show res = none from by
                            refine HI3.out.bad H0.out (HCB.out.1.trans (body_left (N := N) (z2 := z) (t2 := t) ?_ ?_ HLF.out.symm))
                            · rw [HN.out.2.1, HN.out.1, HZ3.out.1]
                            · rw [← HZ3.out.1, ← HZ3.out.2, ← HBS.out.1, ← HU.out.2, ← HU.out.1]
                              exact HFI.out.2.1)
                          clear KL c4 cb
                          go_wp2_with fail
                          go_ret2
                          exact ⟨HB7.out, .inl ⟨HR.out, rfl⟩⟩
                        | true =>
                          obtain ⟨xs, hxs⟩ : ∃ xs, xs = z.out.drop L0 := ⟨_, rfl⟩
                          have HXS := Lib.hid (show xs = z.out.drop L0 ∧ xs.length = N0 ∧ N - L0 = N0 from ⟨hxs, by rw [hxs, List.length_drop, HFI.out.1]; have := HN.out; omega, by have := HN.out; omega⟩)
                          have HBD := Lib.hid (show bodyC q hw N0 kk s r6 = some (xs, ⟨0, z, t.ps, r6.drop kk⟩) from by
                            have h := body_some (q := q) (how := hw) (m := N0) (k := kk) (s := s) (r := r6) (z2 := z) (t2 := t) (N := N) HTN.out.2.2.2 (by rw [HN.out.2.1, HN.out.1, HZ3.out.1]) (by rw [← HZ3.out.1, ← HZ3.out.2, ← HBS.out.1, ← HU.out.2, ← HU.out.1]; exact HFI.out.2.1) HLF.out.symm HFI.out.1
                            rw [h, show N - N0 = L0 by have := HN.out; omega, ← hxs])
                          obtain ⟨G5, hz5, hN5, hO5⟩ := HZ.out.drewN HDO.out k8
                          have hr5 := HR4.out.turn hz5 hN5 hO5
                          have hr6 : R11 (fun _ => False) Ku w g z ⟨t.ps, ()⟩ out Ro cl G5 (wr.drewN k8) := hr5.turn hz5.forget (fun i hi => .inl hi) (Only.refl _ _)
                          have HR6 := Lib.hid hr6
                          obtain ⟨A9, cc9, h9a, h9b, hw9⟩ := hr6.win
                          obtain ⟨c9, f9, hs9⟩ := hw9 _ (Only.refl _ _)
                          rw [HFI.out.1] at c9 hs9 h9a
                          obtain ⟨q9, o9, rfl, _, _⟩ := hs9.2 (by have := HN.out; have := HP.out; omega)
                          have HSX := Lib.hid (show Sl (wr.drewN k8) (some ⟨q9, o9 + L0, none⟩) (N - L0) (bv xs) from by rw [HXS.out.1]; exact sl_from hs9 (by have := HN.out; omega))
                          have HBY := Lib.hid (show (out.length + (N - L0)) * 1 ≤ 140737488355328 by have := HXS.out; have := HK.out; have := HP.out; have := HI3.out.ol; omega)
                          have s1 : (L0 : Int) ≤ (N : Int) := by have := HN.out; omega
                          have s2 : ¬ cc9 = L0 := by have := HN.out; have := HP.out; omega
                          have s4 : L0 ≤ N := by have := HN.out; omega
                          clear KL c4 cb hz5 hN5 hO5 hr5 hr6 hw9 hs9 h9a h9b hxs c7'
                          go_wp2_with (first
                            | (at_builtin; refine wpList_appO _ rfl (.tmp 315) (.tmp 321) 22 rfl w.heap.size 5 iu _ 1 Tryz.underlying22 hiu hz0 hz1 hz2 rfl _ out.length _ rfl HR6.out.row _ (N - L0) _ (bv xs) rfl HSX.out (bv_one _) HBY.out (by decide) HR6.out.bel.size ?_)
                            | fail)
                          intro AA cA wA hoA hgA hnA
                          have hrA := HR6.out.apps (news := xs) ku_mem (fun _ h => h.elim) (HXS.out.2.1.trans HXS.out.2.2.symm) hoA hgA hnA
                          have hol : out.length + (N - L0) = (out ++ xs).length := by rw [List.length_append, HXS.out.2.1, HXS.out.2.2]
                          have HIN := Lib.hid (show RInv w g dict K bs res ⟨0, z, t.ps, r6.drop kk⟩ T true true (out ++ xs) AA cA G5 wA from by
                            obtain ⟨hzl, _, hnear, hpm⟩ := HFI.out
                            refine HI3.out.next H0.out (HCB.out.1.trans HBD.out) (by rw [HXS.out.2.1]; exact HCB.out.2) hrA ?_ ?_ (by rw [← HH.out.1]; exact HTN.out.1) (by show z.out.length ≤ _; rw [hzl, HXS.out.2.1]; have := HN.out; omega) rfl rfl
                            · have hk := HKEEP.out.2.2
                              refine ⟨.inl rfl, ?_, hpm.ps, HKEEP.out.1, HKEEP.out.2.1, hk.dict.trans HBO.out.2.2.2.2.1, by show z.lc + z.lp ≤ 4; rw [hk.lc, hk.lp]; exact HBO.out.2.2.2.2.2.1⟩
                              show ZNear z t.ps.length z.out.length
                              rw [hpm.len, hzl]
                              exact hnear
                            · show r6.drop kk = bs.drop T
                              rw [← HCH.out.2.1, List.drop_drop, HT.out.1])
                          have HAT := Lib.hid (show a < T ∧ a < n from ⟨by have := HQ.out; have := HQ2.out; have := HCH.out; have := HT.out; omega, HLT.out⟩)
                          rw [hol]
                          clear hoA hgA hnA hrA hol HR6 s1 s2 s4 c9 f9
                          have s0 : wrap64 ((F3 : Int) + (kk : Int)) = (T : Int) := ru_add HT.out.2 HT.out.1
                          go_wp2_with fail
                          go_roundw
                          case rel => exact ⟨_, T, true, true, out ++ xs, AA, cA, G5, rfl, rfl, rfl, rfl, by first | rfl | rw [s0], HIN.out⟩
                          case measure => first | exact ru_meas HAT.out.1 HAT.out.2 | (rw [s0]; exact ru_meas HAT.out.1 HAT.out.2)
    · have HRE := Lib.hid (ru_end hi (.inl (by omega)))
      have i1 : ¬ (a : Int) < (n : Int) := by omega
      clear hi hale hnn hlt
      as_aux_lemma =>
        have HE1 := Lib.hid (show wrap64 ((n : Int) - 1) = (n : Int) - 1 from IntWalk.wrap64_in _ (by have := HH.out; omega))
        have HM := Lib.hid (And.intro (Sl.of_own HI.out.mem.row) HI.out.mem.bel)
        have hm := rmax2_int (P := Tryz.prog) #[3, 3] 3 size 0 (K : Int) (by have := HK.out.1; omega)
        clear HI
        by_cases ha : a + 1 = n
        · have i3 : ((a : Int) != (n : Int) - 1) = false := by simp; omega
          by_cases ho : out.length = K
          · have HR := Lib.hid (show res = some out by rw [HRE.out, if_pos ⟨by have := HH.out.1; omega, ho⟩])
            have i4 : ((out.length : Int) != (K : Int)) = false := by simp; omega
            clear ha ho HRE
            have e1 := HE1.out
            go_wp2_with fail
            go_ret2
            exact ⟨HM.out.2, .inr ⟨out, Ro, cl, HR.out, rfl, HM.out.1⟩⟩
          · have HR := Lib.hid (show res = none by rw [HRE.out, if_neg (fun h => ho h.2)])
            have i4 : ((out.length : Int) != (K : Int)) = true := by simp; omega
            clear ha ho HRE
            have e1 := HE1.out
            go_wp2_with fail
            go_ret2
            exact ⟨HM.out.2, .inl ⟨HR.out, rfl⟩⟩
        · have HR := Lib.hid (show res = none by rw [HRE.out, if_neg (fun h => ha (by have := HH.out.1; omega))])
          have i3 : ((a : Int) != (n : Int) - 1) = true := by simp; omega
          clear ha HRE hm
          have e1 := HE1.out
          go_wp2_with fail
          go_ret2
          exact ⟨HM.out.2, .inl ⟨HR.out, rfl⟩⟩
end Go.Proofs.YtiolfjhddbiglaaGreatDoor
