/-
  The law RencBack returns true for every list of questions and every row of bytes behind what was coded, and leaves all that was there as it was. No condition.
-/
import Derived.Test.YtokkaidepahepaaPcAwake
import Derived.Test.YtokkaidepahepaaRcCod
import Derived.Test.YtokkaidepahepaaRdCells
import Derived.Test.YtokkaidepahepaaRdMore
import Derived.Test.YtokkaidepahepaaOpen
import Derived.ProofKit
import Derived.OpenShut
import Derived.ShutString
import Derived.ChangeOld
import Derived.Below
namespace Go.Proofs.Ytokkaidepahepaa.rencBack
open Go.ChangeShapes Go.WideShapes Go.ChangeAt Go.RowKit
set_option linter.unusedVariables false

theorem own : ownKnob Try.prog.godebug = none := by kernel_rfl
theorem laidOut : laidOutB Try.prog = true := by kernel_rfl

theorem decAt_ok {bs more : List UInt8} {f e : En} (hf : Ends bs f) (he : EnOk e) (h : Reach e f) : DcOk (decAt bs more e) := by
  intro r c s hd
  unfold decAt at hd
  injection hd with hd
  injection hd with h1 hd
  injection hd with h2 h3
  obtain ⟨b1, b2, _⟩ := between hf h
  obtain ⟨e1, e2, _⟩ := he
  subst h1 h2
  exact ⟨e1, e2, by omega⟩

theorem shl_one (n : Nat) (hn : n < 32) : IntKind.u32.wrap (2 ^ n) = ((2 ^ n : Nat) : Int) := by
  have h : 2 ^ n ≤ 2 ^ 31 := Nat.pow_le_pow_right (by omega) (by omega)
  rw [cast_pow2]
  generalize 2 ^ n = y at *
  exact u32_of _ (by omega) (by omega)

/-- The decoder (block g) has come as far as question j of those whose bytes are bs, with more behind them. -/
structure Bk (w wr : World) (B g f lo bp bq : Nat) (bs more : List UInt8) (P C : List Nat × En) : Prop where
  pd : Pd wr g f lo (bs ++ more) (decAt bs more C.2)
  rq : Row wr bq C.1 600
  rp : Row wr bp P.1 600
  bel : Below B w wr
/-- how the blocks lie -/
def LieB (w : World) (B g f lo bp bq : Nat) : Prop := B ≤ w.heap.size ∧ B ≤ bp ∧ bp < lo ∧ lo ≤ f ∧ f < g ∧ g < bq

section
variable {w wr w' : World} {B g f lo bp bq : Nat} {bs more : List UInt8} {P C C' : List Nat × En}
theorem Bk.only (hL : LieB w B g f lo bp bq) (h : Bk w wr B g f lo bp bq bs more P C) (hO : Only (fun _ => False) wr w') : Bk w w' B g f lo bp bq bs more P C :=
  ⟨h.pd.only hO (fun i hi => hi.elim), h.rq.only hO (fun h => h), h.rp.only hO (fun h => h), below_only h.bel hO hL.1 (fun _ h => h.elim)⟩
theorem bk_told (hL : LieB w B g f lo bp bq) (h : Bk w wr B g f lo bp bq bs more P C) (h1 : Pd w' g f lo (bs ++ more) (decAt bs more C'.2)) (h2 : Row w' bq C'.1 600) (hO : Only (three f g bq) wr w') : Bk w w' B g f lo bp bq bs more P C' := by
  obtain ⟨l0, l1, l2, l3, l4, l5⟩ := hL
  refine ⟨h1, h2, h.rp.only hO (fun hh => ?_), below_only h.bel hO l0 (fun i hi => ?_)⟩
  · rcases hh with hh | hh | hh <;> omega
  · rcases hi with hi | hi | hi <;> omega
end

/-- What a question leaves. -/
def BkPost (w wr : World) (B g f lo bp bq : Nat) (bs more : List UInt8) (P C' : List Nat × En) (v : Value) (e : Ending) (w' : World) : Prop :=
  e = .returned v ∧ Bk w w' B g f lo bp bq bs more P C'

section
variable {w wr : World} {B g f lo bp bq : Nat} {bs more : List UInt8} {P C C' : List Nat × En}
theorem bk_bit {a n x : Nat} (hL : LieB w B g f lo bp bq) (h : Bk w wr B g f lo bp bq bs more P C) (hD : DcOk (decAt bs more C.2)) (hps : PsOk C.1) (hl : C.1.length = 600) (ha : a < 600) (hask : askD C.1 (decAt bs more C.2) 0 a n = (x, C'.1, decAt bs more C'.2)) :
    Calls Try.prog 20 #[.pointer (some ⟨g, 0, none⟩), .pointer (some ⟨bq, a, none⟩)] wr (BkPost w wr B g f lo bp bq bs more P C' (.int .i64 (x : Int))) := by
  unfold askD at hask
  rw [if_pos rfl] at hask
  injection hask with h1 h2
  injection h2 with h2 h3
  refine (tell_any h.pd hD h.rq (by omega) (.inr hL.2.2.2.2.2) (getD_ok hps (by omega))).mono ?_
  rintro e w' ⟨rfl, hP, hR, hO⟩
  rw [h3] at hP
  rw [h2] at hR
  exact ⟨by rw [h1], bk_told hL h hP hR hO⟩
theorem bk_tree {a n x cap : Nat} (hL : LieB w B g f lo bp bq) (h : Bk w wr B g f lo bp bq bs more P C) (hD : DcOk (decAt bs more C.2)) (hps : PsOk C.1) (hl : C.1.length = 600) (ha : a < 340) (hn : n ≤ 8) (hask : askD C.1 (decAt bs more C.2) 1 a n = (x, C'.1, decAt bs more C'.2)) :
    Calls Try.prog 21 #[.pointer (some ⟨g, 0, none⟩), .slice (some ⟨bq, a, none⟩) (600 - a) cap, .int .i64 (n : Int)] wr (BkPost w wr B g f lo bp bq bs more P C' (.int .i64 (x : Int))) := by
  unfold askD at hask
  rw [if_neg (by decide), if_neg (by decide)] at hask
  injection hask with h1 h2
  injection h2 with h2 h3
  have h8 := pow8 hn
  refine (tree_any (v := x) (by rw [← h1]; rfl) h.pd hD h.rq hps (.inr hL.2.2.2.2.2) (by omega) (by omega) hn).mono ?_
  rintro e w' ⟨rfl, hP, hR, hO⟩
  rw [h3] at hP
  rw [h2] at hR
  exact ⟨rfl, bk_told hL h hP hR hO⟩
theorem bk_rev {a n x cap : Nat} (hL : LieB w B g f lo bp bq) (h : Bk w wr B g f lo bp bq bs more P C) (hD : DcOk (decAt bs more C.2)) (hps : PsOk C.1) (hl : C.1.length = 600) (ha : a < 340) (hn : n ≤ 8) (hask : askD C.1 (decAt bs more C.2) 2 a n = (x, C'.1, decAt bs more C'.2)) :
    Calls Try.prog 22 #[.pointer (some ⟨g, 0, none⟩), .slice (some ⟨bq, a, none⟩) (600 - a) cap, .int .i64 (n : Int)] wr (BkPost w wr B g f lo bp bq bs more P C' (.int .i64 (x : Int))) := by
  unfold askD at hask
  rw [if_neg (by decide), if_neg (by decide)] at hask
  injection hask with h1 h2
  injection h2 with h2 h3
  have h8 := pow8 hn
  refine (rev_any (v := x) (by rw [← h1]; rfl) h.pd hD h.rq hps (.inr hL.2.2.2.2.2) (by omega) (by omega) hn).mono ?_
  rintro e w' ⟨rfl, hP, hR, hO⟩
  rw [h3] at hP
  rw [h2] at hR
  exact ⟨rfl, bk_told hL h hP hR hO⟩
theorem bk_straight {a n x : Nat} (hL : LieB w B g f lo bp bq) (h : Bk w wr B g f lo bp bq bs more P C) (hD : DcOk (decAt bs more C.2)) (hn : n ≤ 32) (hask : askD C.1 (decAt bs more C.2) 3 a n = (x, C'.1, decAt bs more C'.2)) :
    Calls Try.prog 23 #[.pointer (some ⟨g, 0, none⟩), .int .i64 (n : Int)] wr (BkPost w wr B g f lo bp bq bs more P C' (.int .u32 (x : Int))) := by
  unfold askD at hask
  rw [if_neg (by decide), if_pos rfl] at hask
  injection hask with h1 h2
  injection h2 with h2 h3
  refine (straight_any h.pd hD hn).mono ?_
  rintro e w' ⟨rfl, hP, hO⟩
  rw [h3] at hP
  have hO3 : Only (three f g bq) wr w' := hO.mono fun i hi => two_three hi
  have hR := h.rq.only hO (fun hh => by obtain ⟨l0, l1, l2, l3, l4, l5⟩ := hL; rcases hh with hh | hh <;> omega)
  rw [h2] at hR
  exact ⟨by rw [h1], bk_told hL h hP hR hO3⟩
end

set_option maxRecDepth 100000 in
set_option maxHeartbeats 16000000 in
theorem walk {B : Option Addr} {m mc : Nat} {qs : Nat → Qn} {A : Option Addr} {n c : Nat} {more : List UInt8} {w : World} (hB : Asks w B m qs) (hqs : ∀ i, i < m → QnLit (qs i)) (hm : m ≤ maxLen) (hS : Sl w A n (bv more)) (hn : n ≤ maxLen) :
    Calls Try.prog 4 #[.slice B m mc, .slice A n c] w fun e w' => e = .returned (.bool true) ∧ Below w.heap.size w w' := by
  unfold maxLen at hm hn
  obtain ⟨i, hi, hz0, hz1, hz2⟩ := info_parts info_u8
  have HSC := Lib.hid hB
  have HQS := Lib.hid hqs
  have HS := Lib.hid hS
  have hnl : more.length = n := by rw [← bv_length]; exact hS.1
  have HNL := Lib.hid hnl
  clear hB hqs hS hnl
  by_cases hbig : n ≤ 4096
  · have hbig' : ¬ (n : Int) > 4096 := by omega
    have HBIG := Lib.hid hbig
    clear hbig
    go_enter Try.func4, Try.ntmps4
    go_wp2_with fail
    refine (awake_any w).mono ?_
    rintro e w1 ⟨rfl, hb⟩
    have HB1 := Lib.hid hb
    have hsz1 := hb.size
    clear hb
    go_wp2_with fail
    refine (cnew_any w1).mono ?_
    rintro e w2 ⟨rfl, hw2⟩
    have HP2 := Lib.hid (show Pn w2 w1.heap.size none En.new by rw [hw2]; exact pn_fresh w1)
    have HB2 := Lib.hid (show Below w.heap.size w w2 from HB1.out.trans (by rw [hw2]; exact (Below.refl _ w1).alloc hsz1 _))
    clear hw2 HB1
    generalize w1.heap.size = gc at *
    go_wp2_with fail
    refine (fresh_any (n := 600) (by omega) w2).mono ?_
    rintro e w3 ⟨rfl, hR, hb3⟩
    have hg1 := HP2.out.lt
    have HP3 := Lib.hid (HP2.out.only (Only.of_below (S := fun _ => False) hb3) (fun h => h) (fun _ _ h => h))
    have HR3 := Lib.hid hR
    have HB3 := Lib.hid (HB2.out.trans (hb3.mono (by omega)))
    clear hR hb3 HP2 HB2
    generalize w2.heap.size = bp at *
    go_wp2_with fail
    go_loopw [7] (fun i wr => ∃ (j : Nat) (G : Option Nat), j ≤ m ∧ j ≤ 2000 ∧ i = .int .i64 (j : Int) ∧ Pn wr gc G (cod qs j).2 ∧ (∀ x, G = some x → bp < x) ∧ Row wr bp (cod qs j).1 600 ∧ Below w.heap.size w wr) (fun i _ => m - (intOf i).toNat)
    case atStart => exact ⟨0, none, by omega, by omega, rfl, HP3.out, fun _ h => by (cases h), HR3.out, HB3.out⟩
    case round =>
      clear HP3 HR3 HB3
      obtain ⟨j, G, hj, hj5, rfl, hP, hG, hR, hB⟩ := hrel
      have HP := Lib.hid hP
      have HG := Lib.hid hG
      have HR := Lib.hid hR
      have HB := Lib.hid hB
      obtain ⟨hok, hpo, hpl, hlj⟩ := cod_ok (qs := qs) j
      clear hP hG hR hB
      by_cases hgo : j < m ∧ j < 2000
      · obtain ⟨hjm, hj2⟩ := hgo
        obtain ⟨bq, oq, rfl, hbl, c0, c1, c2, c3⟩ := HSC.out.cells HB.out hjm
        have hlit := HQS.out j hjm
        have hyes : RightQ (qs j) → _ := fun h => cod_yes (qs := qs) (j := j) h
        have hno : ¬ RightQ (qs j) → _ := fun h => cod_no (qs := qs) (j := j) h
        have HYES := Lib.hid hyes
        have HNO := Lib.hid hno
        have HOK := Lib.hid hok
        have HPO := Lib.hid hpo
        have HPL := Lib.hid hpl
        obtain ⟨N, hNN⟩ : ∃ N, N = cod qs (j + 1) := ⟨_, rfl⟩
        obtain ⟨C, hCC⟩ : ∃ C, C = cod qs j := ⟨_, rfl⟩
        rw [← hCC] at HOK HPO HPL HP HR HYES HNO hlj
        rw [← hNN] at HYES HNO
        have HNN := Lib.hid hNN
        clear hNN hCC hok hpo hpl hyes hno
        generalize hq : qs j = q at *
        obtain ⟨k, a, n2, v⟩ := q
        dsimp only at c0 c1 c2 c3 hlit
        have HLIT := Lib.hid hlit
        have HRT := Lib.hid (show Calls Try.prog 12 #[.agg #[.int .i64 k, .int .i64 a, .int .i64 n2, .int .u32 v]] wr _ from right_any ⟨k, a, n2, v⟩ wr)
        clear hq hlit
        have i0 : (0 : Int) ≤ (j : Int) := by omega
        have i1 : (j : Int) < (m : Int) := by omega
        have i2 : (j : Int) < 2000 := by omega
        go_wp2_with fail
        refine HRT.out.mono ?_
        rintro e w6 ⟨bb, rfl, hbb, hb6⟩
        have HB6 := Lib.hid (below_trans HB.out hb6)
        have hbw := Nat.lt_of_lt_of_le hbl HB.out.size
        have a0 := cell_on (w := wr) hb6 hbw c0
        have a1 := cell_on (w := wr) hb6 hbw c1
        have a2 := cell_on (w := wr) hb6 hbw c2
        have a3 := cell_on (w := wr) hb6 hbw c3
        have HP6 := Lib.hid (HP.out.only (Only.of_below (S := fun _ => False) hb6) (fun h => h) (fun _ _ h => h))
        have HR6 := Lib.hid (HR.out.only (Only.of_below (S := fun _ => False) hb6) (fun h => h))
        have HBB := Lib.hid hbb
        clear hb6 hbb HP HR HB c0 c1 c2 c3 HRT
        cases bb
        · have hne : N = C := HNO.out (fun h => by have := HBB.out.2 h; cases this)
          have HEQ := Lib.hid (show cod qs (j + 1) = C by rw [← HNN.out, hne])
          clear hne hlj
          go_wp2_with fail
          go_roundw
          case rel => exact ⟨j + 1, G, by omega, by omega, by go_num, by rw [HEQ.out]; exact HP6.out, HG.out, by rw [HEQ.out]; exact HR6.out, HB6.out⟩
          case measure => simp [intOf]; omega
        · have hq := HBB.out.1 rfl
          have hN := HYES.out hq
          have KP := Lib.hid (show Calls Try.prog 13 #[.pointer (some ⟨gc, 0, none⟩), .slice (some ⟨bp, 0, none⟩) 600 600, .agg #[.int .i64 k, .int .i64 a, .int .i64 n2, .int .u32 v]] w6 _ from put_any (q := ⟨k, a, n2, v⟩) HP6.out HOK.out HR6.out HPO.out HPL.out (by omega) (fun h => by have := HG.out bp h; omega) hq ⟨HLIT.out.v.1, Int.lt_of_le_of_lt HLIT.out.v.2 (by decide)⟩ (by omega))
          dsimp only at KP hN
          rw [← hN] at KP
          have hrl := HR6.out.lt
          have HRL := Lib.hid hrl
          clear HP6 HR6 HOK HPO HPL HBB hq hN HYES HNO hlj hrl HLIT
          go_wp2_with fail
          refine KP.out.mono ?_
          rintro e w8 ⟨rfl, G', hP8, hN8, hR8, hO8⟩
          have HP8 := Lib.hid hP8
          have HR8 := Lib.hid hR8
          have HG8 := Lib.hid (show ∀ x, G' = some x → bp < x from fun x hx => (hN8 x hx).elim (HG.out x) (fun h => by have := HRL.out; omega))
          have HB8 := Lib.hid (show Below w.heap.size w w8 from HB6.out.trans (hO8.below (B := w.heap.size) HB6.out.size (fun i hi => by
            rcases hi with hi | hi | hi
            · omega
            · have := HG.out i hi; omega
            · omega)))
          clear hP8 hN8 hR8 hO8 HB6 HG KP a0 a1 a2 a3
          go_wp2_with fail
          go_roundw
          case rel => exact ⟨j + 1, G', by omega, by omega, by go_num, by rw [← HNN.out]; exact HP8.out, HG8.out, by rw [← HNN.out]; exact HR8.out, HB8.out⟩
          case measure => simp [intOf]; omega
      · have HOK := Lib.hid hok
        have KF := Lib.hid (finish_any HP.out (by omega))
        have HFR := Lib.hid (cod_first (qs := qs) j)
        have HM0 := Lib.hid (show (cod qs j).2.l ≤ 64005 by omega)
        have HGL := Lib.hid (show w.heap.size ≤ gc ∧ gc < bp by omega)
        clear hok hpo hpl hlj HP
        by_cases hjm : j < m
        · obtain rfl : j = 2000 := by omega
          have i1 : ((2000 : Nat) : Int) < (m : Int) := by omega
          obtain ⟨M, hMM⟩ : ∃ M, M = 2000 := ⟨_, rfl⟩
          rw [← hMM] at HOK KF HFR HR
          have HM := Lib.hid (show M ≤ m ∧ M ≤ 2000 ∧ (2000 < m ∧ M = 2000) ∧ (cod qs M).2.l ≤ 64005 from ⟨by omega, by omega, by omega, by rw [hMM]; exact HM0.out⟩)
          clear hMM
          go_wp2_with fail
          refine KF.out.mono ?_
          rintro e w4 ⟨A4, m4, bs, rfl, hown, hbe, hbl, hnw, hne, hPn, hO⟩
          have HEND := Lib.hid (ends_of HOK.out hbe hbl)
          have HSB := Lib.hid (own_facts hown).1
          have hpo : ¬ pset gc G bp := fun hh => by
            rcases hh with hh | hh
            · have := HGL.out; omega
            · have := HG.out bp hh; omega
          have HR4 := Lib.hid (HR.out.only hO hpo)
          have HB4 := Lib.hid (below_only HB.out hO (Nat.le_refl _) (fun i hi => by
            have := HGL.out
            rcases hi with hi | hi
            · omega
            · have := HG.out i hi; omega))
          have HBL := Lib.hid (show bs.length ≤ 64005 by have := HM.out.2.2.2; omega)
          clear hown hbe hbl hnw hne hPn hO hpo HR HB KF HG HOK
          have HE4 := Lib.hid (own_empty w4 (Nat.le_refl _) 5)
          go_wp2_with (at_builtin; refine wpList_app _ rfl (.tmp 48) (.tmp 49) 38 rfl w4.heap.size 5 i _ 1 Try.underlying38 hi hz0 hz1 hz2 rfl _ 0 [] rfl HE4.out A4 bs.length m4 (bv bs) rfl (HSB.out.alloc _) (bv_one bs) (by have := HBL.out; omega) (by omega) (by simp) ?_)
          intro A5 c5 w5 ho hg
          have hb45 : Below w4.heap.size w4 w5 := ((Below.refl w4.heap.size w4).alloc (Nat.le_refl _) _).grown hg (by simp) (fun k e => (HE4.out.lt k e).1)
          have HS5 := Lib.hid (HS.out.below (below_trans HB4.out hb45))
          try simp only [Nat.zero_add, List.nil_append] at ho
          have HO5 := Lib.hid ho
          have HB45 := Lib.hid hb45
          have hs5 := hb45.size
          clear ho hg hb45 HSB HE4
          go_wp2_with (at_builtin; refine wpList_app _ rfl (.tmp 50) (.tmp 51) 38 rfl w4.heap.size 5 i _ 1 Try.underlying38 hi hz0 hz1 hz2 rfl _ bs.length (bv bs) (by simp [Act.eval, Act.put]) HO5.out A n c (bv more) rfl HS5.out (bv_one more) (by have := HBL.out; have := HBIG.out; omega) (by omega) hs5 ?_)
          intro A6 c6 w6 ho hg
          have hb46 : Below w4.heap.size w4 w6 := HB45.out.grown hg hs5 (fun k e => (HO5.out.lt k e).1)
          rw [← bv_append] at ho
          have HS6 := Lib.hid (own_facts ho).1
          have HB6 := Lib.hid (below_trans HB4.out hb46)
          have HR6 := Lib.hid (HR4.out.only (Only.of_below (S := fun _ => False) hb46) (fun h => h))
          clear ho hg hb46 HB4 HR4 HO5 HB45 HS5 hs5
          have hbp6 := HR6.out.lt
          go_wp2_with fail
          refine (newFeed_any HS6.out (by have := HBL.out; have := HBIG.out; omega)).mono ?_
          rintro e w7 ⟨f, rfl, hf, hF, hb7⟩
          have HF7 := Lib.hid hF
          have HB7 := Lib.hid (below_trans HB6.out hb7)
          have HR7 := Lib.hid (HR6.out.only (Only.of_below (S := fun _ => False) hb7) (fun h => h))
          clear hF hb7 HS6 HB6 HR6
          generalize w6.heap.size = lo at *
          go_wp2_with fail
          refine (pnew_any HF7.out).mono ?_
          rintro e w8 ⟨rfl, hP, ho8⟩
          have hfg := HF7.out.lt
          rw [started_dec HEND.out HFR.out] at hP
          have HP8 := Lib.hid hP
          have HR8 := Lib.hid (HR7.out.only ho8 (by omega))
          have HB8 := Lib.hid (below_only HB7.out ho8 (Nat.le_refl _) (fun i hi => by have := HGL.out; omega))
          clear hP ho8 HF7 HB7 HR7 HFR
          generalize w7.heap.size = g at *
          go_wp2_with fail
          refine (fresh_any (n := 600) (by omega) w8).mono ?_
          rintro e w9 ⟨rfl, hRq, hb9⟩
          have hgq := HP8.out.lt
          have hO9 := Only.of_below (S := fun _ => False) hb9
          have HLIE := Lib.hid (show LieB w w.heap.size g f lo bp w8.heap.size by have := HGL.out; unfold LieB; omega)
          have HBK := Lib.hid (show Bk w w9 w.heap.size g f lo bp w8.heap.size bs more (cod qs M) (cod qs 0) from ⟨HP8.out.only hO9 (fun i hi => hi.elim), hRq, HR8.out.only hO9 (fun h => h), below_only HB8.out hO9 (Nat.le_refl _) (fun _ h => h.elim)⟩)
          clear hRq hb9 hO9 HP8 HR8 HB8 hgq hfg hf hbp6
          generalize w8.heap.size = bq at *
          go_wp2_with fail
          go_loopw [12] (fun i wr => ∃ (j : Nat), j ≤ M ∧ i = .int .i64 (j : Int) ∧ Bk w wr w.heap.size g f lo bp bq bs more (cod qs M) (cod qs j)) (fun i _ => M - (intOf i).toNat)
          case atStart => exact ⟨0, by omega, rfl, HBK.out⟩
          case round =>
            clear HBK
            obtain ⟨t, ht, rfl, hbk⟩ := hrel
            have HBK := Lib.hid hbk
            clear hbk
            by_cases htM : t < M
            · have htm : t < m := by have := HM.out.1; omega
              have i0 : (0 : Int) ≤ (t : Int) := by omega
              have i1 : (t : Int) < (m : Int) := by omega
              have i2 : (t : Int) < 2000 := by have := HM.out.2.1; omega
              obtain ⟨bz, oz, rfl, hbl, c0, c1, c2, c3⟩ := HSC.out.cells HBK.out.bel htm
              generalize hq : qs t = q at *
              obtain ⟨k, a, n2, v⟩ := q
              dsimp only at c0 c1 c2 c3
              have HQ := Lib.hid hq
              clear hq
              have hXA := Blk.fresh wr 34 #[.int .i64 k, .int .i64 a, .int .i64 n2, .int .u32 v]
              have HBA := Lib.hid (HBK.out.only HLIE.out ((Only.refl (fun _ => False) wr).alloc (.cells #[.int .i64 k, .int .i64 a, .int .i64 n2, .int .u32 v] 34)))
              have HXA := Lib.hid hXA
              clear hXA HBK
              go_wp2_with fail
              generalize wr.alloc (.cells #[.int .i64 k, .int .i64 a, .int .i64 n2, .int .u32 v] 34) = wA at *
              generalize wr.heap.size = na at *
              refine (show Calls Try.prog 12 #[.agg #[.int .i64 k, .int .i64 a, .int .i64 n2, .int .u32 v]] wA _ from right_any ⟨k, a, n2, v⟩ wA).mono ?_
              rintro e w6' ⟨bb, rfl, hbb, hb6⟩
              have HB6 := Lib.hid (HBA.out.only HLIE.out (Only.of_below hb6))
              have hXA := HXA.out.below hb6
              obtain ⟨x0, x1, x2, x3⟩ : w6'.cell? ⟨na, 0, none⟩ = some (.int .i64 k) ∧ w6'.cell? ⟨na, 1, none⟩ = some (.int .i64 a) ∧ w6'.cell? ⟨na, 2, none⟩ = some (.int .i64 n2) ∧ w6'.cell? ⟨na, 3, none⟩ = some (.int .u32 v) := ⟨hXA.cell 0, hXA.cell 1, hXA.cell 2, hXA.cell 3⟩
              have HBB := Lib.hid hbb
              clear hb6 hbb hXA HBA HXA c0 c1 c2 c3
              cases bb
              · have HEQ := Lib.hid (show cod qs (t + 1) = cod qs t from cod_no (by rw [HQ.out]; exact fun h => by have := HBB.out.2 h; cases this))
                go_wp2_with fail
                go_roundw
                case rel => exact ⟨t + 1, by omega, by go_num, by rw [HEQ.out]; exact HB6.out⟩
                case measure => simp [intOf]; omega
              · have hq := HBB.out.1 rfl
                have hdec := cod_dec (more := more) (j := t) HEND.out htM (by rw [HQ.out]; exact hq)
                rw [HQ.out] at hdec
                have hlit := HQS.out t htm
                rw [HQ.out] at hlit
                obtain ⟨hok, hpo, hpl, _⟩ := cod_ok (qs := qs) t
                have hdc := decAt_ok (more := more) HEND.out hok (cod_reach' (Nat.le_of_lt htM))
                obtain ⟨v0, v1⟩ := hlit.v
                have HC1 := Lib.hid (rfl : cod qs (t + 1) = cod qs (t + 1))
                clear HBB hlit hok HQ
                unfold RightQ at hq
                dsimp only at hq hdec v0 v1
                obtain ⟨V, rfl⟩ := Int.eq_ofNat_of_zero_le v0
                rcases hq with ⟨rfl, h0, h1⟩ | ⟨hk, h0, h1, h2, h3⟩ | ⟨rfl, h0, h1⟩
                · obtain ⟨a, rfl⟩ := Int.eq_ofNat_of_zero_le h0
                  obtain ⟨x, hx⟩ : ∃ x, x = V % 2 := ⟨_, rfl⟩
                  have K := Lib.hid (bk_bit (a := a) (n := n2.toNat) (x := x) (C' := cod qs (t + 1)) HLIE.out HB6.out hdc hpo hpl (by omega) (by rw [hx]; exact hdec))
                  have f1 : (V : Int).tmod 2 = (x : Int) := by rw [Int.tmod_eq_emod_of_nonneg (by omega)]; omega
                  have f2 : (V : Int) % 2 = (x : Int) := by omega
                  have f3 : IntKind.u32.wrap (x : Int) = (x : Int) := u32_of _ (by omega) (by omega)
                  have a1 : (a : Int) < 600 := by omega
                  have a0 : (0 : Int) ≤ (a : Int) := h0
                  clear hdec hdc hpo hpl hx h0 h1 v0 v1
                  go_wp2_with fail
                  refine K.out.mono ?_
                  rintro e w7 ⟨rfl, hb7⟩
                  have HB7 := Lib.hid hb7
                  have KB := Lib.hid (show Calls Try.prog 24 #[.pointer (some ⟨g, 0, none⟩)] w7 (fun e w'' => e = .returned (.bool false) ∧ w7 = w'') from isBad_any hb7.pd)
                  clear hb7 K HB6
                  go_wp2_with fail
                  refine KB.out.mono ?_
                  rintro e w8 ⟨rfl, rfl⟩
                  go_wp2_with fail
                  go_roundw
                  case rel => exact ⟨t + 1, by omega, by go_num, HB7.out⟩
                  case measure => simp [intOf]; omega
                · obtain ⟨a, rfl⟩ := Int.eq_ofNat_of_zero_le h0
                  obtain ⟨n2, rfl⟩ := Int.eq_ofNat_of_zero_le (show 0 ≤ n2 by omega)
                  rcases hk with rfl | rfl
                  · have h8 := pow8 (n := n2) (by omega)
                    obtain ⟨Q, hQ⟩ : ∃ Q, Q = 2 ^ n2 := ⟨_, rfl⟩
                    have hQ0 : 0 < Q := by rw [hQ]; exact Nat.two_pow_pos n2
                    obtain ⟨x, hx⟩ : ∃ x, x = V % 2 ^ n2 := ⟨_, rfl⟩
                    have hxQ : x < Q := by rw [hx, hQ]; exact Nat.mod_lt _ (Nat.two_pow_pos n2)
                    have K := Lib.hid (fun cap => bk_tree (a := a) (n := n2) (x := x) (cap := cap) (C' := cod qs (t + 1)) HLIE.out (HB6.out.only HLIE.out ((Only.refl (fun _ => False) w6').drewN 1)) hdc hpo hpl (by omega) (by omega) (by rw [hx]; exact hdec))
                    have s1 : IntKind.u64.wrap (n2 : Int) = (n2 : Int) := u64_in _ (by omega)
                    have s2 : min n2 32 = n2 := by omega
                    have s3 : IntKind.u32.wrap (2 ^ n2) = (Q : Int) := by rw [hQ]; exact shl_one n2 (by omega)
                    have s4 : ¬ (Q : Int) = 0 := by omega
                    have s5 : (V : Int).tmod (Q : Int) = (x : Int) := by rw [Int.tmod_eq_emod_of_nonneg (by omega), hx, hQ]; exact (Int.natCast_emod V (2 ^ n2)).symm
                    have s6 : (V : Int) % (Q : Int) = (x : Int) := by rw [hx, hQ]; exact (Int.natCast_emod V (2 ^ n2)).symm
                    have s7 : IntKind.u32.wrap (x : Int) = (x : Int) := u32_of _ (by omega) (by omega)
                    have n32 : (n2 : Int) < 32 := by omega
                    have a0 : (0 : Int) ≤ (a : Int) := h0
                    have a1 : (a : Int) ≤ 600 := by omega
                    have hne : ¬ 600 = a := by omega
                    clear hdec hdc hpo hpl hx h0 h1 h2 h3 v0 v1 hQ h8 hQ0 hxQ
                    go_wp2_with fail
                    go_still_tail 7, (by kernel_rfl)
                    change wpList _ _ _ _ _ w6'.drew
                    go_wp2_with fail
                    refine (K.out _).mono ?_
                    rintro e w7 ⟨rfl, hb7⟩
                    have HB7 := Lib.hid hb7
                    have KB := Lib.hid (show Calls Try.prog 24 #[.pointer (some ⟨g, 0, none⟩)] w7 (fun e w'' => e = .returned (.bool false) ∧ w7 = w'') from isBad_any hb7.pd)
                    clear hb7 K HB6
                    go_wp2_with fail
                    refine KB.out.mono ?_
                    rintro e w8 ⟨rfl, rfl⟩
                    go_wp2_with fail
                    go_roundw
                    case rel => exact ⟨t + 1, by omega, by go_num, HB7.out⟩
                    case measure => simp [intOf]; omega
                  · have h8 := pow8 (n := n2) (by omega)
                    obtain ⟨Q, hQ⟩ : ∃ Q, Q = 2 ^ n2 := ⟨_, rfl⟩
                    have hQ0 : 0 < Q := by rw [hQ]; exact Nat.two_pow_pos n2
                    obtain ⟨x, hx⟩ : ∃ x, x = V % 2 ^ n2 := ⟨_, rfl⟩
                    have hxQ : x < Q := by rw [hx, hQ]; exact Nat.mod_lt _ (Nat.two_pow_pos n2)
                    have K := Lib.hid (fun cap => bk_rev (a := a) (n := n2) (x := x) (cap := cap) (C' := cod qs (t + 1)) HLIE.out (HB6.out.only HLIE.out ((Only.refl (fun _ => False) w6').drewN 1)) hdc hpo hpl (by omega) (by omega) (by rw [hx]; exact hdec))
                    have s1 : IntKind.u64.wrap (n2 : Int) = (n2 : Int) := u64_in _ (by omega)
                    have s2 : min n2 32 = n2 := by omega
                    have s3 : IntKind.u32.wrap (2 ^ n2) = (Q : Int) := by rw [hQ]; exact shl_one n2 (by omega)
                    have s4 : ¬ (Q : Int) = 0 := by omega
                    have s5 : (V : Int).tmod (Q : Int) = (x : Int) := by rw [Int.tmod_eq_emod_of_nonneg (by omega), hx, hQ]; exact (Int.natCast_emod V (2 ^ n2)).symm
                    have s6 : (V : Int) % (Q : Int) = (x : Int) := by rw [hx, hQ]; exact (Int.natCast_emod V (2 ^ n2)).symm
                    have s7 : IntKind.u32.wrap (x : Int) = (x : Int) := u32_of _ (by omega) (by omega)
                    have n32 : (n2 : Int) < 32 := by omega
                    have a0 : (0 : Int) ≤ (a : Int) := h0
                    have a1 : (a : Int) ≤ 600 := by omega
                    have hne : ¬ 600 = a := by omega
                    clear hdec hdc hpo hpl hx h0 h1 h2 h3 v0 v1 hQ h8 hQ0 hxQ
                    go_wp2_with fail
                    go_still_tail 7, (by kernel_rfl)
                    change wpList _ _ _ _ _ w6'.drew
                    go_wp2_with fail
                    refine (K.out _).mono ?_
                    rintro e w7 ⟨rfl, hb7⟩
                    have HB7 := Lib.hid hb7
                    have KB := Lib.hid (show Calls Try.prog 24 #[.pointer (some ⟨g, 0, none⟩)] w7 (fun e w'' => e = .returned (.bool false) ∧ w7 = w'') from isBad_any hb7.pd)
                    clear hb7 K HB6
                    go_wp2_with fail
                    refine KB.out.mono ?_
                    rintro e w8 ⟨rfl, rfl⟩
                    go_wp2_with fail
                    go_roundw
                    case rel => exact ⟨t + 1, by omega, by go_num, HB7.out⟩
                    case measure => simp [intOf]; omega
                · obtain ⟨n2, rfl⟩ := Int.eq_ofNat_of_zero_le h0
                  obtain ⟨x, hx⟩ : ∃ x, x = V % 2 ^ n2 := ⟨_, rfl⟩
                  have K := Lib.hid (bk_straight (a := a.toNat) (n := n2) (x := x) (C' := cod qs (t + 1)) HLIE.out HB6.out hdc (by omega) (by rw [hx]; exact hdec))
                  by_cases hn32 : n2 < 32
                  · obtain ⟨Q, hQ⟩ : ∃ Q, Q = 2 ^ n2 := ⟨_, rfl⟩
                    have hQ0 : 0 < Q := by rw [hQ]; exact Nat.two_pow_pos n2
                    have s1 : IntKind.u64.wrap (n2 : Int) = (n2 : Int) := u64_in _ (by omega)
                    have s2 : min n2 32 = n2 := by omega
                    have s3 : IntKind.u32.wrap (2 ^ n2) = (Q : Int) := by rw [hQ]; exact shl_one n2 hn32
                    have s4 : ¬ (Q : Int) = 0 := by omega
                    have s5 : (V : Int).tmod (Q : Int) = (x : Int) := by rw [Int.tmod_eq_emod_of_nonneg (by omega), hx, hQ]; exact (Int.natCast_emod V (2 ^ n2)).symm
                    have s6 : (V : Int) % (Q : Int) = (x : Int) := by rw [hx, hQ]; exact (Int.natCast_emod V (2 ^ n2)).symm
                    have hxV : x ≤ V := by rw [hx]; exact Nat.mod_le _ _
                    have s7 : IntKind.u32.wrap (x : Int) = (x : Int) := u32_of _ (by omega) (by omega)
                    have n32 : (n2 : Int) < 32 := by omega
                    clear hdec hdc hpo hpl hx h0 h1 v0 v1 hQ hQ0 hn32 hxV
                    go_wp2_with fail
                    refine K.out.mono ?_
                    rintro e w7 ⟨rfl, hb7⟩
                    have HB7 := Lib.hid hb7
                    have KB := Lib.hid (show Calls Try.prog 24 #[.pointer (some ⟨g, 0, none⟩)] w7 (fun e w'' => e = .returned (.bool false) ∧ w7 = w'') from isBad_any hb7.pd)
                    clear hb7 K HB6
                    go_wp2_with fail
                    refine KB.out.mono ?_
                    rintro e w8 ⟨rfl, rfl⟩
                    go_wp2_with fail
                    go_roundw
                    case rel => exact ⟨t + 1, by omega, by go_num, HB7.out⟩
                    case measure => simp [intOf]; omega
                  · have hxV : x = V := by rw [hx, show n2 = 32 by omega]; exact Nat.mod_eq_of_lt (by omega)
                    have n32 : ¬ (n2 : Int) < 32 := by omega
                    subst hxV
                    clear hdec hdc hpo hpl hx h0 h1 v0 v1 hn32
                    go_wp2_with fail
                    refine K.out.mono ?_
                    rintro e w7 ⟨rfl, hb7⟩
                    have HB7 := Lib.hid hb7
                    have KB := Lib.hid (show Calls Try.prog 24 #[.pointer (some ⟨g, 0, none⟩)] w7 (fun e w'' => e = .returned (.bool false) ∧ w7 = w'') from isBad_any hb7.pd)
                    clear hb7 K HB6
                    go_wp2_with fail
                    refine KB.out.mono ?_
                    rintro e w8 ⟨rfl, rfl⟩
                    go_wp2_with fail
                    go_roundw
                    case rel => exact ⟨t + 1, by omega, by go_num, HB7.out⟩
                    case measure => simp [intOf]; omega
            · obtain rfl : t = M := by omega
              have hM := HM.out
              have hend := ends_dec (more := more) HEND.out
              obtain ⟨hok, hpo, hpl, _⟩ := cod_ok (qs := qs) t
              have KD := Lib.hid (fun d => isDone_any (HBK.out.pd.drewN d))
              rw [hend] at KD
              obtain ⟨at_, rr, cc, bad, hB, hF, hfg, q0, q1, q2, q3⟩ := HBK.out.pd
              rw [hend] at q3
              have hdrop : ((bs ++ more).length : Int) - (at_ : Int) = (n : Int) := by
                have hle := hF.le
                rcases q3 with ⟨_, h⟩ | ⟨_, h⟩
                · cases h
                · injection h with h
                  injection h with _ h
                  injection h with _ h
                  have := congrArg List.length h
                  rw [List.length_drop] at this
                  have := HNL.out
                  omega
              have KL := Lib.hid (fun d => feedLeft_any (hF.drewN d))
              rw [hdrop] at KL
              have HPL := Lib.hid hpl
              clear hend hok hpo hpl hB hF hfg q0 q1 q2 q3 hdrop htM
              have i1 : (t : Int) < (m : Int) := by omega
              have i2 : ¬ (t : Int) < 2000 := by omega
              clear hM
              go_wp2_with fail
              go_loopw [16] (fun i wt => ∃ s k0 : Nat, s ≤ 600 ∧ i = .int .i64 (s : Int) ∧ wt = wr.drewN k0) (fun i _ => 600 - (intOf i).toNat)
              case atStart => exact ⟨0, 0, by omega, by first | trivial | exact ⟨rfl, rfl⟩ | simp⟩
              case round =>
                obtain ⟨s, k0, hs, rfl, rfl⟩ := hrel
                by_cases hlt : s < 600
                · have hx1 := HBK.out.rp.cell (i := s) (by rw [HPL.out]; exact hlt)
                  have hx2 := HBK.out.rq.cell (i := s) (by rw [HPL.out]; exact hlt)
                  generalize (cod qs t).1.getD s 0 = y at hx1 hx2
                  have t0 : (0 : Int) ≤ (s : Int) := by omega
                  have t1 : (s : Int) < 600 := by omega
                  go_wp2_with fail
                  go_quiet (fail)
                  go_wp2_with fail
                  go_roundw
                  case rel => exact ⟨s + 1, k0 + nq, by omega, by go_num, by first | trivial | rfl⟩
                  case measure => simp [intOf]; omega
                · obtain rfl : s = 600 := by omega
                  go_wp2_with fail
                  refine (KD.out k0).mono ?_
                  rintro e w8 ⟨rfl, rfl⟩
                  go_wp2_with fail
                  refine (KL.out k0).mono ?_
                  rintro e w9 ⟨rfl, d9, rfl⟩
                  go_wp2_with fail
                  go_ret
                  exact ⟨rfl, below_drewN HBK.out.bel _⟩
        · obtain rfl : m = j := by omega
          clear hjm hgo
          obtain ⟨M, hMM⟩ : ∃ M, M = m := ⟨_, rfl⟩
          rw [← hMM] at HOK KF HFR HR
          have HM := Lib.hid (show M ≤ m ∧ M ≤ 2000 ∧ M = m ∧ (cod qs M).2.l ≤ 64005 from ⟨by omega, by omega, by omega, by rw [hMM]; exact HM0.out⟩)
          clear hMM
          go_wp2_with fail
          refine KF.out.mono ?_
          rintro e w4 ⟨A4, m4, bs, rfl, hown, hbe, hbl, hnw, hne, hPn, hO⟩
          have HEND := Lib.hid (ends_of HOK.out hbe hbl)
          have HSB := Lib.hid (own_facts hown).1
          have hpo : ¬ pset gc G bp := fun hh => by
            rcases hh with hh | hh
            · have := HGL.out; omega
            · have := HG.out bp hh; omega
          have HR4 := Lib.hid (HR.out.only hO hpo)
          have HB4 := Lib.hid (below_only HB.out hO (Nat.le_refl _) (fun i hi => by
            have := HGL.out
            rcases hi with hi | hi
            · omega
            · have := HG.out i hi; omega))
          have HBL := Lib.hid (show bs.length ≤ 64005 by have := HM.out.2.2.2; omega)
          clear hown hbe hbl hnw hne hPn hO hpo HR HB KF HG HOK
          have HE4 := Lib.hid (own_empty w4 (Nat.le_refl _) 5)
          go_wp2_with (at_builtin; refine wpList_app _ rfl (.tmp 48) (.tmp 49) 38 rfl w4.heap.size 5 i _ 1 Try.underlying38 hi hz0 hz1 hz2 rfl _ 0 [] rfl HE4.out A4 bs.length m4 (bv bs) rfl (HSB.out.alloc _) (bv_one bs) (by have := HBL.out; omega) (by omega) (by simp) ?_)
          intro A5 c5 w5 ho hg
          have hb45 : Below w4.heap.size w4 w5 := ((Below.refl w4.heap.size w4).alloc (Nat.le_refl _) _).grown hg (by simp) (fun k e => (HE4.out.lt k e).1)
          have HS5 := Lib.hid (HS.out.below (below_trans HB4.out hb45))
          try simp only [Nat.zero_add, List.nil_append] at ho
          have HO5 := Lib.hid ho
          have HB45 := Lib.hid hb45
          have hs5 := hb45.size
          clear ho hg hb45 HSB HE4
          go_wp2_with (at_builtin; refine wpList_app _ rfl (.tmp 50) (.tmp 51) 38 rfl w4.heap.size 5 i _ 1 Try.underlying38 hi hz0 hz1 hz2 rfl _ bs.length (bv bs) (by simp [Act.eval, Act.put]) HO5.out A n c (bv more) rfl HS5.out (bv_one more) (by have := HBL.out; have := HBIG.out; omega) (by omega) hs5 ?_)
          intro A6 c6 w6 ho hg
          have hb46 : Below w4.heap.size w4 w6 := HB45.out.grown hg hs5 (fun k e => (HO5.out.lt k e).1)
          rw [← bv_append] at ho
          have HS6 := Lib.hid (own_facts ho).1
          have HB6 := Lib.hid (below_trans HB4.out hb46)
          have HR6 := Lib.hid (HR4.out.only (Only.of_below (S := fun _ => False) hb46) (fun h => h))
          clear ho hg hb46 HB4 HR4 HO5 HB45 HS5 hs5
          have hbp6 := HR6.out.lt
          go_wp2_with fail
          refine (newFeed_any HS6.out (by have := HBL.out; have := HBIG.out; omega)).mono ?_
          rintro e w7 ⟨f, rfl, hf, hF, hb7⟩
          have HF7 := Lib.hid hF
          have HB7 := Lib.hid (below_trans HB6.out hb7)
          have HR7 := Lib.hid (HR6.out.only (Only.of_below (S := fun _ => False) hb7) (fun h => h))
          clear hF hb7 HS6 HB6 HR6
          generalize w6.heap.size = lo at *
          go_wp2_with fail
          refine (pnew_any HF7.out).mono ?_
          rintro e w8 ⟨rfl, hP, ho8⟩
          have hfg := HF7.out.lt
          rw [started_dec HEND.out HFR.out] at hP
          have HP8 := Lib.hid hP
          have HR8 := Lib.hid (HR7.out.only ho8 (by omega))
          have HB8 := Lib.hid (below_only HB7.out ho8 (Nat.le_refl _) (fun i hi => by have := HGL.out; omega))
          clear hP ho8 HF7 HB7 HR7 HFR
          generalize w7.heap.size = g at *
          go_wp2_with fail
          refine (fresh_any (n := 600) (by omega) w8).mono ?_
          rintro e w9 ⟨rfl, hRq, hb9⟩
          have hgq := HP8.out.lt
          have hO9 := Only.of_below (S := fun _ => False) hb9
          have HLIE := Lib.hid (show LieB w w.heap.size g f lo bp w8.heap.size by have := HGL.out; unfold LieB; omega)
          have HBK := Lib.hid (show Bk w w9 w.heap.size g f lo bp w8.heap.size bs more (cod qs M) (cod qs 0) from ⟨HP8.out.only hO9 (fun i hi => hi.elim), hRq, HR8.out.only hO9 (fun h => h), below_only HB8.out hO9 (Nat.le_refl _) (fun _ h => h.elim)⟩)
          clear hRq hb9 hO9 HP8 HR8 HB8 hgq hfg hf hbp6
          generalize w8.heap.size = bq at *
          go_wp2_with fail
          go_loopw [12] (fun i wr => ∃ (j : Nat), j ≤ M ∧ i = .int .i64 (j : Int) ∧ Bk w wr w.heap.size g f lo bp bq bs more (cod qs M) (cod qs j)) (fun i _ => M - (intOf i).toNat)
          case atStart => exact ⟨0, by omega, rfl, HBK.out⟩
          case round =>
            clear HBK
            obtain ⟨t, ht, rfl, hbk⟩ := hrel
            have HBK := Lib.hid hbk
            clear hbk
            by_cases htM : t < M
            · have htm : t < m := by have := HM.out.1; omega
              have i0 : (0 : Int) ≤ (t : Int) := by omega
              have i1 : (t : Int) < (m : Int) := by omega
              have i2 : (t : Int) < 2000 := by have := HM.out.2.1; omega
              obtain ⟨bz, oz, rfl, hbl, c0, c1, c2, c3⟩ := HSC.out.cells HBK.out.bel htm
              generalize hq : qs t = q at *
              obtain ⟨k, a, n2, v⟩ := q
              dsimp only at c0 c1 c2 c3
              have HQ := Lib.hid hq
              clear hq
              have hXA := Blk.fresh wr 34 #[.int .i64 k, .int .i64 a, .int .i64 n2, .int .u32 v]
              have HBA := Lib.hid (HBK.out.only HLIE.out ((Only.refl (fun _ => False) wr).alloc (.cells #[.int .i64 k, .int .i64 a, .int .i64 n2, .int .u32 v] 34)))
              have HXA := Lib.hid hXA
              clear hXA HBK
              go_wp2_with fail
              generalize wr.alloc (.cells #[.int .i64 k, .int .i64 a, .int .i64 n2, .int .u32 v] 34) = wA at *
              generalize wr.heap.size = na at *
              refine (show Calls Try.prog 12 #[.agg #[.int .i64 k, .int .i64 a, .int .i64 n2, .int .u32 v]] wA _ from right_any ⟨k, a, n2, v⟩ wA).mono ?_
              rintro e w6' ⟨bb, rfl, hbb, hb6⟩
              have HB6 := Lib.hid (HBA.out.only HLIE.out (Only.of_below hb6))
              have hXA := HXA.out.below hb6
              obtain ⟨x0, x1, x2, x3⟩ : w6'.cell? ⟨na, 0, none⟩ = some (.int .i64 k) ∧ w6'.cell? ⟨na, 1, none⟩ = some (.int .i64 a) ∧ w6'.cell? ⟨na, 2, none⟩ = some (.int .i64 n2) ∧ w6'.cell? ⟨na, 3, none⟩ = some (.int .u32 v) := ⟨hXA.cell 0, hXA.cell 1, hXA.cell 2, hXA.cell 3⟩
              have HBB := Lib.hid hbb
              clear hb6 hbb hXA HBA HXA c0 c1 c2 c3
              cases bb
              · have HEQ := Lib.hid (show cod qs (t + 1) = cod qs t from cod_no (by rw [HQ.out]; exact fun h => by have := HBB.out.2 h; cases this))
                go_wp2_with fail
                go_roundw
                case rel => exact ⟨t + 1, by omega, by go_num, by rw [HEQ.out]; exact HB6.out⟩
                case measure => simp [intOf]; omega
              · have hq := HBB.out.1 rfl
                have hdec := cod_dec (more := more) (j := t) HEND.out htM (by rw [HQ.out]; exact hq)
                rw [HQ.out] at hdec
                have hlit := HQS.out t htm
                rw [HQ.out] at hlit
                obtain ⟨hok, hpo, hpl, _⟩ := cod_ok (qs := qs) t
                have hdc := decAt_ok (more := more) HEND.out hok (cod_reach' (Nat.le_of_lt htM))
                obtain ⟨v0, v1⟩ := hlit.v
                have HC1 := Lib.hid (rfl : cod qs (t + 1) = cod qs (t + 1))
                clear HBB hlit hok HQ
                unfold RightQ at hq
                dsimp only at hq hdec v0 v1
                obtain ⟨V, rfl⟩ := Int.eq_ofNat_of_zero_le v0
                rcases hq with ⟨rfl, h0, h1⟩ | ⟨hk, h0, h1, h2, h3⟩ | ⟨rfl, h0, h1⟩
                · obtain ⟨a, rfl⟩ := Int.eq_ofNat_of_zero_le h0
                  obtain ⟨x, hx⟩ : ∃ x, x = V % 2 := ⟨_, rfl⟩
                  have K := Lib.hid (bk_bit (a := a) (n := n2.toNat) (x := x) (C' := cod qs (t + 1)) HLIE.out HB6.out hdc hpo hpl (by omega) (by rw [hx]; exact hdec))
                  have f1 : (V : Int).tmod 2 = (x : Int) := by rw [Int.tmod_eq_emod_of_nonneg (by omega)]; omega
                  have f2 : (V : Int) % 2 = (x : Int) := by omega
                  have f3 : IntKind.u32.wrap (x : Int) = (x : Int) := u32_of _ (by omega) (by omega)
                  have a1 : (a : Int) < 600 := by omega
                  have a0 : (0 : Int) ≤ (a : Int) := h0
                  clear hdec hdc hpo hpl hx h0 h1 v0 v1
                  go_wp2_with fail
                  refine K.out.mono ?_
                  rintro e w7 ⟨rfl, hb7⟩
                  have HB7 := Lib.hid hb7
                  have KB := Lib.hid (show Calls Try.prog 24 #[.pointer (some ⟨g, 0, none⟩)] w7 (fun e w'' => e = .returned (.bool false) ∧ w7 = w'') from isBad_any hb7.pd)
                  clear hb7 K HB6
                  go_wp2_with fail
                  refine KB.out.mono ?_
                  rintro e w8 ⟨rfl, rfl⟩
                  go_wp2_with fail
                  go_roundw
                  case rel => exact ⟨t + 1, by omega, by go_num, HB7.out⟩
                  case measure => simp [intOf]; omega
                · obtain ⟨a, rfl⟩ := Int.eq_ofNat_of_zero_le h0
                  obtain ⟨n2, rfl⟩ := Int.eq_ofNat_of_zero_le (show 0 ≤ n2 by omega)
                  rcases hk with rfl | rfl
                  · have h8 := pow8 (n := n2) (by omega)
                    obtain ⟨Q, hQ⟩ : ∃ Q, Q = 2 ^ n2 := ⟨_, rfl⟩
                    have hQ0 : 0 < Q := by rw [hQ]; exact Nat.two_pow_pos n2
                    obtain ⟨x, hx⟩ : ∃ x, x = V % 2 ^ n2 := ⟨_, rfl⟩
                    have hxQ : x < Q := by rw [hx, hQ]; exact Nat.mod_lt _ (Nat.two_pow_pos n2)
                    have K := Lib.hid (fun cap => bk_tree (a := a) (n := n2) (x := x) (cap := cap) (C' := cod qs (t + 1)) HLIE.out (HB6.out.only HLIE.out ((Only.refl (fun _ => False) w6').drewN 1)) hdc hpo hpl (by omega) (by omega) (by rw [hx]; exact hdec))
                    have s1 : IntKind.u64.wrap (n2 : Int) = (n2 : Int) := u64_in _ (by omega)
                    have s2 : min n2 32 = n2 := by omega
                    have s3 : IntKind.u32.wrap (2 ^ n2) = (Q : Int) := by rw [hQ]; exact shl_one n2 (by omega)
                    have s4 : ¬ (Q : Int) = 0 := by omega
                    have s5 : (V : Int).tmod (Q : Int) = (x : Int) := by rw [Int.tmod_eq_emod_of_nonneg (by omega), hx, hQ]; exact (Int.natCast_emod V (2 ^ n2)).symm
                    have s6 : (V : Int) % (Q : Int) = (x : Int) := by rw [hx, hQ]; exact (Int.natCast_emod V (2 ^ n2)).symm
                    have s7 : IntKind.u32.wrap (x : Int) = (x : Int) := u32_of _ (by omega) (by omega)
                    have n32 : (n2 : Int) < 32 := by omega
                    have a0 : (0 : Int) ≤ (a : Int) := h0
                    have a1 : (a : Int) ≤ 600 := by omega
                    have hne : ¬ 600 = a := by omega
                    clear hdec hdc hpo hpl hx h0 h1 h2 h3 v0 v1 hQ h8 hQ0 hxQ
                    go_wp2_with fail
                    go_still_tail 7, (by kernel_rfl)
                    change wpList _ _ _ _ _ w6'.drew
                    go_wp2_with fail
                    refine (K.out _).mono ?_
                    rintro e w7 ⟨rfl, hb7⟩
                    have HB7 := Lib.hid hb7
                    have KB := Lib.hid (show Calls Try.prog 24 #[.pointer (some ⟨g, 0, none⟩)] w7 (fun e w'' => e = .returned (.bool false) ∧ w7 = w'') from isBad_any hb7.pd)
                    clear hb7 K HB6
                    go_wp2_with fail
                    refine KB.out.mono ?_
                    rintro e w8 ⟨rfl, rfl⟩
                    go_wp2_with fail
                    go_roundw
                    case rel => exact ⟨t + 1, by omega, by go_num, HB7.out⟩
                    case measure => simp [intOf]; omega
                  · have h8 := pow8 (n := n2) (by omega)
                    obtain ⟨Q, hQ⟩ : ∃ Q, Q = 2 ^ n2 := ⟨_, rfl⟩
                    have hQ0 : 0 < Q := by rw [hQ]; exact Nat.two_pow_pos n2
                    obtain ⟨x, hx⟩ : ∃ x, x = V % 2 ^ n2 := ⟨_, rfl⟩
                    have hxQ : x < Q := by rw [hx, hQ]; exact Nat.mod_lt _ (Nat.two_pow_pos n2)
                    have K := Lib.hid (fun cap => bk_rev (a := a) (n := n2) (x := x) (cap := cap) (C' := cod qs (t + 1)) HLIE.out (HB6.out.only HLIE.out ((Only.refl (fun _ => False) w6').drewN 1)) hdc hpo hpl (by omega) (by omega) (by rw [hx]; exact hdec))
                    have s1 : IntKind.u64.wrap (n2 : Int) = (n2 : Int) := u64_in _ (by omega)
                    have s2 : min n2 32 = n2 := by omega
                    have s3 : IntKind.u32.wrap (2 ^ n2) = (Q : Int) := by rw [hQ]; exact shl_one n2 (by omega)
                    have s4 : ¬ (Q : Int) = 0 := by omega
                    have s5 : (V : Int).tmod (Q : Int) = (x : Int) := by rw [Int.tmod_eq_emod_of_nonneg (by omega), hx, hQ]; exact (Int.natCast_emod V (2 ^ n2)).symm
                    have s6 : (V : Int) % (Q : Int) = (x : Int) := by rw [hx, hQ]; exact (Int.natCast_emod V (2 ^ n2)).symm
                    have s7 : IntKind.u32.wrap (x : Int) = (x : Int) := u32_of _ (by omega) (by omega)
                    have n32 : (n2 : Int) < 32 := by omega
                    have a0 : (0 : Int) ≤ (a : Int) := h0
                    have a1 : (a : Int) ≤ 600 := by omega
                    have hne : ¬ 600 = a := by omega
                    clear hdec hdc hpo hpl hx h0 h1 h2 h3 v0 v1 hQ h8 hQ0 hxQ
                    go_wp2_with fail
                    go_still_tail 7, (by kernel_rfl)
                    change wpList _ _ _ _ _ w6'.drew
                    go_wp2_with fail
                    refine (K.out _).mono ?_
                    rintro e w7 ⟨rfl, hb7⟩
                    have HB7 := Lib.hid hb7
                    have KB := Lib.hid (show Calls Try.prog 24 #[.pointer (some ⟨g, 0, none⟩)] w7 (fun e w'' => e = .returned (.bool false) ∧ w7 = w'') from isBad_any hb7.pd)
                    clear hb7 K HB6
                    go_wp2_with fail
                    refine KB.out.mono ?_
                    rintro e w8 ⟨rfl, rfl⟩
                    go_wp2_with fail
                    go_roundw
                    case rel => exact ⟨t + 1, by omega, by go_num, HB7.out⟩
                    case measure => simp [intOf]; omega
                · obtain ⟨n2, rfl⟩ := Int.eq_ofNat_of_zero_le h0
                  obtain ⟨x, hx⟩ : ∃ x, x = V % 2 ^ n2 := ⟨_, rfl⟩
                  have K := Lib.hid (bk_straight (a := a.toNat) (n := n2) (x := x) (C' := cod qs (t + 1)) HLIE.out HB6.out hdc (by omega) (by rw [hx]; exact hdec))
                  by_cases hn32 : n2 < 32
                  · obtain ⟨Q, hQ⟩ : ∃ Q, Q = 2 ^ n2 := ⟨_, rfl⟩
                    have hQ0 : 0 < Q := by rw [hQ]; exact Nat.two_pow_pos n2
                    have s1 : IntKind.u64.wrap (n2 : Int) = (n2 : Int) := u64_in _ (by omega)
                    have s2 : min n2 32 = n2 := by omega
                    have s3 : IntKind.u32.wrap (2 ^ n2) = (Q : Int) := by rw [hQ]; exact shl_one n2 hn32
                    have s4 : ¬ (Q : Int) = 0 := by omega
                    have s5 : (V : Int).tmod (Q : Int) = (x : Int) := by rw [Int.tmod_eq_emod_of_nonneg (by omega), hx, hQ]; exact (Int.natCast_emod V (2 ^ n2)).symm
                    have s6 : (V : Int) % (Q : Int) = (x : Int) := by rw [hx, hQ]; exact (Int.natCast_emod V (2 ^ n2)).symm
                    have hxV : x ≤ V := by rw [hx]; exact Nat.mod_le _ _
                    have s7 : IntKind.u32.wrap (x : Int) = (x : Int) := u32_of _ (by omega) (by omega)
                    have n32 : (n2 : Int) < 32 := by omega
                    clear hdec hdc hpo hpl hx h0 h1 v0 v1 hQ hQ0 hn32 hxV
                    go_wp2_with fail
                    refine K.out.mono ?_
                    rintro e w7 ⟨rfl, hb7⟩
                    have HB7 := Lib.hid hb7
                    have KB := Lib.hid (show Calls Try.prog 24 #[.pointer (some ⟨g, 0, none⟩)] w7 (fun e w'' => e = .returned (.bool false) ∧ w7 = w'') from isBad_any hb7.pd)
                    clear hb7 K HB6
                    go_wp2_with fail
                    refine KB.out.mono ?_
                    rintro e w8 ⟨rfl, rfl⟩
                    go_wp2_with fail
                    go_roundw
                    case rel => exact ⟨t + 1, by omega, by go_num, HB7.out⟩
                    case measure => simp [intOf]; omega
                  · have hxV : x = V := by rw [hx, show n2 = 32 by omega]; exact Nat.mod_eq_of_lt (by omega)
                    have n32 : ¬ (n2 : Int) < 32 := by omega
                    subst hxV
                    clear hdec hdc hpo hpl hx h0 h1 v0 v1 hn32
                    go_wp2_with fail
                    refine K.out.mono ?_
                    rintro e w7 ⟨rfl, hb7⟩
                    have HB7 := Lib.hid hb7
                    have KB := Lib.hid (show Calls Try.prog 24 #[.pointer (some ⟨g, 0, none⟩)] w7 (fun e w'' => e = .returned (.bool false) ∧ w7 = w'') from isBad_any hb7.pd)
                    clear hb7 K HB6
                    go_wp2_with fail
                    refine KB.out.mono ?_
                    rintro e w8 ⟨rfl, rfl⟩
                    go_wp2_with fail
                    go_roundw
                    case rel => exact ⟨t + 1, by omega, by go_num, HB7.out⟩
                    case measure => simp [intOf]; omega
            · obtain rfl : t = M := by omega
              have hM := HM.out
              have hend := ends_dec (more := more) HEND.out
              obtain ⟨hok, hpo, hpl, _⟩ := cod_ok (qs := qs) t
              have KD := Lib.hid (fun d => isDone_any (HBK.out.pd.drewN d))
              rw [hend] at KD
              obtain ⟨at_, rr, cc, bad, hB, hF, hfg, q0, q1, q2, q3⟩ := HBK.out.pd
              rw [hend] at q3
              have hdrop : ((bs ++ more).length : Int) - (at_ : Int) = (n : Int) := by
                have hle := hF.le
                rcases q3 with ⟨_, h⟩ | ⟨_, h⟩
                · cases h
                · injection h with h
                  injection h with _ h
                  injection h with _ h
                  have := congrArg List.length h
                  rw [List.length_drop] at this
                  have := HNL.out
                  omega
              have KL := Lib.hid (fun d => feedLeft_any (hF.drewN d))
              rw [hdrop] at KL
              have HPL := Lib.hid hpl
              clear hend hok hpo hpl hB hF hfg q0 q1 q2 q3 hdrop htM
              have i1 : ¬ (t : Int) < (m : Int) := by omega
              clear hM
              go_wp2_with fail
              go_loopw [16] (fun i wt => ∃ s k0 : Nat, s ≤ 600 ∧ i = .int .i64 (s : Int) ∧ wt = wr.drewN k0) (fun i _ => 600 - (intOf i).toNat)
              case atStart => exact ⟨0, 0, by omega, by first | trivial | exact ⟨rfl, rfl⟩ | simp⟩
              case round =>
                obtain ⟨s, k0, hs, rfl, rfl⟩ := hrel
                by_cases hlt : s < 600
                · have hx1 := HBK.out.rp.cell (i := s) (by rw [HPL.out]; exact hlt)
                  have hx2 := HBK.out.rq.cell (i := s) (by rw [HPL.out]; exact hlt)
                  generalize (cod qs t).1.getD s 0 = y at hx1 hx2
                  have t0 : (0 : Int) ≤ (s : Int) := by omega
                  have t1 : (s : Int) < 600 := by omega
                  go_wp2_with fail
                  go_quiet (fail)
                  go_wp2_with fail
                  go_roundw
                  case rel => exact ⟨s + 1, k0 + nq, by omega, by go_num, by first | trivial | rfl⟩
                  case measure => simp [intOf]; omega
                · obtain rfl : s = 600 := by omega
                  go_wp2_with fail
                  refine (KD.out k0).mono ?_
                  rintro e w8 ⟨rfl, rfl⟩
                  go_wp2_with fail
                  refine (KL.out k0).mono ?_
                  rintro e w9 ⟨rfl, d9, rfl⟩
                  go_wp2_with fail
                  go_ret
                  exact ⟨rfl, below_drewN HBK.out.bel _⟩
  · have hbig' : (n : Int) > 4096 := by omega
    go_enter Try.func4, Try.ntmps4
    go_wp2_with fail
    refine (awake_any w).mono ?_
    rintro e w1 ⟨rfl, hb⟩
    go_wp2_with fail
    go_ret
    exact ⟨rfl, hb⟩

set_option maxRecDepth 100000 in
theorem lifted (os : Os) (started : os.Started) (H : Type) (enc : TypeId × Value → H) :
    ReturnsInHanded {} Try.checked os 4 .any (Rows.rencBackSpec.pre6 enc Try.prog Try.f4 Rows.rencBackRow.domain false) (Rows.rencBackSpec.post enc Try.prog Try.f4 false true false false) := by
  refine returnsInHanded_of_change (C := Try.checked) own started (by kernel_rfl) Try.func4
    (ChangeSpec.witness6 (enc := enc) (C := Try.checked) false ⟨#[], #[.slice none 0 0, .slice none 0 0], []⟩ 8 (by kernel_rfl) (by kernel_rfl) (by kernel_rfl) (by kernel_rfl)) ?_
  intro W base args ds gs before hval0 hW hcnd _
  have hval : ∀ (j : Nat) t v, Try.f4.params[j]? = some t → args[j]? = some v → Value.okWide Try.prog W .any base t v := hval0
  have hW' := hW
  obtain ⟨p, q, hA0, hV, rfl, hfz, hnd⟩ := hW
  have hA : DataW.TrodAll enc Try.prog W 0 (fun _ => true) true Try.f4.params.toList args.toList ds p := hA0
  rw [Try.params4] at hA hval
  obtain ⟨v0, vs0, d0, ds0, p0, q0, hargs, rfl, rfl, h0, r0⟩ := trodAll_cons hA
  obtain ⟨v1, vs1, d1, ds1, p1, q1, rfl, rfl, rfl, h1, r1⟩ := trodAll_cons r0
  obtain ⟨rfl, rfl, rfl⟩ := trodAll_nil r1
  obtain rfl : args = #[v0, v1] := by cases args; simp_all
  obtain ⟨rfl, rfl⟩ := trodVars_none hV
  obtain ⟨a0, len0, cap0, rfl⟩ := okWide_slice Try.underlying22 (hval 0 22 v0 rfl rfl)
  have k0 := h0
  have lt0 : ∀ x ∈ p0, x.block < W.heap.size := by obtain ⟨m, hm⟩ := k0; exact DataW.trod_lt m _ _ _ hm
  obtain ⟨qs0, w0, hw0, hl0, hm0⟩ := open_asks Try.underlying22 Try.underlying34 (by kernel_rfl) rfl rfl rfl rfl (by kernel_rfl) (by kernel_rfl) (by kernel_rfl) (by kernel_rfl) Try.underlying3 Try.underlying3 Try.underlying3 Try.underlying32 h0
  obtain ⟨a1, len1, cap1, rfl⟩ := okWide_slice Try.underlying38 (hval 1 38 v1 rfl rfl)
  have k1 := h1
  have lt1 : ∀ x ∈ p1, x.block < W.heap.size := by obtain ⟨m, hm⟩ := k1; exact DataW.trod_lt m _ _ _ hm
  obtain ⟨bs1, w1, hl1, hm1⟩ := open_bytes Try.underlying38 Try.underlying5 (by kernel_rfl) h1
  clear hA0 hval0
  refine (walk w0 hw0 (Nat.le_trans hl0 hm0) w1 (Nat.le_trans hl1 hm1)).mono fun e W' ⟨he, bel⟩ => ?_
  subst he
  exact ⟨_, rfl, _, _, _, [], _, [], hW', trodAll_mk1 (shut_bool Try.underlying4 _), (trodAll_cons_mk (Below.trod laidOut (by kernel_rfl) (of_decide_eq_true (by kernel_rfl)) k0 bel lt0) (trodAll_cons_mk (Below.trod laidOut (by kernel_rfl) (of_decide_eq_true (by kernel_rfl)) k1 bel lt1) trodAll_mk0)), rfl, bel.frame _, fun h => by cases h⟩

theorem proved : Rows.RencBackSaid :=
  OpenClaim.holds_of_wide 4 Try.f4 rfl rfl rfl rfl rfl rfl rfl ⟨rfl, rfl, rfl, rfl, rfl⟩ rfl rfl rfl rfl rfl (by kernel_rfl) Try.func4 (by kernel_rfl)
    (of_decide_eq_true (by kernel_rfl)) (by unfold Func.isWrapper; first | (rw [if_pos (by decide +kernel)]; kernel_rfl) | (rw [if_neg (by decide +kernel)]; exact ⟨rfl, rfl⟩))
    (fun os started H enc _ => lifted os started H enc)
#print axioms proved
end Go.Proofs.Ytokkaidepahepaa.rencBack
