/-
  PtWalk: put together.
-/
import Derived.Test.YtkdmahdhbogmeaaT16
import Derived.Test.YtkdmahdhbogmeaaT18
import Derived.Test.YtkdmahdhbogmeaaT22
import Derived.Test.YtkdmahdhbogmeaaT06
import Derived.Deep.RegionHeld3
import Derived.BigQuiet
set_option linter.unusedVariables false
set_option linter.unusedSimpArgs false
/-
  The law ParseTells, walked.
-/
namespace Go.Proofs.Ytkdmahdhbogmeaa
open Go.RowKit

/-- what the loop needs of the packets -/
theorem tells_all {bs : List UInt8} {I T : Nat} {L : List Pq} {s' : Ps} (hf : findF bs 4096 T ⟨I, 0, 0, 0, 0⟩ = (L, s')) (hI : I ≤ T) (hT : T ≤ bs.length) (hn : bs.length ≤ 4000) (hL : L.length ≤ T) :
    ∃ st : Lzs × Pm En, st = ((freshS 3 0 2 4096).1.puts (bs.take I), (freshS 3 0 2 4096).2) ∧
      (∀ h, h < L.length → PqLit (L.getD h ⟨0, 0, 0, 0⟩) ∧ fitsP (runT (fun h => L.getD h ⟨0, 0, 0, 0⟩) st h).1 (L.getD h ⟨0, 0, 0, 0⟩).k (L.getD h ⟨0, 0, 0, 0⟩).v.toNat (L.getD h ⟨0, 0, 0, 0⟩).n = true ∧
        ZNear (runT (fun h => L.getD h ⟨0, 0, 0, 0⟩) st h).1 (probsN 3 0) 4000 ∧ (runT (fun h => L.getD h ⟨0, 0, 0, 0⟩) st h).1.bad = false) ∧
      (runT (fun h => L.getD h ⟨0, 0, 0, 0⟩) st L.length).1.out = bs.take T ∧ (runT (fun h => L.getD h ⟨0, 0, 0, 0⟩) st L.length).1.r0 = s'.r0 ∧ (runT (fun h => L.getD h ⟨0, 0, 0, 0⟩) st L.length).1.r1 = s'.r1 ∧ (runT (fun h => L.getD h ⟨0, 0, 0, 0⟩) st L.length).1.r2 = s'.r2 ∧ (runT (fun h => L.getD h ⟨0, 0, 0, 0⟩) st L.length).1.r3 = s'.r3 := by
  refine ⟨_, rfl, ?_⟩
  obtain ⟨st, hst⟩ : ∃ st, st = ((freshS 3 0 2 4096).1.puts (bs.take I), (freshS 3 0 2 4096).2) := ⟨_, rfl⟩
  rw [← hst]
  obtain ⟨q, hq⟩ : ∃ q : Nat → Pq, q = fun h => L.getD h ⟨0, 0, 0, 0⟩ := ⟨_, rfl⟩
  have hqv : ∀ h, L.getD h ⟨0, 0, 0, 0⟩ = q h := fun h => by rw [hq]
  simp only [hqv]
  have hs0 : Tol bs 4096 (probsN 3 0) (0 + 27 * L.length) ⟨I, 0, 0, 0, 0⟩ st := by
    rw [hst]
    exact tol_start ⟨by decide, by decide, by decide, by decide, by decide⟩ (by omega) (by omega)
  obtain ⟨s0, hs00⟩ : ∃ s0 : Ps, s0 = ⟨I, 0, 0, 0, 0⟩ := ⟨_, rfl⟩
  rw [← hs00] at hs0 hf
  have hgo : goF bs 4096 T s0 T = (L, s') := hf
  have hm : (goF bs 4096 T s0 T).1.length = L.length := by rw [hgo]
  have hqs : ∀ h, h < L.length → q h = (stepF bs 4096 T (goF bs 4096 T s0 h).2).1 := fun h hh => by
    obtain ⟨_, g2, _⟩ := go_get (b := bs) (dict := 4096) (e := T) (s := s0) T h (by rw [hm]; exact hh)
    rw [hgo] at g2
    have g2 : L[h]? = _ := g2
    rw [← hqv, List.getD_eq_getElem?_getD, g2]
    rfl
  have htol := tol_run hs0 hT T hm hqs
  refine ⟨fun h hh => ?_, ?_⟩
  · have h1 := htol h (by omega)
    obtain ⟨g1, _, _⟩ := go_get (b := bs) (dict := 4096) (e := T) (s := s0) T h (by rw [hm]; exact hh)
    have h2 := h1
    rw [show 0 + 27 * (L.length - h) = (27 * (L.length - (h + 1))) + 27 by omega] at h2
    obtain ⟨p1, p2, _⟩ := tol_step h2 g1 hT
    rw [← hqs h hh] at p1 p2
    exact ⟨p1, p2, near_out h1.near (Nat.le_trans h1.near.out hn), h1.par.bad⟩
  · have h1 := (htol L.length (Nat.le_refl _)).par
    have hfull := go_full (b := bs) (dict := 4096) (e := T) (s := s0) T
    rw [hm, hgo] at hfull
    rw [hfull] at h1
    have hend : s'.i = T := by
      have e1 := go_end (b := bs) (dict := 4096) (e := T) (s := s0) (by rw [hs00]; exact hI) T
      rw [hgo] at e1
      have e1 : s'.i ≤ T := e1
      by_cases hl : s'.i < T
      · have e2 := go_more (b := bs) (dict := 4096) (e := T) (s := s0) T (by rw [hgo]; exact hl)
        rw [hgo] at e2
        have e2 : s0.i + T ≤ s'.i := e2
        omega
      · omega
    have ho := h1.out
    have ho : (runT q st L.length).1.out = bs.take s'.i := ho
    rw [hend] at ho
    exact ⟨ho, h1.r0, h1.r1, h1.r2, h1.r3⟩

set_option maxRecDepth 100000 in
set_option maxHeartbeats 16000000 in
theorem parseTells_walk {A : Option Addr} {n c fr to_ : Nat} {bs : List UInt8} {w : World} (hS : Sl w A n (bv bs)) (hnc : n ≤ c) (hc : c ≤ maxLen) (hfr : fr < 65536) (hto : to_ < 65536) :
    Calls Try.prog 4 #[.slice A n c, .int .u16 (fr : Int), .int .u16 (to_ : Int)] w fun e w' => e = .returned (.bool true) ∧ Below w.heap.size w w' := by
  have hbl : bs.length = n := by rw [← bv_length]; exact hS.1
  have HS := Lib.hid hS
  have HC := Lib.hid (And.intro hbl (And.intro hnc hc))
  have KA := Lib.hid (awake10_any w)
  clear hS hbl
  by_cases hbig : n > 4000
  · have g1 : (n : Int) > 4000 := by omega
    clear hnc hc hbig hfr hto
    go_enter Try.func4, Try.ntmps4
    go_wp2_with fail
    refine KA.out.mono ?_
    rintro x w1 ⟨rfl, hb1⟩
    have HB1 := Lib.hid hb1
    clear KA hb1
    go_wp2_with fail
    go_ret
    exact ⟨rfl, HB1.out⟩
  · have g1 : ¬ (n : Int) > 4000 := by omega
    obtain ⟨I, hI⟩ : ∃ I, I = min fr n := ⟨_, rfl⟩
    obtain ⟨X, hX⟩ : ∃ X, X = max to_ I := ⟨_, rfl⟩
    obtain ⟨T, hT⟩ : ∃ T, T = min X n := ⟨_, rfl⟩
    have m1 := min2_int (P := Try.prog) #[3, 3] 3 (fr : Int) (n : Int) (I : Int) (by omega)
    have m2 := max2_int (P := Try.prog) #[3, 3] 3 (to_ : Int) (I : Int) (X : Int) (by omega)
    have m3 := min2_int (P := Try.prog) #[3, 3] 3 (X : Int) (n : Int) (T : Int) (by omega)
    have HNU := Lib.hid (show I ≤ T ∧ T ≤ n ∧ n ≤ 4000 ∧ T ≤ c by omega)
    have s1 : (I : Int) ≤ (c : Int) := by omega
    have s2 : (T : Int) ≤ (c : Int) := by omega
    clear hbig hI hX hT hnc hc
    go_enter Try.func4, Try.ntmps4
    go_wp2_with fail
    refine KA.out.mono ?_
    rintro x w1 ⟨rfl, hb1⟩
    have HB1 := Lib.hid hb1
    have KF := pfind_any (fi := (I : Int)) (ti := (T : Int)) (di := 4096) (r0 := 0) (r1 := 0) (r2 := 0) (r3 := 0) (HS.out.below hb1) (by have := HNU.out; omega) HC.out.2.1 HC.out.2.2 (by decide) (by decide) ⟨by decide, by decide, by decide, by decide⟩
    have hF : fromN n (I : Int) = I := by have := HNU.out; unfold fromN; omega
    have hT : toN n I (T : Int) = T := by have := HNU.out; unfold toN; omega
    rw [hF, hT, show dictN 4096 = 4096 from rfl] at KF
    have KF := Lib.hid KF
    clear KA hb1 hF hT
    go_wp2_with fail
    clear hfr hto m1 m2 m3
    refine KF.out.mono ?_
    rintro x w5 ⟨hb5, L, s', R, cl, hf, hlit, hlen, rfl, hrow⟩
    have hpk := (pkts_row hrow).2
    have HF := Lib.hid (And.intro hf (And.intro hlit hlen))
    have HPK := Lib.hid hpk
    have HB5 := Lib.hid (below_p HB1.out hb5 (Nat.le_refl _))
    clear hb5 hf hlit hlen hrow hpk KF HB1
    go_upto_region 8 with fail
    clear KF
    have hq := Blk.fresh w5 24 #[.int .u32 (s'.r0 : Int), .int .u32 (s'.r1 : Int), .int .u32 (s'.r2 : Int), .int .u32 (s'.r3 : Int)]
    have hP6 := HPK.out.below ((Below.refl _ w5).alloc (Nat.le_refl _) (.cells #[.int .u32 (s'.r0 : Int), .int .u32 (s'.r1 : Int), .int .u32 (s'.r2 : Int), .int .u32 (s'.r3 : Int)] 24))
    have hB6 := HB5.out.alloc HB5.out.size (.cells #[.int .u32 (s'.r0 : Int), .int .u32 (s'.r1 : Int), .int .u32 (s'.r2 : Int), .int .u32 (s'.r3 : Int)] 24)
    have hyw : w.heap.size ≤ w5.heap.size := HB5.out.size
    generalize w5.alloc (.cells #[.int .u32 (s'.r0 : Int), .int .u32 (s'.r1 : Int), .int .u32 (s'.r2 : Int), .int .u32 (s'.r3 : Int)] 24) = w6 at *
    generalize w5.heap.size = y at *
    have HQ6 := Lib.hid (And.intro hq hyw)
    have HP6 := Lib.hid hP6
    have HB6 := Lib.hid hB6
    have hlenL : L.length ≤ 4000 := by have := HF.out.2.2; have := HNU.out; omega
    have KN := Lib.hid (cnew7_any (lc := 3) (lp := 0) (pb := 2) (dict := 4096) (k := 27 * L.length) ⟨by decide, by decide, by decide, by decide, by decide⟩ (by decide) (by omega) w6)
    have HLL := Lib.hid hlenL
    clear hq hP6 hB6 hyw hlenL HPK HB5
    go_wp2_with fail
    refine KN.out.mono ?_
    rintro x w7 ⟨K, rfl, hnl, hcw, hnew, ho7⟩
    have HC7 := Lib.hid hcw
    have HK := Lib.hid (And.intro hnl hnew)
    have HO7 := Lib.hid ho7
    have hsl := (HS.out.below (HB6.out.trans (ho7.below HB6.out.size (fun _ h => h.elim)))).first (k := I) (by have := HNU.out; omega)
    rw [← bv_take] at hsl
    have KP := Lib.hid (fun m => cputs_any (m := m) hcw hsl (by have := HNU.out; omega) (Nat.zero_le _))
    clear hcw hnl hnew ho7 hsl KN
    go_wp2_with fail
    refine (KP.out _).mono ?_
    rintro x w8 ⟨rfl, G8, A8, c8, hz8, hn8, hnt8, ho8⟩
    obtain ⟨st, hst, hall, hfin⟩ := tells_all HF.out.1 HNU.out.1 (by have := HNU.out; have := HC.out.1; omega) (by have := HNU.out; have := HC.out.1; omega) HF.out.2.2
    have hyg : Young w6.heap.size K none none := ⟨HK.out.2.1, HK.out.2.2.1, HK.out.2.2.2, fun _ h => by (cases h), fun _ h => by (cases h)⟩
    have hb7 : Below w6.heap.size w6 w7 := HO7.out.below (Nat.le_refl _) (fun _ h => h.elim)
    have hz8' : Cw K w8 G8 A8 c8 (runT (fun h => L.getD h ⟨0, 0, 0, 0⟩) st 0).1 (27 * (L.length - 0)) (runT (fun h => L.getD h ⟨0, 0, 0, 0⟩) st 0).2 := by
      show Cw K w8 G8 A8 c8 st.1 _ st.2
      rw [hst]
      have e : (freshS 3 0 2 4096).2 = (⟨List.replicate (1847 + K.nl) 1024, En.new⟩ : Pm En) := by
        rw [HK.out.1]
        rfl
      show Cw K w8 G8 A8 c8 ((Lzs.start 3 0 2 4096).puts (bs.take I)) _ (freshS 3 0 2 4096).2
      rw [e]
      exact hz8
    have hlen0 : ((runT (fun h => L.getD h ⟨0, 0, 0, 0⟩) st 0).1).out.length = ((Lzs.start 3 0 2 4096).puts (bs.take I)).out.length := by
      show st.1.out.length = _
      rw [hst]
      rfl
    have hy8 : Young w6.heap.size K G8 (tb A8 (runT (fun h => L.getD h ⟨0, 0, 0, 0⟩) st 0).1.out.length c8) := by
      rw [hlen0]
      exact hyg.step hn8 hnt8 hb7.size
    have hb8 : Below w6.heap.size w6 w8 := hb7.trans (ho8.below hb7.size (fun i hi => hyg.all hi))
    have HALL := Lib.hid hall
    have HFIN := Lib.hid hfin
    have HST := Lib.hid (And.intro hz8' (And.intro hy8 hb8))
    have HNL := Lib.hid (show 1847 + K.nl = probsN 3 0 by rw [HK.out.1]; rfl)
    clear hst hall hfin hyg hb7 hz8 hn8 hnt8 ho8 hz8' hlen0 hy8 hb8 KP HC7
    obtain ⟨q, hq⟩ : ∃ q : Nat → Pq, q = fun h => L.getD h ⟨0, 0, 0, 0⟩ := ⟨_, rfl⟩
    have hqv : ∀ h, L.getD h ⟨0, 0, 0, 0⟩ = q h := fun h => by rw [hq]
    rw [← hq] at HST HFIN
    have HALL := Lib.hid (show ∀ h, h < L.length → PqLit (q h) ∧ fitsP (runT q st h).1 (q h).k (q h).v.toNat (q h).n = true ∧ ZNear (runT q st h).1 (probsN 3 0) 4000 ∧ (runT q st h).1.bad = false by rw [hq]; exact HALL.out)
    have HP6 := Lib.hid (show Pkts w6 R L.length q by rw [hq]; exact HP6.out)
    clear hq hqv
    go_wp2_with fail
    go_loopw [13] (fun v wr => ∃ (h : Nat) (Ge : Option Nat) (A2 : Option Addr) (c2 : Nat), h ≤ L.length ∧ v = .int .i64 (h : Int) ∧ Cw K wr Ge A2 c2 (runT q st h).1 (27 * (L.length - h)) (runT q st h).2 ∧ Young w6.heap.size K Ge (tb A2 (runT q st h).1.out.length c2) ∧ Below w6.heap.size w6 wr) (fun v _ => L.length - (intOf v).toNat)
    case atStart => exact ⟨0, _, _, _, Nat.zero_le _, rfl, HST.out.1, HST.out.2.1, HST.out.2.2⟩
    case round =>
      clear HST
      obtain ⟨h, Ge, A2, c2, hh, rfl, hcw, hyo, hbe⟩ := hrel
      by_cases hlt : h < L.length
      · obtain ⟨p1, p2, p3, p4⟩ := HALL.out h hlt
        obtain ⟨bb, ob, hRb, hbb, hcb⟩ := HP6.out (by omega)
        obtain ⟨l0, l1, l2, l3⟩ := hcb h hlt
        have hsuc : runT q st (h + 1) = stepP (runT q st h) (q h).pk := rfl
        obtain ⟨av, ha⟩ := Int.eq_ofNat_of_zero_le p1.a.1
        obtain ⟨vv, hv⟩ := Int.eq_ofNat_of_zero_le p1.v.1
        have ha8 : av < 256 := by have := p1.a.2; omega
        have hv8 : vv < 4294967296 := by have := p1.v.2; omega
        have hpk : (q h).pk = ⟨(q h).k, vv, (q h).n, UInt8.ofNat av⟩ := by
          show (⟨(q h).k, (q h).v.toNat, (q h).n, UInt8.ofNat (q h).a.toNat⟩ : Pk) = _
          rw [ha, hv, Int.toNat_natCast, Int.toNat_natCast]
        have hub : ((UInt8.ofNat av).toNat : Int) = (av : Int) := by rw [UInt8.toNat_ofNat']; omega
        rw [hv, Int.toNat_natCast] at p2
        have KC := ccode_any (k := 27 * (L.length - (h + 1))) (kd := (q h).k) (len := (q h).n) (d := vv) (b := UInt8.ofNat av) (N := 4000) (by rw [show 27 * (L.length - (h + 1)) + 27 = 27 * (L.length - h) by omega]; exact hcw) (by rw [HNL.out]; exact p3) (by decide) p4 hv8
        have hpair : ((runT q st h).1, (runT q st h).2) = runT q st h := rfl
        rw [hpair, ← hpk, ← hsuc, p2, hub] at KC
        have KC := Lib.hid KC
        have m0 : wr.cell? ⟨bb, ob + h * 4, none⟩ = some (.int .i64 (q h).k) := by rw [hbe.cell hbb]; exact l0
        have m1 : wr.cell? ⟨bb, ob + h * 4 + 1, none⟩ = some (.int .u8 (av : Int)) := by rw [hbe.cell hbb, l1, ha]
        have m2 : wr.cell? ⟨bb, ob + h * 4 + 2, none⟩ = some (.int .i64 (q h).n) := by rw [hbe.cell hbb]; exact l2
        have m3 : wr.cell? ⟨bb, ob + h * 4 + 3, none⟩ = some (.int .u32 (vv : Int)) := by rw [hbe.cell hbb, l3, hv]
        have HY := Lib.hid (And.intro hyo hbe)
        have HLT := Lib.hid hlt
        have i0 : (0 : Int) ≤ (h : Int) := by omega
        have i1 : (h : Int) < (L.length : Int) := by omega
        have e1 : IntKind.i64.wrap ((h : Int) + 1) = (h : Int) + 1 := IntWalk.i64_in _ (by have := HLL.out; omega)
        subst hRb
        generalize (q h).k = kk at *
        generalize (q h).n = nn at *
        clear p1 p2 p3 p4 hcb l0 l1 l2 l3 hsuc ha hv ha8 hv8 hpk hub hpair hcw hyo hbe hlt hh hbb
        go_wp2_with fail
        refine KC.out.mono ?_
        rintro x w9 ⟨rfl, G3, A3, c3, hz3, hn3, hnt3, ho3⟩
        have HZ3 := Lib.hid hz3
        have HY3 := Lib.hid (HY.out.1.step hn3 hnt3 HY.out.2.size)
        have HB3 := Lib.hid (HY.out.2.trans (ho3.below HY.out.2.size (fun i hi => HY.out.1.all hi)))
        clear hz3 hn3 hnt3 ho3 HY KC m0 m1 m2 m3
        go_wp2_with fail
        go_roundw
        case rel => exact ⟨h + 1, G3, A3, c3, by have := HLT.out; omega, by go_num, HZ3.out, HY3.out, HB3.out⟩
        case measure => have := HLT.out; simp [intOf]; omega
      · obtain rfl : h = L.length := by omega
        obtain ⟨f1, f2, f3, f4, f5⟩ := HFIN.out
        have hTl : (bs.take T).length = T := by rw [List.length_take]; have := HNU.out; have := HC.out.1; omega
        have hol : (runT q st L.length).1.out.length = T := by rw [f1, hTl]
        have KT := fun (W : World) (hO : Only (fun _ => False) wr W) => ctold2_any (hcw.quiet hO) (by rw [hol]; have := HNU.out; omega)
        rw [hol, f1] at KT
        have KT := Lib.hid KT
        have hwb : Below w.heap.size w wr := HB6.out.trans (hbe.mono HB6.out.size)
        have KR := Lib.hid (fun (W : World) (hO : Only (fun _ => False) wr W) => creps_any (hcw.quiet hO))
        rw [f2, f3, f4, f5] at KR
        have HSL := Lib.hid (fun (W : World) (hO : Only (fun _ => False) wr W) => (HS.out.below (hwb.trans (hO.below hwb.size (fun _ h => h.elim)))).first (k := T) (by have := HNU.out; omega))
        have hqB : Blk wr y 24 #[.int .u32 (s'.r0 : Int), .int .u32 (s'.r1 : Int), .int .u32 (s'.r2 : Int), .int .u32 (s'.r3 : Int)] := HQ6.out.1.below hbe
        have HQB := Lib.hid (fun (W : World) (hO : Only (fun _ => False) wr W) => hqB.only hO (fun h => h))
        have HWB := Lib.hid hwb
        have heq := fun (W : World) => run_four_same (P := Try.prog) W 24 23 Try.underlying24 Try.underlying23 (fun _ => by kernel_rfl) (s'.r0 : Int) (s'.r1 : Int) (s'.r2 : Int) (s'.r3 : Int)
        have q0 : wr.cell? ⟨y, 0, none⟩ = some (.int .u32 (s'.r0 : Int)) := hqB.cell 0
        have q1 : wr.cell? ⟨y, 1, none⟩ = some (.int .u32 (s'.r1 : Int)) := hqB.cell 1
        have q2 : wr.cell? ⟨y, 2, none⟩ = some (.int .u32 (s'.r2 : Int)) := hqB.cell 2
        have q3 : wr.cell? ⟨y, 3, none⟩ = some (.int .u32 (s'.r3 : Int)) := hqB.cell 3
        clear f1 f2 f3 f4 f5 hol hcw hyo hbe hlt hh hwb hqB
        have HQ4 := Lib.hid (show ∀ W, Only (fun _ => False) wr W → W.cell? ⟨y, 0, none⟩ = some (.int .u32 (s'.r0 : Int)) ∧ W.cell? ⟨y, 1, none⟩ = some (.int .u32 (s'.r1 : Int)) ∧ W.cell? ⟨y, 2, none⟩ = some (.int .u32 (s'.r2 : Int)) ∧ W.cell? ⟨y, 3, none⟩ = some (.int .u32 (s'.r3 : Int)) from fun W hO => ⟨(HQB.out W hO).cell 0, (HQB.out W hO).cell 1, (HQB.out W hO).cell 2, (HQB.out W hO).cell 3⟩)
        have HR0 := Lib.hid (Only.refl (fun _ => False) wr)
        go_wp2_with fail
        go_region_held3 (fun W => W.cell? ⟨y, 0, none⟩ = some (.int .u32 (s'.r0 : Int)) ∧ W.cell? ⟨y, 1, none⟩ = some (.int .u32 (s'.r1 : Int)) ∧ W.cell? ⟨y, 2, none⟩ = some (.int .u32 (s'.r2 : Int)) ∧ W.cell? ⟨y, 3, none⟩ = some (.int .u32 (s'.r3 : Int)))
          (first | assumption | go_keep | exact ⟨q0, q1, q2, q3⟩ | exact HQ4.out _ HOC.out | exact HQ4.out _ HOB.out | exact HQ4.out _ HOA.out)
          (first
            | (go_at_call 13; refine (KT.out _ (by first | exact HR0.out | exact HR0.out.drewN _ | exact HR0.out.drew)).mono ?_; rintro x wa ⟨Bt, mt, rfl, hsa, _, hoa⟩; have HOA := Lib.hid (show Only (fun _ => False) wr wa from by first | exact hoa | exact hoa.of_drew | exact hoa.of_drewN); have HSA := Lib.hid hsa; clear hsa hoa)
            | (go_at_call 9; refine (bytesSame_any (bs := bs.take T) (by first | exact HSA.out | exact HSA.out.drewN _) (by rw [bv_take]; first | exact HSL.out _ HOA.out | exact (HSL.out _ HOA.out).drewN _) (by have := HNU.out; omega)).mono ?_; rintro x wb ⟨rfl, kb, hwb⟩; have HOB := Lib.hid (show Only (fun _ => False) wr wb from by rw [← hwb]; first | exact HOA.out.drewN _ | exact (HOA.out.drew).drewN _ | exact (HOA.out.drewN _).drewN _); clear hwb)
            | (go_at_call 14; refine (KR.out _ (by first | exact HOB.out | exact HOB.out.drewN _ | exact HOB.out.drew)).mono ?_; rintro x wc ⟨rfl, hoc⟩; have HOC := Lib.hid (show Only (fun _ => False) wr wc from HOB.out.trans (by first | exact hoc | exact hoc.of_drew | exact hoc.of_drewN)); clear hoc))
        all_goals
          go_wp2_with fail
          go_ret
          first
            | exact ⟨rfl, HWB.out.trans (HOC.out.below HWB.out.size (fun _ h => h.elim))⟩
            | exact ⟨rfl, below_drewN (HWB.out.trans (HOC.out.below HWB.out.size (fun _ h => h.elim))) _⟩
end Go.Proofs.Ytkdmahdhbogmeaa
