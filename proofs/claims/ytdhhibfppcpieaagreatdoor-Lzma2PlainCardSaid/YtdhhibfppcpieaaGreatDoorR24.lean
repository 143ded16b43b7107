/-
  LqUnp, LqAwake, LqPropsW: put together.
-/
import Derived.Test.YtdhhibfppcpieaaGreatDoorR23
import Derived.Deep.RegionLaw
import Derived.Deep.Cut
import Derived.Laws.BytesArg
set_option linter.unusedVariables false
set_option linter.unusedSimpArgs false
/-
  The program's Unpack of LZMA2, where all chunks are plain.
-/
namespace Go.Proofs.YtdhhibfppcpieaaGreatDoor
open Go.RowKit

section
variable {w wr : World} {m p : Nat} {size : Int}

set_option maxRecDepth 100000 in
set_option maxHeartbeats 8000000 in
theorem qunp_ok {A : Option Addr} {n c : Nat} {bs : List UInt8} (hn : n = bs.length) (hS : Sl w A n (bv bs)) (hA : 0 < n → ∀ q o, A = some ⟨q, o, none⟩ → q ≠ m) (hl : n ≤ 10000000) (hM : MeterAt w 88 m muchQ Tel.zero)
    (hp : p ≤ 40) (h1 : size ≤ 100000) (h0 : -9223372036854775808 ≤ size) (hfl : Lq.Flats size.toNat (q0 bs)) :
    Calls Tryz.prog 12 #[.slice A n c, .int .u8 (p : Int), .int .i64 size, .pointer (some ⟨m, 0, none⟩)] w (UpPost w m (Lq.go size.toNat (q0 bs)) (codeU (Lq.go size.toNat (q0 bs)))) := by
  obtain ⟨i, hi, hz0, hz1, hz2⟩ := info_parts info_u8
  have hpr : (probsN 4 0 : Int) = 14135 := by decide
  obtain ⟨R, hRR⟩ : ∃ R, R = 2 * (probsN 4 0 : Int) := ⟨_, rfl⟩
  obtain ⟨S, hSS⟩ : ∃ S, S = max (min (dictN p : Int) size) 1 := ⟨_, rfl⟩
  have hmm := much_mem (a := S) (b := R) (by omega) (by omega) (by omega) (by omega)
  have KN := Lib.hid (qnew_any (size := size) hp hM much_fine h0 (by omega) (by rw [← hSS]; exact hmm.1) (by rw [← hSS, ← hRR]; exact hmm.2.1))
  obtain ⟨res, hres⟩ : ∃ r, r = Lq.go size.toNat (q0 bs) := ⟨_, rfl⟩
  rw [← hres]
  have HSO := Lib.hid (And.intro hp (And.intro h1 (And.intro h0 hfl)))
  have HIN := Lib.hid (And.intro hn (And.intro hS (And.intro hA hl)))
  have HRES := Lib.hid hres
  have HNUM := Lib.hid (And.intro hSS (And.intro hRR (And.intro hmm.2.2 (And.intro (show R ≤ 1000000 by omega) (show S ≤ 100000 by omega)))))
  have HS1 := Lib.hid hM.lt
  have HM0 := Lib.hid hM
  clear hp h1 h0 hfl hn hS hA hl hres hSS hRR hmm hM hpr
  go_enter_defers Tryz.func12, Tryz.ntmps12
  go_wp2_with fail
  refine KN.out.mono ?_
  rintro e w2 ⟨K, Gw, d, hKm, hroom, hsz, hnl, rfl, hBd, hUn, hM2, hnew, hdd, hO2⟩
  have hS2 : Sl w2 A n (bv bs) := HIN.out.2.1.only hO2 (fun hn b o e h => HIN.out.2.2.1 hn b o e h)
  have KF := Lib.hid (newFeed_any (bs := bs) (c := c) hS2 (by have := HIN.out.2.2.2; omega))
  have HO2 := Lib.hid hO2
  have HUN := Lib.hid (And.intro hUn hBd)
  have HM2 := Lib.hid hM2
  have HKN := Lib.hid (And.intro hKm (And.intro hroom (And.intro hsz (And.intro hnew hdd))))
  clear hUn hBd hM2 hKm hroom hsz hnl hnew hdd hO2 hS2 KN
  go_wp2_with fail
  refine KF.out.mono ?_
  rintro e w3 ⟨f, rfl, hf, hF3, hb3⟩
  have hO3 : Only (fun _ => False) w2 w3 := Only.of_below hb3
  have hUn3 := HUN.out.1.only hO3 (fun h => h) (fun h => h) (fun _ _ h => h)
  have hBd3 : Blk w3 d 98 (d2Cells K.g f ds0) := HUN.out.2.only hO3 (fun h => h)
  have hdl : d < w2.heap.size := HUN.out.2.lt
  have hml : K.m < w2.heap.size := by rw [HKN.out.1]; exact HM2.out.lt
  have KB := Lib.hid (qbegin_any (o := []) hBd3 hF3 rfl hdl)
  have HM3 := Lib.hid (HM2.out.below hb3)
  have HX := Lib.hid (And.intro hUn3 (And.intro hdl (And.intro hml (And.intro hf (HO2.out.then hb3)))))
  clear hO3 hUn3 hBd3 hdl hml hf hF3 hb3 KF HO2 HM2
  go_wp2_with fail
  refine KB.out.mono ?_
  rintro e w4 ⟨rfl, hR4, hO4⟩
  have hI : Inv2 K d f w2.heap.size bs (unFs K 4 0 0 (dictN p)) (List.replicate (1847 + K.nl) 1024) w4.heap.size w size res ((Tel.zero.doMem muchQ S).doMem muchQ R) (.slice none 0 0) w4 [] [] (q0 bs) Gw := by
    obtain ⟨hUn, hdl, hml, hf, hO3⟩ := HX.out
    obtain ⟨hKm, hroom, hsz, hnew, hdd⟩ := HKN.out
    obtain ⟨hp, h1, h0, hfl⟩ := HSO.out
    have hgd := hdd.2.1
    have hbd := hdd.2.2.1
    have hmw : K.m < w.heap.size := by rw [hKm]; exact HS1.out
    have hU4 := hUn.only hO4 (fun e => by omega) (fun e => by omega) (fun i hi e => by have := hdd.2.2.2 i hi; omega)
    have hfo : f < w4.heap.size := by
      obtain ⟨_, hF, _⟩ := hR4.feed rfl
      exact hF.lt
    have hs43 : w3.heap.size ≤ w4.heap.size := hO4.size
    have hs2 : w.heap.size ≤ w2.heap.size := by have := hdd.1; omega
    refine ⟨⟨hR4, ⟨hU4.row, hU4.win, rfl, rfl, rfl, hU4.gn, hU4.mg, hU4.mb, fun i hi => ⟨(hU4.wd i hi).1, (hU4.wd i hi).2.1, (hU4.wd i hi).2.2.1⟩, ?_, by omega⟩, by omega, by omega, hml, ⟨by omega, by omega, ?_⟩, fun i hi => ?_, .inl hfo⟩, q0_mid bs, Nat.le_refl _, World.ownsRow_nil _ _ _ _, (fun b hb => by cases hb), Nat.zero_le _, ?_, hfl, ?_, ?_, hnew.2.2, ⟨hnew.1, hdd.1, hs2⟩, ⟨by omega, by omega, hfo, hmw⟩, Nat.le_refl _⟩
    · rw [hsz]
      have := HNUM.out.2.2.2.2
      rw [HNUM.out.1] at this
      omega
    · have := hdd.1
      omega
    · have := hdd.2.2.2 i hi
      exact ⟨by omega, .inl (by omega)⟩
    · rw [HRES.out]
      show Lq.go size.toNat (q0 bs) = Option.map (fun x => [] ++ x) (Lq.go size.toNat (q0 bs))
      cases Lq.go size.toNat (q0 bs) <;> simp
    · rw [hKm, HNUM.out.1, HNUM.out.2.1]
      exact HM3.out.only hO4 (by have := hdd.1; have := HS1.out; omega)
    · rw [hKm]
      exact hO3.trans' hO4 (fun i hi => .inr (by have := hdd.1; omega))
  have kr : K.room = R := by rw [HNUM.out.2.1]; exact HKN.out.2.1
  have kz : (K.sz : Int) = S := by rw [HKN.out.2.2.1, HNUM.out.1]; omega
  have HI := Lib.hid hI
  have HK := Lib.hid (And.intro HKN.out.1 (And.intro kr kz))
  generalize hB : w4.heap.size = B at *
  generalize unFs K 4 0 0 (dictN p) = fs at *
  generalize List.replicate (1847 + K.nl) 1024 = ps at *
  generalize w2.heap.size = lo at *
  clear hI hR4 hO4 KB HUN HM3 HKN HX HRES kr kz HM0
  obtain ⟨T, hT⟩ : ∃ T, T = (Tel.zero.doMem muchQ S).doMem muchQ R := ⟨_, rfl⟩
  rw [← hT] at HI HNUM
  have hTF : Fine muchQ T := by rw [hT]; exact (much_fine.mem _).mem _
  have HT := Lib.hid hTF
  clear hT hTF
  have HB4 := Lib.hid (Nat.le_of_eq hB.symm)
  clear hB
  go_wp2_with fail
  go_loopw [12] (fun v wr => ∃ (out : List UInt8) (q : Lq) (G1 : Nat → Prop), Inv2 K d f lo bs fs ps B w size res T v wr out out q G1) (fun v wr => size.toNat - slLen v)
  case atStart => exact ⟨[], _, Gw, HI.out⟩
  case round =>
    clear HI
    obtain ⟨out, q, G1, hinv⟩ := hrel
    obtain ⟨A1, c1, rfl, hown⟩ := own_form hinv.own
    have HV := Lib.hid hinv
    clear hinv hown
    by_cases hlt : (out.length : Int) < size
    · have hfl : q.Flat := by
        have := HV.out.flat
        obtain ⟨k, hk⟩ : ∃ k, size.toNat - out.length = k + 1 := ⟨size.toNat - out.length - 1, by omega⟩
        rw [hk] at this
        exact this.1
      have KX := Lib.hid (qnext_any HV.out.l2 hfl HV.out.mid (by have := HV.out.ol; have := HSO.out.2.1; omega))
      have HLT := Lib.hid hlt
      clear hfl
      obtain ⟨y, hy⟩ : ∃ y, y = q.next.1 := ⟨_, rfl⟩
      rw [← hy] at KX
      have HY := Lib.hid hy
      clear hy
      go_wp2_with fail
      refine KX.out.mono ?_
      rintro e w6 ⟨rfl, G2, hL, hG, hO⟩
      cases y with
      | some x =>
        have hmid := HV.out.told HLT.out HY.out.symm hL hG hO
        have HMI := Lib.hid hmid
        clear hL hG hO hmid KX hlt
        dsimp only [toldV]
        go_wp2_with (first
          | (at_builtin; refine wpList_appO _ rfl _ _ 22 rfl B 5 i _ 1 Tryz.underlying22 hi hz0 hz1 hz2 rfl _ out.length (bv out) rfl (HMI.out.own.alloc _) _ 1 1 [.int .u8 (x.toNat : Int)] rfl (sl_one _ _ _) (one_one _ _) ?_ (by decide) ?_ ?_)
          | fail)
        · have := HSO.out.2.1
          have := HLT.out
          omega
        · have := HMI.out.bot
          simp
          omega
        · intro A2 c2 w7 ho hg2 hv
          have hin := HMI.out.put (v' := .slice A2 (out.length + 1) c2) ho hg2 (hv.imp id (fun h => h.trans (by simp)))
          have HIN2 := Lib.hid hin
          clear ho hg2 hv hin
          go_wp2_with fail
          go_roundw
          case rel =>
            refine ⟨out ++ [x], q.next.2, G2, ?_⟩
            exact HIN2.out
          case measure =>
            have := HLT.out
            show size.toNat - (out.length + 1) < size.toNat - out.length
            omega
      | none =>
        have hM6 : MeterAt w6 88 K.m muchQ T := HV.out.mt.only hO HV.out.l2.meter
        have hres : res = none := by
          obtain ⟨k, hk⟩ : ∃ k, size.toNat - out.length = k + 1 := ⟨size.toNat - out.length - 1, by omega⟩
          rw [HV.out.res, hk, go_none HY.out.symm]
          rfl
        have hGm : ∀ i, G2 i → w.heap.size ≤ i := by
          intro i hi
          rcases hG i hi with h | h
          · exact HV.out.gm i h
          · have := HV.out.only.size
            omega
        have hOw : Only (fun i => i = K.m) w w6 := HV.out.only.trans' hO (fun i hi => .inr (HV.out.new' i hi))
        have KD := Lib.hid (qdoor hL hM6 HT.out (by rw [HK.out.2.1]; have := HNUM.out.2.2.2.1; omega) .returning)
        have HE := Lib.hid (And.intro hres (And.intro hOw (And.intro hGm (And.intro HV.out.low.1 HV.out.low.2.1))))
        clear hM6 hres hGm hOw hL hG hO KX hlt HV
        dsimp only [toldV]
        go_wp2_with fail
        refine leaves_cons (f := 27) (args := #[.pointer (some ⟨d, 0, none⟩)]) (by simp) (by simp [go_sem]) ?_
        have KD := KD.out
        refine KD.mono ?_
        rintro e u' w7 ⟨rfl, rfl, hM7, hO7⟩
        obtain ⟨hres, hOw, hGm, hlg, hld⟩ := HE.out
        rw [HK.out.1] at hM7 hO7 hOw
        rw [HK.out.2.1, HK.out.2.2] at hM7
        refine ⟨_, results_tmp2 rfl _ _ _, ?_⟩
        subst hres
        refine ⟨⟨_, hM7, HNUM.out.2.2.1⟩, hOw.trans' hO7 (fun i hi => ?_), none, 0, rfl, ⟨rfl, fun h => absurd h (Nat.lt_irrefl 0)⟩⟩
        rcases hi with hi | hi | hi | hi
        · exact .inr (hGm i hi)
        · exact .inl hi
        · exact .inr (by omega)
        · exact .inr (by omega)
    · have KX := Lib.hid (qfinish_any HV.out.l2.rd)
      have HLT := Lib.hid hlt
      go_wp2_with fail
      refine KX.out.mono ?_
      rintro e w6 ⟨rfl, q6, hR6, hD6, hO6⟩
      have hO : Only (qOwn K d f G1) wr w6 := hO6.mono fun i hi => hi.elim .inl (fun hh => .inr (.inl hh))
      have hL6 := HV.out.l2.read hR6 hO6 hD6.o
      have hM6 : MeterAt w6 88 K.m muchQ T := HV.out.mt.only hO HV.out.l2.meter
      have hres : res = if q.ends = true then some out else none := by
        have h0 : size.toNat - out.length = 0 := by omega
        rw [HV.out.res, h0]
        show Option.map (out ++ ·) (if q.ends = true then some [] else none) = _
        split <;> simp
      have hOw : Only (fun i => i = K.m) w w6 := HV.out.only.trans' hO (fun i hi => .inr (HV.out.new' i hi))
      have hrow := own_onlyV HV.out.own hO HV.out.far'
      have hdis : ∀ b', (Value.slice A1 out.length c1).ownBlock = some b' → ¬ (G1 b' ∨ b' = K.m ∨ b' = K.g ∨ b' = d) := by
        intro b' hb' hk
        have h1 := (own_at HV.out.own hb').1
        obtain ⟨u1, u2, u3, u4⟩ := HV.out.up
        have := HV.out.low.1
        rcases hk with e | e | e | e
        · exact HV.out.far b' hb' e
        · omega
        · omega
        · omega
      have KD := Lib.hid (qdoor hL6 hM6 HT.out (by rw [HK.out.2.1]; have := HNUM.out.2.2.2.1; omega) .returning)
      have HE := Lib.hid (And.intro hres (And.intro hOw (And.intro HV.out.gm (And.intro HV.out.low.1 HV.out.low.2.1))))
      have HR := Lib.hid (And.intro hrow hdis)
      clear hO hL6 hM6 hres hOw hrow hdis KX hlt HV hR6 hD6 hO6
      generalize q.ends = b at *
      cases b with
      | false =>
        go_wp2_with fail
        refine leaves_cons (f := 27) (args := #[.pointer (some ⟨d, 0, none⟩)]) (by simp) (by simp [go_sem]) ?_
        have KD := KD.out
        refine KD.mono ?_
        rintro e u' w7 ⟨rfl, rfl, hM7, hO7⟩
        obtain ⟨hres, hOw, hGm, hlg, hld⟩ := HE.out
        rw [HK.out.1] at hM7 hO7 hOw
        rw [HK.out.2.1, HK.out.2.2] at hM7
        refine ⟨_, results_tmp2 rfl _ _ _, ?_⟩
        subst hres
        refine ⟨⟨_, hM7, HNUM.out.2.2.1⟩, hOw.trans' hO7 (fun i hi => ?_), none, 0, rfl, ⟨rfl, fun h => absurd h (Nat.lt_irrefl 0)⟩⟩
        rcases hi with hi | hi | hi | hi
        · exact .inr (hGm i hi)
        · exact .inl hi
        · exact .inr (by omega)
        · exact .inr (by omega)
      | true =>
        go_wp2_with fail
        refine leaves_cons (f := 27) (args := #[.pointer (some ⟨d, 0, none⟩)]) (by simp) (by simp [go_sem]) ?_
        have KD := KD.out
        refine KD.mono ?_
        rintro e u' w7 ⟨rfl, rfl, hM7, hO7⟩
        obtain ⟨hres, hOw, hGm, hlg, hld⟩ := HE.out
        have h9 := own_onlyV HR.out.1 hO7 (fun b' hb' hk => HR.out.2 b' hb' hk)
        rw [HK.out.1] at hM7 hO7 hOw
        rw [HK.out.2.1, HK.out.2.2] at hM7
        refine ⟨_, results_tmp2 rfl _ _ _, ?_⟩
        subst hres
        refine ⟨⟨_, hM7, HNUM.out.2.2.1⟩, hOw.trans' hO7 (fun i hi => ?_), A1, c1, rfl, Sl.of_own h9⟩
        rcases hi with hi | hi | hi | hi
        · exact .inr (hGm i hi)
        · exact .inl hi
        · exact .inr (by omega)
        · exact .inr (by omega)
end
end Go.Proofs.YtdhhibfppcpieaaGreatDoor

/-
  The laws' beginning of stage 11.
-/
namespace Go.Proofs.YtdhhibfppcpieaaGreatDoor
open Go.RowKit

def Lq.flatB (q : Lq) : Bool := !(decide (q.s.left = 0) && !q.s.ended) || decide (q.b.toNat < 128)
def Lq.flatsB : Nat → Lq → Bool
  | 0, _ => true
  | n + 1, q => q.flatB && (q.next.1.isNone || Lq.flatsB n q.next.2)
theorem flatsB_ok : ∀ (n : Nat) (q : Lq), Lq.flatsB n q = true → Lq.Flats n q
  | 0, _, _ => trivial
  | n + 1, q, h => by
    unfold Lq.flatsB at h
    rw [Bool.and_eq_true, Bool.or_eq_true] at h
    refine ⟨fun h0 he => ?_, fun b hb => ?_⟩
    · have := h.1
      unfold Lq.flatB at this
      simpa [h0, he] using this
    · rcases h.2 with h2 | h2
      · rw [hb] at h2; cases h2
      · exact flatsB_ok n _ h2
theorem flat6 : Lq.Flats (Int.toNat 2) (q0 [1, 0, 1, 97, 98, 0]) := flatsB_ok _ _ (by decide +kernel)
theorem flat5 : Lq.Flats (Int.toNat 1) (q0 [2, 0, 0, 97, 0]) := flatsB_ok _ _ (by decide +kernel)
theorem go6 : Lq.go (Int.toNat 2) (q0 [1, 0, 1, 97, 98, 0]) = some [97, 98] := by decide +kernel
theorem go5 : Lq.go (Int.toNat 1) (q0 [2, 0, 0, 97, 0]) = none := by decide +kernel
theorem sl_row6 (w : World) : Sl (w.alloc (.cells #[.int .u8 1, .int .u8 0, .int .u8 1, .int .u8 97, .int .u8 98, .int .u8 0] 5)) (some ⟨w.heap.size, 0, none⟩) 6 (bv [1, 0, 1, 97, 98, 0]) := sl_lit w 5 (bv [1, 0, 1, 97, 98, 0]).toArray (by decide)
theorem sl_row5 (w : World) : Sl (w.alloc (.cells #[.int .u8 2, .int .u8 0, .int .u8 0, .int .u8 97, .int .u8 0] 5)) (some ⟨w.heap.size, 0, none⟩) 5 (bv [2, 0, 0, 97, 0]) := sl_lit w 5 (bv [2, 0, 0, 97, 0]).toArray (by decide)

/-- behind one of the two: what is answered -/
def Awk2 (ys : List UInt8) (cd : Int) (v2 v3 : Value) (wx : World) : Prop := ∃ A c, v2 = .slice A ys.length c ∧ v3 = .int .i64 cd ∧ Sl wx A ys.length (bv ys)
theorem awk2_end {w w2 w3 W : World} {gm : Nat} {ys : List UInt8} {x : Ending} (hO2 : Only (fun _ => False) w w2) (hg : w.heap.size ≤ gm)
    (hW : Only (fun _ => False) w2 W) {o o' : Option (List UInt8)} (ho' : o' = o) (ho : o.getD [] = ys) (h : UpPost W gm o' (codeU o') x w3) : ∃ v2 v3, x = .returned (.tuple #[v2, v3]) ∧ Awk2 ys (codeU o) v2 v3 w3 ∧ Only (fun _ => False) w w3 := by
  subst ho'
  obtain ⟨_, hO, A, c, rfl, hS⟩ := h
  have hO' : Only (fun i => i = gm) w w3 := ((hO2.trans hW).mono (fun _ h => h.elim)).trans hO
  rw [ho] at hS ⊢
  exact ⟨_, _, rfl, ⟨A, c, rfl, rfl, hS⟩, hO'.os, hO'.tape, hO'.output, hO'.size, fun i hi _ => hO'.block i hi (by show ¬ i = gm; omega)⟩

theorem below_of {w w' : World} (h : Only (fun _ => False) w w') : Below w.heap.size w w' := h.below (Nat.le_refl _) (fun _ hh => hh.elim)

set_option maxRecDepth 100000 in
set_option maxHeartbeats 8000000 in
theorem awake11_any (w : World) : Calls Tryz.prog 10 #[] w fun e w' => e = .returned (.bool true) ∧ Below w.heap.size w w' := by
  go_enter Tryz.func10, Tryz.ntmps10
  go_upto_region 1 with fail
  go_cut [1, 2] from 5 (fun v2 v3 wx => Awk2 [97, 98] 0 v2 v3 wx ∧ Only (fun _ => False) w wx)
  case first =>
    have hA1 := sl_row6 w
    have hOA : Only (fun _ => False) w (w.alloc (.cells #[.int .u8 1, .int .u8 0, .int .u8 1, .int .u8 97, .int .u8 98, .int .u8 0] 5)) := (Only.refl _ w).alloc _
    have hsA : (w.alloc (.cells #[.int .u8 1, .int .u8 0, .int .u8 1, .int .u8 97, .int .u8 98, .int .u8 0] 5)).heap.size = w.heap.size + 1 := by simp
    have HA1 := Lib.hid (And.intro hA1 (And.intro hOA hsA))
    clear hA1 hOA hsA
    go_wp2_with fail
    refine (much_any _).mono ?_
    rintro e w2 ⟨gm, rfl, hM, hg, hb⟩
    have HZ2 := Lib.hid (And.intro (Sl.below HA1.out.1 hb) (And.intro hM (And.intro (HA1.out.2.1.then hb) (show w.heap.size < gm from by have := HA1.out.2.2; omega))))
    clear hM hg hb HA1
    go_wp2_with fail
    refine (qunp_ok (n := 6) (bs := [1, 0, 1, 97, 98, 0]) (p := 0) (size := 2) rfl HZ2.out.1 (by intro _ q o e; injection e with e; injection e with e; have := HZ2.out.2.2.2; omega) (by omega) HZ2.out.2.1 (by omega) (by omega) (by omega) flat6).mono ?_
    intro e w3 hpost
    obtain ⟨v2, v3, rfl, hR, hO3⟩ := awk2_end (w := w) HZ2.out.2.2.1 (Nat.le_of_lt HZ2.out.2.2.2) (Only.refl _ w2) (ys := [97, 98]) go6 rfl hpost
    have HR := Lib.hid (And.intro hR hO3)
    clear hpost hR hO3
    go_wp2_with fail
    go_meet
    exact HR.out
  case rest =>
    obtain ⟨⟨A6, c6, rfl, rfl, hS6⟩, hO6⟩ := hcut
    have HS6 := Lib.hid hS6
    have HO6 := Lib.hid hO6
    clear hS6 hO6
    generalize wc = w5 at *
    go_upto_region 2 with fail
    go_cut [3, 4] from 11 (fun v2 v3 wx => Awk2 [] 12 v2 v3 wx ∧ Only (fun _ => False) w5 wx)
    case first =>
      have hA1 := sl_row5 w5
      have hOA : Only (fun _ => False) w5 (w5.alloc (.cells #[.int .u8 2, .int .u8 0, .int .u8 0, .int .u8 97, .int .u8 0] 5)) := (Only.refl _ w5).alloc _
      have hsA : (w5.alloc (.cells #[.int .u8 2, .int .u8 0, .int .u8 0, .int .u8 97, .int .u8 0] 5)).heap.size = w5.heap.size + 1 := by simp
      have HA1 := Lib.hid (And.intro hA1 (And.intro hOA hsA))
      clear hA1 hOA hsA
      go_wp2_with fail
      refine (much_any _).mono ?_
      rintro e w2 ⟨gm, rfl, hM, hg, hb⟩
      have HZ2 := Lib.hid (And.intro (Sl.below HA1.out.1 hb) (And.intro hM (And.intro (HA1.out.2.1.then hb) (show w5.heap.size < gm from by have := HA1.out.2.2; omega))))
      clear hM hg hb HA1
      go_wp2_with fail
      refine (qunp_ok (n := 5) (bs := [2, 0, 0, 97, 0]) (p := 0) (size := 1) rfl HZ2.out.1 (by intro _ q o e; injection e with e; injection e with e; have := HZ2.out.2.2.2; omega) (by omega) HZ2.out.2.1 (by omega) (by omega) (by omega) flat5).mono ?_
      intro e w3 hpost
      obtain ⟨v2, v3, rfl, hR, hO3⟩ := awk2_end (w := w5) HZ2.out.2.2.1 (Nat.le_of_lt HZ2.out.2.2.2) (Only.refl _ w2) (ys := []) go5 rfl hpost
      have HR := Lib.hid (And.intro hR hO3)
      clear hpost hR hO3
      go_wp2_with fail
      go_meet
      exact HR.out
    case rest =>
      obtain ⟨⟨A7, c7, rfl, rfl, hS7⟩, hO7⟩ := hcut
      have HS8 := Lib.hid (HS6.out.only hO7 (fun _ _ _ _ h => h))
      have HO8 := Lib.hid (HO6.out.trans hO7)
      clear hS7 hO7 HS6 HO6
      generalize wc = w6 at *
      have hcv : ∀ k, (convert 22 9 (.slice A6 2 c6)).run Tryz.prog (w6.drewN k) = .ok (.string ⟨#[97, 98]⟩) (w6.drewN k) := by
        intro k
        obtain ⟨b, o, rfl, _, hc⟩ := HS8.out.2 (by decide)
        exact run_convert_bytes_arg (w6.drewN k) 22 5 Tryz.underlying22 Tryz.underlying5 b o 2 c6 [97, 98] rfl (fun i hi => by
          have := hc i hi
          rw [show (w6.drewN k).cell? ⟨b, o + i, none⟩ = w6.cell? ⟨b, o + i, none⟩ from rfl, this]
          rcases i with _ | _ | i
          · rfl
          · rfl
          · exact absurd hi (by simp)) 9 Tryz.underlying9
      have hcv0 : (convert 22 9 (.slice A6 2 c6)).run Tryz.prog w6 = .ok (.string ⟨#[97, 98]⟩) w6 := hcv 0
      clear hcv
      have qs : ∀ W : World, (binOp .eql 9 (.string ⟨#[97, 98]⟩) (.string ⟨#[97, 98]⟩)).run Tryz.prog W = .ok (.bool true) W := fun _ => by kernel_rfl
      go_wp2_with fail
      go_ret
      exact ⟨rfl, below_of HO8.out⟩
end Go.Proofs.YtdhhibfppcpieaaGreatDoor

/-
  The law Lzma2Props, walked.
-/
namespace Go.Proofs.YtdhhibfppcpieaaGreatDoor
open Go.RowKit

set_option maxRecDepth 100000 in
set_option maxHeartbeats 8000000 in
theorem lzma2Props_walk {p : Nat} {dict : Int} {w : World} (hp : p < 256) :
    Calls Tryz.prog 6 #[.int .u8 (p : Int), .int .i64 dict] w fun e w' => e = .returned (.bool true) ∧ Below w.heap.size w w' := by
  have KA := Lib.hid (awake11_any w)
  have KD := Lib.hid (fun w => qdict_any hp w)
  have KR := Lib.hid (fun w => rdict_any hp w)
  have KP := Lib.hid (fun dict w => qprop_any dict w)
  have KQ := Lib.hid (fun dict w => rprop_any dict w)
  have HP := Lib.hid hp
  clear hp
  go_enter Tryz.func6, Tryz.ntmps6
  go_wp2_with fail
  refine KA.out.mono ?_
  rintro e w1 ⟨rfl, hb1⟩
  have HB := Lib.hid hb1
  clear hb1 KA
  go_wp2_with fail
  refine (KD.out w1).mono ?_
  rintro e w2 ⟨rfl, rfl⟩
  go_wp2_with fail
  refine (KR.out w1).mono ?_
  rintro e w3 ⟨rfl, hb3⟩
  have HB3 := Lib.hid (HB.out.trans (hb3.mono HB.out.size))
  clear hb3 HB KR KD
  go_wp2_with fail
  refine (KP.out dict w3).mono ?_
  rintro e w4 ⟨r, c, rfl, hi, hb4⟩
  have HB4 := Lib.hid (HB3.out.trans (hb4.mono HB3.out.size))
  have HI := Lib.hid hi
  clear hb4 hi HB3
  go_wp2_with fail
  refine (KQ.out dict w4).mono ?_
  rintro e w5 ⟨r', c', rfl, hi', hb5⟩
  have HB5 := Lib.hid (HB4.out.trans (hb5.mono HB4.out.size))
  obtain ⟨rfl, rfl⟩ := isProp_one HI.out hi'
  clear hb5 hi' HB4 KQ HI
  have q1 : ((dictN p : Int) != (dictN p : Int)) = false := by simp
  by_cases hpp : p ≤ 40
  · have hc : dictC p = 0 := by unfold dictC; rw [if_neg (by omega)]
    have KP2 := KP.out (dictN p : Int) w5
    rw [hc]
    have HQ := Lib.hid (show ∀ (r : Nat) (c : Int), IsProp (dictN p : Int) r c → r = p ∧ c = 0 from fun r c h => isProp_dict hpp h)
    have KP2 := Lib.hid KP2
    clear KP hc hpp
    generalize dictN p = D at *
    go_wp2_with fail
    refine KP2.out.mono ?_
    rintro e w6 ⟨r2, c2, rfl, hi, hb6⟩
    obtain ⟨rfl, rfl⟩ := HQ.out _ _ hi
    have HB6 := Lib.hid (HB5.out.trans (hb6.mono HB5.out.size))
    clear hb6 hi HB5 KP2
    go_wp2_with fail
    go_ret
    exact ⟨rfl, HB6.out⟩
  · have hc : dictC p = 11 := by unfold dictC; rw [if_pos (by omega)]
    have hd : dictN p = 0 := by unfold dictN; rw [if_pos (by omega)]
    rw [hc, hd]
    rw [hd] at q1
    clear KP hc hd hpp
    go_wp2_with fail
    go_ret
    exact ⟨rfl, HB5.out⟩
end Go.Proofs.YtdhhibfppcpieaaGreatDoor
