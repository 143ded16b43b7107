/-
  ZqUnp, ZqAwk, ZqOpen, ZqSizN, ZqBad, ZqSizW: put together.
-/
import Derived.Test.YtoencondpbkomaaGreatDoorT33
import Derived.Deep.RegionLaw
import Derived.Deep.Cut
import Derived.Laws.BytesArg
import Derived.Test.YtoencondpbkomaaGreatDoorT01
import Derived.Lib.SmallJoins
import Derived.Laws.IdiomArrays
import Derived.Lib.LaidTab
import Derived.FnData
import Derived.Test.YtoencondpbkomaaGreatDoorT23
set_option linter.unusedVariables false
set_option linter.unusedSimpArgs false
/-
  The program's Unpack of LZMA2.
-/
namespace Go.Proofs.YtoencondpbkomaaGreatDoor
open Go.RowKit
set_option linter.unusedVariables false

theorem tells_zero_len {K0 : Kon} {d f lo D : Nat} {all : List UInt8} {w : World} {Gw ex : Nat → Prop} {st : St2} {xs : List UInt8} (hx : Q2x K0 d f lo w Gw ex) (h : Q2 K0 d f lo all D w Gw ex st) (he : st.tells 0 = some xs) : xs = [] := by
  cases st with
  | bad => cases he
  | fin r =>
    have he : (if 0 = 0 ∧ r = [] then some ([] : List UInt8) else none) = some xs := he
    split at he
    · injection he with he; exact he.symm
    · cases he
  | rest q =>
    have he : q.tells 0 = some xs := he
    by_cases hr : q.r = [0]
    · rw [tells_end hr, if_pos rfl] at he
      injection he with he
      exact he.symm
    · rw [tells0_none hr] at he
      cases he
  | plain q l =>
    obtain ⟨s, hi, hs1, hs2, hs3, hs4, h1, _⟩ := h
    rw [plain_zero h1] at he
    cases he
  | pack zf tf n l full r =>
    obtain ⟨K, s, p, a, m, hk, hB, hs1, hs2, hs3, hs4, hs5, hl1, _⟩ := h
    rw [pack_zero hl1] at he
    cases he
section
variable {w wr : World} {m p : Nat} {size : Int}

set_option maxRecDepth 100000 in
set_option maxHeartbeats 8000000 in
theorem zunp_ok {A : Option Addr} {n c : Nat} {bs : List UInt8} (hn : n = bs.length) (hS : Sl w A n (bv bs)) (hA : 0 < n → ∀ q o, A = some ⟨q, o, none⟩ → q ≠ m) (hl : n ≤ 10000000) (hM : MeterAt w 83 m muchQ Tel.zero)
    (hp : p ≤ 40) (h1 : size ≤ 100000) (h0 : -9223372036854775808 ≤ size) {L0 : Nat} (hL0 : L0 = 1847 + 768 * 2 ^ (4 + 0)) (hm1 : 1 ≤ m) (htab : ∀ how, how < 4 → w.cell? ⟨0, how, none⟩ = some (.int .u8 (bringN how : Int))) :
    Calls Tryz.prog 9 #[.slice A n c, .int .u8 (p : Int), .int .i64 size, .pointer (some ⟨m, 0, none⟩)] w (UpPost w m ((rs0 L0 (dictN p) bs).tells size.toNat) (codeU ((rs0 L0 (dictN p) bs).tells size.toNat))) := by
  obtain ⟨i, hi, hz0, hz1, hz2⟩ := info_parts info_u8
  have hpr : (probsN 4 0 : Int) = 14135 := by decide
  obtain ⟨R, hRR⟩ : ∃ R, R = 2 * (probsN 4 0 : Int) := ⟨_, rfl⟩
  obtain ⟨S, hSS⟩ : ∃ S, S = max (min (dictN p : Int) size) 1 := ⟨_, rfl⟩
  have hmm := much_mem (a := S) (b := R) (by omega) (by omega) (by omega) (by omega)
  have KN := Lib.hid (qnew_any (size := size) hp hM much_fine h0 (by omega) (by rw [← hSS]; exact hmm.1) (by rw [← hSS, ← hRR]; exact hmm.2.1))
  obtain ⟨res, hres⟩ : ∃ r, r = (rs0 L0 (dictN p) bs).tells size.toNat := ⟨_, rfl⟩
  rw [← hres]
  have HSO := Lib.hid (And.intro hp (And.intro h1 (And.intro h0 (And.intro hL0 hm1))))
  have HTB := Lib.hid htab
  have HIN := Lib.hid (And.intro hn (And.intro hS (And.intro hA hl)))
  have HRES := Lib.hid hres
  have HNUM := Lib.hid (And.intro hSS (And.intro hRR (And.intro hmm.2.2 (And.intro (show R ≤ 1000000 by omega) (show S ≤ 100000 by omega)))))
  have HS1 := Lib.hid hM.lt
  have HM0 := Lib.hid hM
  clear hp h1 h0 hL0 hm1 htab hn hS hA hl hres hSS hRR hmm hM hpr
  go_enter_defers Tryz.func9, Tryz.ntmps9
  go_wp2_with fail
  refine KN.out.mono ?_
  rintro e w2 ⟨K, Gw, d, hKm, hroom, hsz, hnl, rfl, hBd, hUn, hM2, hnew, hdd, hO2⟩
  have hS2 : Sl w2 A n (bv bs) := HIN.out.2.1.only hO2 (fun hn b o e h => HIN.out.2.2.1 hn b o e h)
  have KF := Lib.hid (newFeed_any (bs := bs) (c := c) hS2 (by have := HIN.out.2.2.2; omega))
  have HO2 := Lib.hid hO2
  have HUN := Lib.hid (And.intro hUn hBd)
  have HM2 := Lib.hid hM2
  have HKN := Lib.hid (And.intro hKm (And.intro hroom (And.intro hsz (And.intro hnew hdd))))
  have HNL := Lib.hid hnl
  clear hUn hBd hM2 hKm hroom hsz hnl hnew hdd hO2 hS2 KN
  go_wp2_with fail
  refine KF.out.mono ?_
  rintro e w3 ⟨f, rfl, hf, hF3, hb3⟩
  have hO3 : Only (fun _ => False) w2 w3 := Only.of_below hb3
  have hUn3 := HUN.out.1.only hO3 (fun h => h) (fun h => h) (fun _ _ h => h)
  have hBd3 : Blk w3 d 105 (d2Cells K.g f ds0) := HUN.out.2.only hO3 (fun h => h)
  have hdl : d < w2.heap.size := HUN.out.2.lt
  have hml : K.m < w2.heap.size := by rw [HKN.out.1]; exact HM2.out.lt
  have KB := Lib.hid (qbegin_any (o := []) hBd3 hF3 rfl hdl)
  have HM3 := Lib.hid (HM2.out.below hb3)
  have HX := Lib.hid (And.intro hUn3 (And.intro hdl (And.intro hml (And.intro hf (HO2.out.then hb3)))))
  clear hO3 hUn3 hBd3 hdl hml hf hF3 hb3 KF HO2 HM2
  go_wp2_with fail
  refine KB.out.mono ?_
  rintro e w4 ⟨rfl, hR4, hO4⟩
  have hI : Inv3 K d f w2.heap.size bs (dictN p) w4.heap.size w size res ((Tel.zero.doMem muchQ S).doMem muchQ R) (.slice none 0 0) w4 [] [] (.rest (rs0 L0 (dictN p) bs)) Gw (fun _ => False) := by
    obtain ⟨hUn, hdl, hml, hf, hO3⟩ := HX.out
    obtain ⟨hKm, hroom, hsz, hnew, hdd⟩ := HKN.out
    obtain ⟨hp, h1, h0, hL0, hm1⟩ := HSO.out
    have hgd := hdd.2.1
    have hbd := hdd.2.2.1
    have hnl := HNL.out
    have hmw : K.m < w.heap.size := by rw [hKm]; exact HS1.out
    have hU4 := hUn.only hO4 (fun e => by omega) (fun e => by omega) (fun i hi e => by have := hdd.2.2.2 i hi; omega)
    have hfo : f < w4.heap.size := by
      obtain ⟨_, hF, _⟩ := hR4.feed rfl
      exact hF.lt
    have hs43 : w3.heap.size ≤ w4.heap.size := hO4.size
    have hs2 : w.heap.size ≤ w2.heap.size := by have := hdd.1; omega
    have hL : 1847 + K.nl = L0 := by rw [hnl, hL0]
    have hzz : K.sz ≤ 1048576 := by
      rw [hsz]
      have := HNUM.out.2.2.2.2
      rw [HNUM.out.1] at this
      omega
    have hrow : Rk K (restFs K (Lzs.start 4 0 0 (dictN p)) .nilIface (.pointer none) (.int .i64 0) (.bool false) (.bool false)) w4 (List.replicate L0 1024) := by
      have e : restFs K (Lzs.start 4 0 0 (dictN p)) .nilIface (.pointer none) (.int .i64 0) (.bool false) (.bool false) = unFs K 4 0 0 (dictN p) := by
        unfold restFs unFs
        rw [hU4.nc, hU4.sd]
        rfl
      rw [e, ← hL]
      exact hU4.row
    have hLr : Lrest K w4 Gw (Lzs.start 4 0 0 (dictN p)) (List.replicate L0 1024) .nilIface (.pointer none) (.int .i64 0) (.bool false) (.bool false) :=
      ⟨hrow, hU4.win, hU4.gn, hU4.mg, hU4.mb, by rw [hU4.nc, hnl]; exact ⟨Nat.le_refl _, by decide⟩, fun i hi => ⟨(hU4.wd i hi).1, (hU4.wd i hi).2.1, (hU4.wd i hi).2.2.1⟩, by omega⟩
    have hOw : Only (fun i => i = m ∨ i = d) w w4 := (hO3.mono (fun i hi => .inl hi)).trans (hO4.mono (fun i hi => .inr hi))
    have hx : Q2x K d f w2.heap.size w4 Gw (fun _ => False) := by
      refine ⟨⟨by omega, by omega⟩, ⟨by omega, by omega⟩, hml, ⟨by omega, hdl⟩, hf, hfo, ⟨by omega, by omega, by have := hdd.1; omega⟩, fun i hi => ?_, fun i hi => hi.elim, hzz, by rw [hU4.nc, hnl], fun how hh => ?_⟩
      · have := hdd.2.2.2 i hi
        have := hnew.2.2 i hi
        exact ⟨by omega, by omega, .inl (by omega)⟩
      · rw [hOw.cell (p := ⟨0, how, none⟩) (by show 0 < w.heap.size; omega) (by have := hdd.1; show ¬ (0 = m ∨ 0 = d); omega)]
        exact HTB.out how hh
    refine ⟨⟨_, ⟨hR4, K, _, _, _, _, _, Ks.refl K, hLr⟩, rfl, rfl, rfl, ⟨rfl, fun e => by cases e⟩, rs0_ok hL0 (dict_le hp).2⟩, hx, Nat.le_refl _, World.ownsRow_nil _ _ _ _, (fun b hb => by cases hb), Nat.zero_le _, ?_, ?_, ?_, fun i hi => hi.elim (hnew.2.2 i) (fun e => e.elim), ⟨hnew.1, hnew.2.1, hdd.1, hs2⟩, ⟨by omega, by omega, by omega, hfo, hmw⟩, Nat.le_refl _⟩
    · rw [HRES.out]
      show _ = Option.map (fun x => [] ++ x) ((rs0 L0 (dictN p) bs).tells size.toNat)
      cases (rs0 L0 (dictN p) bs).tells size.toNat <;> rfl
    · rw [hKm, HNUM.out.1, HNUM.out.2.1]
      exact HM3.out.only hO4 (by have := hdd.1; have := HS1.out; omega)
    · rw [hKm]
      exact hO3.trans' hO4 (fun i hi => .inr (by have := hdd.1; omega))
  have hfit : 1 ≤ K.sz ∧ (dictN p = K.sz ∨ (size ≤ (K.sz : Int) ∧ K.sz ≤ dictN p)) := by
    have h1 := HKN.out.2.2.1
    have h2 := (dict_le HSO.out.1).1
    omega
  have HFIT := Lib.hid hfit
  have kr : K.room = R := by rw [HNUM.out.2.1]; exact HKN.out.2.1
  have kz : (K.sz : Int) = S := by rw [HKN.out.2.2.1, HNUM.out.1]; omega
  have HI := Lib.hid hI
  have HK := Lib.hid (And.intro HKN.out.1 (And.intro kr kz))
  generalize hB : w4.heap.size = B at *
  generalize hst0 : St2.rest (rs0 L0 (dictN p) bs) = st0 at *
  generalize hDD : dictN p = D at *
  generalize w2.heap.size = lo at *
  clear hI hR4 hO4 KB HUN HM3 HKN HX HRES kr kz HM0 hst0 hDD HNL HTB hfit
  obtain ⟨T, hT⟩ : ∃ T, T = (Tel.zero.doMem muchQ S).doMem muchQ R := ⟨_, rfl⟩
  rw [← hT] at HI HNUM
  have hTF : Fine muchQ T := by rw [hT]; exact (much_fine.mem _).mem _
  have HT := Lib.hid hTF
  clear hT hTF
  have HB4 := Lib.hid (Nat.le_of_eq hB.symm)
  clear hB
  go_wp2_with fail
  go_loopw [12] (fun v wr => ∃ (out : List UInt8) (st : St2) (G1 ex1 : Nat → Prop), Inv3 K d f lo bs D B w size res T v wr out out st G1 ex1) (fun v wr => size.toNat - slLen v)
  case atStart => exact ⟨[], st0, Gw, _, HI.out⟩
  case round =>
    clear HI
    obtain ⟨out, st, G1, ex1, hinv⟩ := hrel
    obtain ⟨A1, c1, rfl, hown⟩ := own_form hinv.own
    have HV := Lib.hid hinv
    clear hinv hown
    by_cases hlt : (out.length : Int) < size
    · have KX := Lib.hid (znext_any HV.out.qx HV.out.q2 (by have := HV.out.wl; have := HSO.out.2.1; omega) ⟨HFIT.out.1, HFIT.out.2.imp id (fun e => ⟨by have := HV.out.wl; omega, e.2⟩)⟩)
      have HLT := Lib.hid hlt
      go_wp2_with fail
      refine KX.out.mono ?_
      rintro e w6 ⟨st2, v2, ⟨rfl, G2, ex2, hq6, hx6, hG, hO⟩, ⟨x, rfl, ht6, hw6⟩ | ⟨rfl, ht6, ht60⟩⟩
      · have hmid := HV.out.told HLT.out hq6 hx6 hG hO ht6 hw6
        have HMI := Lib.hid hmid
        clear hq6 hx6 hG hO ht6 hw6 hmid KX hlt
        go_wp2_with (first
          | (at_builtin; refine wpList_appO _ rfl _ _ 22 rfl B 5 i _ 1 Tryz.underlying22 hi hz0 hz1 hz2 rfl _ out.length (bv out) rfl (HMI.out.own.alloc _) _ 1 1 [.int .u8 (x.toNat : Int)] rfl (sl_one _ _ _) (one_one _ _) ?_ (by decide) ?_ ?_)
          | fail)
        · have := HSO.out.2.1
          have := HLT.out
          omega
        · have := HMI.out.bot
          simp
          omega
        · intro A2 c2 w7 ho hg2 hv
          have hin := HMI.out.put (v' := .slice A2 (out.length + 1) c2) ho hg2 (hv.imp id (fun h => h.trans (by simp))) (by have := HMI.out.up.1; omega)
          have HIN2 := Lib.hid hin
          clear ho hg2 hv hin
          go_wp2_with fail
          go_roundw
          case rel =>
            refine ⟨out ++ [x], st2, G2, ex2, ?_⟩
            exact HIN2.out
          case measure =>
            have := HLT.out
            show size.toNat - (out.length + 1) < size.toNat - out.length
            omega
      · have hM6 : MeterAt w6 83 K.m muchQ T := HV.out.mt.only hO HV.out.meter
        have hres : res = none := by
          obtain ⟨k, hk⟩ : ∃ k, size.toNat - out.length = k + 1 := ⟨size.toNat - out.length - 1, by omega⟩
          rw [HV.out.res, hk, ht6]
          rfl
        have hGm : ∀ i, G2 i → w.heap.size ≤ i := by
          intro i hi
          rcases hG i (.inl hi) with h | h
          · exact HV.out.gm i h
          · have := HV.out.only.size
            omega
        have hOw : Only (fun i => i = K.m) w w6 := HV.out.only.trans' hO (fun i hi => .inr (HV.out.new' i hi))
        obtain ⟨s6, r6, hR6, _⟩ := q2_rdr hx6 hq6
        have KD := Lib.hid (zdoor hx6 (q2_rests hq6) hR6.blk hM6 HT.out (by rw [HK.out.2.1]; have := HNUM.out.2.2.2.1; omega) (fun e => by have := hGm _ e; have := HV.out.up.2.2.2.2; omega) .returning)
        have HE := Lib.hid (And.intro hres (And.intro hOw (And.intro hGm (And.intro HV.out.low.1 HV.out.low.2.2.1))))
        clear hM6 hres hGm hOw hq6 hx6 hR6 hG hO ht6 ht60 KX hlt HV
        go_wp2_with fail
        refine leaves_cons (f := 18) (args := #[.pointer (some ⟨d, 0, none⟩)]) (by simp) (by simp [go_sem]) ?_
        have KD := KD.out
        refine KD.mono ?_
        rintro e u' w7 ⟨rfl, rfl, hM7, hO7⟩
        obtain ⟨hres, hOw, hGm, hlg, hld⟩ := HE.out
        rw [HK.out.1] at hM7 hO7 hOw
        rw [HK.out.2.1, HK.out.2.2] at hM7
        refine ⟨_, results_tmp2 rfl _ _ _, ?_⟩
        subst hres
        refine ⟨⟨_, hM7, HNUM.out.2.2.1⟩, hOw.trans' hO7 (fun i hi => ?_), none, 0, rfl, ⟨rfl, fun h => absurd h (Nat.lt_irrefl 0)⟩⟩
        rcases hi with hi | hi | hi | hi
        · exact .inr (hGm i hi)
        · exact .inl hi
        · exact .inr (by omega)
        · exact .inr (by omega)
    · obtain ⟨s5, r5, hR5, hend⟩ := q2_rdr HV.out.qx HV.out.q2
      have KX := Lib.hid (qfinish_any hR5)
      have HLT := Lib.hid hlt
      have HEND := Lib.hid hend
      clear hR5 hend
      go_wp2_with fail
      refine KX.out.mono ?_
      rintro e w6 ⟨rfl, q6, hR6, hD6, hO6⟩
      have hO : Only (own2 K d f G1 ex1) wr w6 := hO6.mono (own_df K d f G1 ex1)
      have hx6 : Q2x K d f lo w6 G1 ex1 := HV.out.qx.only hO6 (df0 HV.out.qx)
      have hre6 : Rests K w6 G1 := (q2_rests HV.out.q2).only hO6 (by have h1 := HV.out.qx.gl; have h2 := HV.out.qx.lf; have h3 := HV.out.qx.dg.1; rintro (e | e) <;> omega) (by have h1 := HV.out.qx.ll; have h2 := HV.out.qx.lf; have h3 := HV.out.qx.dg.2.1; rintro (e | e) <;> omega)
        (fun i hi => by have h1 := HV.out.qx.wd i hi; have h2 := HV.out.qx.lf; rintro (e | e) <;> omega)
      have hM6 : MeterAt w6 83 K.m muchQ T := HV.out.mt.only hO HV.out.meter
      have hres : res = if (⟨s5, r5, []⟩ : Lq).ends = true then some out else none := by
        have h0 : size.toNat - out.length = 0 := by omega
        rw [HV.out.res, h0, HEND.out]
        by_cases hs : st.tells 0 = some []
        · rw [hs, if_pos (decide_eq_true rfl)]
          simp
        · rw [if_neg (by rw [decide_eq_false hs]; decide)]
          cases hq : st.tells 0 with
          | none => rfl
          | some xs => exact absurd hq (fun e => hs (by rw [e, tells_zero_len HV.out.qx HV.out.q2 e]))
      have hOw : Only (fun i => i = K.m) w w6 := HV.out.only.trans' hO (fun i hi => .inr (HV.out.new' i hi))
      have hrow := own_onlyV HV.out.own hO HV.out.far'
      have hdis : ∀ b', (Value.slice A1 out.length c1).ownBlock = some b' → ¬ (G1 b' ∨ b' = K.m ∨ b' = K.g ∨ b' = d) := by
        intro b' hb' hk
        have h1 := (own_at HV.out.own hb').1
        obtain ⟨u1, u2, u3, u4, u5⟩ := HV.out.up
        have := HV.out.low.1
        rcases hk with e | e | e | e
        · exact HV.out.far b' hb' (.inl e)
        · omega
        · omega
        · omega
      have KD := Lib.hid (zdoor hx6 hre6 hR6.blk hM6 HT.out (by rw [HK.out.2.1]; have := HNUM.out.2.2.2.1; omega) (fun e => by have := HV.out.gm _ (.inl e); have := HV.out.up.2.2.2.2; omega) .returning)
      have HE := Lib.hid (And.intro hres (And.intro hOw (And.intro (show ∀ i, G1 i → w.heap.size ≤ i from fun i hi => HV.out.gm i (.inl hi)) (And.intro HV.out.low.1 HV.out.low.2.2.1))))
      have HR := Lib.hid (And.intro hrow hdis)
      clear hO hx6 hre6 hM6 hres hOw hrow hdis KX hlt HV hR6 hD6 hO6 HEND
      generalize (⟨s5, r5, []⟩ : Lq).ends = b at *
      cases b with
      | false =>
        go_wp2_with fail
        refine leaves_cons (f := 18) (args := #[.pointer (some ⟨d, 0, none⟩)]) (by simp) (by simp [go_sem]) ?_
        have KD := KD.out
        refine KD.mono ?_
        rintro e u' w7 ⟨rfl, rfl, hM7, hO7⟩
        obtain ⟨hres, hOw, hGm, hlg, hld⟩ := HE.out
        rw [HK.out.1] at hM7 hO7 hOw
        rw [HK.out.2.1, HK.out.2.2] at hM7
        refine ⟨_, results_tmp2 rfl _ _ _, ?_⟩
        subst hres
        refine ⟨⟨_, hM7, HNUM.out.2.2.1⟩, hOw.trans' hO7 (fun i hi => ?_), none, 0, rfl, ⟨rfl, fun h => absurd h (Nat.lt_irrefl 0)⟩⟩
        rcases hi with hi | hi | hi | hi
        · exact .inr (hGm i hi)
        · exact .inl hi
        · exact .inr (by omega)
        · exact .inr (by omega)
      | true =>
        go_wp2_with fail
        refine leaves_cons (f := 18) (args := #[.pointer (some ⟨d, 0, none⟩)]) (by simp) (by simp [go_sem]) ?_
        have KD := KD.out
        refine KD.mono ?_
        rintro e u' w7 ⟨rfl, rfl, hM7, hO7⟩
        obtain ⟨hres, hOw, hGm, hlg, hld⟩ := HE.out
        have h9 := own_onlyV HR.out.1 hO7 (fun b' hb' hk => HR.out.2 b' hb' hk)
        rw [HK.out.1] at hM7 hO7 hOw
        rw [HK.out.2.1, HK.out.2.2] at hM7
        refine ⟨_, results_tmp2 rfl _ _ _, ?_⟩
        subst hres
        refine ⟨⟨_, hM7, HNUM.out.2.2.1⟩, hOw.trans' hO7 (fun i hi => ?_), A1, c1, rfl, Sl.of_own h9⟩
        rcases hi with hi | hi | hi | hi
        · exact .inr (hGm i hi)
        · exact .inl hi
        · exact .inr (by omega)
        · exact .inr (by omega)
end
end Go.Proofs.YtoencondpbkomaaGreatDoor

/-
  The laws' beginning of stage 11.
-/
namespace Go.Proofs.YtoencondpbkomaaGreatDoor
open Go.RowKit

/-- the table of what a chunk brings lies in block 0 -/
def TabQ (W : World) : Prop := ∀ how, how < 4 → W.cell? ⟨0, how, none⟩ = some (.int .u8 (bringN how : Int))
theorem TabQ.pos {W : World} (h : TabQ W) : 1 ≤ W.heap.size := World.block_lt_of_cell? _ _ (h 0 (by decide))
theorem TabQ.only {W W' : World} {S : Nat → Prop} (h : TabQ W) (hO : Only S W W') (hS : ¬ S 0) : TabQ W' := fun how hh => (hO.cell (p := ⟨0, how, none⟩) h.pos hS).trans (h how hh)
theorem TabQ.below {W W' : World} (h : TabQ W) (hb : Below W.heap.size W W') : TabQ W' := h.only (Only.of_below (S := fun _ => False) hb) (fun e => e)
theorem go6 (L0 D : Nat) : (rs0 L0 D [1, 0, 1, 97, 98, 0]).tells (Int.toNat 2) = some [97, 98] := rfl
theorem go5 (L0 D : Nat) : (rs0 L0 D [2, 0, 0, 97, 0]).tells (Int.toNat 1) = none := tells_odd (q := rs0 L0 D [2, 0, 0, 97, 0]) (r := [0, 0, 97, 0]) rfl (by decide) (by decide) (fun _ => show 7 % 2 = 1 by decide) (by decide) _
theorem sl_row6 (w : World) : Sl (w.alloc (.cells #[.int .u8 1, .int .u8 0, .int .u8 1, .int .u8 97, .int .u8 98, .int .u8 0] 5)) (some ⟨w.heap.size, 0, none⟩) 6 (bv [1, 0, 1, 97, 98, 0]) := sl_lit w 5 (bv [1, 0, 1, 97, 98, 0]).toArray (by decide)
theorem sl_row5 (w : World) : Sl (w.alloc (.cells #[.int .u8 2, .int .u8 0, .int .u8 0, .int .u8 97, .int .u8 0] 5)) (some ⟨w.heap.size, 0, none⟩) 5 (bv [2, 0, 0, 97, 0]) := sl_lit w 5 (bv [2, 0, 0, 97, 0]).toArray (by decide)

/-- behind one of the two: what is answered -/
def Awk2 (ys : List UInt8) (cd : Int) (v2 v3 : Value) (wx : World) : Prop := ∃ A c, v2 = .slice A ys.length c ∧ v3 = .int .i64 cd ∧ Sl wx A ys.length (bv ys)
theorem awk2_end {w w2 w3 W : World} {gm : Nat} {ys : List UInt8} {x : Ending} (hO2 : Only (fun _ => False) w w2) (hg : w.heap.size ≤ gm)
    (hW : Only (fun _ => False) w2 W) {o o' : Option (List UInt8)} (ho' : o' = o) (ho : o.getD [] = ys) (h : UpPost W gm o' (codeU o') x w3) : ∃ v2 v3, x = .returned (.tuple #[v2, v3]) ∧ Awk2 ys (codeU o) v2 v3 w3 ∧ Only (fun _ => False) w w3 := by
  subst ho'
  obtain ⟨_, hO, A, c, rfl, hS⟩ := h
  have hO' : Only (fun i => i = gm) w w3 := ((hO2.trans hW).mono (fun _ h => h.elim)).trans hO
  rw [ho] at hS ⊢
  exact ⟨_, _, rfl, ⟨A, c, rfl, rfl, hS⟩, hO'.os, hO'.tape, hO'.output, hO'.size, fun i hi _ => hO'.block i hi (by show ¬ i = gm; omega)⟩

theorem below_of {w w' : World} (h : Only (fun _ => False) w w') : Below w.heap.size w w' := h.below (Nat.le_refl _) (fun _ hh => hh.elim)

set_option maxRecDepth 100000 in
set_option maxHeartbeats 8000000 in
theorem awake11_any {w : World} (hT : TabQ w) : Calls Tryz.prog 7 #[] w fun e w' => e = .returned (.bool true) ∧ Below w.heap.size w w' := by
  obtain ⟨L0, hL0⟩ : ∃ L0, L0 = 1847 + 768 * 2 ^ (4 + 0) := ⟨_, rfl⟩
  have HL0 := Lib.hid hL0
  have HT := Lib.hid hT
  clear hL0 hT
  go_enter Tryz.func7, Tryz.ntmps7
  go_upto_region 1 with fail
  go_cut [1, 2] from 5 (fun v2 v3 wx => Awk2 [97, 98] 0 v2 v3 wx ∧ Only (fun _ => False) w wx)
  case first =>
    have hA1 := sl_row6 w
    have hOA : Only (fun _ => False) w (w.alloc (.cells #[.int .u8 1, .int .u8 0, .int .u8 1, .int .u8 97, .int .u8 98, .int .u8 0] 5)) := (Only.refl _ w).alloc _
    have hsA : (w.alloc (.cells #[.int .u8 1, .int .u8 0, .int .u8 1, .int .u8 97, .int .u8 98, .int .u8 0] 5)).heap.size = w.heap.size + 1 := by simp
    have HA1 := Lib.hid (And.intro hA1 (And.intro hOA hsA))
    clear hA1 hOA hsA
    go_wp2_with fail
    refine (much_any _).mono ?_
    rintro e w2 ⟨gm, rfl, hM, hg, hb⟩
    have HZ2 := Lib.hid (And.intro (Sl.below HA1.out.1 hb) (And.intro hM (And.intro (HA1.out.2.1.then hb) (show w.heap.size < gm from by have := HA1.out.2.2; omega))))
    clear hM hg hb HA1
    go_wp2_with fail
    have hT2 : TabQ w2 := HT.out.only HZ2.out.2.2.1 (fun e => e)
    have hg1 : 1 ≤ gm := by have := HT.out.pos; have := HZ2.out.2.2.2; omega
    refine (zunp_ok (n := 6) (bs := [1, 0, 1, 97, 98, 0]) (p := 0) (size := 2) rfl HZ2.out.1 (by intro _ q o e; injection e with e; injection e with e; have := HZ2.out.2.2.2; omega) (by omega) HZ2.out.2.1 (by omega) (by omega) (by omega) HL0.out hg1 hT2).mono ?_
    intro e w3 hpost
    obtain ⟨v2, v3, rfl, hR, hO3⟩ := awk2_end (w := w) HZ2.out.2.2.1 (Nat.le_of_lt HZ2.out.2.2.2) (Only.refl _ w2) (ys := [97, 98]) (go6 L0 (dictN 0)) rfl hpost
    have HR := Lib.hid (And.intro hR hO3)
    clear hpost hR hO3
    go_wp2_with fail
    go_meet
    exact HR.out
  case rest =>
    obtain ⟨⟨A6, c6, rfl, rfl, hS6⟩, hO6⟩ := hcut
    have HS6 := Lib.hid hS6
    have HO6 := Lib.hid hO6
    clear hS6 hO6
    generalize wc = w5 at *
    go_upto_region 2 with fail
    go_cut [3, 4] from 11 (fun v2 v3 wx => Awk2 [] 12 v2 v3 wx ∧ Only (fun _ => False) w5 wx)
    case first =>
      have hA1 := sl_row5 w5
      have hOA : Only (fun _ => False) w5 (w5.alloc (.cells #[.int .u8 2, .int .u8 0, .int .u8 0, .int .u8 97, .int .u8 0] 5)) := (Only.refl _ w5).alloc _
      have hsA : (w5.alloc (.cells #[.int .u8 2, .int .u8 0, .int .u8 0, .int .u8 97, .int .u8 0] 5)).heap.size = w5.heap.size + 1 := by simp
      have HA1 := Lib.hid (And.intro hA1 (And.intro hOA hsA))
      clear hA1 hOA hsA
      go_wp2_with fail
      refine (much_any _).mono ?_
      rintro e w2 ⟨gm, rfl, hM, hg, hb⟩
      have HZ2 := Lib.hid (And.intro (Sl.below HA1.out.1 hb) (And.intro hM (And.intro (HA1.out.2.1.then hb) (show w5.heap.size < gm from by have := HA1.out.2.2; omega))))
      clear hM hg hb HA1
      go_wp2_with fail
      have hT2 : TabQ w2 := HT.out.only (HO6.out.trans HZ2.out.2.2.1) (fun e => e)
      have hg1 : 1 ≤ gm := by have := HT.out.pos; have := HO6.out.size; have := HZ2.out.2.2.2; omega
      refine (zunp_ok (n := 5) (bs := [2, 0, 0, 97, 0]) (p := 0) (size := 1) rfl HZ2.out.1 (by intro _ q o e; injection e with e; injection e with e; have := HZ2.out.2.2.2; omega) (by omega) HZ2.out.2.1 (by omega) (by omega) (by omega) HL0.out hg1 hT2).mono ?_
      intro e w3 hpost
      obtain ⟨v2, v3, rfl, hR, hO3⟩ := awk2_end (w := w5) HZ2.out.2.2.1 (Nat.le_of_lt HZ2.out.2.2.2) (Only.refl _ w2) (ys := []) (go5 L0 (dictN 0)) rfl hpost
      have HR := Lib.hid (And.intro hR hO3)
      clear hpost hR hO3
      go_wp2_with fail
      go_meet
      exact HR.out
    case rest =>
      obtain ⟨⟨A7, c7, rfl, rfl, hS7⟩, hO7⟩ := hcut
      have HS8 := Lib.hid (HS6.out.only hO7 (fun _ _ _ _ h => h))
      have HO8 := Lib.hid (HO6.out.trans hO7)
      clear hS7 hO7 HS6 HO6
      generalize wc = w6 at *
      have hcv : ∀ k, (convert 22 9 (.slice A6 2 c6)).run Tryz.prog (w6.drewN k) = .ok (.string ⟨#[97, 98]⟩) (w6.drewN k) := by
        intro k
        obtain ⟨b, o, rfl, _, hc⟩ := HS8.out.2 (by decide)
        exact run_convert_bytes_arg (w6.drewN k) 22 5 Tryz.underlying22 Tryz.underlying5 b o 2 c6 [97, 98] rfl (fun i hi => by
          have := hc i hi
          rw [show (w6.drewN k).cell? ⟨b, o + i, none⟩ = w6.cell? ⟨b, o + i, none⟩ from rfl, this]
          rcases i with _ | _ | i
          · rfl
          · rfl
          · exact absurd hi (by simp)) 9 Tryz.underlying9
      have hcv0 : (convert 22 9 (.slice A6 2 c6)).run Tryz.prog w6 = .ok (.string ⟨#[97, 98]⟩) w6 := hcv 0
      clear hcv
      have qs : ∀ W : World, (binOp .eql 9 (.string ⟨#[97, 98]⟩) (.string ⟨#[97, 98]⟩)).run Tryz.prog W = .ok (.bool true) W := fun _ => by kernel_rfl
      go_wp2_with fail
      go_ret
      exact ⟨rfl, below_of HO8.out⟩
end Go.Proofs.YtoencondpbkomaaGreatDoor

/-
  What comes in, opened: two numbers in an array by value; lzma2's table, as the row lists it.
-/
namespace Go.Proofs.YtoencondpbkomaaGreatDoor
set_option linter.unusedVariables false
set_option linter.unusedSimpArgs false
open Go.ChangeShapes Go.WideShapes Go.ChangeAt Go.RowKit

section
variable {H : Type} {enc : TypeId × Value → H} {P : Program} {w : World} {base : Nat} {spare : Nat → Bool} {held : Bool}
theorem pair_trod {t e : TypeId} {fuel : Nat} {c0 c1 : Value} {x : DataW H × List MemPlace} (ht : P.underlying t = some (.array 2 e)) (hce : P.cellsOf e = 1)
    (h : DataW.trod enc P w base spare held fuel t [c0, c1] = some x) : ∃ y0 y1 n, DataW.trod enc P w base spare held n e [c0] = some y0 ∧ DataW.trod enc P w base spare held n e [c1] = some y1 := by
  cases fuel with
  | zero => simp [DataW.trod] at h
  | succ n =>
    unfold DataW.trod at h
    rw [ht] at h
    have r2 : List.range 2 = [0, 1] := rfl
    simp [r2, hce] at h
    cases h0 : DataW.trod enc P w base spare held n e [c0] with
    | none => simp [h0] at h
    | some y0 =>
      cases h1 : DataW.trod enc P w base spare held n e [c1] with
      | none => simp [h0, h1] at h
      | some y1 => exact ⟨y0, y1, n, h0, h1⟩
theorem open_pair16 {r : Go.Reach} {b0 : Nat} {t u : TypeId} {v : Value} {d : DataW H} {p : List MemPlace} (ht : P.underlying t = some (.array 2 u)) (hC : P.cellsOf t = 2) (hu : P.underlying u = some (.int .u16)) (hcu : P.cellsOf u = 1)
    (hv : Value.okWide P w r b0 t v) (h : DataW.Trod enc P w base spare held t v d p) : ∃ x y : Nat, v = .agg #[.int .u16 (x : Int), .int .u16 (y : Int)] ∧ x < 65536 ∧ y < 65536 := by
  simp only [Value.okWide, ht] at hv
  obtain ⟨cs, rfl, hsz, _⟩ := hv
  rw [hC] at hsz
  obtain ⟨l⟩ := cs
  match l, hsz with
  | [c0, c1], _ =>
    obtain ⟨fuel, hf⟩ := h
    obtain ⟨y0, y1, n, h0, h1⟩ := pair_trod (c0 := c0) (c1 := c1) ht hcu hf
    obtain ⟨m0, d0, _, u0⟩ := DataW.trod_int hu h0
    obtain ⟨m1, d1, _, u1⟩ := DataW.trod_int hu h1
    simp only [List.cons.injEq, and_true] at d0 d1
    subst d0 d1
    have b0 := bounds_u16 u0
    have b1 := bounds_u16 u1
    obtain ⟨n0, rfl⟩ := Int.eq_ofNat_of_zero_le b0.1
    obtain ⟨n1, rfl⟩ := Int.eq_ofNat_of_zero_le b1.1
    exact ⟨n0, n1, rfl, by omega, by omega⟩
end
theorem g_brings : Tryz.prog.globalNamed "garbler/lzma2.brings" = some 0 := by kernel_rfl
theorem t_brings : (Tryz.prog.globals[0]?).map (·.type) = some 174 := by kernel_rfl
theorem n_brings : Tryz.prog.cellsOf 174 = 4 := by kernel_rfl
theorem n_flags : Tryz.prog.cellsOf 102 = 1 := by kernel_rfl
theorem tabq_of_laid {W : World} (h : laidMetH Tryz.prog [("garbler/lzma2.brings", Rows.laid_garbler_lzma2_brings)] W) : TabQ W := by
  have h' : laidMet Tryz.prog [("garbler/lzma2.brings", Rows.laid_garbler_lzma2_brings)] W := h
  obtain ⟨ps, ⟨g, t, cs, fuel, p, q, hg, ht, hvar, hd, _, _⟩, _, hps⟩ := h'
  obtain rfl := Option.some.inj (g_brings.symm.trans hg)
  obtain rfl := Option.some.inj (t_brings.symm.trans ht)
  have k2 := Lib.cells_of_tab (k := .u8) (zs := [0, 4, 6, 7]) Tryz.underlying174 Tryz.underlying102 n_flags n_brings hd
  have c1 : ∀ i, W.cell? ⟨0, i, none⟩ = cs[i]? := World.var?_cell g_brings hvar
  intro a ha
  rw [c1, ← Array.getElem?_toList, k2]
  have hc : a = 0 ∨ a = 1 ∨ a = 2 ∨ a = 3 := by omega
  rcases hc with rfl | rfl | rfl | rfl <;> rfl
end Go.Proofs.YtoencondpbkomaaGreatDoor

/-
  A row of bytes tells one count of bytes at most.
-/
namespace Go.Proofs.YtoencondpbkomaaGreatDoor
set_option linter.unusedVariables false
theorem telN_one : ∀ (f : Nat) (q : Rs) (n k : Nat) (x y : List UInt8), telN f q n = some x → telN f q k = some y → n = k
  | 0, _, _, _, _, _, h, _ => by cases h
  | f + 1, q, n, k, x, y, h, h' => by
    unfold telN at h h'
    by_cases hr : q.r = [0]
    · rw [if_pos hr] at h h'
      split at h
      · split at h'
        · omega
        · cases h'
      · cases h
    · rw [if_neg hr] at h h'
      cases hc : chunkN q with
      | none => rw [hc] at h; cases h
      | some p =>
        obtain ⟨xs, q'⟩ := p
        rw [hc] at h h'
        have h : (if xs.length ≤ n then (telN f q' (n - xs.length)).map (xs ++ ·) else none) = some x := h
        have h' : (if xs.length ≤ k then (telN f q' (k - xs.length)).map (xs ++ ·) else none) = some y := h'
        split at h
        · split at h'
          · cases h1 : telN f q' (n - xs.length) with
            | none => rw [h1] at h; cases h
            | some u =>
              cases h2 : telN f q' (k - xs.length) with
              | none => rw [h2] at h'; cases h'
              | some v =>
                have := telN_one f q' _ _ u v h1 h2
                omega
          · cases h'
        · cases h
end Go.Proofs.YtoencondpbkomaaGreatDoor

/-
  The program's Unpack of LZMA2 refuses properties beyond 40.
-/
namespace Go.Proofs.YtoencondpbkomaaGreatDoor
open Go.RowKit
set_option linter.unusedVariables false

/-- what the program's Unpack owes, whatever the property -/
def unpR (L0 : Nat) (p : Nat) (bs : List UInt8) (size : Int) : Option (List UInt8) := if p ≤ 40 then (rs0 L0 (dictN p) bs).tells size.toNat else none
def unpC (L0 : Nat) (p : Nat) (bs : List UInt8) (size : Int) : Int := if p ≤ 40 then codeU ((rs0 L0 (dictN p) bs).tells size.toNat) else 11
end Go.Proofs.YtoencondpbkomaaGreatDoor

/-
  The law Lzma2Sizes, walked.
-/
namespace Go.Proofs.YtoencondpbkomaaGreatDoor
open Go.RowKit
set_option linter.unusedVariables false

end Go.Proofs.YtoencondpbkomaaGreatDoor
