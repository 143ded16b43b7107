/-
  LwUnp: put together.
-/
import Derived.Test.YtjgdjobhhdhfjaaFa25
import Derived.Defers
set_option linter.unusedVariables false
set_option linter.unusedSimpArgs false
/-
  The program's Unpack.
-/
namespace Go.Proofs.Ytjgdjobhhdhfjaa
open Go.RowKit

section
variable {P : Program} (w : World)
theorem wpList_appO {ops : Array Oper} {rest : List Oper} {o : Oper} {a : Act} {Q : Exit → Act → World → Prop} (hgd : o.guard = none) (s x : Operand) (t : TypeId)
    (ho : o.op = .call { callee := .builtin .append, args := #[s, x], argTypes := #[t, t] })
    (base : Nat) (e : TypeId) (i : TypeInfo) (z : Value) (bytes : Nat) (ht : P.underlying t = some (.slice e)) (hi : P.info? e = some i) (hz : i.zero = some z)
    (hsize : i.size = 1) (hby : i.bytes = bytes) (hzs : z.cells.size = 1)
    (v : Value) (n : Nat) (xs : List Value) (hs : a.eval s = v) (hown : w.ownsRow base e 1 v n xs)
    (A : Option Addr) (m c : Nat) (news : List Value) (hx : a.eval x = .slice A m c) (hr : Sl w A m news) (h1 : ∀ u ∈ news, u.oneCell' = true)
    (hbytes : (n + m) * bytes ≤ 140737488355328) (hb0 : 0 < bytes) (hbase : base ≤ w.heap.size)
    (h : ∀ A' c' w', w'.ownsRow base e 1 (.slice A' (n + m) c') (n + m) (xs ++ news) → w.grownBy w' v.ownBlock → ((Value.slice A' (n + m) c').ownBlock = v.ownBlock ∨ (Value.slice A' (n + m) c').ownBlock = some w.heap.size) → wpList P ops Q rest (a.put o.dst (.slice A' (n + m) c')) w') : wpList P ops Q (o :: rest) a w :=
  wpList_plain hgd fun K hK => by
    obtain ⟨v', w', hrun, h2, h3, h4⟩ := run_app (P := P) w base t o.type e i z bytes ht hi hz hsize hby hzs v n xs hown A m c news hr h1 hbytes hb0 hbase
    obtain ⟨A', c', rfl, h2⟩ := own_form h2
    unfold Oper.wp execOp
    simp only [ho, resolve, invoke, builtin, Sem.run_bind, Sem.run_pure, Result.andThen_ok, List.map_toArray, List.map_cons, List.map_nil, hs, hx, hrun]
    exact hK _ _ (h A' c' w' h2 h3 h4)
end

/-- how long a slice is -/
def slLen (v : Value) : Nat := match v with | .slice _ n _ => n | _ => 0
theorem Un.only {K : Kon} {w w' : World} {Gw S : Nat → Prop} {lc lp pb dict : Nat} (h : Un K w Gw lc lp pb dict) (hO : Only S w w') (h1 : ¬ S K.g) (h2 : ¬ S K.lb) (h3 : ∀ i, Gw i → ¬ S i) : Un K w' Gw lc lp pb dict :=
  ⟨(K.prb _ h.gn).only h.row hO (fun i hi => by rcases hi with rfl | rfl; exact h1; exact h2), h.win.only hO h3, h.gn, h.mg, h.mb, fun i hi => ⟨(h.wd i hi).1, (h.wd i hi).2.1, (h.wd i hi).2.2.1, Nat.lt_of_lt_of_le (h.wd i hi).2.2.2 hO.size⟩⟩

section
variable {w wr : World} {m lc lp pb dict : Nat} {size : Int}

set_option maxRecDepth 100000 in
set_option maxHeartbeats 4000000 in
theorem lnew_props {a b c d : Int} (h : maySet a b c d = false) (w : World) (m : Value) : Calls Try.prog 10 #[.agg #[.int .i64 a, .int .i64 b, .int .i64 c, .int .i64 d], .int .i64 size, m] w fun e w' =>
    e = .returned (.tuple #[.pointer none, .int .i64 11]) ∧ Below w.heap.size w w' := by
  obtain ⟨w1, hw1⟩ : ∃ w1, w1 = w.alloc (.cells #[.int .i64 a, .int .i64 b, .int .i64 c, .int .i64 d] 24) := ⟨_, rfl⟩
  have hb1 : Below w.heap.size w w1 := by rw [hw1]; exact (Below.refl _ _).alloc (Nat.le_refl _) _
  have HBk : Blk w1 w.heap.size 24 #[.int .i64 a, .int .i64 b, .int .i64 c, .int .i64 d] := by rw [hw1]; exact Blk.fresh w _ _
  have KM := pmay_any a b c d w1
  rw [h] at KM
  have KM := Lib.hid KM
  have c0 : w1.cell? ⟨w.heap.size, 0, none⟩ = some (.int .i64 a) := HBk.cell 0
  have c1 : w1.cell? ⟨w.heap.size, 1, none⟩ = some (.int .i64 b) := HBk.cell 1
  have c2 : w1.cell? ⟨w.heap.size, 2, none⟩ = some (.int .i64 c) := HBk.cell 2
  have c3 : w1.cell? ⟨w.heap.size, 3, none⟩ = some (.int .i64 d) := HBk.cell 3
  have HW1 := Lib.hid hw1
  have HB1 := Lib.hid hb1
  clear hw1 hb1 HBk h
  go_enter Try.func10, Try.ntmps10
  go_upto_region 1 with fail
  rw [← HW1.out]
  clear HW1
  go_wp2_with fail
  refine KM.out.mono ?_
  rintro e w2 ⟨rfl, hb2⟩
  have HB2 := Lib.hid (HB1.out.trans ⟨hb2.os, hb2.tape, hb2.output, hb2.size, fun i hi => hb2.block i (Nat.lt_of_lt_of_le hi HB1.out.size)⟩)
  clear hb2 KM c0 c1 c2 c3 HB1
  go_wp2_with fail
  go_ret2
  exact ⟨rfl, HB2.out⟩

theorem up_door {K : Kon} {Gw : Nat → Prop} {out : List UInt8} {t : Tel} (hH : Hold K wr Gw out) (hap : Apart K Gw) (hM : MeterAt wr 105 K.m muchQ t) (hF : Fine muchQ t) (hr : K.room ≤ 9223372036854775807) (hz : K.sz ≤ 1048576) (u : FrameMode) :
    CallsD Try.prog 25 #[.pointer (some ⟨K.g, 0, none⟩)] u wr fun e u' w' => u' = u ∧ e = .returned (.tuple #[]) ∧ MeterAt w' 105 K.m muchQ ((t.doFree (K.sz : Int)).doFree K.room) ∧ Only (fun i => Gw i ∨ i = K.m ∨ i = K.g) wr w' := by
  obtain ⟨fs, ps, h1, h2, h3, h4, h5⟩ := hH
  refine ((lclose_any h1 h2 h3 h4 hr h5 hz hM hF (fun h => (hap.wd _ h).2.2.1 rfl) (fun h => (hap.wd _ h).1 rfl) hap.mg).2 u).mono ?_
  rintro e u' w' ⟨rfl, rfl, G', _, _, k3, _, k5⟩
  exact ⟨rfl, rfl, k3, k5⟩

theorem much_mem {a b : Int} (ha : 0 ≤ a) (ha1 : a ≤ 1000000) (hb : 0 ≤ b) (hb1 : b ≤ 1000000) :
    fits Tel.zero.code Tel.zero.mem muchQ.mem a ∧ fits (Tel.zero.doMem muchQ a).code (Tel.zero.doMem muchQ a).mem muchQ.mem b ∧ (((((Tel.zero.doMem muchQ a).doMem muchQ b).doFree a).doFree b).mem = 0) := by
  have e0 : Tel.zero.mem = 0 := rfl
  have e1 : Tel.zero.code = 0 := rfl
  have e2 : muchQ.mem = 1099511627776 := rfl
  have f1 : (Tel.zero.doMem muchQ a).code = 0 := by
    show codeOf Tel.zero.code Tel.zero.mem muchQ.mem a 101 = 0
    rw [e0, e1, e2]
    unfold codeOf
    split <;> omega
  have f2 : (Tel.zero.doMem muchQ a).mem = a := by
    show wasOf Tel.zero.code Tel.zero.mem muchQ.mem a = a
    rw [e0, e1, e2]
    unfold wasOf
    split <;> omega
  have f3 : ((Tel.zero.doMem muchQ a).doMem muchQ b).mem = a + b := by
    show wasOf (Tel.zero.doMem muchQ a).code (Tel.zero.doMem muchQ a).mem muchQ.mem b = a + b
    rw [f1, f2, e2]
    unfold wasOf
    split <;> omega
  refine ⟨?_, ?_, ?_⟩
  · rw [e0, e1, e2]
    exact ⟨rfl, by omega⟩
  · rw [f1, f2, e2]
    exact ⟨rfl, by omega⟩
  · show max ((max (((Tel.zero.doMem muchQ a).doMem muchQ b).mem - max a 0) 0) - max b 0) 0 = 0
    rw [f3]
    omega

theorem up_fit {K : Kon} {z : Lzs} {n dict : Nat} {S size : Int} (hS : S = max (min (dict : Int) size) 1) (hz : K.sz = S.toNat) (h1 : S ≤ 100000) (hd : z.dict = dict) (hd0 : 4096 ≤ dict) (hn : n ≤ size.toNat) : Fit K (z.cut n) := by
  have hl : (z.cut n).out.length ≤ n := by
    show (z.out.take n).length ≤ n
    rw [List.length_take]
    exact Nat.min_le_left _ _
  have hdd : (z.cut n).dict = dict := hd
  unfold Fit
  rw [hdd, hz]
  generalize (z.cut n).out.length = l at *
  omega

set_option maxRecDepth 100000 in
set_option maxHeartbeats 8000000 in
theorem up_ok {A : Option Addr} {n c : Nat} {bs : List UInt8} (hn : n = bs.length) (hS : Sl w A n (bv bs)) (hA : 0 < n → ∀ q o, A = some ⟨q, o, none⟩ → q ≠ m) (hl : n ≤ 10000000) (hM : MeterAt w 105 m muchQ Tel.zero)
    (hs : SetOk lc lp pb dict) (h6 : lc + lp ≤ 6) (h1 : size ≤ 100000) (h0 : -9223372036854775808 ≤ size) :
    Calls Try.prog 33 #[.slice A n c, .agg #[.int .i64 (lc : Int), .int .i64 (lp : Int), .int .i64 (pb : Int), .int .i64 (dict : Int)], .int .i64 size, .pointer (some ⟨m, 0, none⟩)] w (UpPost w m (unpackN bs lc lp pb dict size) (codeU (unpackN bs lc lp pb dict size))) := by
  obtain ⟨i, hi, hz0, hz1, hz2⟩ := info_parts info_u8
  obtain ⟨w1, hw1⟩ : ∃ w1, w1 = w.alloc (.cells #[.int .i64 (lc : Int), .int .i64 (lp : Int), .int .i64 (pb : Int), .int .i64 (dict : Int)] 24) := ⟨_, rfl⟩
  have hO1 : Only (fun i => i = m) w w1 := by rw [hw1]; exact (Only.refl _ w).alloc _
  have hs1 : w1.heap.size = w.heap.size + 1 := by rw [hw1]; simp
  have HBk : Blk w1 w.heap.size 24 #[.int .i64 (lc : Int), .int .i64 (lp : Int), .int .i64 (pb : Int), .int .i64 (dict : Int)] := by rw [hw1]; exact Blk.fresh w _ _
  have hM1 : MeterAt w1 105 m muchQ Tel.zero := by rw [hw1]; exact hM.alloc _
  have hpn := (probsN_is hs).2.1
  have hnl6 : 768 * 2 ^ (lc + lp) ≤ 768 * 2 ^ 6 := Nat.mul_le_mul_left 768 (Nat.pow_le_pow_right (by decide) h6)
  have hpr : (probsN lc lp : Int) ≤ 60000 := by unfold probsN; omega
  have hd0 := hs.2.2.2
  obtain ⟨S, hSS⟩ : ∃ S, S = max (min (dict : Int) size) 1 := ⟨_, rfl⟩
  obtain ⟨R, hRR⟩ : ∃ R, R = 2 * (probsN lc lp : Int) := ⟨_, rfl⟩
  have hmm := much_mem (a := S) (b := R) (by omega) (by omega) (by omega) (by omega)
  have KN := lnew_any (size := size) hs h6 hM1 much_fine h0 (by omega) (by rw [← hSS]; exact hmm.1) (by rw [← hSS, ← hRR]; exact hmm.2.1)
  have KN := Lib.hid KN
  obtain ⟨res, hres⟩ : ∃ r, r = unpackN bs lc lp pb dict size := ⟨_, rfl⟩
  rw [← hres]
  rw [resN_start] at hres
  have HW1 := Lib.hid hw1
  have HO1 := Lib.hid hO1
  have HSO := Lib.hid (And.intro hs (And.intro h6 (And.intro h1 h0)))
  have HIN := Lib.hid (And.intro hn (And.intro hS (And.intro hA hl)))
  have HRES := Lib.hid hres
  have HNUM := Lib.hid (And.intro hSS (And.intro hRR (And.intro hmm.2.2 (And.intro (show R ≤ 1000000 by omega) (show S ≤ 100000 by omega)))))
  have HS1 := Lib.hid (And.intro hs1 hM.lt)
  have c0 : w1.cell? ⟨w.heap.size, 0, none⟩ = some (.int .i64 (lc : Int)) := HBk.cell 0
  have c1 : w1.cell? ⟨w.heap.size, 1, none⟩ = some (.int .i64 (lp : Int)) := HBk.cell 1
  have c2 : w1.cell? ⟨w.heap.size, 2, none⟩ = some (.int .i64 (pb : Int)) := HBk.cell 2
  have c3 : w1.cell? ⟨w.heap.size, 3, none⟩ = some (.int .i64 (dict : Int)) := HBk.cell 3
  clear hw1 hO1 hs h6 h1 h0 hn hS hA hl hres hSS hRR hmm hs1 HBk hM1 hM hpn hnl6 hpr hd0
  go_enter_defers Try.func33, Try.ntmps33
  go_upto_region 1 with fail
  rw [← HW1.out]
  clear HW1
  go_wp2_with fail
  refine KN.out.mono ?_
  rintro e w2 ⟨K, Gw, hKm, hroom, hsz, hnl, rfl, hUn, hM2, hnew, hO2⟩
  have HO2 := Lib.hid (HO1.out.trans hO2)
  have hS2 : Sl w2 A n (bv bs) := HIN.out.2.1.only HO2.out (fun hn b o e h => HIN.out.2.2.1 hn b o e h)
  have KF := Lib.hid (newFeed_any (bs := bs) (c := c) hS2 (by have := HIN.out.2.2.2; omega))
  have HUN := Lib.hid hUn
  have HM2 := Lib.hid hM2
  have HKN := Lib.hid (And.intro hKm (And.intro hroom (And.intro hsz (And.intro hnl hnew))))
  clear hUn hM2 hKm hroom hsz hnl hnew hO2 hS2 KN c0 c1 c2 c3 HO1
  go_wp2_with fail
  refine KF.out.mono ?_
  rintro e w3 ⟨f, rfl, hf, hF3, hb3⟩
  have hUn3 := HUN.out.only (Only.of_below (S := fun _ => False) hb3) (fun h => h) (fun h => h) (fun _ _ h => h)
  have hgl : K.g < w2.heap.size := HUN.out.row.1.lt
  have hll : K.lb < w2.heap.size := HUN.out.row.2.1.lt
  have hml : K.m < w2.heap.size := by rw [HKN.out.1]; exact HM2.out.lt
  have KB := Lib.hid (lbegin_any hUn3 HSO.out.1 HKN.out.2.2.2.1 hF3 hgl hll hml (fun i hi => (HUN.out.wd i hi).2.2.2))
  have HO3 := Lib.hid (HO2.out.then hb3)
  have HM3 := Lib.hid (HM2.out.below hb3)
  have HL := Lib.hid (And.intro hgl (And.intro hll (And.intro hml hf)))
  clear hUn3 hgl hll hml hf hF3 hb3 KF HO2
  go_wp2_with fail
  refine KB.out.mono ?_
  rintro e w4 ⟨rfl, dg, hdg, hNx, hO4⟩
  obtain ⟨K', hK'⟩ : ∃ K', K' = K.on dg f w2.heap.size bs := ⟨_, rfl⟩
  have kg : K'.g = K.g := by rw [hK']; rfl
  have km : K'.m = m := by rw [hK']; exact HKN.out.1
  have kr : K'.room = R := by rw [hK', HNUM.out.2.1]; exact HKN.out.2.1
  have kz : K'.sz = S.toNat := by rw [hK', HNUM.out.1]; exact HKN.out.2.2.1
  rw [← hK'] at hNx
  have hlow : w.heap.size ≤ K'.g ∧ w.heap.size ≤ K'.lb ∧ w.heap.size ≤ K'.lo ∧ K'.dg < w4.heap.size := by
    have h1 := HKN.out.2.2.2.2
    have h2 := HS1.out.1
    have h3 := HO3.out.size
    have h4 := HL.out.1
    refine ⟨by rw [hK']; show _ ≤ K.g; omega, by rw [hK']; show _ ≤ K.lb; omega, by rw [hK']; show _ ≤ w2.heap.size; omega, ?_⟩
    obtain ⟨_, _, _, _, hB, _⟩ := hNx.lw.mch.pd
    exact hB.lt
  have hmf : ¬ (m = K.g ∨ m = f) := by
    have h1 := HKN.out.2.2.2.2.1
    have h2 := HS1.out.1
    have h3 := HS1.out.2
    have h4 := HL.out.1
    have h5 := HL.out.2.2.2
    rintro (h | h) <;> omega
  have hP : (⟨List.replicate (1847 + K.nl) 1024, started bs⟩ : Pm Dc) = ⟨List.replicate (probsN lc lp) 1024, started bs⟩ := by
    unfold probsN
    rw [HKN.out.2.2.2.1]
  rw [hP] at hNx
  have hOn : Only (fun i => i = K'.m) w w4 := by
    rw [km]
    refine HO3.out.trans' hO4 (fun i hi => .inr ?_)
    have h1 := HKN.out.2.2.2.2.1
    have h2 := HS1.out.1
    have h5 := HL.out.2.2.2
    have h6 := HL.out.1
    rcases hi with hi | hi <;> omega
  have hI : Inv K' w4.heap.size w size dict res muchQ ((Tel.zero.doMem muchQ S).doMem muchQ R) (.slice none 0 0) w4 0 (Lzs.start lc lp pb dict) ⟨List.replicate (probsN lc lp) 1024, started bs⟩ Gw := by
    refine ⟨hNx, World.ownsRow_nil _ _ _ _, (fun b hb => by cases hb), Nat.zero_le _, HRES.out, rfl, ?_, hOn, fun i hi => ?_, hlow, Nat.le_refl _⟩
    · rw [km, HNUM.out.1, HNUM.out.2.1]
      exact HM3.out.only hO4 hmf
    · have h1 := HKN.out.2.2.2.2.2.2 i hi
      have h2 := HS1.out.1
      omega
  have hI : Inv K' w4.heap.size w size dict res muchQ ((Tel.zero.doMem muchQ S).doMem muchQ R) (.slice none 0 0) w4 0 (Lzs.start lc lp pb dict) ⟨List.replicate (probsN lc lp) 1024, started bs⟩ Gw := hI
  have HI := Lib.hid hI
  have HK := Lib.hid (And.intro kg (And.intro km (And.intro kr kz)))
  generalize hB : w4.heap.size = B at *
  generalize hg : K.g = g at *
  clear hI hOn hK' kg km kr kz hNx hlow hmf hP hO4 hdg KB HUN HM2 HM3 HKN HO3 HL HRES hg
  obtain ⟨T, hT⟩ : ∃ T, T = (Tel.zero.doMem muchQ S).doMem muchQ R := ⟨_, rfl⟩
  rw [← hT] at HI HNUM
  have hTF : Fine muchQ T := by rw [hT]; exact (much_fine.mem _).mem _
  have HT := Lib.hid hTF
  clear hT hTF
  have hB4 : B ≤ w4.heap.size := Nat.le_of_eq hB.symm
  have HB4 := Lib.hid hB4
  clear hB hB4
  go_wp2_with fail
  go_loopw [12] (fun v wr => ∃ (n' : Nat) (zf : Lzs) (tf : Pm Dc) (G1 : Nat → Prop), Inv K' B w size dict res muchQ T v wr n' zf tf G1) (fun v wr => size.toNat - slLen v)
  case atStart => exact ⟨0, _, _, Gw, HI.out⟩
  case round =>
    clear HI
    obtain ⟨n', zf, tf, G1, hinv⟩ := hrel
    obtain ⟨A1, c1, rfl, hown⟩ := own_form hinv.own
    have hfit : Fit K' (zf.cut n') := up_fit HNUM.out.1 HK.out.2.2.2 HNUM.out.2.2.2.2 hinv.fit HSO.out.1.2.2.2.1 hinv.le
    have hn8 : n' ≤ 800000 := by have := hinv.le; have := HSO.out.2.2.1; omega
    by_cases hlt : (n' : Int) < size
    · have KX := lnext_any hinv.nx hn8 hfit
      rw [HK.out.1] at KX
      have KX := Lib.hid KX
      have HV := Lib.hid hinv
      have HLT := Lib.hid hlt
      clear hinv hown hfit hn8
      go_wp2_with fail
      refine KX.out.mono ?_
      rintro e w6 hp
      rcases hp with ⟨zf', tf', G2, rfl, hN, hd, ht, hc, hG, hO⟩ | ⟨rfl, hn2, hs, z1, t1, l1, G2, hLw, hG, hO⟩
      · have hmid := HV.out.told HLT.out hN hd ht hc hG hO
        have HMI := Lib.hid hmid
        obtain ⟨x, hx⟩ : ∃ x, x = zf'.out.getD n' 0 := ⟨_, rfl⟩
        rw [← hx]
        have HX := Lib.hid hx
        clear hN hd ht hc hG hO hmid hx KX hlt
        go_wp2_with (first
          | (at_builtin; refine wpList_appO _ rfl _ _ 22 rfl B 5 i _ 1 Try.underlying22 hi hz0 hz1 hz2 rfl _ n' (bv (zf'.out.take n')) rfl (HMI.out.own.alloc _) _ 1 1 [.int .u8 (x.toNat : Int)] rfl (sl_one _ _ _) (one_one _ _) ?_ (by decide) ?_ ?_)
          | fail)
        · have := HSO.out.2.2.1
          have := HMI.out.le
          omega
        · have := HMI.out.bot
          simp
          omega
        · intro A2 c2 w7 ho hg2 hv
          have hin := HMI.out.put (v' := .slice A2 (n' + 1) c2) (by rw [← HX.out]; exact ho) hg2 (hv.imp id (fun h => h.trans (by simp)))
          have HIN2 := Lib.hid hin
          clear ho hg2 hv hin
          go_wp2_with fail
          go_roundw
          case rel => exact ⟨n' + 1, zf', tf', G2, HIN2.out⟩
          case measure =>
            have := HLT.out
            show size.toNat - (n' + 1) < size.toNat - n'
            omega
      · have hhold := hLw.hold
        have hap := hLw.ap
        have hlo := HV.out.nx.lw.mch.pd.lo
        have hM6 : MeterAt w6 105 K'.m muchQ T := HV.out.mt.only hO (HV.out.nx.lw.ap.meter hlo)
        have hres : res = none := by rw [HV.out.res]; exact resN_stop (by have := HLT.out; omega) hs
        have hGm : ∀ i, G2 i → w.heap.size ≤ i := by
          intro i hi
          rcases hG i hi with h | h
          · exact HV.out.gm i h
          · have := HV.out.only.size
            omega
        have hOw : Only (fun i => i = K'.m) w w6 := by
          refine HV.out.only.trans' hO (fun i hi => .inr ?_)
          obtain ⟨l1, l2, l3, _⟩ := HV.out.low
          rcases hi with (e | e | e | e) | e
          · omega
          · omega
          · omega
          · omega
          · exact HV.out.gm i e
        have KD := Lib.hid (up_door hhold hap hM6 HT.out (by rw [HK.out.2.2.1]; have := HNUM.out.2.2.2.1; omega) (by rw [HK.out.2.2.2]; have := HNUM.out.2.2.2.2; omega) .returning)
        have HE := Lib.hid (And.intro hres (And.intro hOw (And.intro hGm HV.out.low.1)))
        clear hhold hap hlo hM6 hres hGm hOw hn2 hs hLw hG hO KX hlt HV
        go_wp2_with fail
        refine leaves_cons (f := 25) (args := #[.pointer (some ⟨g, 0, none⟩)]) (by simp) (by simp [go_sem]) ?_
        have KD := KD.out
        rw [HK.out.1] at KD
        refine KD.mono ?_
        rintro e u' w7 ⟨rfl, rfl, hM7, hO7⟩
        obtain ⟨hres, hOw, hGm, hlg⟩ := HE.out
        rw [HK.out.1] at hlg
        rw [HK.out.2.1] at hM7 hO7 hOw
        rw [HK.out.2.2.1, HK.out.2.2.2] at hM7
        refine ⟨_, results_tmp2 rfl _ _ _, ?_⟩
        subst hres
        refine ⟨⟨_, hM7, ?_⟩, hOw.trans' hO7 (fun i hi => ?_), none, 0, rfl, ⟨rfl, fun h => absurd h (Nat.lt_irrefl 0)⟩⟩
        · have := HNUM.out.2.2.1
          rw [Int.toNat_of_nonneg (by have := HNUM.out.1; omega)]
          exact this
        · rcases hi with hi | hi | hi
          · exact .inr (hGm i hi)
          · exact .inl hi
          · exact .inr (by omega)
    · have KX := lfinish_any hinv.nx hn8 hfit
      rw [HK.out.1] at KX
      have KX := Lib.hid KX
      have HV := Lib.hid hinv
      have HLT := Lib.hid hlt
      clear hinv hown hfit hn8
      go_wp2_with fail
      refine KX.out.mono ?_
      rintro e w6 ⟨b, rfl, hb1, hb2, hhold, hO⟩
      have hap := HV.out.nx.lw.ap
      have hlo := HV.out.nx.lw.mch.pd.lo
      have hO : Only (K'.all G1) wr w6 := hO.mono fun i hi => .inl hi
      have hM6 : MeterAt w6 105 K'.m muchQ T := HV.out.mt.only hO (hap.meter hlo)
      have hres : res = if b = true then some (zf.out.take n') else none := by rw [HV.out.res]; exact resN_end HV.out.le (by have := HLT.out; omega) HV.out.nx.le hb1 hb2
      have hOw : Only (fun i => i = K'.m) w w6 := by
        refine HV.out.only.trans' hO (fun i hi => .inr ?_)
        obtain ⟨l1, l2, l3, _⟩ := HV.out.low
        rcases hi with (e | e | e | e) | e
        · omega
        · omega
        · omega
        · omega
        · exact HV.out.gm i e
      have hrow : w6.ownsRow B 5 1 (.slice A1 n' c1) n' (bv (zf.out.take n')) := own_onlyV HV.out.own hO (by
        intro b' hb' hk
        have h1 := (own_at HV.out.own hb').1
        have a1 := hap.gl
        have a2 := hap.ll
        have a3 := HV.out.low.2.2.2
        rcases hk with (e | e | e | e) | e
        · omega
        · omega
        · omega
        · omega
        · exact HV.out.far b' hb' e)
      have hdis : ∀ b', (Value.slice A1 n' c1).ownBlock = some b' → ¬ (G1 b' ∨ b' = K'.m ∨ b' = K'.g) := by
        intro b' hb' hk
        have h1 := (own_at HV.out.own hb').1
        have a1 := hap.gl
        have a2 := hap.ml
        have a3 := HV.out.low.2.2.2
        rcases hk with e | e | e
        · exact HV.out.far b' hb' e
        · omega
        · omega
      have hln : n' ≤ (zf.out).length := HV.out.nx.le
      have KD := Lib.hid (up_door hhold hap hM6 HT.out (by rw [HK.out.2.2.1]; have := HNUM.out.2.2.2.1; omega) (by rw [HK.out.2.2.2]; have := HNUM.out.2.2.2.2; omega) .returning)
      have HE := Lib.hid (And.intro hres (And.intro hOw (And.intro HV.out.gm HV.out.low.1)))
      have HR := Lib.hid (And.intro hrow (And.intro hdis hln))
      clear hhold hap hlo hM6 hres hOw hO KX hlt HV hb1 hb2 hrow hdis hln
      cases b with
      | false =>
        go_wp2_with fail
        refine leaves_cons (f := 25) (args := #[.pointer (some ⟨g, 0, none⟩)]) (by simp) (by simp [go_sem]) ?_
        have KD := KD.out
        rw [HK.out.1] at KD
        refine KD.mono ?_
        rintro e u' w7 ⟨rfl, rfl, hM7, hO7⟩
        obtain ⟨hres, hOw, hGm, hlg⟩ := HE.out
        rw [HK.out.1] at hlg
        rw [HK.out.2.1] at hM7 hO7 hOw
        rw [HK.out.2.2.1, HK.out.2.2.2] at hM7
        refine ⟨_, results_tmp2 rfl _ _ _, ?_⟩
        subst hres
        refine ⟨⟨_, hM7, ?_⟩, hOw.trans' hO7 (fun i hi => ?_), none, 0, rfl, ⟨rfl, fun h => absurd h (Nat.lt_irrefl 0)⟩⟩
        · have := HNUM.out.2.2.1
          rw [Int.toNat_of_nonneg (by have := HNUM.out.1; omega)]
          exact this
        · rcases hi with hi | hi | hi
          · exact .inr (hGm i hi)
          · exact .inl hi
          · exact .inr (by omega)
      | true =>
        go_wp2_with fail
        refine leaves_cons (f := 25) (args := #[.pointer (some ⟨g, 0, none⟩)]) (by simp) (by simp [go_sem]) ?_
        have KD := KD.out
        rw [HK.out.1] at KD
        refine KD.mono ?_
        rintro e u' w7 ⟨rfl, rfl, hM7, hO7⟩
        obtain ⟨hres, hOw, hGm, hlg⟩ := HE.out
        rw [HK.out.1] at hlg
        rw [HK.out.2.1] at hM7 hO7 hOw
        rw [HK.out.2.2.1, HK.out.2.2.2] at hM7
        refine ⟨_, results_tmp2 rfl _ _ _, ?_⟩
        subst hres
        refine ⟨⟨_, hM7, ?_⟩, hOw.trans' hO7 (fun i hi => ?_), A1, c1, ?g3, ?g4⟩
        case g3 =>
          show Ending.returned (.tuple #[.slice A1 n' c1, .int .i64 0]) = .returned (.tuple #[.slice A1 (zf.out.take n').length c1, .int .i64 0])
          rw [List.length_take, Nat.min_eq_left HR.out.2.2]
        case g4 =>
          have h9 := own_onlyV HR.out.1 hO7 (fun b' hb' hk => HR.out.2.1 b' hb' (by rw [HK.out.1, HK.out.2.1]; exact hk))
          have hlen : (zf.out.take n').length = n' := by rw [List.length_take, Nat.min_eq_left HR.out.2.2]
          show Sl w7 A1 (zf.out.take n').length (bv (zf.out.take n'))
          rw [hlen]
          exact Sl.of_own h9
        · have := HNUM.out.2.2.1
          rw [Int.toNat_of_nonneg (by have := HNUM.out.1; omega)]
          exact this
        · rcases hi with hi | hi | hi
          · exact .inr (hGm i hi)
          · exact .inl hi
          · exact .inr (by omega)

set_option maxRecDepth 100000 in
set_option maxHeartbeats 4000000 in
theorem up_bad {a b cc d : Int} {v : Value} (hmay : maySet a b cc d = false) (hM : MeterAt w 105 m muchQ Tel.zero) :
    Calls Try.prog 33 #[v, .agg #[.int .i64 a, .int .i64 b, .int .i64 cc, .int .i64 d], .int .i64 size, .pointer (some ⟨m, 0, none⟩)] w (UpPost w m none 11) := by
  obtain ⟨w1, hw1⟩ : ∃ w1, w1 = w.alloc (.cells #[.int .i64 a, .int .i64 b, .int .i64 cc, .int .i64 d] 24) := ⟨_, rfl⟩
  have hO1 : Only (fun i => i = m) w w1 := by rw [hw1]; exact (Only.refl _ w).alloc _
  have HBk : Blk w1 w.heap.size 24 #[.int .i64 a, .int .i64 b, .int .i64 cc, .int .i64 d] := by rw [hw1]; exact Blk.fresh w _ _
  have hM1 : MeterAt w1 105 m muchQ Tel.zero := by rw [hw1]; exact hM.alloc _
  have KN := Lib.hid (lnew_props (size := size) hmay w1 (.pointer (some ⟨m, 0, none⟩)))
  have c0 : w1.cell? ⟨w.heap.size, 0, none⟩ = some (.int .i64 a) := HBk.cell 0
  have c1 : w1.cell? ⟨w.heap.size, 1, none⟩ = some (.int .i64 b) := HBk.cell 1
  have c2 : w1.cell? ⟨w.heap.size, 2, none⟩ = some (.int .i64 cc) := HBk.cell 2
  have c3 : w1.cell? ⟨w.heap.size, 3, none⟩ = some (.int .i64 d) := HBk.cell 3
  have HW1 := Lib.hid hw1
  have HO1 := Lib.hid (And.intro hO1 hM1)
  clear hw1 hO1 HBk hM1 hM hmay
  go_enter_defers Try.func33, Try.ntmps33
  go_upto_region 1 with fail
  rw [← HW1.out]
  clear HW1
  go_wp2_with fail
  refine KN.out.mono ?_
  rintro e w2 ⟨rfl, hb2⟩
  have HO2 := Lib.hid (And.intro (HO1.out.1.then hb2) (HO1.out.2.below hb2))
  clear hb2 KN c0 c1 c2 c3 HO1
  go_wp2_with fail
  exact ⟨_, results_tmp2 rfl _ _ _, ⟨_, HO2.out.2, rfl⟩, HO2.out.1, none, 0, rfl, ⟨rfl, fun h => absurd h (Nat.lt_irrefl 0)⟩⟩
end

theorem up_con : UpCon where
  up := by
    intro w A n c m bs a b cc d size hn hS hA hl hM h6 h1 h0
    unfold lzRes lzCode
    by_cases h : maySet a b cc d = true
    · rw [if_pos h, if_pos h]
      have h66 := h6 h
      obtain ⟨a0, a1, b0, b1, e0, e1, d0, d1⟩ := may_iff.1 h
      obtain ⟨lc, rfl⟩ := Int.eq_ofNat_of_zero_le a0
      obtain ⟨lp, rfl⟩ := Int.eq_ofNat_of_zero_le b0
      obtain ⟨pb, rfl⟩ := Int.eq_ofNat_of_zero_le e0
      obtain ⟨dict, rfl⟩ := Int.eq_ofNat_of_zero_le (show 0 ≤ d by omega)
      exact up_ok hn hS hA hl hM ⟨by omega, by omega, by omega, by omega, by omega⟩ (by omega) h1 h0
    · rw [if_neg h, if_neg h]
      exact up_bad (by simpa using h) hM
end Go.Proofs.Ytjgdjobhhdhfjaa
