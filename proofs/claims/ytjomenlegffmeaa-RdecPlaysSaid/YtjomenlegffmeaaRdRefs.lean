/-
  The reference tells numbers: straight, by trees; its fresh probabilities.
-/
import Derived.Test.YtjomenlegffmeaaRdBit
import Derived.Test.YtjomenlegffmeaaRdAwake
namespace Go.Proofs.Ytjomenlegffmeaa
open Go.RowKit

/-- Block g is the reference's decoder; its state is d. -/
def Rf (w : World) (g : Nat) (A : Option Addr) (c : Nat) (bs : List UInt8) (d : Dc) : Prop :=
  ∃ at_ r k bad, Blk w g 41 (decCells A bs.length c at_ r k bad) ∧ Tells bs d at_ r k bad
theorem Rf.lt {w : World} {g c : Nat} {A : Option Addr} {bs : List UInt8} {d : Dc} (h : Rf w g A c bs d) : g < w.heap.size := by
  obtain ⟨_, _, _, _, hB, _⟩ := h
  exact hB.lt
theorem Rf.only {S : Nat → Prop} {w w' : World} {g c : Nat} {A : Option Addr} {bs : List UInt8} {d : Dc} (h : Rf w g A c bs d) (hb : Only S w w') (hS : ¬ S g) : Rf w' g A c bs d := by
  obtain ⟨at_, r, k, bad, hB, ht⟩ := h
  exact ⟨at_, r, k, bad, hB.only hb hS, ht⟩

/-- What a tree leaves. -/
def RtPost (w : World) (g b pc c : Nat) (A : Option Addr) (bs : List UInt8) (ps : List Nat) (v : Nat) (d : Dc) (e : Ending) (w' : World) : Prop :=
  e = .returned (.int .i64 (v : Int)) ∧ Rf w' g A c bs d ∧ Row w' b ps pc ∧ Only (two g b) w w'
/-- What a number told straight leaves. -/
def RnPost (w : World) (g c : Nat) (A : Option Addr) (bs : List UInt8) (v : Nat) (d : Dc) (e : Ending) (w' : World) : Prop :=
  e = .returned (.int .u32 (v : Int)) ∧ Rf w' g A c bs d ∧ w.grownBy w' (some g)

/-- Bit, as a tree uses it. -/
theorem rfbit_any {w : World} {g c p : Nat} {A : Option Addr} {bs : List UInt8} {d : Dc} (h : Rf w g A c bs d) (hS : Sl w A bs.length (bv bs)) (hn : bs.length ≤ 1000000000) (hA : 0 < bs.length → ∀ q o, A = some ⟨q, o, none⟩ → q ≠ g) (hd : DcOk d) (hp : POk p) :
    Calls Try.prog 29 #[.pointer (some ⟨g, 0, none⟩), .int .u16 (p : Int)] w fun e w' => e = .returned (.tuple #[.int .i64 ((bitD d p).1 : Int), .int .u16 ((bitD d p).2.1 : Int)]) ∧ Rf w' g A c bs (bitD d p).2.2 ∧ w.grownBy w' (some g) := by
  obtain ⟨at_, r, k, bad, hB, ht⟩ := h
  refine (rbit_any hB ht hS hn hA hd hp).mono ?_
  rintro e w' ⟨rfl, at', r', k', bad', h1, h2, h3⟩
  exact ⟨rfl, ⟨at', r', k', bad', h1, h2⟩, h3⟩

section
variable {g b pc c : Nat} {A : Option Addr} {w : World} {bs : List UInt8} {ps : List Nat}

set_option maxHeartbeats 4000000 in
theorem rtree_any {d : Dc} {a n v : Nat} (hv : v = if (Tr.go a (Tr.begin ps d) n).d = none then 0 else (Tr.go a (Tr.begin ps d) n).m - 2 ^ n) (h : Rf w g A c bs d) (hS : Sl w A bs.length (bv bs)) (hnb : bs.length ≤ 1000000000) (hA : 0 < bs.length → ∀ q o, A = some ⟨q, o, none⟩ → q ≠ g ∧ q ≠ b) (hd : DcOk d) (hR : Row w b ps pc) (hps : PsOk ps) (hbg : b ≠ g) (hl : ps.length = 600) (ha : a < 340) (hn8 : n ≤ 8) :
    Calls Try.prog 30 #[.pointer (some ⟨g, 0, none⟩), .slice (some ⟨b, 0, none⟩) 600 pc, .int .i64 (a : Int), .int .i64 (n : Int), .bool false] w
      (RtPost w g b pc c A bs (Tr.go a (Tr.begin ps d) n).ps v (Tr.go a (Tr.begin ps d) n).d) := by
  have h256 := pow8 hn8
  have HP := Lib.hid h
  have HR := Lib.hid hR
  have HT := Lib.hid (tr_ok hd hps (show a + 2 ^ n ≤ ps.length by omega))
  have HA := Lib.hid hA
  have HS := Lib.hid hS
  have HV := Lib.hid hv
  clear h hd hR hps hv hA hS
  go_enter Try.func30, Try.ntmps30
  go_wp2_with fail
  go_loopw [11, 12, 13, 14, 15, 16] (fun m out wt i _ _ wr => ∃ (j x : Nat) (T : Tr), j ≤ n ∧ T = Tr.go a (Tr.begin ps d) j ∧ i = .int .i64 (j : Int) ∧ m = .int .i64 (T.m : Int) ∧ out = .int .i64 (x : Int) ∧ x + 2 ^ j = T.m ∧ wt = .int .i64 1 ∧ Rf wr g A c bs T.d ∧ Row wr b T.ps pc ∧ Only (two g b) w wr) (fun _ _ _ i _ _ _ => n - (intOf i).toNat)
  case atStart => exact ⟨0, 0, _, Nat.zero_le _, rfl, rfl, rfl, rfl, rfl, rfl, HP.out, HR.out, Only.refl _ _⟩
  case round =>
    clear HP HR
    obtain ⟨j, x, T, hj, hT, rfl, rfl, rfl, hx, rfl, hp, hr, ho⟩ := hrel
    obtain ⟨t1, t2, t3, t4, t5, t6, t7⟩ := HT.out j hj
    rw [← hT] at t1 t2 t3 t4 t5 t6 t7
    have hs := HS.out.only ho (fun h0 q o e h1 => by have := HA.out h0 q o e; rcases h1 with h1 | h1 <;> omega)
    have HO := Lib.hid ho
    have HT0 := Lib.hid hT
    clear ho hT
    by_cases hlt : j < n
    · have hpow : 2 ^ (j + 1) ≤ 2 ^ n := Nat.pow_le_pow_right (by omega) hlt
      obtain ⟨z, hz⟩ : ∃ z, z = a + T.m := ⟨_, rfl⟩
      have hz6 : z < 600 := by omega
      have hpz := getD_ok t2 (show z < T.ps.length by omega)
      have K := Lib.hid (rfbit_any hp hs hnb (fun h0 q o e => (HA.out h0 q o e).1) t1 hpz)
      have hcz := hr.cell (i := z) (by omega)
      have HST := Lib.hid (show T.step a = Tr.go a (Tr.begin ps d) (j + 1) by rw [HT0.out]; rfl)
      have hsm : (T.step a).m = 2 * T.m + (bitD T.d (T.ps.getD z 0)).1 := by rw [hz]; rfl
      have hso : (T.step a).o = T.o + (bitD T.d (T.ps.getD z 0)).1 * T.v := by rw [hz]; rfl
      have hsd : (T.step a).d = (bitD T.d (T.ps.getD z 0)).2.2 := by rw [hz]; rfl
      have hsp : (T.step a).ps = T.ps.set z (bitD T.d (T.ps.getD z 0)).2.1 := by rw [hz]; rfl
      have hu := (bitD_ok t1 hpz).1
      rw [← hsd] at K
      have HSP := Lib.hid hsp
      have HRr := Lib.hid hr
      generalize (bitD T.d (T.ps.getD z 0)).1 = u at *
      generalize (bitD T.d (T.ps.getD z 0)).2.1 = q at *
      generalize T.ps.getD z 0 = p at *
      have hlt' : (j : Int) < (n : Int) := by omega
      have hm5 : T.m < 512 := by omega
      have e0 : IntKind.i64.wrap ((a : Int) + (T.m : Int)) = (z : Int) := by rw [hz, Int.natCast_add]; exact IntWalk.i64_in _ (by omega)
      have hz0 : (0 : Int) ≤ (z : Int) := by omega
      have hz1 : (z : Int) < 600 := by omega
      have e2 : IntKind.i64.wrap (2 * (T.m : Int)) = 2 * (T.m : Int) := IntWalk.i64_in _ (by omega)
      have e4 : IntKind.i64.wrap (2 * (T.m : Int) + (u : Int)) = ((2 * T.m + u : Nat) : Int) := by rw [show 2 * (T.m : Int) + (u : Int) = ((2 * T.m + u : Nat) : Int) by omega]; exact IntWalk.i64_in _ (by omega)
      have hx5 : x < 512 := by omega
      have e5 : IntKind.i64.wrap (2 * (x : Int)) = 2 * (x : Int) := IntWalk.i64_in _ (by omega)
      have e6 : IntKind.i64.wrap (2 * (x : Int) + (u : Int)) = ((2 * x + u : Nat) : Int) := by rw [show 2 * (x : Int) + (u : Int) = ((2 * x + u : Nat) : Int) by omega]; exact IntWalk.i64_in _ (by omega)
      have HX := Lib.hid hx
      have HSM := Lib.hid hsm
      have HL3 := Lib.hid t3
      clear hp hr t1 t2 t3 t4 t5 t6 t7 hx hpow h256 hu hsm hso hsd hsp HT hs hpz hz
      generalize T.step a = T' at *
      generalize T.m = y at *
      go_wp2_with fail
      refine K.out.mono ?_
      rintro e w1 ⟨rfl, hp1, hg1⟩
      have hS1 := Only.of_grown (S := fun i => i = g) hg1 rfl
      have HR1 := Lib.hid (HRr.out.only hS1 hbg)
      have j1 : ∀ u, (w1.setCell ⟨b, z, none⟩ u).heap.size = w1.heap.size := fun u => by simp [World.setCell]
      have k1 : w1.cell? ⟨b, z, none⟩ = some (.int .u16 (p : Int)) := (World.cell?_of_block (hg1.block b HRr.out.lt (fun e => hbg (by injection e)))).trans hcz
      have k2 : w1.frozen? ⟨b, z, none⟩ = false := HR1.out.free z
      have HP1 := Lib.hid hp1
      have HO1 := Lib.hid (HO.out.trans (hS1.mono (fun i hi => .inl hi)))
      clear hp1 hg1 HO K hS1 j1 HRr hcz
      go_wp2_with fail
      go_roundw
      case rel =>
        have hR2 := HR1.out.put z q
        rw [← HSP.out] at hR2
        have hF2 := HP1.out.only ((Only.refl (fun i => i = b) w1).setCell (p := ⟨b, z, none⟩) (.inl rfl) (.int .u16 (q : Int))) (fun h => hbg h.symm)
        have hO2 := HO1.out.setCell (p := ⟨b, z, none⟩) (.inl (.inr rfl)) (.int .u16 (q : Int))
        refine ⟨j + 1, 2 * x + u, T', by omega, HST.out, by go_num, by rw [HSM.out]; go_num, rfl, ?_, rfl, hF2, hR2, hO2⟩
        have := HX.out
        have := HSM.out
        rw [Nat.pow_succ]
        omega
      case measure => simp [intOf]; omega
    · obtain rfl : j = n := by omega
      obtain ⟨at_, r, k, bad, hB, ht⟩ := hp
      have j4 : wr.cell? ⟨g, 4, none⟩ = some (.bool bad) := hB.cell 4
      have HB := Lib.hid hB
      have HR := Lib.hid hr
      have HTD := Lib.hid ht
      have hv : v = if bad = true then 0 else x := by
        rw [HV.out, ← HT0.out]
        rcases ht.2.2.2 with ⟨rfl, h⟩ | ⟨rfl, h⟩
        · rw [if_pos h, if_pos rfl]
        · rw [if_neg (by rw [h]; simp), if_neg (by simp)]
          omega
      clear hB ht hr hx t1 t2 t3 t4 t5 t6 t7 HT HV hs
      generalize T.m = y at *
      cases bad
      all_goals
        simp only [if_true, Bool.false_eq_true, if_false] at hv
        subst hv
        go_wp2_with fail
        go_ret
        rw [← HT0.out]
        exact ⟨rfl, ⟨at_, r, k, _, HB.out, HTD.out⟩, HR.out, HO.out⟩

set_option maxHeartbeats 4000000 in
theorem rtreeR_any {d : Dc} {a n v : Nat} (hv : v = if (Tr.go a (Tr.begin ps d) n).d = none then 0 else (Tr.go a (Tr.begin ps d) n).o) (h : Rf w g A c bs d) (hS : Sl w A bs.length (bv bs)) (hnb : bs.length ≤ 1000000000) (hA : 0 < bs.length → ∀ q o, A = some ⟨q, o, none⟩ → q ≠ g ∧ q ≠ b) (hd : DcOk d) (hR : Row w b ps pc) (hps : PsOk ps) (hbg : b ≠ g) (hl : ps.length = 600) (ha : a < 340) (hn8 : n ≤ 8) :
    Calls Try.prog 30 #[.pointer (some ⟨g, 0, none⟩), .slice (some ⟨b, 0, none⟩) 600 pc, .int .i64 (a : Int), .int .i64 (n : Int), .bool true] w
      (RtPost w g b pc c A bs (Tr.go a (Tr.begin ps d) n).ps v (Tr.go a (Tr.begin ps d) n).d) := by
  have h256 := pow8 hn8
  have HP := Lib.hid h
  have HR := Lib.hid hR
  have HT := Lib.hid (tr_ok hd hps (show a + 2 ^ n ≤ ps.length by omega))
  have HA := Lib.hid hA
  have HS := Lib.hid hS
  have HV := Lib.hid hv
  clear h hd hR hps hv hA hS
  go_enter Try.func30, Try.ntmps30
  go_wp2_with fail
  go_loopw [11, 12, 13, 14, 15, 16] (fun m out wt i _ _ wr => ∃ (j x : Nat) (T : Tr), j ≤ n ∧ T = Tr.go a (Tr.begin ps d) j ∧ i = .int .i64 (j : Int) ∧ m = .int .i64 (T.m : Int) ∧ out = .int .i64 (x : Int) ∧ x = T.o ∧ wt = .int .i64 ((2 ^ j : Nat) : Int) ∧ Rf wr g A c bs T.d ∧ Row wr b T.ps pc ∧ Only (two g b) w wr) (fun _ _ _ i _ _ _ => n - (intOf i).toNat)
  case atStart => exact ⟨0, 0, _, Nat.zero_le _, rfl, rfl, rfl, rfl, rfl, rfl, HP.out, HR.out, Only.refl _ _⟩
  case round =>
    clear HP HR
    obtain ⟨j, x, T, hj, hT, rfl, rfl, rfl, hx, rfl, hp, hr, ho⟩ := hrel
    obtain ⟨t1, t2, t3, t4, t5, t6, t7⟩ := HT.out j hj
    rw [← hT] at t1 t2 t3 t4 t5 t6 t7
    have hs := HS.out.only ho (fun h0 q o e h1 => by have := HA.out h0 q o e; rcases h1 with h1 | h1 <;> omega)
    have HO := Lib.hid ho
    have HT0 := Lib.hid hT
    clear ho hT
    by_cases hlt : j < n
    · have hpow : 2 ^ (j + 1) ≤ 2 ^ n := Nat.pow_le_pow_right (by omega) hlt
      obtain ⟨z, hz⟩ : ∃ z, z = a + T.m := ⟨_, rfl⟩
      have hz6 : z < 600 := by omega
      have hpz := getD_ok t2 (show z < T.ps.length by omega)
      have K := Lib.hid (rfbit_any hp hs hnb (fun h0 q o e => (HA.out h0 q o e).1) t1 hpz)
      have hcz := hr.cell (i := z) (by omega)
      have HST := Lib.hid (show T.step a = Tr.go a (Tr.begin ps d) (j + 1) by rw [HT0.out]; rfl)
      have hsm : (T.step a).m = 2 * T.m + (bitD T.d (T.ps.getD z 0)).1 := by rw [hz]; rfl
      have hso : (T.step a).o = T.o + (bitD T.d (T.ps.getD z 0)).1 * T.v := by rw [hz]; rfl
      have hsd : (T.step a).d = (bitD T.d (T.ps.getD z 0)).2.2 := by rw [hz]; rfl
      have hsp : (T.step a).ps = T.ps.set z (bitD T.d (T.ps.getD z 0)).2.1 := by rw [hz]; rfl
      have hu := (bitD_ok t1 hpz).1
      rw [← hsd] at K
      have HSP := Lib.hid hsp
      have HRr := Lib.hid hr
      generalize (bitD T.d (T.ps.getD z 0)).1 = u at *
      generalize (bitD T.d (T.ps.getD z 0)).2.1 = q at *
      generalize T.ps.getD z 0 = p at *
      have hlt' : (j : Int) < (n : Int) := by omega
      have hm5 : T.m < 512 := by omega
      have e0 : IntKind.i64.wrap ((a : Int) + (T.m : Int)) = (z : Int) := by rw [hz, Int.natCast_add]; exact IntWalk.i64_in _ (by omega)
      have hz0 : (0 : Int) ≤ (z : Int) := by omega
      have hz1 : (z : Int) < 600 := by omega
      have e2 : IntKind.i64.wrap (2 * (T.m : Int)) = 2 * (T.m : Int) := IntWalk.i64_in _ (by omega)
      have e4 : IntKind.i64.wrap (2 * (T.m : Int) + (u : Int)) = ((2 * T.m + u : Nat) : Int) := by rw [show 2 * (T.m : Int) + (u : Int) = ((2 * T.m + u : Nat) : Int) by omega]; exact IntWalk.i64_in _ (by omega)
      have hpj : 2 ^ j ≤ 256 := by omega
      have huv : u * 2 ^ j ≤ 1 * 2 ^ j := Nat.mul_le_mul_right _ hu
      have hx256 : x < 2 ^ j := by omega
      rw [t6, ← hx] at hso
      have HSO := Lib.hid hso
      have hps2 : 2 ^ (j + 1) = 2 ^ j * 2 := Nat.pow_succ 2 j
      have HPS2 := Lib.hid hps2
      have e5 : IntKind.i64.wrap ((u : Int) * ((2 ^ j : Nat) : Int)) = ((u * 2 ^ j : Nat) : Int) := by rw [← Int.natCast_mul]; exact IntWalk.i64_in _ (by omega)
      have e6 : IntKind.i64.wrap ((x : Int) + ((u * 2 ^ j : Nat) : Int)) = ((x + u * 2 ^ j : Nat) : Int) := by rw [← Int.natCast_add]; exact IntWalk.i64_in _ (by omega)
      have e7 : IntKind.i64.wrap (((2 ^ j : Nat) : Int) * 2) = ((2 ^ j * 2 : Nat) : Int) := by rw [show ((2 ^ j : Nat) : Int) * 2 = ((2 ^ j * 2 : Nat) : Int) by omega]; exact IntWalk.i64_in _ (by omega)
      have HX := Lib.hid hx
      have HSM := Lib.hid hsm
      have HL3 := Lib.hid t3
      clear hp hr t1 t2 t3 t4 t5 t6 t7 hx hpow h256 hu hsm hso hsd hsp HT hs hpz hz
      clear hps2 huv hx256
      generalize x + u * 2 ^ j = x' at *
      generalize u * 2 ^ j = uw at *
      generalize 2 ^ j = pw at *
      generalize T.step a = T' at *
      generalize T.m = y at *
      go_wp2_with fail
      refine K.out.mono ?_
      rintro e w1 ⟨rfl, hp1, hg1⟩
      have hS1 := Only.of_grown (S := fun i => i = g) hg1 rfl
      have HR1 := Lib.hid (HRr.out.only hS1 hbg)
      have j1 : ∀ u, (w1.setCell ⟨b, z, none⟩ u).heap.size = w1.heap.size := fun u => by simp [World.setCell]
      have k1 : w1.cell? ⟨b, z, none⟩ = some (.int .u16 (p : Int)) := (World.cell?_of_block (hg1.block b HRr.out.lt (fun e => hbg (by injection e)))).trans hcz
      have k2 : w1.frozen? ⟨b, z, none⟩ = false := HR1.out.free z
      have HP1 := Lib.hid hp1
      have HO1 := Lib.hid (HO.out.trans (hS1.mono (fun i hi => .inl hi)))
      clear hp1 hg1 HO K hS1 j1 HRr hcz
      go_wp2_with fail
      go_roundw
      case rel =>
        have hR2 := HR1.out.put z q
        rw [← HSP.out] at hR2
        have hF2 := HP1.out.only ((Only.refl (fun i => i = b) w1).setCell (p := ⟨b, z, none⟩) (.inl rfl) (.int .u16 (q : Int))) (fun h => hbg h.symm)
        have hO2 := HO1.out.setCell (p := ⟨b, z, none⟩) (.inl (.inr rfl)) (.int .u16 (q : Int))
        exact ⟨j + 1, x', T', by omega, HST.out, by go_num, by rw [HSM.out]; go_num, rfl, HSO.out.symm, by rw [HPS2.out]; go_num, hF2, hR2, hO2⟩
      case measure => simp [intOf]; omega
    · obtain rfl : j = n := by omega
      obtain ⟨at_, r, k, bad, hB, ht⟩ := hp
      have j4 : wr.cell? ⟨g, 4, none⟩ = some (.bool bad) := hB.cell 4
      have HB := Lib.hid hB
      have HR := Lib.hid hr
      have HTD := Lib.hid ht
      have hv : v = if bad = true then 0 else x := by
        rw [HV.out, ← HT0.out]
        rcases ht.2.2.2 with ⟨rfl, h⟩ | ⟨rfl, h⟩
        · rw [if_pos h, if_pos rfl]
        · rw [if_neg (by rw [h]; simp), if_neg (by simp)]
          exact hx.symm
      clear hB ht hr hx t1 t2 t3 t4 t5 t6 t7 HT HV hs
      generalize T.m = y at *
      cases bad
      all_goals
        simp only [if_true, Bool.false_eq_true, if_false] at hv
        subst hv
        go_wp2_with fail
        go_ret
        rw [← HT0.out]
        exact ⟨rfl, ⟨at_, r, k, _, HB.out, HTD.out⟩, HR.out, HO.out⟩

theorem straightGo_stays {d : Dc} : ∀ {j n : Nat}, j ≤ n → (straightGo d j).2 = none → (straightGo d n).2 = none := by
  intro j n hjn h
  induction n with
  | zero => rw [show j = 0 by omega] at h; exact h
  | succ n ih =>
    rcases Nat.lt_or_ge j (n + 1) with hlt | hge
    · show (oneD (straightGo d n).2).2 = none
      rw [ih (by omega)]
      rfl
    · rw [show j = n + 1 by omega] at h; exact h

set_option maxHeartbeats 8000000 in
theorem rstraight_any {d : Dc} {n : Nat} (h : Rf w g A c bs d) (hS : Sl w A bs.length (bv bs)) (hnb : bs.length ≤ 1000000000) (hA : 0 < bs.length → ∀ q o, A = some ⟨q, o, none⟩ → q ≠ g) (hd : DcOk d) (hn : n ≤ 32) :
    Calls Try.prog 31 #[.pointer (some ⟨g, 0, none⟩), .int .i64 (n : Int)] w (RnPost w g c A bs (straightD n d).1 (straightD n d).2) := by
  have HP := Lib.hid h
  have HA := Lib.hid hA
  have HS := Lib.hid hS
  have HD := Lib.hid hd
  clear h hA hS hd
  go_enter Try.func31, Try.ntmps31
  go_wp2_with fail
  go_loopw [5, 6] (fun out i wr => ∃ (j x : Nat), j ≤ n ∧ i = .int .i64 (j : Int) ∧ out = .int .u32 (x : Int) ∧ x < 2 ^ j ∧ ((straightGo d j).2 ≠ none → x = (straightGo d j).1) ∧ Rf wr g A c bs (straightGo d j).2 ∧ w.grownBy wr (some g)) (fun _ i _ => n - (intOf i).toNat)
  case atStart => exact ⟨0, 0, Nat.zero_le _, rfl, rfl, by decide, fun _ => rfl, HP.out, World.grownBy.refl w _⟩
  case round =>
    clear HP
    obtain ⟨j, x, hj, rfl, rfl, hx, hv, ⟨at_, r, k, bad, hB, ht⟩, hg⟩ := hrel
    have HV := Lib.hid hv
    have HG := Lib.hid hg
    have hs := HS.out.grown hg HA.out
    have j4 : wr.cell? ⟨g, 4, none⟩ = some (.bool bad) := hB.cell 4
    clear hv hg
    by_cases hgo : j < n ∧ bad = false
    · obtain ⟨hlt, rfl⟩ := hgo
      have hdd : (straightGo d j).2 = some (r, k, bs.drop at_) := by
        rcases ht.2.2.2 with ⟨h, _⟩ | ⟨_, h⟩
        · cases h
        · exact h
      obtain ⟨d0, d1, d2⟩ := (straightGo_ok HD.out j).1 _ _ _ hdd
      have hat := ht.1
      have HDD := Lib.hid hdd
      have hx31 : x < 2147483648 := Nat.lt_of_lt_of_le hx (Nat.pow_le_pow_right (n := 2) (by omega) (show j ≤ 31 by omega))
      have hx2 : 2 * x + 1 < 2 ^ (j + 1) := by rw [Nat.pow_succ]; omega
      have HX2 := Lib.hid hx2
      have e1 : IntKind.u32.wrap ((x : Int) * 2) = (x : Int) * 2 := u32_of _ (by omega) (by omega)
      have e3 : IntKind.u32.wrap ((x : Int) * 2 + 1) = ((2 * x + 1 : Nat) : Int) := by rw [show (x : Int) * 2 + 1 = ((2 * x + 1 : Nat) : Int) by omega]; exact u32_of _ (by omega) (by omega)
      have hlt' : (j : Int) < (n : Int) := by omega
      have j2 : wr.cell? ⟨g, 2, none⟩ = some (.int .u64 (r : Int)) := hB.cell 2
      have j3 : wr.cell? ⟨g, 3, none⟩ = some (.int .u64 (k : Int)) := hB.cell 3
      have f2 : wr.frozen? ⟨g, 2, none⟩ = false := hB.free 2
      have f3 : wr.frozen? ⟨g, 3, none⟩ = false := hB.free 3
      have f4 : wr.frozen? ⟨g, 4, none⟩ = false := hB.free 4
      have hr2 : (r : Int) / 2 = ((r / 2 : Nat) : Int) := by omega
      have hle : r / 2 ≤ r := Nat.div_le_self _ _
      have hge : 8388608 ≤ r / 2 := by omega
      have hone : oneD (some (r, k, bs.drop at_)) = if k < r / 2 then (0, lvl (r / 2) k (bs.drop at_)) else if k - r / 2 < r / 2 then (1, lvl (r / 2) (k - r / 2) (bs.drop at_)) else (0, none) := rfl
      have HONE := Lib.hid hone
      have hch : k - r / 2 ≤ r / 2 := by omega
      have HBr := Lib.hid hB
      have HSr := Lib.hid hs
      clear hx hx2 ht hdd hone hB hs
      generalize r / 2 = h at *
      by_cases hc : k < h
      · have hc' : ¬ (k : Int) ≥ (h : Int) := by omega
        have K := Lib.hid (fun q => level_any (((HBr.out.put 2 (.int .u64 (h : Int))).drewN q : Blk _ g 41 (decCells A bs.length c at_ h k false))) (HSr.out.grown (only_drewN (only_setCell (World.grownBy.refl wr _) (p := ⟨g, 2, none⟩) (.inl rfl) _) q) HA.out) hat hnb HA.out (by omega) (by omega) (fun _ => hc))
        have HG1 := Lib.hid (fun q => only_drewN (only_setCell (World.grownBy.refl wr (some g)) (p := ⟨g, 2, none⟩) (.inl rfl) (.int .u64 (h : Int))) q)
        go_wp2_with fail
        go_quiet (fail)
        go_wp2_with fail
        go_quiet (fail)
        go_wp2_with fail
        refine (K.out _).mono ?_
        rintro e w1 ⟨rfl, at', r', k', bad', hB1, ht1, hg1⟩
        have HB1 := Lib.hid hB1
        have HT1 := Lib.hid ht1
        have HG2 := Lib.hid (only_trans HG.out (only_trans (HG1.out _) hg1))
        clear hB1 ht1 hg1 K HG1
        go_wp2_with fail
        go_roundw
        case rel =>
          have hgo2 : straightGo d (j + 1) = (2 * (straightGo d j).1 + 0, lvl h k (bs.drop at_)) := by
            show (2 * (straightGo d j).1 + (oneD (straightGo d j).2).1, (oneD (straightGo d j).2).2) = _
            rw [HDD.out, HONE.out, if_pos hc]
          refine ⟨j + 1, 2 * x, by omega, by go_num, by go_num, by have := HX2.out; omega, fun _ => ?_, ⟨at', r', k', bad', HB1.out, ?_⟩, HG2.out⟩
          · rw [hgo2]
            have := HV.out (by rw [HDD.out]; simp)
            omega
          · rw [hgo2]
            have := HT1.out
            rwa [if_neg (by simp)] at this
        case measure => simp [intOf]; omega
      · have hc' : (k : Int) ≥ (h : Int) := by omega
        have e2 : IntKind.u64.wrap ((k : Int) - (h : Int)) = ((k - h : Nat) : Int) := by rw [show (k : Int) - (h : Int) = ((k - h : Nat) : Int) by omega]; exact u64_in _ (by omega)
        have hck : ∀ y, k - h = y → ((k : Int) - (h : Int)) = (y : Int) := fun y hy => by omega
        by_cases hc2 : k - h < h
        · have hc2' : ¬ ((k - h : Nat) : Int) ≥ (h : Int) := by omega
          have K := Lib.hid (fun q1 q2 => level_any (((((HBr.out.put 2 (.int .u64 (h : Int))).drewN q1).put 3 (.int .u64 ((k - h : Nat) : Int))).drewN q2 : Blk _ g 41 (decCells A bs.length c at_ h (k - h) false))) (HSr.out.grown (only_drewN (only_setCell (only_drewN (only_setCell (World.grownBy.refl wr _) (p := ⟨g, 2, none⟩) (.inl rfl) _) q1) (p := ⟨g, 3, none⟩) (.inl rfl) _) q2) HA.out) hat hnb HA.out (by omega) (by omega) (fun _ => hc2))
          have HG1 := Lib.hid (fun q1 q2 => only_drewN (only_setCell (only_drewN (only_setCell (World.grownBy.refl wr (some g)) (p := ⟨g, 2, none⟩) (.inl rfl) (.int .u64 (h : Int))) q1) (p := ⟨g, 3, none⟩) (.inl rfl) (.int .u64 ((k - h : Nat) : Int))) q2)
          have HC2 := Lib.hid hc2
          clear hc2 hck hch
          generalize k - h = kh at *
          go_wp2_with fail
          go_quiet (fail)
          go_wp2_with fail
          go_region
          all_goals go_wp2_with fail
          go_quiet (fail)
          go_wp2_with fail
          refine (K.out _ _).mono ?_
          rintro e w1 ⟨rfl, at', r', k', bad', hB1, ht1, hg1⟩
          have HB1 := Lib.hid hB1
          have HT1 := Lib.hid ht1
          have HG2 := Lib.hid (only_trans HG.out (only_trans (HG1.out _ _) hg1))
          clear hB1 ht1 hg1 K HG1
          go_wp2_with fail
          go_roundw
          case rel =>
            have hgo2 : straightGo d (j + 1) = (2 * (straightGo d j).1 + 1, lvl h kh (bs.drop at_)) := by
              show (2 * (straightGo d j).1 + (oneD (straightGo d j).2).1, (oneD (straightGo d j).2).2) = _
              rw [HDD.out, HONE.out, if_neg hc, if_pos HC2.out]
            refine ⟨j + 1, 2 * x + 1, by omega, by go_num, by go_num, by have := HX2.out; omega, fun _ => ?_, ⟨at', r', k', bad', HB1.out, ?_⟩, HG2.out⟩
            · rw [hgo2]
              have := HV.out (by rw [HDD.out]; simp)
              omega
            · rw [hgo2]
              have := HT1.out
              rwa [if_neg (by simp)] at this
          case measure => simp [intOf]; omega
        · have hc2' : ((k - h : Nat) : Int) ≥ (h : Int) := by omega
          have K := Lib.hid (fun q1 q2 => level_any ((((((HBr.out.put 2 (.int .u64 (h : Int))).drewN q1).put 3 (.int .u64 ((k - h : Nat) : Int))).drewN q2).put 4 (.bool true) : Blk _ g 41 (decCells A bs.length c at_ h (k - h) true))) (HSr.out.grown (only_setCell (only_drewN (only_setCell (only_drewN (only_setCell (World.grownBy.refl wr _) (p := ⟨g, 2, none⟩) (.inl rfl) _) q1) (p := ⟨g, 3, none⟩) (.inl rfl) _) q2) (p := ⟨g, 4, none⟩) (.inl rfl) _) HA.out) hat hnb HA.out (by omega) (by omega) (fun h => by cases h))
          have HG1 := Lib.hid (fun q1 q2 => only_setCell (only_drewN (only_setCell (only_drewN (only_setCell (World.grownBy.refl wr (some g)) (p := ⟨g, 2, none⟩) (.inl rfl) (.int .u64 (h : Int))) q1) (p := ⟨g, 3, none⟩) (.inl rfl) (.int .u64 ((k - h : Nat) : Int))) q2) (p := ⟨g, 4, none⟩) (.inl rfl) (.bool true))
          have HC2 := Lib.hid hc2
          clear hc2 hck hch
          generalize k - h = kh at *
          go_wp2_with fail
          go_quiet (fail)
          go_wp2_with fail
          go_region
          all_goals go_wp2_with fail
          go_quiet (fail)
          go_wp2_with fail
          refine (K.out _ _).mono ?_
          rintro e w1 ⟨rfl, at', r', k', bad', hB1, ht1, hg1⟩
          have HB1 := Lib.hid hB1
          have HT1 := Lib.hid ht1
          have HG2 := Lib.hid (only_trans HG.out (only_trans (HG1.out _ _) hg1))
          clear hB1 ht1 hg1 K HG1
          go_wp2_with fail
          go_roundw
          case rel =>
            have hgo2 : straightGo d (j + 1) = (2 * (straightGo d j).1 + 0, none) := by
              show (2 * (straightGo d j).1 + (oneD (straightGo d j).2).1, (oneD (straightGo d j).2).2) = _
              rw [HDD.out, HONE.out, if_neg hc, if_neg HC2.out]
            refine ⟨j + 1, 2 * x + 1, by omega, by go_num, by go_num, by have := HX2.out; omega, fun h => ?_, ⟨at', r', k', bad', HB1.out, ?_⟩, HG2.out⟩
            · rw [hgo2] at h
              exact absurd rfl h
            · rw [hgo2]
              have := HT1.out
              rwa [if_pos trivial] at this
          case measure => simp [intOf]; omega
    · have fin : bad = true ∨ (bad = false ∧ j = n) := by
        cases bad
        · right
          exact ⟨rfl, by rcases Nat.lt_or_ge j n with h | h; exact absurd ⟨h, rfl⟩ hgo; omega⟩
        · exact .inl rfl
      have HB := Lib.hid hB
      have HT := Lib.hid ht
      have HFIN := Lib.hid fin
      clear hgo hB ht fin hs
      rcases HFIN.out with rfl | ⟨rfl, rfl⟩
      · have hne : (straightGo d n).2 = none := by
          refine straightGo_stays hj ?_
          rcases HT.out.2.2.2 with ⟨_, h⟩ | ⟨h, _⟩
          · exact h
          · cases h
        have HNE := Lib.hid hne
        clear hne
        have hend : straightD n d = (0, none) := by
          unfold straightD
          rw [if_pos HNE.out, HNE.out]
        have hjd : (straightGo d j).2 = none := by
          rcases HT.out.2.2.2 with ⟨_, h⟩ | ⟨h, _⟩
          · exact h
          · cases h
        rw [hjd] at HT
        have HEND := Lib.hid hend
        clear hend hjd HFIN
        by_cases hlt : j < n
        · have hlt' : (j : Int) < (n : Int) := by omega
          go_wp2_with fail
          go_ret
          rw [HEND.out]
          exact ⟨rfl, ⟨at_, r, k, _, HB.out, HT.out⟩, HG.out⟩
        · have hlt' : ¬ (j : Int) < (n : Int) := by omega
          go_wp2_with fail
          go_ret
          rw [HEND.out]
          exact ⟨rfl, ⟨at_, r, k, _, HB.out, HT.out⟩, HG.out⟩
      · have hne : (straightGo d j).2 ≠ none := by
          rcases HT.out.2.2.2 with ⟨h, _⟩ | ⟨_, h⟩
          · cases h
          · rw [h]; simp
        have hend : straightD j d = (x, (straightGo d j).2) := by
          unfold straightD
          rw [if_neg hne, HV.out hne]
        have HEND := Lib.hid hend
        clear hend hne HFIN
        go_wp2_with fail
        go_ret
        rw [HEND.out]
        exact ⟨rfl, ⟨at_, r, k, _, HB.out, HT.out⟩, HG.out⟩

end
end Go.Proofs.Ytjomenlegffmeaa
