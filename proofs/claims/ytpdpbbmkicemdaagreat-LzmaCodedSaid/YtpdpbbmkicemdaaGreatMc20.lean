/-
  RdBegin, LzBegin, LzFits, LzCode, LzLeft: put together.
-/
import Derived.Test.YtpdpbbmkicemdaaGreatMc18
import Derived.Test.YtpdpbbmkicemdaaGreatMc01
import Derived.Test.YtpdpbbmkicemdaaGreatMc02
import Derived.Deep.AppendLies
import Derived.Test.YtpdpbbmkicemdaaGreatMc12
import Derived.Test.YtpdpbbmkicemdaaGreatMc19
import Derived.Deep.RegionLaw
import Derived.Test.YtpdpbbmkicemdaaGreatMc13
import Derived.Deep.CutBlock
import Derived.Deep.CutRange
import Derived.StillTailTactics
set_option linter.unusedVariables false
set_option linter.unusedSimpArgs false
/-
  The reference's decoder begins; its fresh probabilities (cut out of RdSaid, RdFresh).
-/
namespace Go.Proofs.YtpdpbbmkicemdaaGreat
open Go.RowKit

/-- What a byte that is asked for is, and leaves. -/
def Nexted (bs : List UInt8) (at_ : Nat) (bad : Bool) (x at' : Nat) (bad' : Bool) : Prop :=
  (bad' = false ∧ bad = false ∧ at' = at_ + 1 ∧ ∃ y : UInt8, x = y.toNat ∧ bs.drop at_ = y :: bs.drop at') ∨ (bad' = true ∧ x = 0 ∧ (bad = true ∨ bs.drop at_ = []) ∧ at' = at_)

def OnWayR (w : World) (g c : Nat) (A : Option Addr) (bs : List UInt8) (j : Nat) : Prop :=
  ∃ at_ k bad, Blk w g 68 (decCells A bs.length c at_ 4294967295 k bad) ∧ at_ ≤ bs.length ∧ k < 256 ^ j ∧ ((bad = true ∧ started bs = none) ∨ (bad = false ∧ at_ = j + 1 ∧ Begun bs j k))

set_option maxHeartbeats 2000000 in
theorem reffresh_any {n : Nat} (hn : n ≤ 100000000) (w : World) :
    Calls Tryz.prog 46 #[.int .i64 (n : Int)] w fun e w' =>
      ∃ A' c', e = .returned (.slice A' n c') ∧ w'.ownsRow w.heap.size 91 1 (.slice A' n c') n (pv (List.replicate n 1024)) ∧ Below w.heap.size w w' := by
  obtain ⟨i2, hi2, hy0, hy1, hy2⟩ := info_parts info_u16
  go_enter Tryz.func46, Tryz.ntmps46
  go_wp2_with fail
  go_loopw [3, 4] (fun p i wr => ∃ (j : Nat) (A2 : Option Addr) (c2 : Nat), j ≤ n ∧ i = .int .i64 (j : Int) ∧ p = .slice A2 j c2 ∧ wr.ownsRow w.heap.size 91 1 (.slice A2 j c2) j (pv (List.replicate j 1024)) ∧ Below w.heap.size w wr) (fun _ i _ => n - (intOf i).toNat)
  case atStart => exact ⟨0, none, 0, by omega, rfl, rfl, World.ownsRow_nil w _ _ 1, Below.refl _ _⟩
  case round =>
    obtain ⟨j, A2, c2, hj, rfl, rfl, ho, hb⟩ := hrel
    have HO := Lib.hid ho
    have HB := Lib.hid hb
    clear ho hb
    by_cases hlt : j < n
    · have hlt' : (j : Int) < (n : Int) := by omega
      go_wp2_with (at_builtin; refine wpList_app _ rfl (.tmp 10) (.tmp 11) 61 rfl w.heap.size 91 i2 _ 2 Tryz.underlying61 hi2 hy0 hy1 hy2 rfl _ j _ rfl (HO.out.alloc _) _ 1 1 _ rfl (sl_one _ _ _) (one_one _ _) (by omega) (by omega) (by have := HB.out.size; simp; omega) ?_)
      intro A3 c3 w3 ho hg
      have HB3 := Lib.hid ((HB.out.alloc HB.out.size _).grown hg (by have := HB.out.size; simp; omega) (fun b e => (HO.out.lt b e).1))
      have ho3 : w3.ownsRow w.heap.size 91 1 (.slice A3 (j + 1) c3) (j + 1) (pv (List.replicate (j + 1) 1024)) := by
        rw [List.replicate_succ']
        have e : pv (List.replicate j 1024 ++ [1024]) = pv (List.replicate j 1024) ++ [.int .u16 1024] := by simp [pv]
        rw [e]
        exact ho
      have HO3 := Lib.hid ho3
      clear ho hg ho3
      go_wp2
      go_roundw
      case rel => exact ⟨j + 1, A3, c3, by omega, by go_num, rfl, HO3.out, HB3.out⟩
      case measure => simp [intOf]; omega
    · obtain rfl : j = n := by omega
      go_wp2_with fail
      go_ret
      exact ⟨A2, c2, rfl, HO.out, HB.out⟩
end Go.Proofs.YtpdpbbmkicemdaaGreat

/-
  The reference of LZMA begins.
-/
namespace Go.Proofs.YtpdpbbmkicemdaaGreat
open Go.RowKit

/-- Block g is a new one, of neither kind yet. -/
def Zn (w : World) (g p pc : Nat) (z : Lzs) (L : Nat) : Prop :=
  Blk w g 64 (zCells z (.pointer none) (.pointer none) p L pc none 0 0) ∧ Row w p (List.replicate L 1024) pc ∧ p ≠ g
theorem own_zero {w : World} {base : Nat} {e : TypeId} {v : Value} {n : Nat} {xs : List Value} (h : w.ownsRow base e 1 v n xs) : w.ownsRow 0 e 1 v n xs := by
  refine ⟨h.1, ?_⟩
  rcases h.2 with hv | ⟨g, cap, cur, hv, hb, r⟩
  · exact .inl hv
  · exact .inr ⟨g, cap, cur, hv, Nat.zero_le _, r⟩
theorem zn_fresh {w w2 w3 : World} {lc lp pb dict L c' : Nat} {A' : Option Addr} (hL : 1 ≤ L) (hb : Below w.heap.size w w2) (h3 : Below w2.heap.size w2 w3)
    (ho : w3.ownsRow w2.heap.size 91 1 (.slice A' L c') L (pv (List.replicate L 1024))) {W : World}
    (hW : W = w3.alloc (.cells #[.int .i64 (lc : Int), .int .i64 (lp : Int), .int .i64 (pb : Int), .int .i64 (dict : Int), .pointer none, .pointer none, .slice A' L c', .slice none 0 0, .int .i64 0, .int .u32 0, .int .u32 0, .int .u32 0, .int .u32 0, .bool false, .bool false] 64)) :
    ∃ g p pc, Value.pointer (some ⟨w3.heap.size, 0, none⟩) = .pointer (some ⟨g, 0, none⟩) ∧ Zn W g p pc (Lzs.start lc lp pb dict) L ∧ w.heap.size ≤ g ∧ w.heap.size ≤ p ∧ Below w.heap.size w W := by
  obtain ⟨q, cap, hv, hq, hlt⟩ := ho.form (by omega)
  injection hv with h1 h2 h4
  subst h1 h4 hW
  have s1 := hb.size
  have s2 := h3.size
  refine ⟨_, q, c', rfl, ⟨Blk.fresh w3 _ _, ?_, by omega⟩, by omega, by omega, ?_⟩
  · unfold Row
    rw [List.length_replicate]
    exact own_only (own_zero ho) ((Only.refl (fun _ => False) w3).alloc _) (fun h => h)
  · exact (hb.trans ⟨h3.os, h3.tape, h3.output, h3.size, fun i hi => h3.block i (by omega)⟩).alloc (by omega) _

set_option maxHeartbeats 4000000 in
theorem znew_any {lc lp pb dict : Nat} (h : SetOk lc lp pb dict) (w : World) :
    Calls Tryz.prog 21 #[.agg #[.int .i64 (lc : Int), .int .i64 (lp : Int), .int .i64 (pb : Int), .int .i64 (dict : Int)]] w fun x w' =>
      ∃ g p pc, x = .returned (.pointer (some ⟨g, 0, none⟩)) ∧ Zn w' g p pc (Lzs.start lc lp pb dict) (probsN lc lp) ∧ w.heap.size ≤ g ∧ w.heap.size ≤ p ∧ Below w.heap.size w w' := by
  obtain ⟨hp, hp1, hp2⟩ := probsN_is h
  obtain ⟨w1, hw1⟩ : ∃ w1, w1 = w.alloc (.cells #[.int .i64 (lc : Int), .int .i64 (lp : Int), .int .i64 (pb : Int), .int .i64 (dict : Int)] 24) := ⟨_, rfl⟩
  have hb1 : Below w.heap.size w w1 := by rw [hw1]; exact (Below.refl _ _).alloc (Nat.le_refl _) _
  have HBk : Blk w1 w.heap.size 24 #[.int .i64 (lc : Int), .int .i64 (lp : Int), .int .i64 (pb : Int), .int .i64 (dict : Int)] := by rw [hw1]; exact Blk.fresh w _ _
  have K := Lib.hid (fun n => probs_any lc lp pb dict (w1.drewN n))
  rw [hp] at K
  have d0 : w1.cell? ⟨w.heap.size, 0, none⟩ = some (.int .i64 (lc : Int)) := HBk.cell 0
  have d1 : w1.cell? ⟨w.heap.size, 1, none⟩ = some (.int .i64 (lp : Int)) := HBk.cell 1
  have d2 : w1.cell? ⟨w.heap.size, 2, none⟩ = some (.int .i64 (pb : Int)) := HBk.cell 2
  have d3 : w1.cell? ⟨w.heap.size, 3, none⟩ = some (.int .i64 (dict : Int)) := HBk.cell 3
  have HW1 := Lib.hid hw1
  have HB1 := Lib.hid hb1
  have HBK := Lib.hid HBk
  have HL := Lib.hid (And.intro hp1 hp2)
  obtain ⟨L, hL⟩ : ∃ L, L = probsN lc lp := ⟨_, rfl⟩
  rw [← hL] at K HL ⊢
  have KF := Lib.hid (fun W => reffresh_any (n := L) (by have := HL.out; omega) W)
  clear hw1 hb1 HBk hp hp1 hp2 h hL
  go_enter Tryz.func21, Tryz.ntmps21
  go_upto_region 1 with fail
  rw [← HW1.out]
  clear HW1
  go_region_law (first
    | (go_simp; go_at_call 47; refine (K.out _).mono ?_; rintro e w2 ⟨rfl, hb2⟩; have hk2 := Blk.below (w := w1.drewN _) HBK.out hb2; have o0 := hk2.cell 0; have o1 := hk2.cell 1; have o2 := hk2.cell 2; have o3 := hk2.cell 3; have HB2 := Lib.hid hb2; have HK2 := Lib.hid hk2; clear hb2 hk2)
    | (go_simp; go_at_call 46; refine (KF.out _).mono ?_; rintro e w3 ⟨A', c', rfl, ho3, hb3⟩; have hk3 := HK2.out.below hb3; have r0 := hk3.cell 0; have r1 := hk3.cell 1; have r2 := hk3.cell 2; have r3 := hk3.cell 3; clear hk3; have HB3 := Lib.hid hb3; have HO3 := Lib.hid ho3; clear hb3 ho3))
  all_goals
    have HE := Lib.hid (fun W => zn_fresh (W := W) (lc := lc) (lp := lp) (pb := pb) (dict := dict) (by have := HL.out; omega) (HB1.out.trans ⟨HB2.out.os, HB2.out.tape, HB2.out.output, HB2.out.size, fun i hi => HB2.out.block i (Nat.lt_of_lt_of_le hi HB1.out.size)⟩) HB3.out HO3.out)
    clear K KF HB1 HB2 HB3 HO3 HBK HK2
    go_wp2_with fail
    go_ret
    obtain ⟨g, p, pc, h1, h2, h3, h4, h5⟩ := HE.out _ rfl
    exact ⟨g, p, pc, congrArg Ending.returned h1, h2, h3, h4, h5⟩
end Go.Proofs.YtpdpbbmkicemdaaGreat

/-
  The reference of LZMA: whether a packet may be coded.
-/
namespace Go.Proofs.YtpdpbbmkicemdaaGreat
open Go.RowKit

section
variable {σ : Type} {M : Mach σ} {ok : Nat → σ → Prop} {R : Nat → Prop} {K : World → Value → Value → (Nat → Prop) → σ → Prop} {w w' w0 : World} {g : Nat} {G G0 : Nat → Prop} {z : Lzs} {t : Pm σ}
theorem ZAt.quiet (Z : ZOps M ok R K) (h : ZAt R K w0 G0 w g z t) (hB : Only (fun _ => False) w w') : ZAt R K w0 G0 w' g z t := by
  obtain ⟨G, hz, hN, hO⟩ := h
  exact ⟨G, hz.only Z.mem hB (fun _ _ h => h) (fun _ _ h => h), hN, hO.trans (hB.mono (fun _ h => h.elim))⟩

set_option maxRecDepth 100000 in
set_option maxHeartbeats 8000000 in
theorem zfits_any (Z : ZOps M ok R K) {L N d : Nat} {kd len : Int} {by_ : UInt8} (h : ZAt R K w0 G0 w g z t) (hn : ZNear z L N) (hN : N ≤ 900000) (hd : d < 4294967296) :
    Calls Tryz.prog 27 #[.pointer (some ⟨g, 0, none⟩), .agg #[.int .i64 kd, .int .u8 (by_.toNat : Int), .int .i64 len, .int .u32 (d : Int)]] w fun x w' => x = .returned (.bool (fitsP z kd d len)) ∧ Only (fun _ => False) w w' := by
  obtain ⟨w1, hw1⟩ : ∃ w1, w1 = w.alloc (.cells #[.int .i64 kd, .int .u8 (by_.toNat : Int), .int .i64 len, .int .u32 (d : Int)] 41) := ⟨_, rfl⟩
  have hO : Only (fun _ => False) w w1 := by rw [hw1]; exact (Only.refl _ _).alloc _
  have HBk : Blk w1 w.heap.size 41 #[.int .i64 kd, .int .u8 (by_.toNat : Int), .int .i64 len, .int .u32 (d : Int)] := by rw [hw1]; exact Blk.fresh w _ _
  have h1 := h.quiet Z hO
  have o0 : w1.cell? ⟨w.heap.size, 0, none⟩ = some (.int .i64 kd) := HBk.cell 0
  have o2 : w1.cell? ⟨w.heap.size, 2, none⟩ = some (.int .i64 len) := HBk.cell 2
  have o3 : w1.cell? ⟨w.heap.size, 3, none⟩ = some (.int .u32 (d : Int)) := HBk.cell 3
  obtain ⟨_, _, _, _, _, c9, c10, c11, c12, c13, _⟩ := h1.cells
  have hlz : z.out.length ≤ 1000000000 := by have := hn.out; omega
  have KB := Lib.hid (fun (e n : Nat) (he : e < 4294967296) => (h1.drewN Z n).back (d := e) he hlz hn.dict)
  have HL := Lib.hid (And.intro hd (And.intro hn.r0 (And.intro hn.r1 (And.intro hn.r2 hn.r3))))
  obtain ⟨b1, hb1⟩ : ∃ b, b = lateP z.ended kd len := ⟨_, rfl⟩
  obtain ⟨res, hres⟩ : ∃ b, b = fitsP z kd d len := ⟨_, rfl⟩
  rw [← hres]
  unfold fitsP at hres
  rw [← hb1] at hres
  have HRES := Lib.hid hres
  have HB1 := Lib.hid hb1
  have HO := Lib.hid hO
  have HW1 := Lib.hid hw1
  generalize z.ended = en at *
  clear hw1 hO HBk h1 h hn hN hd hlz hres hb1
  go_enter Tryz.func27, Tryz.ntmps27
  go_upto_region 1 with fail
  rw [← HW1.out]
  clear HW1
  go_cut [39] from 11 (fun v wx => v = .bool b1 ∧ wx = w1)
  case first =>
    have hb := HB1.out
    unfold lateP at hb
    cases en with
    | true =>
      obtain rfl : b1 = true := hb
      go_wp2_with fail
      go_meet
      exact ⟨rfl, rfl⟩
    | false =>
      by_cases k0 : kd = 0
      · have q0 : (kd != 0) = false := by simp [k0]
        obtain rfl : b1 = false := by rw [hb]; simp; omega
        clear k0
        clear hb
        go_wp2_with fail
        go_meet
        exact ⟨rfl, rfl⟩
      · have q0 : (kd != 0) = true := by simp [k0]
        by_cases k6 : kd = 6
        · have q6 : (kd != 6) = false := by simp [k6]
          obtain rfl : b1 = false := by rw [hb]; simp; omega
          clear k6
          clear hb
          go_wp2_with fail
          go_meet
          exact ⟨rfl, rfl⟩
        · have q6 : (kd != 6) = true := by simp [k6]
          by_cases k7 : kd = 7
          · have q7 : (kd != 7) = false := by simp [k7]
            obtain rfl : b1 = false := by rw [hb]; simp; omega
            clear k7
            clear hb
            go_wp2_with fail
            go_meet
            exact ⟨rfl, rfl⟩
          · have q7 : (kd != 7) = true := by simp [k7]
            by_cases l1 : len < 2
            · skip
              obtain rfl : b1 = true := by rw [hb]; simp; omega
              clear hb
              go_wp2_with fail
              go_meet
              exact ⟨rfl, rfl⟩
            · by_cases l2 : 273 < len
              · have l3 : len > 273 := l2
                obtain rfl : b1 = true := by rw [hb]; simp; omega
                clear hb
                go_wp2_with fail
                go_meet
                exact ⟨rfl, rfl⟩
              · have l3 : ¬ len > 273 := l2
                obtain rfl : b1 = false := by rw [hb]; simp; omega
                clear hb
                go_wp2_with fail
                go_meet
                exact ⟨rfl, rfl⟩
  case rest =>
    obtain ⟨rfl, rfl⟩ := hcut
    clear HB1
    cases b1 with
    | true =>
      have hr : res = false := HRES.out
      subst hr
      clear KB HL HRES
      go_wp2_with fail
      go_ret
      exact ⟨rfl, HO.out⟩
    | false =>
      have hr : res = hasP z kd d := HRES.out
      clear HRES
      by_cases k0 : kd = 0
      · subst k0
        have hr2 : res = true := by rw [hr]; rfl
        subst hr2
        clear hr KB HL
        go_wp2_with fail
        go_ret
        exact ⟨rfl, HO.out⟩
      · have q0 : (kd == 0) = false := by simp [k0]
        by_cases k1 : kd = 1
        · subst k1
          have hr2 : res = z.has d := by rw [hr]; rfl
          clear hr
          have KB2 := Lib.hid (fun n => KB.out d n HL.out.1)
          rw [show z.has d = res from hr2.symm] at KB2
          clear KB HL hr2
          generalize z.back d = x at *
          go_wp2_with fail
          refine (KB2.out 0).mono ?_
          rintro e w3 ⟨rfl, k3, rfl⟩
          go_wp2_with fail
          go_ret
          exact ⟨rfl, HO.out.drewN _⟩
        · have q1 : (kd == 1) = false := by simp [k1]
          by_cases k2 : kd = 2
          · subst k2
            have hr2 : res = z.has z.r0 := by rw [hr]; rfl
            clear hr
            have KB2 := Lib.hid (fun n => KB.out z.r0 n HL.out.2.1)
            rw [show z.has z.r0 = res from hr2.symm] at KB2
            clear KB HL hr2
            generalize z.back z.r0 = x at *
            go_wp2_with fail
            go_quiet ((go_at_call 55; exact quiet_drew_at (KB2.out _)))
            go_wp2_with fail
            go_ret
            exact ⟨rfl, HO.out.drewN _⟩
          · have q2 : (kd == 2) = false := by simp [k2]
            by_cases k3 : kd = 3
            · subst k3
              have hr2 : res = z.has z.r1 := by rw [hr]; rfl
              clear hr
              have KB2 := Lib.hid (fun n => KB.out z.r1 n HL.out.2.2.1)
              rw [show z.has z.r1 = res from hr2.symm] at KB2
              clear KB HL hr2
              generalize z.back z.r1 = x at *
              go_wp2_with fail
              go_quiet ((go_at_call 55; exact quiet_drew_at (KB2.out _)))
              go_wp2_with fail
              go_ret
              exact ⟨rfl, HO.out.drewN _⟩
            · have q3 : (kd == 3) = false := by simp [k3]
              by_cases k4 : kd = 4
              · subst k4
                have hr2 : res = z.has z.r2 := by rw [hr]; rfl
                clear hr
                have KB2 := Lib.hid (fun n => KB.out z.r2 n HL.out.2.2.2.1)
                rw [show z.has z.r2 = res from hr2.symm] at KB2
                clear KB HL hr2
                generalize z.back z.r2 = x at *
                go_wp2_with fail
                go_quiet ((go_at_call 55; exact quiet_drew_at (KB2.out _)))
                go_wp2_with fail
                go_ret
                exact ⟨rfl, HO.out.drewN _⟩
              · have q4 : (kd == 4) = false := by simp [k4]
                by_cases k5 : kd = 5
                · subst k5
                  have hr2 : res = z.has z.r3 := by rw [hr]; rfl
                  clear hr
                  have KB2 := Lib.hid (fun n => KB.out z.r3 n HL.out.2.2.2.2)
                  rw [show z.has z.r3 = res from hr2.symm] at KB2
                  clear KB HL hr2
                  generalize z.back z.r3 = x at *
                  go_wp2_with fail
                  go_quiet ((go_at_call 55; exact quiet_drew_at (KB2.out _)))
                  go_wp2_with fail
                  go_ret
                  exact ⟨rfl, HO.out.drewN _⟩
                · have q5 : (kd == 5) = false := by simp [k5]
                  by_cases k6 : kd = 6
                  · subst k6
                    have hr2 : res = z.has z.r0 := by rw [hr]; rfl
                    clear hr
                    have KB2 := Lib.hid (fun n => KB.out z.r0 n HL.out.2.1)
                    rw [show z.has z.r0 = res from hr2.symm] at KB2
                    clear KB HL hr2
                    generalize z.back z.r0 = x at *
                    go_wp2_with fail
                    refine (KB2.out 0).mono ?_
                    rintro e w3 ⟨rfl, k3, rfl⟩
                    go_wp2_with fail
                    go_ret
                    exact ⟨rfl, HO.out.drewN _⟩
                  · have q6 : (kd == 6) = false := by simp [k6]
                    by_cases k7 : kd = 7
                    · subst k7
                      have hr2 : res = true := by rw [hr]; rfl
                      subst hr2
                      clear hr KB HL
                      go_wp2_with fail
                      go_ret
                      exact ⟨rfl, HO.out⟩
                    · have q7 : (kd == 7) = false := by simp [k7]
                      have hr2 : res = false := by rw [hr]; unfold hasP; simp [k0, k1, k2, k3, k4, k5, k6, k7]
                      subst hr2
                      clear hr KB HL
                      go_wp2_with fail
                      go_ret
                      exact ⟨rfl, HO.out⟩
end
end Go.Proofs.YtpdpbbmkicemdaaGreat



/-
  The reference of LZMA: whether all bytes are read, and the decoder is done.
-/
namespace Go.Proofs.YtpdpbbmkicemdaaGreat
open Go.RowKit

section
variable {w : World} {g : Nat} {G : Nat → Prop} {z : Lzs} {t : Pm Dc} {A : Option Addr} {bs : List UInt8}
/-- a packet is decoded, or coded, from wherever it stands -/
theorem ZAt.packet {σ : Type} {M : Mach σ} {ok : Nat → σ → Prop} {R : Nat → Prop} {K : World → Value → Value → (Nat → Prop) → σ → Prop} {w w0 : World} {G0 : Nat → Prop} {z : Lzs} {t : Pm σ}
    (Z : ZOps M ok R K) (X : MachMore M R K) {L k N : Nat} {p : Pk} (h : ZAt R K w0 G0 w g z t) (ht : PmOk ok L (k + 27) t) (hz : ZNear z L N) (hN : N ≤ 900000) (hp : PkFine p) (hm : PkMay M z p) (hl : PkLen M p) :
    Calls Tryz.prog 23 #[.pointer (some ⟨g, 0, none⟩), .agg #[.int .i64 p.kind, .int .u8 (p.byte.toNat : Int), .int .i64 p.len, .int .u32 (p.dist : Int)]] w
      (PackPost R K w0 G0 g (packP M z t p)) := by
  obtain ⟨G, hzz, hNn, hO⟩ := h
  refine (zpacket_go Z X rfl hzz ht hz hN hp hm hl).mono ?_
  rintro e w' ⟨rfl, h2⟩
  exact ⟨rfl, ZAt.over hNn hO ((Only.refl _ _).alloc _) h2⟩
end
end Go.Proofs.YtpdpbbmkicemdaaGreat
