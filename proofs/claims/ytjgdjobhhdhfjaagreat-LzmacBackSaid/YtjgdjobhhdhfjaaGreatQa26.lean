/-
  RdBegin, LzBegin, LzFits, LzCode, LzLeft, LzCodeW, RpPack, CwListW, CwBackW: put together.
-/
import Derived.Test.YtjgdjobhhdhfjaaGreatQa24
import Derived.Test.YtjgdjobhhdhfjaaGreatQa01
import Derived.Test.YtjgdjobhhdhfjaaGreatQa02
import Derived.Deep.AppendLies
import Derived.Test.YtjgdjobhhdhfjaaGreatQa12
import Derived.Test.YtjgdjobhhdhfjaaGreatQa25
import Derived.Deep.RegionLaw
import Derived.Test.YtjgdjobhhdhfjaaGreatQa13
import Derived.Deep.CutBlock
import Derived.Deep.CutRange
import Derived.StillTailTactics
import Derived.Deep.RegionHeld3
import Derived.Test.YtjgdjobhhdhfjaaGreatQa19
import Derived.Test.YtjgdjobhhdhfjaaGreatQa14
import Derived.Test.YtjgdjobhhdhfjaaGreatQa21
set_option linter.unusedVariables false
set_option linter.unusedSimpArgs false
/-
  The reference's decoder begins; its fresh probabilities (cut out of RdSaid, RdFresh).
-/
namespace Go.Proofs.YtjgdjobhhdhfjaaGreat
open Go.RowKit

/-- What a byte that is asked for is, and leaves. -/
def Nexted (bs : List UInt8) (at_ : Nat) (bad : Bool) (x at' : Nat) (bad' : Bool) : Prop :=
  (bad' = false ∧ bad = false ∧ at' = at_ + 1 ∧ ∃ y : UInt8, x = y.toNat ∧ bs.drop at_ = y :: bs.drop at') ∨ (bad' = true ∧ x = 0 ∧ (bad = true ∨ bs.drop at_ = []) ∧ at' = at_)

def OnWayR (w : World) (g c : Nat) (A : Option Addr) (bs : List UInt8) (j : Nat) : Prop :=
  ∃ at_ k bad, Blk w g 79 (decCells A bs.length c at_ 4294967295 k bad) ∧ at_ ≤ bs.length ∧ k < 256 ^ j ∧ ((bad = true ∧ started bs = none) ∨ (bad = false ∧ at_ = j + 1 ∧ Begun bs j k))

set_option maxHeartbeats 2000000 in
theorem reffresh_any {n : Nat} (hn : n ≤ 100000000) (w : World) :
    Calls Tryz.prog 69 #[.int .i64 (n : Int)] w fun e w' =>
      ∃ A' c', e = .returned (.slice A' n c') ∧ w'.ownsRow w.heap.size 54 1 (.slice A' n c') n (pv (List.replicate n 1024)) ∧ Below w.heap.size w w' := by
  obtain ⟨i2, hi2, hy0, hy1, hy2⟩ := info_parts info_u16
  go_enter Tryz.func69, Tryz.ntmps69
  go_wp2_with fail
  go_loopw [3, 4] (fun p i wr => ∃ (j : Nat) (A2 : Option Addr) (c2 : Nat), j ≤ n ∧ i = .int .i64 (j : Int) ∧ p = .slice A2 j c2 ∧ wr.ownsRow w.heap.size 54 1 (.slice A2 j c2) j (pv (List.replicate j 1024)) ∧ Below w.heap.size w wr) (fun _ i _ => n - (intOf i).toNat)
  case atStart => exact ⟨0, none, 0, by omega, rfl, rfl, World.ownsRow_nil w _ _ 1, Below.refl _ _⟩
  case round =>
    obtain ⟨j, A2, c2, hj, rfl, rfl, ho, hb⟩ := hrel
    have HO := Lib.hid ho
    have HB := Lib.hid hb
    clear ho hb
    by_cases hlt : j < n
    · have hlt' : (j : Int) < (n : Int) := by omega
      go_wp2_with (at_builtin; refine wpList_app _ rfl (.tmp 10) (.tmp 11) 72 rfl w.heap.size 54 i2 _ 2 Tryz.underlying72 hi2 hy0 hy1 hy2 rfl _ j _ rfl (HO.out.alloc _) _ 1 1 _ rfl (sl_one _ _ _) (one_one _ _) (by omega) (by omega) (by have := HB.out.size; simp; omega) ?_)
      intro A3 c3 w3 ho hg
      have HB3 := Lib.hid ((HB.out.alloc HB.out.size _).grown hg (by have := HB.out.size; simp; omega) (fun b e => (HO.out.lt b e).1))
      have ho3 : w3.ownsRow w.heap.size 54 1 (.slice A3 (j + 1) c3) (j + 1) (pv (List.replicate (j + 1) 1024)) := by
        rw [List.replicate_succ']
        have e : pv (List.replicate j 1024 ++ [1024]) = pv (List.replicate j 1024) ++ [.int .u16 1024] := by simp [pv]
        rw [e]
        exact ho
      have HO3 := Lib.hid ho3
      clear ho hg ho3
      go_wp2
      go_roundw
      case rel => exact ⟨j + 1, A3, c3, by omega, by go_num, rfl, HO3.out, HB3.out⟩
      case measure => simp [intOf]; omega
    · obtain rfl : j = n := by omega
      go_wp2_with fail
      go_ret
      exact ⟨A2, c2, rfl, HO.out, HB.out⟩
end Go.Proofs.YtjgdjobhhdhfjaaGreat

/-
  The reference of LZMA begins.
-/
namespace Go.Proofs.YtjgdjobhhdhfjaaGreat
open Go.RowKit

/-- Block g is a new one, of neither kind yet. -/
def Zn (w : World) (g p pc : Nat) (z : Lzs) (L : Nat) : Prop :=
  Blk w g 75 (zCells z (.pointer none) (.pointer none) p L pc none 0 0) ∧ Row w p (List.replicate L 1024) pc ∧ p ≠ g
theorem own_zero {w : World} {base : Nat} {e : TypeId} {v : Value} {n : Nat} {xs : List Value} (h : w.ownsRow base e 1 v n xs) : w.ownsRow 0 e 1 v n xs := by
  refine ⟨h.1, ?_⟩
  rcases h.2 with hv | ⟨g, cap, cur, hv, hb, r⟩
  · exact .inl hv
  · exact .inr ⟨g, cap, cur, hv, Nat.zero_le _, r⟩
theorem zn_fresh {w w2 w3 : World} {lc lp pb dict L c' : Nat} {A' : Option Addr} (hL : 1 ≤ L) (hb : Below w.heap.size w w2) (h3 : Below w2.heap.size w2 w3)
    (ho : w3.ownsRow w2.heap.size 54 1 (.slice A' L c') L (pv (List.replicate L 1024))) {W : World}
    (hW : W = w3.alloc (.cells #[.int .i64 (lc : Int), .int .i64 (lp : Int), .int .i64 (pb : Int), .int .i64 (dict : Int), .pointer none, .pointer none, .slice A' L c', .slice none 0 0, .int .i64 0, .int .u32 0, .int .u32 0, .int .u32 0, .int .u32 0, .bool false, .bool false] 75)) :
    ∃ g p pc, Value.pointer (some ⟨w3.heap.size, 0, none⟩) = .pointer (some ⟨g, 0, none⟩) ∧ Zn W g p pc (Lzs.start lc lp pb dict) L ∧ w.heap.size ≤ g ∧ w.heap.size ≤ p ∧ Below w.heap.size w W := by
  obtain ⟨q, cap, hv, hq, hlt⟩ := ho.form (by omega)
  injection hv with h1 h2 h4
  subst h1 h4 hW
  have s1 := hb.size
  have s2 := h3.size
  refine ⟨_, q, c', rfl, ⟨Blk.fresh w3 _ _, ?_, by omega⟩, by omega, by omega, ?_⟩
  · unfold Row
    rw [List.length_replicate]
    exact own_only (own_zero ho) ((Only.refl (fun _ => False) w3).alloc _) (fun h => h)
  · exact (hb.trans ⟨h3.os, h3.tape, h3.output, h3.size, fun i hi => h3.block i (by omega)⟩).alloc (by omega) _

set_option maxHeartbeats 4000000 in
theorem znew_any {lc lp pb dict : Nat} (h : SetOk lc lp pb dict) (w : World) :
    Calls Tryz.prog 32 #[.agg #[.int .i64 (lc : Int), .int .i64 (lp : Int), .int .i64 (pb : Int), .int .i64 (dict : Int)]] w fun x w' =>
      ∃ g p pc, x = .returned (.pointer (some ⟨g, 0, none⟩)) ∧ Zn w' g p pc (Lzs.start lc lp pb dict) (probsN lc lp) ∧ w.heap.size ≤ g ∧ w.heap.size ≤ p ∧ Below w.heap.size w w' := by
  obtain ⟨hp, hp1, hp2⟩ := probsN_is h
  obtain ⟨w1, hw1⟩ : ∃ w1, w1 = w.alloc (.cells #[.int .i64 (lc : Int), .int .i64 (lp : Int), .int .i64 (pb : Int), .int .i64 (dict : Int)] 24) := ⟨_, rfl⟩
  have hb1 : Below w.heap.size w w1 := by rw [hw1]; exact (Below.refl _ _).alloc (Nat.le_refl _) _
  have HBk : Blk w1 w.heap.size 24 #[.int .i64 (lc : Int), .int .i64 (lp : Int), .int .i64 (pb : Int), .int .i64 (dict : Int)] := by rw [hw1]; exact Blk.fresh w _ _
  have K := Lib.hid (fun n => probs_any lc lp pb dict (w1.drewN n))
  rw [hp] at K
  have d0 : w1.cell? ⟨w.heap.size, 0, none⟩ = some (.int .i64 (lc : Int)) := HBk.cell 0
  have d1 : w1.cell? ⟨w.heap.size, 1, none⟩ = some (.int .i64 (lp : Int)) := HBk.cell 1
  have d2 : w1.cell? ⟨w.heap.size, 2, none⟩ = some (.int .i64 (pb : Int)) := HBk.cell 2
  have d3 : w1.cell? ⟨w.heap.size, 3, none⟩ = some (.int .i64 (dict : Int)) := HBk.cell 3
  have HW1 := Lib.hid hw1
  have HB1 := Lib.hid hb1
  have HBK := Lib.hid HBk
  have HL := Lib.hid (And.intro hp1 hp2)
  obtain ⟨L, hL⟩ : ∃ L, L = probsN lc lp := ⟨_, rfl⟩
  rw [← hL] at K HL ⊢
  have KF := Lib.hid (fun W => reffresh_any (n := L) (by have := HL.out; omega) W)
  clear hw1 hb1 HBk hp hp1 hp2 h hL
  go_enter Tryz.func32, Tryz.ntmps32
  go_upto_region 1 with fail
  rw [← HW1.out]
  clear HW1
  go_region_law (first
    | (go_simp; go_at_call 70; refine (K.out _).mono ?_; rintro e w2 ⟨rfl, hb2⟩; have hk2 := Blk.below (w := w1.drewN _) HBK.out hb2; have o0 := hk2.cell 0; have o1 := hk2.cell 1; have o2 := hk2.cell 2; have o3 := hk2.cell 3; have HB2 := Lib.hid hb2; have HK2 := Lib.hid hk2; clear hb2 hk2)
    | (go_simp; go_at_call 69; refine (KF.out _).mono ?_; rintro e w3 ⟨A', c', rfl, ho3, hb3⟩; have hk3 := HK2.out.below hb3; have r0 := hk3.cell 0; have r1 := hk3.cell 1; have r2 := hk3.cell 2; have r3 := hk3.cell 3; clear hk3; have HB3 := Lib.hid hb3; have HO3 := Lib.hid ho3; clear hb3 ho3))
  all_goals
    have HE := Lib.hid (fun W => zn_fresh (W := W) (lc := lc) (lp := lp) (pb := pb) (dict := dict) (by have := HL.out; omega) (HB1.out.trans ⟨HB2.out.os, HB2.out.tape, HB2.out.output, HB2.out.size, fun i hi => HB2.out.block i (Nat.lt_of_lt_of_le hi HB1.out.size)⟩) HB3.out HO3.out)
    clear K KF HB1 HB2 HB3 HO3 HBK HK2
    go_wp2_with fail
    go_ret
    obtain ⟨g, p, pc, h1, h2, h3, h4, h5⟩ := HE.out _ rfl
    exact ⟨g, p, pc, congrArg Ending.returned h1, h2, h3, h4, h5⟩
end Go.Proofs.YtjgdjobhhdhfjaaGreat

/-
  The reference of LZMA: whether a packet may be coded.
-/
namespace Go.Proofs.YtjgdjobhhdhfjaaGreat
open Go.RowKit

section
variable {σ : Type} {M : Mach σ} {ok : Nat → σ → Prop} {R : Nat → Prop} {K : World → Value → Value → (Nat → Prop) → σ → Prop} {w w' w0 : World} {g : Nat} {G G0 : Nat → Prop} {z : Lzs} {t : Pm σ}
theorem ZAt.quiet (Z : ZOps M ok R K) (h : ZAt R K w0 G0 w g z t) (hB : Only (fun _ => False) w w') : ZAt R K w0 G0 w' g z t := by
  obtain ⟨G, hz, hN, hO⟩ := h
  exact ⟨G, hz.only Z.mem hB (fun _ _ h => h) (fun _ _ h => h), hN, hO.trans (hB.mono (fun _ h => h.elim))⟩

set_option maxRecDepth 100000 in
set_option maxHeartbeats 8000000 in
theorem zfits_any (Z : ZOps M ok R K) {L N d : Nat} {kd len : Int} {by_ : UInt8} (h : ZAt R K w0 G0 w g z t) (hn : ZNear z L N) (hN : N ≤ 900000) (hd : d < 4294967296) :
    Calls Tryz.prog 38 #[.pointer (some ⟨g, 0, none⟩), .agg #[.int .i64 kd, .int .u8 (by_.toNat : Int), .int .i64 len, .int .u32 (d : Int)]] w fun x w' => x = .returned (.bool (fitsP z kd d len)) ∧ Only (fun _ => False) w w' := by
  obtain ⟨w1, hw1⟩ : ∃ w1, w1 = w.alloc (.cells #[.int .i64 kd, .int .u8 (by_.toNat : Int), .int .i64 len, .int .u32 (d : Int)] 41) := ⟨_, rfl⟩
  have hO : Only (fun _ => False) w w1 := by rw [hw1]; exact (Only.refl _ _).alloc _
  have HBk : Blk w1 w.heap.size 41 #[.int .i64 kd, .int .u8 (by_.toNat : Int), .int .i64 len, .int .u32 (d : Int)] := by rw [hw1]; exact Blk.fresh w _ _
  have h1 := h.quiet Z hO
  have o0 : w1.cell? ⟨w.heap.size, 0, none⟩ = some (.int .i64 kd) := HBk.cell 0
  have o2 : w1.cell? ⟨w.heap.size, 2, none⟩ = some (.int .i64 len) := HBk.cell 2
  have o3 : w1.cell? ⟨w.heap.size, 3, none⟩ = some (.int .u32 (d : Int)) := HBk.cell 3
  obtain ⟨_, _, _, _, _, c9, c10, c11, c12, c13, _⟩ := h1.cells
  have hlz : z.out.length ≤ 1000000000 := by have := hn.out; omega
  have KB := Lib.hid (fun (e n : Nat) (he : e < 4294967296) => (h1.drewN Z n).back (d := e) he hlz hn.dict)
  have HL := Lib.hid (And.intro hd (And.intro hn.r0 (And.intro hn.r1 (And.intro hn.r2 hn.r3))))
  obtain ⟨b1, hb1⟩ : ∃ b, b = lateP z.ended kd len := ⟨_, rfl⟩
  obtain ⟨res, hres⟩ : ∃ b, b = fitsP z kd d len := ⟨_, rfl⟩
  rw [← hres]
  unfold fitsP at hres
  rw [← hb1] at hres
  have HRES := Lib.hid hres
  have HB1 := Lib.hid hb1
  have HO := Lib.hid hO
  have HW1 := Lib.hid hw1
  generalize z.ended = en at *
  clear hw1 hO HBk h1 h hn hN hd hlz hres hb1
  go_enter Tryz.func38, Tryz.ntmps38
  go_upto_region 1 with fail
  rw [← HW1.out]
  clear HW1
  go_cut [39] from 11 (fun v wx => v = .bool b1 ∧ wx = w1)
  case first =>
    have hb := HB1.out
    unfold lateP at hb
    cases en with
    | true =>
      obtain rfl : b1 = true := hb
      go_wp2_with fail
      go_meet
      exact ⟨rfl, rfl⟩
    | false =>
      by_cases k0 : kd = 0
      · have q0 : (kd != 0) = false := by simp [k0]
        obtain rfl : b1 = false := by rw [hb]; simp; omega
        clear k0
        clear hb
        go_wp2_with fail
        go_meet
        exact ⟨rfl, rfl⟩
      · have q0 : (kd != 0) = true := by simp [k0]
        by_cases k6 : kd = 6
        · have q6 : (kd != 6) = false := by simp [k6]
          obtain rfl : b1 = false := by rw [hb]; simp; omega
          clear k6
          clear hb
          go_wp2_with fail
          go_meet
          exact ⟨rfl, rfl⟩
        · have q6 : (kd != 6) = true := by simp [k6]
          by_cases k7 : kd = 7
          · have q7 : (kd != 7) = false := by simp [k7]
            obtain rfl : b1 = false := by rw [hb]; simp; omega
            clear k7
            clear hb
            go_wp2_with fail
            go_meet
            exact ⟨rfl, rfl⟩
          · have q7 : (kd != 7) = true := by simp [k7]
            by_cases l1 : len < 2
            · skip
              obtain rfl : b1 = true := by rw [hb]; simp; omega
              clear hb
              go_wp2_with fail
              go_meet
              exact ⟨rfl, rfl⟩
            · by_cases l2 : 273 < len
              · have l3 : len > 273 := l2
                obtain rfl : b1 = true := by rw [hb]; simp; omega
                clear hb
                go_wp2_with fail
                go_meet
                exact ⟨rfl, rfl⟩
              · have l3 : ¬ len > 273 := l2
                obtain rfl : b1 = false := by rw [hb]; simp; omega
                clear hb
                go_wp2_with fail
                go_meet
                exact ⟨rfl, rfl⟩
  case rest =>
    obtain ⟨rfl, rfl⟩ := hcut
    clear HB1
    cases b1 with
    | true =>
      have hr : res = false := HRES.out
      subst hr
      clear KB HL HRES
      go_wp2_with fail
      go_ret
      exact ⟨rfl, HO.out⟩
    | false =>
      have hr : res = hasP z kd d := HRES.out
      clear HRES
      by_cases k0 : kd = 0
      · subst k0
        have hr2 : res = true := by rw [hr]; rfl
        subst hr2
        clear hr KB HL
        go_wp2_with fail
        go_ret
        exact ⟨rfl, HO.out⟩
      · have q0 : (kd == 0) = false := by simp [k0]
        by_cases k1 : kd = 1
        · subst k1
          have hr2 : res = z.has d := by rw [hr]; rfl
          clear hr
          have KB2 := Lib.hid (fun n => KB.out d n HL.out.1)
          rw [show z.has d = res from hr2.symm] at KB2
          clear KB HL hr2
          generalize z.back d = x at *
          go_wp2_with fail
          refine (KB2.out 0).mono ?_
          rintro e w3 ⟨rfl, k3, rfl⟩
          go_wp2_with fail
          go_ret
          exact ⟨rfl, HO.out.drewN _⟩
        · have q1 : (kd == 1) = false := by simp [k1]
          by_cases k2 : kd = 2
          · subst k2
            have hr2 : res = z.has z.r0 := by rw [hr]; rfl
            clear hr
            have KB2 := Lib.hid (fun n => KB.out z.r0 n HL.out.2.1)
            rw [show z.has z.r0 = res from hr2.symm] at KB2
            clear KB HL hr2
            generalize z.back z.r0 = x at *
            go_wp2_with fail
            go_quiet ((go_at_call 78; exact quiet_drew_at (KB2.out _)))
            go_wp2_with fail
            go_ret
            exact ⟨rfl, HO.out.drewN _⟩
          · have q2 : (kd == 2) = false := by simp [k2]
            by_cases k3 : kd = 3
            · subst k3
              have hr2 : res = z.has z.r1 := by rw [hr]; rfl
              clear hr
              have KB2 := Lib.hid (fun n => KB.out z.r1 n HL.out.2.2.1)
              rw [show z.has z.r1 = res from hr2.symm] at KB2
              clear KB HL hr2
              generalize z.back z.r1 = x at *
              go_wp2_with fail
              go_quiet ((go_at_call 78; exact quiet_drew_at (KB2.out _)))
              go_wp2_with fail
              go_ret
              exact ⟨rfl, HO.out.drewN _⟩
            · have q3 : (kd == 3) = false := by simp [k3]
              by_cases k4 : kd = 4
              · subst k4
                have hr2 : res = z.has z.r2 := by rw [hr]; rfl
                clear hr
                have KB2 := Lib.hid (fun n => KB.out z.r2 n HL.out.2.2.2.1)
                rw [show z.has z.r2 = res from hr2.symm] at KB2
                clear KB HL hr2
                generalize z.back z.r2 = x at *
                go_wp2_with fail
                go_quiet ((go_at_call 78; exact quiet_drew_at (KB2.out _)))
                go_wp2_with fail
                go_ret
                exact ⟨rfl, HO.out.drewN _⟩
              · have q4 : (kd == 4) = false := by simp [k4]
                by_cases k5 : kd = 5
                · subst k5
                  have hr2 : res = z.has z.r3 := by rw [hr]; rfl
                  clear hr
                  have KB2 := Lib.hid (fun n => KB.out z.r3 n HL.out.2.2.2.2)
                  rw [show z.has z.r3 = res from hr2.symm] at KB2
                  clear KB HL hr2
                  generalize z.back z.r3 = x at *
                  go_wp2_with fail
                  go_quiet ((go_at_call 78; exact quiet_drew_at (KB2.out _)))
                  go_wp2_with fail
                  go_ret
                  exact ⟨rfl, HO.out.drewN _⟩
                · have q5 : (kd == 5) = false := by simp [k5]
                  by_cases k6 : kd = 6
                  · subst k6
                    have hr2 : res = z.has z.r0 := by rw [hr]; rfl
                    clear hr
                    have KB2 := Lib.hid (fun n => KB.out z.r0 n HL.out.2.1)
                    rw [show z.has z.r0 = res from hr2.symm] at KB2
                    clear KB HL hr2
                    generalize z.back z.r0 = x at *
                    go_wp2_with fail
                    refine (KB2.out 0).mono ?_
                    rintro e w3 ⟨rfl, k3, rfl⟩
                    go_wp2_with fail
                    go_ret
                    exact ⟨rfl, HO.out.drewN _⟩
                  · have q6 : (kd == 6) = false := by simp [k6]
                    by_cases k7 : kd = 7
                    · subst k7
                      have hr2 : res = true := by rw [hr]; rfl
                      subst hr2
                      clear hr KB HL
                      go_wp2_with fail
                      go_ret
                      exact ⟨rfl, HO.out⟩
                    · have q7 : (kd == 7) = false := by simp [k7]
                      have hr2 : res = false := by rw [hr]; unfold hasP; simp [k0, k1, k2, k3, k4, k5, k6, k7]
                      subst hr2
                      clear hr KB HL
                      go_wp2_with fail
                      go_ret
                      exact ⟨rfl, HO.out⟩
end
end Go.Proofs.YtjgdjobhhdhfjaaGreat



/-
  The reference of LZMA: whether all bytes are read, and the decoder is done.
-/
namespace Go.Proofs.YtjgdjobhhdhfjaaGreat
open Go.RowKit

section
variable {w : World} {g : Nat} {G : Nat → Prop} {z : Lzs} {t : Pm Dc} {A : Option Addr} {bs : List UInt8}
/-- a packet is decoded, or coded, from wherever it stands -/
theorem ZAt.packet {σ : Type} {M : Mach σ} {ok : Nat → σ → Prop} {R : Nat → Prop} {K : World → Value → Value → (Nat → Prop) → σ → Prop} {w w0 : World} {G0 : Nat → Prop} {z : Lzs} {t : Pm σ}
    (Z : ZOps M ok R K) (X : MachMore M R K) {L k N : Nat} {p : Pk} (h : ZAt R K w0 G0 w g z t) (ht : PmOk ok L (k + 27) t) (hz : ZNear z L N) (hN : N ≤ 900000) (hp : PkFine p) (hm : PkMay M z p) (hl : PkLen M p) :
    Calls Tryz.prog 34 #[.pointer (some ⟨g, 0, none⟩), .agg #[.int .i64 p.kind, .int .u8 (p.byte.toNat : Int), .int .i64 p.len, .int .u32 (p.dist : Int)]] w
      (PackPost R K w0 G0 g (packP M z t p)) := by
  obtain ⟨G, hzz, hNn, hO⟩ := h
  refine (zpacket_go Z X rfl hzz ht hz hN hp hm hl).mono ?_
  rintro e w' ⟨rfl, h2⟩
  exact ⟨rfl, ZAt.over hNn hO ((Only.refl _ _).alloc _) h2⟩
end
end Go.Proofs.YtjgdjobhhdhfjaaGreat

/-
  The reference of LZMA: packets are coded: the walk.
-/
namespace Go.Proofs.YtjgdjobhhdhfjaaGreat
open Go.RowKit

/-- a coder is put in -/
theorem zn_enc {w2 w3 : World} {g p pc eb q : Nat} {z : Lzs} {L : Nat} {e : En} (hz : Zn w2 g p pc z L) (ho : z.out = []) (hb3 : Below w2.heap.size w2 w3) (hR : Rn w3 eb q e) (heb : w2.heap.size ≤ eb ∧ w2.heap.size ≤ q) :
    Zz (fun _ => False) Ke (w3.setCell ⟨g, 5, none⟩ (.pointer (some ⟨eb, 0, none⟩))) g (fun i => i = g ∨ i = p ∨ i = eb ∨ i = q) z ⟨List.replicate L 1024, e⟩ := by
  obtain ⟨hB, hr, hpg⟩ := hz
  have hg2 := hB.lt
  have hp2 : p < w2.heap.size := hr.lt
  have hset : ∀ (S : Nat → Prop), S g → Only S w3 (w3.setCell ⟨g, 5, none⟩ (.pointer (some ⟨eb, 0, none⟩))) := fun S hS => (Only.refl S w3).setCell (p := ⟨g, 5, none⟩) (.inl hS) _
  have h3 : Only (fun _ => False) w2 w3 := Only.of_below hb3
  have hs3 := hb3.size
  have hdl := hR.lt
  refine ⟨fun i => i = eb ∨ i = q, .pointer none, .pointer (some ⟨eb, 0, none⟩), p, pc, none, 0, ?_, ?_, ?_, ⟨eb, q, rfl, rfl, fun i => Iff.rfl, hR.only (hset (fun i => i = g) rfl) (by show ¬ eb = g; omega) (by show ¬ q = g; omega)⟩, .inl rfl, .inr (.inl rfl), fun i hi => .inr (.inr hi), ?_, hpg, by show ¬ (g = eb ∨ g = q); omega, by show ¬ (p = eb ∨ p = q); omega, ?_, ?_⟩
  · have h4 := (hB.only h3 (fun h => h)).put 5 (.pointer (some ⟨eb, 0, none⟩))
    rw [List.length_replicate, ho]
    exact h4
  · exact (hr.only h3 (fun h => h)).only (hset (fun i => i = g) rfl) hpg
  · rw [ho]
    exact ⟨rfl, .inl ⟨rfl, rfl⟩⟩
  · intro i hi
    rw [ho] at hi
    cases hi
  · rintro i (rfl | rfl | rfl | rfl)
    · simp [World.setCell]; omega
    · simp [World.setCell]; omega
    · simpa [World.setCell] using hdl.1
    · simpa [World.setCell] using hdl.2
  · intro i _ h
    exact h

/-- what coding answers: the stream, and what its packets tell -/
def CodePost (w : World) (s : Lzs × Pm En) (x : Ending) (w' : World) : Prop :=
  Below w.heap.size w w' ∧ ∃ (bs : List UInt8) (A1 : Option Addr) (c1 : Nat) (A2 : Option Addr) (c2 : Nat), x = .returned (.tuple #[.slice A1 bs.length c1, .slice A2 s.1.out.length c2]) ∧ Sl w' A1 bs.length (bv bs) ∧ be bs = s.2.x.n ∧ bs.length = s.2.x.l ∧ bs.length ≤ c1 ∧ Sl w' A2 s.1.out.length (bv s.1.out)

section
variable {w w0 : World} {g : Nat} {G0 : Nat → Prop} {z : Lzs} {t : Pm En}
/-- the coder's bytes -/
theorem ZAt.code (h : ZAt (fun _ => False) Ke w0 G0 w g z t) : ∃ eb A c bs, w.cell? ⟨g, 5, none⟩ = some (.pointer (some ⟨eb, 0, none⟩)) ∧ w.cell? ⟨eb, 0, none⟩ = some (.slice A bs.length c) ∧ Sl w A bs.length (bv bs) ∧ be bs = t.x.n ∧ bs.length = t.x.l ∧ bs.length ≤ c := by
  obtain ⟨G, ⟨Gm, Dv, Ev, p, pc, A7, c7, h⟩, _⟩ := h
  obtain ⟨eb, q, rfl, rfl, hG, ⟨c, bs, hB, hY, h1, h2, hqg⟩⟩ := h.mch
  have hf := own_facts hY.own
  exact ⟨eb, _, c, bs, h.blk.cell 5, hB.cell 0, hf.1, h1, h2, hf.2.1⟩
end

end Go.Proofs.YtjgdjobhhdhfjaaGreat

/-
  The reference's Pack: a coder that begins, its stream; the loop over a list.
-/
namespace Go.Proofs.YtjgdjobhhdhfjaaGreat
open Go.RowKit

set_option maxRecDepth 100000 in
set_option maxHeartbeats 4000000 in
theorem rstart_any {lc lp pb dict : Nat} (h : SetOk lc lp pb dict) (w : World) :
    Calls Tryz.prog 39 #[.agg #[.int .i64 (lc : Int), .int .i64 (lp : Int), .int .i64 (pb : Int), .int .i64 (dict : Int)]] w fun x w' =>
      ∃ (g : Nat) (G : Nat → Prop), x = .returned (.pointer (some ⟨g, 0, none⟩)) ∧ Zz (fun _ => False) Ke w' g G (freshS lc lp pb dict).1 (freshS lc lp pb dict).2 ∧ (∀ i, G i → w.heap.size ≤ i) ∧ Below w.heap.size w w' := by
  obtain ⟨w1, hw1⟩ : ∃ w1, w1 = w.alloc (.cells #[.int .i64 (lc : Int), .int .i64 (lp : Int), .int .i64 (pb : Int), .int .i64 (dict : Int)] 24) := ⟨_, rfl⟩
  have hb1 : Below w.heap.size w w1 := by rw [hw1]; exact (Below.refl _ _).alloc (Nat.le_refl _) _
  have HBk : Blk w1 w.heap.size 24 #[.int .i64 (lc : Int), .int .i64 (lp : Int), .int .i64 (pb : Int), .int .i64 (dict : Int)] := by rw [hw1]; exact Blk.fresh w _ _
  have KN := Lib.hid (znew_any h w1)
  have d0 : w1.cell? ⟨w.heap.size, 0, none⟩ = some (.int .i64 (lc : Int)) := HBk.cell 0
  have d1 : w1.cell? ⟨w.heap.size, 1, none⟩ = some (.int .i64 (lp : Int)) := HBk.cell 1
  have d2 : w1.cell? ⟨w.heap.size, 2, none⟩ = some (.int .i64 (pb : Int)) := HBk.cell 2
  have d3 : w1.cell? ⟨w.heap.size, 3, none⟩ = some (.int .i64 (dict : Int)) := HBk.cell 3
  have HW1 := Lib.hid hw1
  have HB1 := Lib.hid hb1
  unfold freshS
  obtain ⟨L, hL⟩ : ∃ L, L = probsN lc lp := ⟨_, rfl⟩
  obtain ⟨z0, hz0⟩ : ∃ z0, z0 = Lzs.start lc lp pb dict := ⟨_, rfl⟩
  have hout : z0.out = [] := by rw [hz0]; rfl
  rw [← hL, ← hz0] at KN ⊢
  have HOUT := Lib.hid hout
  clear hw1 hb1 HBk h hL hz0 hout
  go_enter Tryz.func39, Tryz.ntmps39
  go_upto_region 1 with fail
  rw [← HW1.out]
  clear HW1
  go_wp2_with fail
  refine KN.out.mono ?_
  rintro e w2 ⟨g, p, pc, rfl, hz2, hg2, hp2, hb2⟩
  have HB2 := Lib.hid (HB1.out.trans ⟨hb2.os, hb2.tape, hb2.output, hb2.size, fun i hi => hb2.block i (Nat.lt_of_lt_of_le hi HB1.out.size)⟩)
  have HZ2 := Lib.hid hz2
  have HGP := Lib.hid (show w.heap.size ≤ g ∧ w.heap.size ≤ p from ⟨by have := HB1.out.size; omega, by have := HB1.out.size; omega⟩)
  have KE := Lib.hid (rnew5_any w2)
  clear hz2 hg2 hp2 hb2 KN d0 d1 d2 d3 HB1
  go_wp2_with fail
  refine KE.out.mono ?_
  rintro e w3 ⟨rfl, hR, hb3⟩
  have hzz := zn_enc HZ2.out HOUT.out hb3 hR ⟨by omega, Nat.le_refl _⟩
  have hb3' : Below w.heap.size w w3 := HB2.out.trans ⟨hb3.os, hb3.tape, hb3.output, hb3.size, fun i hi => hb3.block i (Nat.lt_of_lt_of_le hi HB2.out.size)⟩
  have hb4 : Below w.heap.size w (w3.setCell ⟨g, 5, none⟩ (.pointer (some ⟨w2.heap.size + 1, 0, none⟩))) := hb3'.trans ((Only.refl (fun i => i = g) w3).setCell (p := ⟨g, 5, none⟩) (.inl rfl) _ |>.below hb3'.size (by rintro i rfl; exact HGP.out.1))
  have hk3 : Blk w3 g 75 (zCells z0 (.pointer none) (.pointer none) p L pc none 0 0) := HZ2.out.1.below hb3
  have q5 : w3.cell? ⟨g, 5, none⟩ = some (.pointer none) := hk3.cell 5
  have f5 := hk3.free 5
  have hGl : ∀ i, (i = g ∨ i = p ∨ i = w2.heap.size + 1 ∨ i = w2.heap.size) → w.heap.size ≤ i := by
    have := HB2.out.size
    rintro i (rfl | rfl | rfl | rfl)
    · exact HGP.out.1
    · exact HGP.out.2
    · omega
    · omega
  have HGL := Lib.hid hGl
  have HZZ := Lib.hid hzz
  have HB4 := Lib.hid hb4
  clear hR hb3 hb3' hzz hk3 hb4 hGl KE HB2 HZ2 HGP HOUT
  go_wp2_with fail
  go_ret
  exact ⟨g, _, rfl, HZZ.out, HGL.out, HB4.out⟩

set_option maxRecDepth 100000 in
set_option maxHeartbeats 4000000 in
theorem rfinish_any {w : World} {g : Nat} {G : Nat → Prop} {z : Lzs} {t : Pm En} {A2 : Option Addr} {c2 : Nat} (h : Zz (fun _ => False) Ke w g G z t) (h7 : w.cell? ⟨g, 7, none⟩ = some (.slice A2 z.out.length c2)) :
    Calls Tryz.prog 40 #[.pointer (some ⟨g, 0, none⟩)] w fun x w' =>
      ∃ (bs : List UInt8) (A1 : Option Addr) (c1 : Nat), x = .returned (.slice A1 bs.length c1) ∧ (Sl w' A1 bs.length (bv bs) ∧ be bs = t.x.n ∧ bs.length = t.x.l ∧ Sl w' A2 z.out.length (bv z.out)) ∧
        w'.cell? ⟨g, 7, none⟩ = some (.slice A2 z.out.length c2) ∧ Only G w w' := by
  obtain ⟨Gm, Dv, Ev, p, pc, A, c, hz⟩ := h
  obtain ⟨eb, q, rfl, rfl, hG, ⟨ce, bs, hB, hY, h1, h2, hqe⟩⟩ := hz.mch
  have heg : eb ≠ g := fun e => hz.mg ((hG g).2 (.inl e.symm))
  have hqg : q ≠ g := fun e => hz.mg ((hG g).2 (.inr e.symm))
  have hf := own_facts hY.own
  have c5 : w.cell? ⟨g, 5, none⟩ = some (.pointer (some ⟨eb, 0, none⟩)) := hz.blk.cell 5
  have ce0 : w.cell? ⟨eb, 0, none⟩ = some (.slice (some ⟨q, 0, none⟩) bs.length ce) := hB.cell 0
  have f5 := hz.blk.free 5
  have f13 := hz.blk.free 13
  have c13 : w.cell? ⟨g, 13, none⟩ = some (.bool z.ended) := hz.blk.cell 13
  have c7 : w.cell? ⟨g, 7, none⟩ = some (.slice A z.out.length c) := hz.blk.cell 7
  obtain ⟨rfl, rfl⟩ : A = A2 ∧ c = c2 := by simpa using c7.symm.trans h7
  have KE := Lib.hid (rnew5_any w)
  have HZ := Lib.hid hz
  have hgl := hz.blk.lt
  have hend : ∀ (w3 : World) (u v : Value), Below w.heap.size w w3 → Sl ((w3.setCell ⟨g, 5, none⟩ u).setCell ⟨g, 13, none⟩ v) (some ⟨q, 0, none⟩) bs.length (bv bs) ∧ ((w3.setCell ⟨g, 5, none⟩ u).setCell ⟨g, 13, none⟩ v).cell? ⟨g, 7, none⟩ = some (.slice A z.out.length c) ∧ Sl ((w3.setCell ⟨g, 5, none⟩ u).setCell ⟨g, 13, none⟩ v) A z.out.length (bv z.out) ∧ Only G w ((w3.setCell ⟨g, 5, none⟩ u).setCell ⟨g, 13, none⟩ v) := by
    intro w3 u v hb
    have ho : Only (fun _ => False) w w3 := Only.of_below hb
    have hg : Only (fun i => i = g) w ((w3.setCell ⟨g, 5, none⟩ u).setCell ⟨g, 13, none⟩ v) := ((show Only (fun i => i = g) w w3 from ho.mono (fun _ h => h.elim)).setCell (p := ⟨g, 5, none⟩) (.inl rfl) u).setCell (p := ⟨g, 13, none⟩) (.inl rfl) v
    refine ⟨?_, ?_, ?_, hg.mono (fun i hi => hi ▸ hz.gg)⟩
    · exact Sl.of_own (own_only' hY.own hg (fun i hi e => hqg (by injection hi with hi; exact hi.trans e)))
    · exact (((hz.blk.only ho (fun h => h)).put 5 u).put 13 v).cell 7
    · exact Sl.of_own (own_only' hz.out hg (fun i hi e => (hz.go i hi).2.1 e))
  have HEND := Lib.hid hend
  have HE := Lib.hid (And.intro h1 h2)
  clear hend hB hY h1 h2 hqe hG hf HZ hz c7 h7
  go_enter Tryz.func40, Tryz.ntmps40
  go_wp2_with fail
  refine KE.out.mono ?_
  rintro e w3 ⟨rfl, _, hb3⟩
  have f5' : w3.frozen? ⟨g, 5, none⟩ = false := (hb3.frozen hgl).trans f5
  have f13' : w3.frozen? ⟨g, 13, none⟩ = false := (hb3.frozen hgl).trans f13
  have c5' : w3.cell? ⟨g, 5, none⟩ = some (.pointer (some ⟨eb, 0, none⟩)) := (hb3.cell hgl).trans c5
  have c13' : w3.cell? ⟨g, 13, none⟩ = some (.bool z.ended) := (hb3.cell hgl).trans c13
  have HX := Lib.hid (HEND.out w3 (.pointer (some ⟨w.heap.size + 1, 0, none⟩)) (.bool false) hb3)
  clear hb3 KE HEND c5 c13 f5 f13 ce0
  go_wp2_with fail
  go_ret
  exact ⟨bs, _, ce, rfl, ⟨HX.out.1, HE.out.1, HE.out.2, HX.out.2.2.1⟩, HX.out.2.1, HX.out.2.2.2⟩

/-- what packing answers, by the reference -/
def RPacked (w : World) (s : Lzs × Pm En) (x : Ending) (w' : World) : Prop :=
  Below w.heap.size w w' ∧ ∃ (bs : List UInt8) (A1 : Option Addr) (c1 : Nat) (A2 : Option Addr) (c2 : Nat), x = .returned (.tuple #[.slice A1 bs.length c1, .slice A2 s.1.out.length c2, .int .i64 0]) ∧ Sl w' A1 bs.length (bv bs) ∧ be bs = s.2.x.n ∧ bs.length = s.2.x.l ∧ Sl w' A2 s.1.out.length (bv s.1.out)

set_option maxRecDepth 100000 in
set_option maxHeartbeats 4000000 in
theorem rpackb_any {a b c d : Int} {A : Option Addr} {n m : Nat} (h : maySet a b c d = false) (w : World) :
    Calls Tryz.prog 20 #[.agg #[.int .i64 a, .int .i64 b, .int .i64 c, .int .i64 d], .slice A n m] w fun e w' => e = .returned (.tuple #[.slice none 0 0, .slice none 0 0, .int .i64 11]) ∧ Below w.heap.size w w' := by
  obtain ⟨w1, hw1⟩ : ∃ w1, w1 = w.alloc (.cells #[.int .i64 a, .int .i64 b, .int .i64 c, .int .i64 d] 24) := ⟨_, rfl⟩
  have HBk : Blk w1 w.heap.size 24 #[.int .i64 a, .int .i64 b, .int .i64 c, .int .i64 d] := by rw [hw1]; exact Blk.fresh w _ _
  have HO1 := Lib.hid (show Below w.heap.size w w1 by rw [hw1]; exact (Below.refl _ _).alloc (Nat.le_refl _) _)
  have KM := may_any a b c d w1
  rw [h] at KM
  have KM := Lib.hid KM
  have HW1 := Lib.hid hw1
  have o0 : w1.cell? ⟨w.heap.size, 0, none⟩ = some (.int .i64 a) := HBk.cell 0
  have o1 : w1.cell? ⟨w.heap.size, 1, none⟩ = some (.int .i64 b) := HBk.cell 1
  have o2 : w1.cell? ⟨w.heap.size, 2, none⟩ = some (.int .i64 c) := HBk.cell 2
  have o3 : w1.cell? ⟨w.heap.size, 3, none⟩ = some (.int .i64 d) := HBk.cell 3
  clear hw1 HBk h
  go_enter Tryz.func20, Tryz.ntmps20
  go_upto_region 1 with fail
  rw [← HW1.out]
  clear HW1
  go_wp2_with fail
  refine KM.out.mono ?_
  rintro e w2 ⟨rfl, hb2⟩
  have HO2 := Lib.hid (HO1.out.trans ⟨hb2.os, hb2.tape, hb2.output, hb2.size, fun i hi => hb2.block i (Nat.lt_of_lt_of_le hi HO1.out.size)⟩)
  clear hb2 KM o0 o1 o2 o3
  go_wp2_with fail
  go_ret3
  exact ⟨rfl, HO2.out⟩

set_option maxRecDepth 100000 in
set_option maxHeartbeats 16000000 in
theorem rpack_any {w : World} {lc lp pb dict n c : Nat} {A : Option Addr} {qs : Nat → Pq} (h : SetOk lc lp pb dict) (hP : Pkts w A n qs) (hq : ∀ i, i < n → PqLit (qs i)) (hn : n ≤ 1000) :
    Calls Tryz.prog 20 #[.agg #[.int .i64 (lc : Int), .int .i64 (lp : Int), .int .i64 (pb : Int), .int .i64 (dict : Int)], .slice A n c] w (RPacked w (runG qs (freshS lc lp pb dict) n)) := by
  obtain ⟨w1, hw1⟩ : ∃ w1, w1 = w.alloc (.cells #[.int .i64 (lc : Int), .int .i64 (lp : Int), .int .i64 (pb : Int), .int .i64 (dict : Int)] 24) := ⟨_, rfl⟩
  have hb1 : Below w.heap.size w w1 := by rw [hw1]; exact (Below.refl _ _).alloc (Nat.le_refl _) _
  have HBk : Blk w1 w.heap.size 24 #[.int .i64 (lc : Int), .int .i64 (lp : Int), .int .i64 (pb : Int), .int .i64 (dict : Int)] := by rw [hw1]; exact Blk.fresh w _ _
  have KM := may_any (lc : Int) (lp : Int) (pb : Int) (dict : Int) w1
  rw [setOk_may h] at KM
  have KM := Lib.hid KM
  have KN := Lib.hid (fun w => rstart_any h w)
  have HOK := Lib.hid (fun j (hj : j ≤ n) => run_ok h hq (by omega) j hj)
  have HSUC := Lib.hid (fun j => run_succ (qs := qs) (freshS lc lp pb dict) j)
  have HP := Lib.hid hP
  have HQ := Lib.hid hq
  have HN := Lib.hid hn
  have HW1 := Lib.hid hw1
  have HB1 := Lib.hid hb1
  have HBK := Lib.hid HBk
  obtain ⟨s0, hs0⟩ : ∃ s0, s0 = freshS lc lp pb dict := ⟨_, rfl⟩
  rw [← hs0] at HOK HSUC KN ⊢
  obtain ⟨L, hL⟩ : ∃ L, L = probsN lc lp := ⟨_, rfl⟩
  rw [← hL] at HOK
  have o0 : w1.cell? ⟨w.heap.size, 0, none⟩ = some (.int .i64 (lc : Int)) := HBk.cell 0
  have o1 : w1.cell? ⟨w.heap.size, 1, none⟩ = some (.int .i64 (lp : Int)) := HBk.cell 1
  have o2 : w1.cell? ⟨w.heap.size, 2, none⟩ = some (.int .i64 (pb : Int)) := HBk.cell 2
  have o3 : w1.cell? ⟨w.heap.size, 3, none⟩ = some (.int .i64 (dict : Int)) := HBk.cell 3
  clear hw1 hb1 HBk h hP hq hn hs0 hL
  go_enter Tryz.func20, Tryz.ntmps20
  go_upto_region 1 with fail
  rw [← HW1.out]
  clear HW1
  go_wp2_with fail
  refine KM.out.mono ?_
  rintro e w2 ⟨rfl, hb2⟩
  have hk2 : Blk w2 w.heap.size 24 #[.int .i64 (lc : Int), .int .i64 (lp : Int), .int .i64 (pb : Int), .int .i64 (dict : Int)] := HBK.out.below hb2
  have HB2 := Lib.hid (HB1.out.trans ⟨hb2.os, hb2.tape, hb2.output, hb2.size, fun i hi => hb2.block i (Nat.lt_of_lt_of_le hi HB1.out.size)⟩)
  have o0 : w2.cell? ⟨w.heap.size, 0, none⟩ = some (.int .i64 (lc : Int)) := hk2.cell 0
  have o1 : w2.cell? ⟨w.heap.size, 1, none⟩ = some (.int .i64 (lp : Int)) := hk2.cell 1
  have o2 : w2.cell? ⟨w.heap.size, 2, none⟩ = some (.int .i64 (pb : Int)) := hk2.cell 2
  have o3 : w2.cell? ⟨w.heap.size, 3, none⟩ = some (.int .i64 (dict : Int)) := hk2.cell 3
  clear hb2 hk2 KM HBK HB1
  go_wp2_with fail
  refine (KN.out _).mono ?_
  rintro e w3 ⟨g, G, rfl, hz3, hG3, hb3⟩
  have hB3 : Below w.heap.size w w3 := HB2.out.trans ⟨hb3.os, hb3.tape, hb3.output, hb3.size, fun i hi => hb3.block i (Nat.lt_of_lt_of_le hi HB2.out.size)⟩
  have HST := Lib.hid (show ZAt (fun _ => False) Ke w3 G w3 g (runG qs s0 0).1 (runG qs s0 0).2 from ZAt.begin hz3)
  have HEND := Lib.hid (fun (wr : World) (z : Lzs) (t : Pm En) (hx : ZAt (fun _ => False) Ke w3 G wr g z t) => show Below w.heap.size w wr by
    obtain ⟨G', _, _, hO⟩ := hx
    exact hB3.trans (hO.below hB3.size (fun i hi => Nat.le_trans HB2.out.size (hG3 i hi))))
  have HG3 := Lib.hid (fun i (hi : G i) => Nat.le_trans HB2.out.size (hG3 i hi))
  have HSZ3 := Lib.hid hB3.size
  have HEO := Lib.hid enc_ops
  have HEM := Lib.hid enc_more
  clear hz3 hG3 hb3 hB3 KN o0 o1 o2 o3 HB2
  go_wp2_with fail
  go_loopw [8] (fun i wr => ∃ j : Nat, j ≤ n ∧ i = .int .i64 (j : Int) ∧ ZAt (fun _ => False) Ke w3 G wr g (runG qs s0 j).1 (runG qs s0 j).2) (fun i _ => n - (intOf i).toNat)
  case atStart => exact ⟨0, Nat.zero_le _, rfl, HST.out⟩
  case round =>
    clear HST
    obtain ⟨j, hj, rfl, hz⟩ := hrel
    by_cases hlt : j < n
    · have glt : (j : Int) < (n : Int) := by omega
      have j0 : (0 : Int) ≤ (j : Int) := by omega
      have ej : IntKind.i64.wrap ((j : Int) + 1) = (j : Int) + 1 := IntWalk.i64_in _ (by have := HN.out; omega)
      obtain ⟨hnr, hpm⟩ := HOK.out j (by omega)
      have hpm : PmOk okE L ((27 * (n - (j + 1))) + 27) (runG qs s0 j).2 := hpm.mono encM_ok (by omega)
      have hsuc := HSUC.out j
      have hbr := HEND.out _ _ _ hz
      obtain ⟨b, o, rfl, hbw, hcl⟩ := (HP.out.below' hbr) (by omega)
      obtain ⟨l0, l1, l2, l3⟩ := hcl j hlt
      have hql := HQ.out j hlt
      generalize qs j = q at *
      have ea : (((UInt8.ofNat q.a.toNat).toNat : Nat) : Int) = q.a := by
        have := hql.a
        have e : (UInt8.ofNat q.a.toNat).toNat = q.a.toNat := by simp; omega
        rw [e]
        omega
      have ev : ((q.v.toNat : Nat) : Int) = q.v := by have := hql.v; omega
      have hNj : 273 * j ≤ 900000 := by have := HN.out; omega
      have KF := zfits_any HEO.out hz hnr hNj (kd := q.k) (len := q.n) (d := q.v.toNat) (by_ := UInt8.ofNat q.a.toNat) (by have := hql.v; omega)
      rw [ea, ev] at KF
      have hfp : fitsP (runG qs s0 j).1 q.k q.v.toNat q.n = true → ∀ wc, Only (fun _ => False) wr wc → Calls Tryz.prog 34 #[.pointer (some ⟨g, 0, none⟩), .agg #[.int .i64 q.k, .int .u8 q.a, .int .i64 q.n, .int .u32 q.v]] wc (PackPost (fun _ => False) Ke w3 G g (packP encM (runG qs s0 j).1 (runG qs s0 j).2 q.pk)) := by
        intro hf wc hO
        obtain ⟨f1, f2, f3⟩ := fits_pk hql hf
        have := (hz.quiet HEO.out hO).packet HEO.out HEM.out (p := q.pk) hpm hnr hNj f1 f2 f3
        rw [show (((q.pk).byte.toNat : Nat) : Int) = q.a from ea, show (((q.pk).dist : Nat) : Int) = q.v from ev] at this
        exact this
      have hstep : runG qs s0 (j + 1) = if fitsP (runG qs s0 j).1 q.k q.v.toNat q.n = true then (packP encM (runG qs s0 j).1 (runG qs s0 j).2 q.pk).2 else runG qs s0 j := hsuc
      obtain ⟨ff, hff⟩ : ∃ ff, ff = fitsP (runG qs s0 j).1 q.k q.v.toNat q.n := ⟨_, rfl⟩
      rw [← hff] at KF hfp hstep
      have KF := Lib.hid KF
      have HFP := Lib.hid hfp
      have HSTEP := Lib.hid hstep
      have HZ := Lib.hid hz
      have HBR := Lib.hid hbr
      have HBW := Lib.hid (show b < wr.heap.size from Nat.lt_of_lt_of_le hbw hbr.size)
      clear hnr hpm hsuc hbr hbw hcl hql ea ev hNj hfp hff hstep hz hj hlt
      cases ff with
      | false =>
        go_wp2_with fail
        refine KF.out.mono ?_
        rintro e w6 ⟨rfl, hO6⟩
        have HZ6 := Lib.hid (HZ.out.quiet HEO.out hO6)
        clear hO6 KF HFP
        go_wp2_with fail
        go_roundw
        case rel => exact ⟨j + 1, by omega, by go_num, by rw [HSTEP.out]; exact HZ6.out⟩
        case measure => simp [intOf]; omega
      | true =>
        go_wp2_with fail
        refine KF.out.mono ?_
        rintro e w6 ⟨rfl, hO6⟩
        have n0 := (hO6.cell (p := ⟨b, o + j * 4, none⟩) HBW.out (fun h => h)).trans l0
        have n1 := (hO6.cell (p := ⟨b, o + j * 4 + 1, none⟩) HBW.out (fun h => h)).trans l1
        have n2 := (hO6.cell (p := ⟨b, o + j * 4 + 2, none⟩) HBW.out (fun h => h)).trans l2
        have n3 := (hO6.cell (p := ⟨b, o + j * 4 + 3, none⟩) HBW.out (fun h => h)).trans l3
        have KP := Lib.hid (HFP.out (by first | trivial | rfl) w6 hO6)
        clear hO6 KF HFP l0 l1 l2 l3
        go_wp2_with fail
        refine KP.out.mono ?_
        rintro e w7 ⟨rfl, hz7⟩
        have HZ7 := Lib.hid hz7
        clear hz7 KP n0 n1 n2 n3
        go_wp2_with fail
        go_roundw
        case rel => exact ⟨j + 1, by omega, by go_num, by rw [HSTEP.out]; exact HZ7.out⟩
        case measure => simp [intOf]; omega
    · obtain rfl : j = n := by omega
      have hbr := HEND.out _ _ _ hz
      obtain ⟨G', hzz, hN', hO'⟩ := hz
      obtain ⟨A7, c7, m7, _⟩ := hzz.told
      have KF := Lib.hid (fun k => rfinish_any (A2 := A7) (c2 := c7) (hzz.only ke_mem ((Only.refl (fun _ => False) wr).drewN k) (fun _ _ h => h) (fun _ _ h => h)) m7)
      have HB := Lib.hid hbr
      have HGB := Lib.hid (fun i (hi : G' i) => show w.heap.size ≤ i by rcases hN' i hi with e | e; exact HG3.out i e; have := HSZ3.out; omega)
      clear hbr hzz hN' hO' hj
      go_wp2_with fail
      go_region_held3 (fun W => W.cell? ⟨g, 7, none⟩ = some (.slice A7 (runG qs s0 j).1.out.length c7)) (first | assumption | go_keep | exact m7 | exact f7)
        (first | (go_at_call 40; refine (KF.out _).mono ?_; rintro e w8 ⟨bs, A1, c1, rfl, he8, f7, ho8⟩; have HO8 := Lib.hid (Only.of_drewN ho8); have HE := Lib.hid he8; clear he8 ho8))
      go_wp2_with fail
      go_ret3
      exact ⟨HB.out.trans (HO8.out.below HB.out.size HGB.out), bs, A1, c1, A7, c7, rfl, HE.out.1, HE.out.2.1, HE.out.2.2.1, HE.out.2.2.2⟩
end Go.Proofs.YtjgdjobhhdhfjaaGreat

/-
  The law LzmacBack: its walk.
-/
namespace Go.Proofs.YtjgdjobhhdhfjaaGreat
open Go.RowKit

set_option maxRecDepth 100000 in
set_option maxHeartbeats 4000000 in
theorem cpackb_any {a b c d : Int} {A : Option Addr} {n m : Nat} (h : maySet a b c d = false) (w : World) :
    Calls Tryz.prog 19 #[.agg #[.int .i64 a, .int .i64 b, .int .i64 c, .int .i64 d], .slice A n m] w fun e w' => e = .returned (.tuple #[.slice none 0 0, .slice none 0 0, .int .i64 11]) ∧ Below w.heap.size w w' := by
  obtain ⟨w1, hw1⟩ : ∃ w1, w1 = w.alloc (.cells #[.int .i64 a, .int .i64 b, .int .i64 c, .int .i64 d] 24) := ⟨_, rfl⟩
  have HBk : Blk w1 w.heap.size 24 #[.int .i64 a, .int .i64 b, .int .i64 c, .int .i64 d] := by rw [hw1]; exact Blk.fresh w _ _
  have HO1 := Lib.hid (show Below w.heap.size w w1 by rw [hw1]; exact (Below.refl _ _).alloc (Nat.le_refl _) _)
  have KM := Lib.hid (cnewb_any h w1)
  have HW1 := Lib.hid hw1
  have o0 : w1.cell? ⟨w.heap.size, 0, none⟩ = some (.int .i64 a) := HBk.cell 0
  have o1 : w1.cell? ⟨w.heap.size, 1, none⟩ = some (.int .i64 b) := HBk.cell 1
  have o2 : w1.cell? ⟨w.heap.size, 2, none⟩ = some (.int .i64 c) := HBk.cell 2
  have o3 : w1.cell? ⟨w.heap.size, 3, none⟩ = some (.int .i64 d) := HBk.cell 3
  clear hw1 HBk h
  go_enter Tryz.func19, Tryz.ntmps19
  go_upto_region 1 with fail
  rw [← HW1.out]
  clear HW1
  go_wp2_with fail
  refine KM.out.mono ?_
  rintro e w2 ⟨rfl, hb2⟩
  have HO2 := Lib.hid (HO1.out.trans (hb2.below HO1.out.size (fun _ h => h.elim)))
  clear hb2 KM o0 o1 o2 o3
  go_wp2_with fail
  go_ret3
  exact ⟨rfl, HO2.out⟩

/-- what the program packs -/
theorem cpack_back {w : World} {lc lp pb dict n c : Nat} {A : Option Addr} {qs : Nat → Pq} (h : SetOk lc lp pb dict) (h6 : lc + lp ≤ 6) (hP : Pkts w A n qs) (hq : ∀ i, i < n → PqLit (qs i)) (hn : n ≤ 1000) :
    Calls Tryz.prog 19 #[.agg #[.int .i64 (lc : Int), .int .i64 (lp : Int), .int .i64 (pb : Int), .int .i64 (dict : Int)], .slice A n c] w fun x w' => Below w.heap.size w w' ∧
      ∃ (bs out : List UInt8) (A1 : Option Addr) (c1 : Nat) (A2 : Option Addr) (c2 : Nat), x = .returned (.tuple #[.slice A1 bs.length c1, .slice A2 out.length c2, .int .i64 0]) ∧ Sl w' A1 bs.length (bv bs) ∧ Sl w' A2 out.length (bv out) ∧
        lzRes bs lc lp pb dict ((out.length : Nat) : Int) = some out ∧ lzCode bs lc lp pb dict ((out.length : Nat) : Int) = 0 ∧ bs.length ≤ 3000000 ∧ out.length ≤ 273 * n ∧
        ((be bs = (runG qs (freshS lc lp pb dict) n).2.x.n ∧ bs.length = (runG qs (freshS lc lp pb dict) n).2.x.l) ∧ out = (runG qs (freshS lc lp pb dict) n).1.out) := by
  refine (cpack_any h h6 hP hq hn).mono ?_
  rintro e w' ⟨hb, bs, A1, c1, A2, c2, rfl, h1, h2, h3, h4⟩
  obtain ⟨r1, r2, r3, r4⟩ := packed_back h hq (by omega) h2 h3
  exact ⟨hb, bs, _, A1, c1, A2, c2, rfl, h1, h4, r1, r2, r3, r4, ⟨h2, h3⟩, rfl⟩
/-- the reference packs the same -/
theorem rpack_back {w : World} {lc lp pb dict n c : Nat} {A : Option Addr} {qs : Nat → Pq} {bs out : List UInt8} (h : SetOk lc lp pb dict) (hP : Pkts w A n qs) (hq : ∀ i, i < n → PqLit (qs i)) (hn : n ≤ 1000)
    (hs : (be bs = (runG qs (freshS lc lp pb dict) n).2.x.n ∧ bs.length = (runG qs (freshS lc lp pb dict) n).2.x.l) ∧ out = (runG qs (freshS lc lp pb dict) n).1.out) :
    Calls Tryz.prog 20 #[.agg #[.int .i64 (lc : Int), .int .i64 (lp : Int), .int .i64 (pb : Int), .int .i64 (dict : Int)], .slice A n c] w fun x w' => Below w.heap.size w w' ∧
      ∃ (A1 : Option Addr) (c1 : Nat) (A2 : Option Addr) (c2 : Nat), x = .returned (.tuple #[.slice A1 bs.length c1, .slice A2 out.length c2, .int .i64 0]) ∧ Sl w' A1 bs.length (bv bs) ∧ Sl w' A2 out.length (bv out) := by
  refine (rpack_any h hP hq hn).mono ?_
  rintro e w' ⟨hb, bs', A1, c1, A2, c2, rfl, h1, h2, h3, h4⟩
  obtain ⟨⟨g1, g2⟩, rfl⟩ := hs
  obtain rfl : bs' = bs := be_inj _ _ (by rw [h3, g2]) (by rw [h2, g1])
  exact ⟨hb, A1, c1, A2, c2, rfl, h1, h4⟩
end Go.Proofs.YtjgdjobhhdhfjaaGreat

/-
  The law LzmacBack: its walk.
-/
namespace Go.Proofs.YtjgdjobhhdhfjaaGreat
open Go.RowKit

/-- the setting, boxed -/
def setCells (a b cc d : Int) : Array Value := #[.int .i64 a, .int .i64 b, .int .i64 cc, .int .i64 d]
def SetAt (w : World) (g : Nat) (a b cc d : Int) : Prop := w.cell? ⟨g, 0, none⟩ = some (.int .i64 a) ∧ w.cell? ⟨g, 1, none⟩ = some (.int .i64 b) ∧ w.cell? ⟨g, 2, none⟩ = some (.int .i64 cc) ∧ w.cell? ⟨g, 3, none⟩ = some (.int .i64 d)
theorem setAt_of {w : World} {g : Nat} {a b cc d : Int} {T : TypeId} (h : Blk w g T (setCells a b cc d)) : SetAt w g a b cc d := ⟨h.cell 0, h.cell 1, h.cell 2, h.cell 3⟩

set_option maxRecDepth 100000 in
set_option maxHeartbeats 16000000 in
theorem lzmacBack_walk (C : UpCon) {a b cc d : Int} {A : Option Addr} {n c : Nat} {qs : Nat → Pq} {w : World} (hP : Pkts w A n qs) (hq : ∀ i, i < n → PqLit (qs i)) (hn : n ≤ maxLen) :
    Calls Tryz.prog 5 #[.agg #[.int .i64 a, .int .i64 b, .int .i64 cc, .int .i64 d], .slice A n c] w fun e w' => e = .returned (.bool true) ∧ Below w.heap.size w w' := by
  obtain ⟨w1, hw1⟩ : ∃ w1, w1 = w.alloc (.cells #[.int .i64 a, .int .i64 b, .int .i64 cc, .int .i64 d] 24) := ⟨_, rfl⟩
  have hb1 : Below w.heap.size w w1 := by rw [hw1]; exact (Below.refl _ _).alloc (Nat.le_refl _) _
  have HBk : Blk w1 w.heap.size 24 (setCells a b cc d) := by rw [hw1]; exact Blk.fresh w _ _
  have HW1 := Lib.hid hw1
  have HB1 := Lib.hid hb1
  have HBK := Lib.hid HBk
  have HP := Lib.hid (hP.below hb1)
  have HQ := Lib.hid hq
  have KA := Lib.hid (awake9_any w1)
  have HC := Lib.hid C
  have HML := Lib.hid (show n ≤ maxLen from hn)
  clear hw1 hb1 HBk hn hP hq
  go_enter Tryz.func5, Tryz.ntmps5
  go_upto_region 1 with fail
  rw [← HW1.out]
  clear HW1
  go_wp2_with fail
  refine KA.out.mono ?_
  rintro e w2 ⟨rfl, hb2⟩
  have HB2 := Lib.hid hb2
  obtain ⟨o0, o1, o2, o3⟩ := setAt_of (HBK.out.below hb2)
  have HE2 := Lib.hid (below_go HB1.out hb2 (Nat.le_refl _))
  clear hb2 KA
  have KL := Lib.hid (light9_any a b cc d w2)
  obtain ⟨lt, hlt⟩ : ∃ lt, lt = light9P a b cc d := ⟨_, rfl⟩
  rw [← hlt] at KL
  have HLT := Lib.hid hlt
  clear hlt
  cases lt with
  | false =>
    go_wp2_with fail
    refine KL.out.mono ?_
    rintro e w3 ⟨rfl, hb3⟩
    have HE3 := Lib.hid (below_go HE2.out hb3 (Nat.le_refl _))
    clear hb3 KL o0 o1 o2 o3
    go_wp2_with fail
    go_ret
    exact ⟨rfl, HE3.out⟩
  | true =>
    go_wp2_with fail
    refine KL.out.mono ?_
    rintro e w3 ⟨rfl, hb3⟩
    have HB3 := Lib.hid (below_go HB2.out hb3 (Nat.le_refl _))
    have HE3 := Lib.hid (below_go HE2.out hb3 (Nat.le_refl _))
    clear hb3 KL o0 o1 o2 o3 HE2 HB2
    by_cases h300 : (n : Int) > 300
    · go_wp2_with fail
      go_ret
      exact ⟨rfl, HE3.out⟩
    have HN := Lib.hid (show n ≤ 300 by omega)
    go_wp2_with fail
    clear h300
    go_loopw [5, 6] (fun s i wr => ∃ (j : Nat) (x : Int), j ≤ n ∧ i = .int .i64 (j : Int) ∧ s = .int .i64 x ∧ 0 ≤ x ∧ x ≤ 1001 * (j : Int) ∧ wr = w3) (fun _ i _ => n - (intOf i).toNat)
    case atStart => exact ⟨0, 0, Nat.zero_le _, rfl, rfl, by omega, by omega, rfl⟩
    case round =>
      obtain ⟨j, x, hj, rfl, rfl, hx0, hx1, rfl⟩ := hrel
      by_cases hlt : j < n
      · have j0 : (0 : Int) ≤ (j : Int) := by omega
        have glt : (j : Int) < (n : Int) := by omega
        obtain ⟨bk, o, rfl, hbw, hcl⟩ := (HP.out.below' HB3.out) (by omega)
        obtain ⟨l0, l1, l2, l3⟩ := hcl j hlt
        have hql := HQ.out j hlt
        generalize qs j = q at *
        have e1 : IntKind.i64.wrap (x + 1) = x + 1 := IntWalk.i64_in _ (by have := HN.out; omega)
        have e2 : IntKind.i64.wrap ((j : Int) + 1) = (j : Int) + 1 := IntWalk.i64_in _ (by have := HN.out; omega)
        by_cases hk : q.k = 0
        · rw [hk] at l0
          clear hcl hbw hql
          go_wp2_with fail
          go_roundw
          case rel => exact ⟨j + 1, x + 1, by omega, by go_num, rfl, by omega, by omega, by first | rfl | trivial⟩
          case measure => simp [intOf]; omega
        · have e3 : (q.k == 0) = false := by simpa using hk
          by_cases hp : q.n > 0
          · obtain ⟨y, hy⟩ : ∃ y, y = min q.n 1000 := ⟨_, rfl⟩
            have hy1 : 0 < y ∧ y ≤ 1000 := by omega
            have e4 : IntKind.i64.wrap (x + 1 + y) = x + 1 + y := IntWalk.i64_in _ (by have := HN.out; omega)
            clear hcl hbw hql
            go_wp2_with fail
            all_goals go_roundw
            all_goals first | (case rel => exact ⟨j + 1, x + 1 + y, by omega, by go_num, by first | rfl | (rw [hy]), by omega, by omega, by first | rfl | trivial⟩) | skip
            all_goals first | (case measure => simp [intOf]; omega) | skip
          · clear hcl hbw hql
            go_wp2_with fail
            go_roundw
            case rel => exact ⟨j + 1, x + 1, by omega, by go_num, rfl, by omega, by omega, by first | rfl | trivial⟩
            case measure => simp [intOf]; omega
      · obtain rfl : j = n := by omega
        clear hlt hj
        by_cases h5 : x > 5000
        · go_wp2_with fail
          go_ret
          exact ⟨rfl, HE3.out⟩
        clear hx0 hx1
        obtain ⟨p0, p1, p2, p3⟩ := setAt_of (HBK.out.below HB3.out)
        obtain ⟨mm, hmm⟩ : ∃ mm, mm = maySet a b cc d := ⟨_, rfl⟩
        have HMM := Lib.hid hmm
        cases mm with
        | false =>
          have KP := Lib.hid (cpackb_any (A := A) (n := j) (m := c) hmm.symm wr)
          have HMF := Lib.hid hmm.symm
          clear hmm
          go_wp2_with fail
          refine KP.out.mono ?_
          rintro e w4 ⟨rfl, hb4⟩
          have HB4 := Lib.hid (below_go HB3.out hb4 (Nat.le_refl _))
          have HE4 := Lib.hid (below_go HE3.out hb4 (Nat.le_refl _))
          clear hb4 KP p0 p1 p2 p3
          obtain ⟨q0, q1, q2, q3⟩ := setAt_of (HBK.out.below HB4.out)
          have KR := Lib.hid (rpackb_any (A := A) (n := j) (m := c) HMF.out w4)
          go_wp2_with fail
          refine KR.out.mono ?_
          rintro e w5 ⟨rfl, hb5⟩
          have HE5 := Lib.hid (below_go HE4.out hb5 (Nat.le_refl _))
          clear hb5 KR q0 q1 q2 q3
          go_wp2_with fail
          refine (bytesSame_any (bs := []) (A := none) (B := none) Sl.nil Sl.nil (by decide)).mono ?_
          rintro e w6 ⟨rfl, d6, hw6⟩
          have HE6 := Lib.hid (show Below w.heap.size w w6 from hw6 ▸ below_drewN HE5.out d6)
          clear hw6
          go_wp2_with fail
          refine (bytesSame_any (bs := []) (A := none) (B := none) Sl.nil Sl.nil (by decide)).mono ?_
          rintro e w7 ⟨rfl, d7, hw7⟩
          have HE7 := Lib.hid (show Below w.heap.size w w7 from hw7 ▸ below_drewN HE6.out d7)
          clear hw7
          go_wp2_with fail
          go_ret
          exact ⟨rfl, HE7.out⟩
        | true =>
          obtain ⟨m1, m2, m3, m4, m5, m6, m7, m8⟩ := may_iff.1 hmm.symm
          have h5' : a + b ≤ 5 := by
            have := HLT.out
            unfold light9P at this
            rw [← hmm] at this
            exact of_decide_eq_true this.symm
          obtain ⟨lc, rfl⟩ := Int.eq_ofNat_of_zero_le m1
          obtain ⟨lp, rfl⟩ := Int.eq_ofNat_of_zero_le m3
          obtain ⟨pb, rfl⟩ := Int.eq_ofNat_of_zero_le m5
          obtain ⟨dict, rfl⟩ := Int.eq_ofNat_of_zero_le (show 0 ≤ d by omega)
          have HSET := Lib.hid (show SetOk lc lp pb dict ∧ lc + lp ≤ 5 from ⟨⟨by omega, by omega, by omega, by omega, by omega⟩, by omega⟩)
          have KP := Lib.hid (cpack_back (c := c) HSET.out.1 (by have := HSET.out.2; omega) (HP.out.below HB3.out) HQ.out (by have := HN.out; omega))
          clear hmm m1 m2 m3 m4 m5 m6 m7 m8 h5'
          go_wp2_with fail
          refine KP.out.mono ?_
          rintro e w4 ⟨hb4, bs, out, A1, c1, A2, c2, rfl, hs1, hs2, hres, hcod, hbl, hol, hsame⟩
          have HB4 := Lib.hid (below_go HB3.out hb4 (Nat.le_refl _))
          have HS1 := Lib.hid hs1
          have HS2 := Lib.hid hs2
          have HRES := Lib.hid (And.intro hres (And.intro hcod (And.intro hbl (show out.length ≤ 100000 by have := HN.out; omega))))
          have KR := Lib.hid (rpack_back (c := c) HSET.out.1 (HP.out.below HB4.out) HQ.out (by have := HN.out; omega) hsame)
          obtain ⟨o0, o1, o2, o3⟩ := setAt_of (HBK.out.below HB4.out)
          clear hb4 hs1 hs2 hres hcod hbl hol hsame KP p0 p1 p2 p3
          go_wp2_with fail
          refine KR.out.mono ?_
          rintro e w5 ⟨hb5, A3, c3, A4, c4, rfl, hs3, hs4⟩
          have HB5 := Lib.hid (below_go HB4.out hb5 (Nat.le_refl _))
          have HS15 := Lib.hid (HS1.out.below hb5)
          have HS25 := Lib.hid (HS2.out.below hb5)
          have KB1 := Lib.hid (bytesSame_any (ca := c1) (cb := c3) (HS1.out.below hb5) hs3 (by have := HRES.out.2.2.1; omega))
          have HS4 := Lib.hid hs4
          clear hb5 hs3 hs4 KR o0 o1 o2 o3 HB4 HS1 HS2
          go_wp2_with fail
          refine KB1.out.mono ?_
          rintro e w6 ⟨rfl, d6, hw6⟩
          obtain rfl := hw6
          have KB2 := Lib.hid (bytesSame_any (ca := c2) (cb := c4) (HS25.out.drewN d6) (HS4.out.drewN d6) (by have := HRES.out.2.2.2; omega))
          clear KB1
          go_wp2_with fail
          refine KB2.out.mono ?_
          rintro e w7 ⟨rfl, d7, hw7⟩
          have HB7 := Lib.hid (show Below w1.heap.size w1 w7 from hw7 ▸ below_drewN (below_drewN HB5.out d6) d7)
          have HS17 := Lib.hid (show Sl w7 A1 bs.length (bv bs) from hw7 ▸ (HS15.out.drewN d6).drewN d7)
          have HS27 := Lib.hid (show Sl w7 A2 out.length (bv out) from hw7 ▸ (HS25.out.drewN d6).drewN d7)
          clear hw7 KB2 HB5 HS15 HS25 HS4
          obtain ⟨q0, q1, q2, q3⟩ := setAt_of (HBK.out.below HB7.out)
          have KU := Lib.hid (fun (W : World) (gm : Nat) (hM : MeterAt W 86 gm muchQ Tel.zero) (hgm : w7.heap.size ≤ gm) (hb : Below w7.heap.size w7 W) => runs_up (n := out.length) (sz := ((out.length : Nat) : Int)) HC.out HSET.out.1 (by have := HSET.out.2; omega) HRES.out.2.2.2 (c := c1) HS17.out HRES.out.1 HRES.out.2.1 HRES.out.2.2.1 rfl rfl hM hgm hb)
          have HS := Lib.hid (fun (W : World) (hb : Below w7.heap.size w7 W) => setAt_of ((HBK.out.below HB7.out).below hb))
          unfold SetAt at HS
          generalize hlen : out.length = m at *
          go_wp2_with fail
          go_region_held3 (fun W => W.cell? ⟨w.heap.size, 0, none⟩ = some (.int .i64 (lc : Int)) ∧ W.cell? ⟨w.heap.size, 1, none⟩ = some (.int .i64 (lp : Int)) ∧ W.cell? ⟨w.heap.size, 2, none⟩ = some (.int .i64 (pb : Int)) ∧ W.cell? ⟨w.heap.size, 3, none⟩ = some (.int .i64 (dict : Int))) (first | assumption | go_keep | exact ⟨q0, q1, q2, q3⟩) (first | (go_at_call 10; refine (much_any _).mono ?_; rintro e w8 ⟨gm, rfl, hM, hgm, hb⟩; have HB8 := Lib.hid (show Below w7.heap.size w7 w8 from ⟨hb.os, hb.tape, hb.output, hb.size, hb.block⟩); have HM8 := Lib.hid hM; have HGM := Lib.hid (show w7.heap.size ≤ gm from hgm); have r := HS.out w8 HB8.out; clear hM hgm hb) | (go_at_call 11; refine (KU.out _ gm (by first | exact HM8.out | exact HM8.out.drewN _) HGM.out (by first | exact HB8.out | exact below_drewN HB8.out _)).mono ?_; rintro e w9 ⟨hO9, X, cX, rfl, hSX⟩; have HO9 := Lib.hid (show Only (fun i => i = gm) w8 w9 from ⟨hO9.os, hO9.tape, hO9.output, hO9.size, hO9.block⟩); have HSX := Lib.hid hSX; have r9 := HS.out w9 (HB8.out.trans (HO9.out.below HB8.out.size (by rintro i rfl; exact HGM.out))); clear hO9 hSX))
          have HB9 := Lib.hid (HB1.out.trans ((HB7.out.trans ((HB8.out.trans (HO9.out.below HB8.out.size (by rintro i rfl; exact HGM.out))).mono HB7.out.size)).mono HB1.out.size))
          have KB3 := Lib.hid (bytesSame_any (ca := cX) (cb := c2) HSX.out ((HS27.out.below HB8.out).only HO9.out (fun h0 q o e => by
            obtain ⟨b', o', e', hlt, _⟩ := HS27.out.2 h0
            rw [e] at e'
            injection e' with e'
            injection e' with e'
            have := HGM.out
            omega)) (by have := HRES.out.2.2.2; omega))
          clear KU HS HO9 HSX HM8 HS27 HS17 HB7 q0 q1 q2 q3
          go_wp2_with fail
          refine KB3.out.mono ?_
          rintro e wz ⟨rfl, dz, hwz⟩
          have HEz := Lib.hid (show Below w.heap.size w wz from hwz ▸ below_drewN HB9.out dz)
          clear hwz KB3
          go_wp2_with fail
          go_ret
          exact ⟨rfl, HEz.out⟩
end Go.Proofs.YtjgdjobhhdhfjaaGreat
