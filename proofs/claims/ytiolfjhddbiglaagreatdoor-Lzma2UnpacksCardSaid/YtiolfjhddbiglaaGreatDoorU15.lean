/-
  ZqSizN, ZqBad, ZqTel, ZrLaw: put together.
-/
import Derived.Test.YtiolfjhddbiglaaGreatDoorU06
import Derived.Test.YtiolfjhddbiglaaGreatDoorU09
import Derived.Test.YtiolfjhddbiglaaGreatDoorU14
set_option linter.unusedVariables false
set_option linter.unusedSimpArgs false
/-
  A row of bytes tells one count of bytes at most.
-/
namespace Go.Proofs.YtiolfjhddbiglaaGreatDoor
set_option linter.unusedVariables false
theorem telN_one : ∀ (f : Nat) (q : Rs) (n k : Nat) (x y : List UInt8), telN f q n = some x → telN f q k = some y → n = k
  | 0, _, _, _, _, _, h, _ => by cases h
  | f + 1, q, n, k, x, y, h, h' => by
    unfold telN at h h'
    by_cases hr : q.r = [0]
    · rw [if_pos hr] at h h'
      split at h
      · split at h'
        · omega
        · cases h'
      · cases h
    · rw [if_neg hr] at h h'
      cases hc : chunkN q with
      | none => rw [hc] at h; cases h
      | some p =>
        obtain ⟨xs, q'⟩ := p
        rw [hc] at h h'
        have h : (if xs.length ≤ n then (telN f q' (n - xs.length)).map (xs ++ ·) else none) = some x := h
        have h' : (if xs.length ≤ k then (telN f q' (k - xs.length)).map (xs ++ ·) else none) = some y := h'
        split at h
        · split at h'
          · cases h1 : telN f q' (n - xs.length) with
            | none => rw [h1] at h; cases h
            | some u =>
              cases h2 : telN f q' (k - xs.length) with
              | none => rw [h2] at h'; cases h'
              | some v =>
                have := telN_one f q' _ _ u v h1 h2
                omega
          · cases h'
        · cases h
end Go.Proofs.YtiolfjhddbiglaaGreatDoor

/-
  The program's Unpack of LZMA2 refuses properties beyond 40.
-/
namespace Go.Proofs.YtiolfjhddbiglaaGreatDoor
open Go.RowKit
set_option linter.unusedVariables false

set_option maxRecDepth 100000 in
set_option maxHeartbeats 4000000 in
theorem zunp_bad {w : World} {p m : Nat} {v : Value} {size : Int} (hp : 40 < p) (hp2 : p < 256) :
    Calls Tryz.prog 9 #[v, .int .u8 (p : Int), .int .i64 size, .pointer (some ⟨m, 0, none⟩)] w fun e w' => e = .returned (.tuple #[.slice none 0 0, .int .i64 11]) ∧ Only (fun _ => False) w w' := by
  have KD := qdict_any hp2 w
  have hdc : dictC p = 11 := by unfold dictC; rw [if_pos (by omega)]
  rw [hdc] at KD
  have KN : Calls Tryz.prog 17 #[.int .u8 (p : Int), .int .i64 size, .pointer (some ⟨m, 0, none⟩)] w fun e w' => e = .returned (.tuple #[.pointer none, .int .i64 11]) ∧ w = w' := by
    generalize dictN p = dict at *
    have KD := Lib.hid KD
    clear hp hp2 hdc
    go_enter Tryz.func17, Tryz.ntmps17
    go_wp2_with fail
    refine KD.out.mono ?_
    rintro e w1 ⟨rfl, rfl⟩
    clear KD
    go_wp2_with fail
    go_ret2
    exact ⟨rfl, rfl⟩
  have KN := Lib.hid KN
  clear KD hp hp2 hdc
  go_enter_defers Tryz.func9, Tryz.ntmps9
  go_wp2_with fail
  refine KN.out.mono ?_
  rintro e w1 ⟨rfl, rfl⟩
  clear KN
  go_wp2_with fail
  exact ⟨_, results_tmp2 rfl _ _ _, rfl, Only.refl _ _⟩
/-- what the program's Unpack owes, whatever the property -/
def unpR (L0 : Nat) (p : Nat) (bs : List UInt8) (size : Int) : Option (List UInt8) := if p ≤ 40 then (rs0 L0 (dictN p) bs).tells size.toNat else none
def unpC (L0 : Nat) (p : Nat) (bs : List UInt8) (size : Int) : Int := if p ≤ 40 then codeU ((rs0 L0 (dictN p) bs).tells size.toNat) else 11
end Go.Proofs.YtiolfjhddbiglaaGreatDoor

/-
  A stream of LZMA2 tells as many bytes as are asked for.
-/
namespace Go.Proofs.YtiolfjhddbiglaaGreatDoor
theorem telN_len : ∀ (f : Nat) (q : Rs) (n : Nat) (x : List UInt8), telN f q n = some x → x.length = n
  | 0, _, _, _, h => by cases h
  | f + 1, q, n, x, h => by
    unfold telN at h
    split at h
    · split at h
      · rename_i hn
        injection h with h
        rw [← h, hn]
        rfl
      · cases h
    · cases hc : chunkN q with
      | none => rw [hc] at h; cases h
      | some p =>
        obtain ⟨xs, q'⟩ := p
        rw [hc] at h
        have h : (if xs.length ≤ n then (telN f q' (n - xs.length)).map (xs ++ ·) else none) = some x := h
        split at h
        · cases h2 : telN f q' (n - xs.length) with
          | none => rw [h2] at h; cases h
          | some u =>
            rw [h2] at h
            have h : some (xs ++ u) = some x := h
            injection h with h
            have := telN_len f q' _ u h2
            rw [← h, List.length_append]
            omega
        · cases h
theorem tells_len {q : Rs} {n : Nat} {x : List UInt8} (h : q.tells n = some x) : x.length = n := telN_len _ q n x h
end Go.Proofs.YtiolfjhddbiglaaGreatDoor

/-
  The law Lzma2Unpacks, walked.
-/
namespace Go.Proofs.YtiolfjhddbiglaaGreatDoor
open Go.RowKit
set_option linter.unusedVariables false

theorem rbelow_go {w0 w1 w2 : World} {B : Nat} (h : Below B w0 w1) (hb : Below w1.heap.size w1 w2) (hB : B ≤ w0.heap.size) : Below B w0 w2 :=
  h.trans ⟨hb.os, hb.tape, hb.output, hb.size, fun i hi => hb.block i (by have := h.size; omega)⟩
/-- what an unpacking answers: the bytes, the code -/
def AnsPost (w : World) (o : Option (List UInt8)) (cd : Int) (x : Ending) (w' : World) : Prop :=
  ∃ A c, x = .returned (.tuple #[.slice A (o.getD []).length c, .int .i64 cd]) ∧ Sl w' A (o.getD []).length (bv (o.getD []))
theorem unp_all {A : Option Addr} {n c L0 p m : Nat} {bs : List UInt8} {W : World} {size : Int} (hL0 : L0 = 1847 + 768 * 2 ^ (4 + 0)) (hT : TabQ W) (hS : Sl W A n (bv bs)) (hA : 0 < n → ∀ q o, A = some ⟨q, o, none⟩ → q ≠ m) (hM : MeterAt W 83 m muchQ Tel.zero) (hm1 : 1 ≤ m) (hn : n ≤ 10000000) (hp : p < 256) (h1 : size ≤ 100000) (h0 : -9223372036854775808 ≤ size) :
    Calls Tryz.prog 9 #[.slice A n c, .int .u8 (p : Int), .int .i64 size, .pointer (some ⟨m, 0, none⟩)] W fun e w' => AnsPost W (unpR L0 p bs size) (unpC L0 p bs size) e w' ∧ Only (fun i => i = m) W w' ∧ ∃ t, MeterAt w' 83 m muchQ t ∧ t.mem = 0 := by
  have hnb : n = bs.length := by rw [← bv_length]; exact hS.1.symm
  unfold unpR unpC
  by_cases h40 : p ≤ 40
  · rw [if_pos h40, if_pos h40]
    refine (zunp_ok (c := c) (size := size) hnb hS hA hn hM h40 h1 h0 hL0 hm1 hT).mono ?_
    rintro e w' ⟨ht, hO, A2, c2, rfl, hs⟩
    exact ⟨⟨A2, c2, rfl, hs⟩, hO, ht⟩
  · rw [if_neg h40, if_neg h40]
    refine (zunp_bad (by omega) hp).mono ?_
    rintro e w' ⟨rfl, hO⟩
    exact ⟨⟨none, 0, rfl, ⟨rfl, fun h => absurd h (Nat.lt_irrefl 0)⟩⟩, hO.mono (fun _ h => h.elim), Tel.zero, hM.only hO (fun h => h), rfl⟩
set_option maxRecDepth 100000 in
set_option maxHeartbeats 4000000 in
theorem rup_bad {w : World} {p : Nat} {v : Value} {size : Int} (hp : 40 < p) (hp2 : p < 256) :
    Calls Tryz.prog 10 #[v, .int .u8 (p : Int), .int .i64 size] w fun e w' => e = .returned (.tuple #[.slice none 0 0, .int .i64 11]) ∧ Below w.heap.size w w' := by
  have KD := rdict_any hp2 w
  have hdc : dictC p = 11 := by unfold dictC; rw [if_pos (by omega)]
  rw [hdc] at KD
  generalize dictN p = dict at *
  have KD := Lib.hid KD
  clear hp hp2 hdc
  go_enter Tryz.func10, Tryz.ntmps10
  go_wp2_with fail
  refine KD.out.mono ?_
  rintro x w2 ⟨rfl, hb2⟩
  have HB2 := Lib.hid hb2
  clear hb2 KD
  go_wp2_with fail
  go_ret2
  exact ⟨rfl, HB2.out⟩
theorem rup_all {A : Option Addr} {n c p : Nat} {bs : List UInt8} {W : World} {size : Int} (hS : Sl W A n (bv bs)) (hn : n ≤ 10000000) (hnc : n ≤ c) (hcm : c ≤ maxLen) (hp : p < 256) (h1 : size ≤ 100000) (h0 : -9223372036854775808 ≤ size) {L0 : Nat} (hL0 : L0 = 1847 + 768 * 2 ^ (4 + 0)) :
    Calls Tryz.prog 10 #[.slice A n c, .int .u8 (p : Int), .int .i64 size] W fun e w' => AnsPost W (unpR L0 p bs size) (unpC L0 p bs size) e w' ∧ Below W.heap.size W w' := by
  have hnb : n = bs.length := by rw [← bv_length]; exact hS.1.symm
  subst hL0
  unfold unpR unpC
  by_cases h40 : p ≤ 40
  · rw [if_pos h40, if_pos h40]
    refine (rup_any (c := c) hnb hS hn hnc hcm h40 h1 h0).mono ?_
    rintro e w' ⟨hb, h⟩
    refine ⟨?_, hb⟩
    rcases h with ⟨ho, rfl⟩ | ⟨ys, A', c', ho, rfl, hs⟩
    · rw [ho]
      exact ⟨none, 0, rfl, ⟨rfl, fun h => absurd h (Nat.lt_irrefl 0)⟩⟩
    · rw [ho]
      exact ⟨A', c', rfl, hs⟩
  · rw [if_neg h40, if_neg h40]
    refine (rup_bad (by omega) hp).mono ?_
    rintro e w' ⟨rfl, hb⟩
    exact ⟨⟨none, 0, rfl, ⟨rfl, fun h => absurd h (Nat.lt_irrefl 0)⟩⟩, hb⟩
theorem unpR_len {L0 p : Nat} {bs : List UInt8} {size : Int} (h1 : size ≤ 100000) : ((unpR L0 p bs size).getD []).length ≤ 100000 := by
  unfold unpR
  split
  · cases h : (rs0 L0 (dictN p) bs).tells size.toNat with
    | none => exact Nat.zero_le _
    | some x =>
      have := tells_len h
      show x.length ≤ _
      omega
  · exact Nat.zero_le _

set_option maxRecDepth 100000 in
set_option maxHeartbeats 8000000 in
theorem lzma2Unpacks_walk {A : Option Addr} {n c p : Nat} {size : Int} {bs : List UInt8} {w : World} (hS : Sl w A n (bv bs)) (hnc : n ≤ c) (hcm : c ≤ maxLen) (hp : p < 256) (h0 : -9223372036854775808 ≤ size) (hT : TabQ w) :
    Calls Tryz.prog 3 #[.slice A n c, .int .u8 (p : Int), .int .i64 size] w fun e w' => e = .returned (.bool true) ∧ Below w.heap.size w w' := by
  obtain ⟨L0, hL0⟩ : ∃ L0, L0 = 1847 + 768 * 2 ^ (4 + 0) := ⟨_, rfl⟩
  have KA := Lib.hid (awake11_any hT)
  have HI := Lib.hid (And.intro hS (And.intro hp (And.intro hL0 (And.intro hT (And.intro h0 (And.intro hnc (And.intro hcm hT.pos)))))))
  clear hL0 hS hp h0 hT hnc hcm
  go_enter Tryz.func3, Tryz.ntmps3
  go_wp2_with fail
  refine KA.out.mono ?_
  rintro e w2 ⟨rfl, hb2⟩
  have HB2 := Lib.hid hb2
  clear hb2 KA
  by_cases hbig : n > 8192
  · have g1 : (n : Int) > 8192 := by omega
    clear hbig
    go_wp2_with fail
    go_ret
    exact ⟨rfl, HB2.out⟩
  have g1 : ¬ (n : Int) > 8192 := by omega
  have HNN := Lib.hid (show n ≤ 8192 by omega)
  clear hbig
  by_cases hs5 : size > 5000
  · go_wp2_with fail
    go_ret
    exact ⟨rfl, HB2.out⟩
  have HSZ := Lib.hid (show size ≤ 5000 by omega)
  go_wp2_with fail
  refine (much_any _).mono ?_
  rintro e w4 ⟨gm, rfl, hM, hgm, hb4⟩
  have HB4 := Lib.hid (show Below w.heap.size w w4 from rbelow_go HB2.out hb4 (Nat.le_refl _))
  have HM4 := Lib.hid hM
  have HGM := Lib.hid (show w.heap.size ≤ gm ∧ gm < w4.heap.size from ⟨by have := HB2.out.size; omega, hM.lt⟩)
  have HS4 := Lib.hid (HI.out.1.below HB4.out)
  obtain ⟨i, hi, hz0, hz1, hz2⟩ := info_parts info_u8
  have HBY := Lib.hid (show (0 + n) * 1 ≤ 140737488355328 by have := HNN.out; omega)
  clear hM hgm hb4 g1 hs5
  go_wp2_with (at_builtin; refine wpList_app _ rfl (.tmp 23) (.tmp 24) 22 rfl w4.heap.size 5 i _ 1 Tryz.underlying22 hi hz0 hz1 hz2 rfl _ 0 [] rfl (own_empty w4 (Nat.le_refl _) _) A n c (bv bs) rfl (HS4.out.alloc _) (bv_one bs) HBY.out (by omega) (by simp) ?_)
  intro A5 c5 w5 ho5 hg5
  obtain ⟨hS5, _, _, hA5⟩ := own_facts ho5
  have HB5 := Lib.hid ((HB4.out.alloc HB4.out.size _).grown hg5 (by have := HB4.out.size; simp; omega) (fun k e => by have := HB4.out.size; simp [Value.ownBlock] at e; omega))
  have HM5 := Lib.hid ((HM4.out.alloc _).grown hg5 (by simp [Value.ownBlock]; have := HGM.out; omega))
  have HS5 := Lib.hid hS5
  have HOWN := Lib.hid (show 0 < n → ∀ q o, A5 = some ⟨q, o, none⟩ → q ≠ gm from fun _ q o e => by
    have := (hA5 q o e).1
    have := HGM.out
    omega)
  have hT5 : TabQ w5 := HI.out.2.2.2.1.below HB5.out
  have KU := Lib.hid (unp_all (c := c5) (size := size) (p := p) HI.out.2.2.1 hT5 HS5.out HOWN.out HM5.out (by have := HGM.out; have := HI.out.2.2.2.2.2.2.2; omega) (by have := HNN.out; omega) HI.out.2.1 (by have := HSZ.out; omega) HI.out.2.2.2.2.1)
  clear ho5 hg5 hS5 hA5 hT5 HS4 HB4 HM4 hi hz0 hz1 hz2
  obtain ⟨rs, hrs⟩ : ∃ rs, rs = unpR L0 p bs size := ⟨_, rfl⟩
  obtain ⟨cd, hcd⟩ : ∃ cd, cd = unpC L0 p bs size := ⟨_, rfl⟩
  have hlen : (rs.getD []).length ≤ 100000 := by rw [hrs]; exact unpR_len (by have := HSZ.out; omega)
  rw [← hrs, ← hcd] at KU
  have HRS := Lib.hid (And.intro hrs hcd)
  have HLEN := Lib.hid hlen
  clear hrs hcd hlen
  go_wp2_with fail
  refine KU.out.mono ?_
  rintro e w6 ⟨⟨X, cX, rfl, hSX⟩, hO6, t6, hM6, ht6⟩
  have HB6 := Lib.hid (HB5.out.trans (hO6.below HB5.out.size (by rintro i rfl; exact HGM.out.1)))
  have HSO6 := Lib.hid (HS5.out.only hO6 (fun h0 q o e => HOWN.out h0 q o e))
  have KR := rup_all (W := w6) (c := c) (size := size) (HI.out.1.below HB6.out) (by have := HNN.out; omega) HI.out.2.2.2.2.2.1 HI.out.2.2.2.2.2.2.1 HI.out.2.1 (by have := HSZ.out; omega) HI.out.2.2.2.2.1 HI.out.2.2.1
  rw [← HRS.out.1, ← HRS.out.2] at KR
  have KR := Lib.hid KR
  have HX := Lib.hid (And.intro hM6 (And.intro ht6 hSX))
  clear hM6 ht6 hO6 hSX KU HB5 HM5 HS5
  go_wp2_with fail
  refine KR.out.mono ?_
  rintro e w7 ⟨⟨Y, cY, rfl, hSY⟩, hb7⟩
  have HB7 := Lib.hid (rbelow_go HB6.out hb7 (Nat.le_refl _))
  have KB1 := Lib.hid (bytesSame_any (ca := cX) (cb := cY) (HX.out.2.2.below hb7) hSY (by have := HLEN.out; omega))
  have HSO7 := Lib.hid (HSO6.out.below hb7)
  have HM7 := Lib.hid (HX.out.1.below hb7)
  clear hb7 hSY KR HB6 HSO6
  generalize (rs.getD []).length = ny at *
  go_wp2_with fail
  refine KB1.out.mono ?_
  rintro e w8 ⟨rfl, k8, rfl⟩
  clear KB1
  have KB2 := Lib.hid (bytesSame_any (ca := c5) (cb := c) ((HSO7.out).drewN k8) ((HI.out.1.below HB7.out).drewN k8) (by have := HNN.out; omega))
  go_wp2_with fail
  refine KB2.out.mono ?_
  rintro e w9 ⟨rfl, k9, rfl⟩
  clear KB2
  have KU9 := used_any (w := w7.drewN (k8 + k9)) (HM7.out.drewN (k8 + k9))
  unfold uArr at KU9
  have ht := HX.out.2.1
  rw [ht] at KU9
  have KU9' := Lib.hid KU9
  have hfd0 : ∀ (x0 x1 x2 x3 x4 x5 : Int) (w : World), (Instr.field 32 (.agg #[.int .i64 x0, .int .i64 x1, .int .i64 x2, .int .i64 x3, .int .i64 x4, .int .i64 x5]) 0).run Tryz.prog w = .ok (.int .i64 x0) w := fun _ _ _ _ _ _ _ => by kernel_rfl
  have HE9 := Lib.hid (below_drewN HB7.out (k8 + k9))
  clear ht KU9
  go_wp2_with fail
  refine KU9'.out.mono ?_
  rintro e w10 ⟨rfl, hb10⟩
  have HE10 := Lib.hid (rbelow_go HE9.out hb10 (Nat.le_refl _))
  clear hb10 KU9' HE9
  go_wp2_with fail
  go_ret
  exact ⟨rfl, HE10.out⟩
end Go.Proofs.YtiolfjhddbiglaaGreatDoor
