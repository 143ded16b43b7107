/-
  The ring of the last bytes of the plain side: what its calls do.
-/
import Derived.Test.YtnmihkimkbiakaaDlNum
import Derived.Test.YtnmihkimkbiakaaOnly
import Derived.Test.YtnmihkimkbiakaaArith
import Derived.Test.YtnmihkimkbiakaaRows
import Derived.Deep.Cut
import Derived.Deep.CutRange
import Derived.Deep.RegionLaw
import Derived.Deep.RegionHeld3
import Derived.StillTailTactics
import Derived.Tactics
import Derived.Tactics2
import Derived.Laws.Pointers
import Derived.RegionTactic
import Derived.RegionCalls
import Derived.BigQuiet
namespace Go.Proofs.Ytnmihkimkbiakaa
set_option linter.unusedVariables false
set_option linter.unusedSimpArgs false
open Go.RowKit

/-- cells that remember the last d bytes of the first k of P, from place o on -/
structure RingC (cs : Array Value) (o d : Nat) (P : List UInt8) (k : Nat) : Prop where
  d0 : 0 < d
  d1 : d ≤ 256
  size : o + 258 ≤ cs.size
  dist : cs[o + 256]? = some (.int .i64 (d : Int))
  at_ : cs[o + 257]? = some (.int .i64 ((k % d : Nat) : Int))
  last : ∀ i, i < d → cs[o + (k + i) % d]? = some (.int .u8 ((aheadN P d (k + i)).toNat : Int))
theorem RingC.put {cs : Array Value} {o d k y : Nat} {P : List UInt8} (h : RingC cs o d P k) (hy : y = (k + 1) % d) (hk : k < P.length) :
    RingC ((cs.setIfInBounds (o + k % d) (.int .u8 ((P.getD k 0).toNat : Int))).setIfInBounds (o + 257) (.int .i64 (y : Int))) o d P (k + 1) := by
  have hm := Nat.mod_lt k h.d0
  have h1 := h.d1
  have hz := h.size
  have hget : ∀ j, ((cs.setIfInBounds (o + k % d) (Value.int .u8 ((P.getD k 0).toNat : Int))).setIfInBounds (o + 257) (.int .i64 (y : Int)))[j]? =
      if o + 257 = j then some (.int .i64 (y : Int)) else if o + k % d = j then some (.int .u8 ((P.getD k 0).toNat : Int)) else cs[j]? := fun j => by
    rw [Array.getElem?_setIfInBounds, Array.getElem?_setIfInBounds, Array.size_setIfInBounds]
    by_cases e1 : o + 257 = j
    · rw [if_pos e1, if_pos e1, if_pos (by omega)]
    · rw [if_neg e1, if_neg e1]
      by_cases e2 : o + k % d = j
      · rw [if_pos e2, if_pos e2, if_pos (by omega)]
      · rw [if_neg e2, if_neg e2]
  refine ⟨h.d0, h1, by rw [Array.size_setIfInBounds, Array.size_setIfInBounds]; exact hz, ?_, ?_, fun i hi => ?_⟩
  · rw [hget, if_neg (by omega), if_neg (by omega)]
    exact h.dist
  · rw [hget, if_pos rfl, hy]
  · have hmi := Nat.mod_lt (k + 1 + i) h.d0
    rw [hget, if_neg (by omega)]
    by_cases e : i + 1 = d
    · rw [show k + 1 + i = k + d by omega, Nat.add_mod_right, if_pos rfl]
      unfold aheadN
      rw [if_pos (by omega), Nat.add_sub_cancel]
    · have hne := ring_other (k := k) (d := d) (i := i + 1) (by omega) (by omega)
      rw [show k + 1 + i = k + (i + 1) by omega, if_neg (by omega)]
      exact h.last (i + 1) (by omega)
theorem RingC.start {cs : Array Value} {o d : Nat} {P : List UInt8} (d0 : 0 < d) (d1 : d ≤ 256) (hz : o + 258 ≤ cs.size) (hd : cs[o + 256]? = some (.int .i64 (d : Int))) (ha : cs[o + 257]? = some (.int .i64 0)) (hl : ∀ i, i < 256 → cs[o + i]? = some (.int .u8 0)) : RingC cs o d P 0 := by
  refine ⟨d0, d1, hz, hd, by rw [Nat.zero_mod]; exact ha, fun i hi => ?_⟩
  rw [Nat.zero_add, Nat.mod_eq_of_lt hi]
  unfold aheadN
  rw [if_neg (by omega)]
  exact hl i (by omega)

def RingPost (T : TypeId) (w : World) (r o d : Nat) (P : List UInt8) (k : Nat) (cs : Array Value) (w' : World) : Prop :=
  ∃ cs', Blk w' r T cs' ∧ RingC cs' o d P (k + 1) ∧ (∀ j, j < o → cs'[j]? = cs[j]?) ∧ Only (fun i => i = r) w w'

section
variable {T : TypeId} {w : World} {r o d k : Nat} {P : List UInt8} {cs : Array Value}
set_option maxRecDepth 100000 in
set_option maxHeartbeats 2000000 in
theorem dput_any (hB : Blk w r T cs) (hR : RingC cs o d P k) (hk : k < P.length) (ho : o ≤ 1000) :
    Calls Try.prog 24 #[.pointer (some ⟨r, o, none⟩), .int .u8 ((P.getD k 0).toNat : Int)] w fun e w' => e = .returned (.tuple #[]) ∧ RingPost T w r o d P k cs w' := by
  have hnx := ring_next (k := k) hR.d0
  have HR := Lib.hid (fun y hy => hR.put (y := y) hy hk)
  have hm := Nat.mod_lt k hR.d0
  have hd1 := hR.d1
  have hz := hR.size
  generalize P.getD k 0 = x at *
  obtain ⟨a, ha⟩ : ∃ a, a = k % d := ⟨_, rfl⟩
  rw [← ha] at hnx hm
  have ca : cs[o + 257]? = some (.int .i64 (a : Int)) := by rw [ha]; exact hR.at_
  have c0 : w.cell? ⟨r, o + 257, none⟩ = some (.int .i64 (a : Int)) := (hB.cell _).trans ca
  have f0 : w.frozen? ⟨r, o + a, none⟩ = false := hB.free _
  have l0 : (0 : Int) ≤ (a : Int) := by omega
  have l1 : (a : Int) < 256 := by omega
  obtain ⟨v, hv⟩ : ∃ v, w.cell? ⟨r, o + a, none⟩ = some v := by
    have := hR.last 0 hR.d0
    rw [Nat.add_zero, ← ha] at this
    exact ⟨_, (hB.cell _).trans this⟩
  have HB := Lib.hid hB
  have HD := Lib.hid hR.dist
  have HM := Lib.hid (And.intro hm (And.intro hd1 hz))
  have HNX := Lib.hid hnx
  have HA := Lib.hid ha
  clear hB hR hnx hm ha
  go_enter Try.func24, Try.ntmps24
  go_wp2_with fail
  go_region
  have hB1 : Blk (w.setCell ⟨r, o + a, none⟩ (.int .u8 (x.toNat : Int))).drew r T (cs.setIfInBounds (o + a) (.int .u8 (x.toNat : Int))) := HB.out.put _ _
  have hO1 : Only (fun i => i = r) w (w.setCell ⟨r, o + a, none⟩ (.int .u8 (x.toNat : Int))).drew := ((Only.refl (fun i => i = r) w).setCell (.inl rfl) _).drew
  have hsz : (cs.setIfInBounds (o + a) (Value.int .u8 (x.toNat : Int)))[o + 257]? = some (.int .i64 (a : Int)) := by
    rw [Array.getElem?_setIfInBounds, if_neg (by have := HM.out; omega)]
    exact ca
  have hsd : (cs.setIfInBounds (o + a) (Value.int .u8 (x.toNat : Int)))[o + 256]? = some (.int .i64 (d : Int)) := by
    rw [Array.getElem?_setIfInBounds, if_neg (by have := HM.out; omega)]
    exact HD.out
  clear c0 f0 hv
  generalize (w.setCell ⟨r, o + a, none⟩ (.int .u8 (x.toNat : Int))).drew = w1 at *
  have c1 : w1.cell? ⟨r, o + 257, none⟩ = some (.int .i64 (a : Int)) := (hB1.cell _).trans hsz
  have f1 : w1.frozen? ⟨r, o + 257, none⟩ = false := hB1.free _
  have e1 : IntKind.i64.wrap ((a : Int) + 1) = (a : Int) + 1 := IntWalk.i64_in _ (by have := HM.out; omega)
  have HB1 := Lib.hid hB1
  have HO1 := Lib.hid hO1
  clear hB1 hO1 HB
  go_upto_region 2 with fail
  have hB2 : Blk (w1.setCell ⟨r, o + 257, none⟩ (.int .i64 ((a : Int) + 1))) r T ((cs.setIfInBounds (o + a) (.int .u8 (x.toNat : Int))).setIfInBounds (o + 257) (.int .i64 ((a : Int) + 1))) := HB1.out.put _ _
  have hO2 : Only (fun i => i = r) w (w1.setCell ⟨r, o + 257, none⟩ (.int .i64 ((a : Int) + 1))) := HO1.out.setCell (.inl rfl) _
  have ha2 : ((cs.setIfInBounds (o + a) (Value.int .u8 (x.toNat : Int))).setIfInBounds (o + 257) (.int .i64 ((a : Int) + 1)))[o + 257]? = some (.int .i64 ((a : Int) + 1)) := by
    rw [Array.getElem?_setIfInBounds, if_pos rfl, if_pos (by rw [Array.size_setIfInBounds]; have := HM.out; omega)]
  have hd2 : ((cs.setIfInBounds (o + a) (Value.int .u8 (x.toNat : Int))).setIfInBounds (o + 257) (.int .i64 ((a : Int) + 1)))[o + 256]? = some (.int .i64 (d : Int)) := by
    rw [Array.getElem?_setIfInBounds, if_neg (by omega)]
    exact hsd
  have hpre : ∀ z : Value, ∀ j, j < o → ((cs.setIfInBounds (o + a) (Value.int .u8 (x.toNat : Int))).setIfInBounds (o + 257) z)[j]? = cs[j]? := fun y j hj => by
    rw [Array.getElem?_setIfInBounds, if_neg (by omega), Array.getElem?_setIfInBounds, if_neg (by omega)]
  have hset2 : ∀ z : Value, ((cs.setIfInBounds (o + a) (Value.int .u8 (x.toNat : Int))).setIfInBounds (o + 257) (.int .i64 ((a : Int) + 1))).setIfInBounds (o + 257) z = (cs.setIfInBounds (o + a) (Value.int .u8 (x.toNat : Int))).setIfInBounds (o + 257) z := fun z => by
    apply Array.ext_getElem?
    intro i
    simp only [Array.getElem?_setIfInBounds, Array.size_setIfInBounds]
    by_cases e : o + 257 = i
    · rw [if_pos e, if_pos e]
    · rw [if_neg e, if_neg e, if_neg e]
  clear c1 f1
  generalize w1.setCell ⟨r, o + 257, none⟩ (.int .i64 ((a : Int) + 1)) = w2 at *
  have c2 : w2.cell? ⟨r, o + 257, none⟩ = some (.int .i64 ((a : Int) + 1)) := (hB2.cell _).trans ha2
  have d2 : w2.cell? ⟨r, o + 256, none⟩ = some (.int .i64 (d : Int)) := (hB2.cell _).trans hd2
  have f2 : w2.frozen? ⟨r, o + 257, none⟩ = false := hB2.free _
  have HB2 := Lib.hid hB2
  have HO2 := Lib.hid hO2
  have HPRE := Lib.hid (And.intro hpre hset2)
  clear hB2 hO2 hpre HB1 HO1 ha2 hd2 hsz hsd ca hset2
  by_cases he : a + 1 = d
  · have hee : ((a : Int) + 1 == (d : Int)) = true := by simp; omega
    have HY := Lib.hid (show 0 = (k + 1) % d by rw [HNX.out, if_pos he])
    clear he
    go_wp2_with fail
    go_quiet (fail)
    go_wp2_with fail
    first | go_end0 | refine bodyPost_ret (results_none rfl _ _ _) rfl ?_
    refine ⟨rfl, _, (HB2.out.drewN _).put _ _, ?_, ?_, (HO2.out.drewN _).setCell (.inl rfl) _⟩
    · have := HR.out 0 HY.out
      rw [← HA.out] at this
      rw [HPRE.out.2]
      exact this
    · intro j hj
      rw [HPRE.out.2]
      exact HPRE.out.1 _ j hj
  · have hee : ((a : Int) + 1 == (d : Int)) = false := by simp; omega
    have HY := Lib.hid (show a + 1 = (k + 1) % d by rw [HNX.out, if_neg he])
    clear he
    go_wp2_with fail
    go_quiet (fail)
    go_wp2_with fail
    first | go_end0 | refine bodyPost_ret (results_none rfl _ _ _) rfl ?_
    refine ⟨rfl, _, HB2.out.drewN _, ?_, HPRE.out.1 _, HO2.out.drewN _⟩
    have := HR.out (a + 1) HY.out
    rw [← HA.out] at this
    exact this

set_option maxRecDepth 100000 in
set_option maxHeartbeats 2000000 in
theorem ddecode_any {y : UInt8} (hB : Blk w r T cs) (hR : RingC cs o d P k) (hk : k < P.length) (ho : o ≤ 1000) (hy : P.getD k 0 = y + aheadN P d k) :
    Calls Try.prog 22 #[.pointer (some ⟨r, o, none⟩), .int .u8 (y.toNat : Int)] w fun e w' => e = .returned (.int .u8 ((P.getD k 0).toNat : Int)) ∧ RingPost T w r o d P k cs w' := by
  have hm := Nat.mod_lt k hR.d0
  have hd1 := hR.d1
  obtain ⟨a, ha⟩ : ∃ a, a = k % d := ⟨_, rfl⟩
  rw [← ha] at hm
  have c0 : w.cell? ⟨r, o + 257, none⟩ = some (.int .i64 (a : Int)) := (hB.cell _).trans (by rw [ha]; exact hR.at_)
  have c1 : w.cell? ⟨r, o + a, none⟩ = some (.int .u8 ((aheadN P d k).toNat : Int)) := (hB.cell _).trans (by
    have := hR.last 0 hR.d0
    rw [Nat.add_zero, ← ha] at this
    exact this)
  have l0 : (0 : Int) ≤ (a : Int) := by omega
  have l1 : (a : Int) < 256 := by omega
  have KP := Lib.hid (fun n => dput_any (w := w.drewN n) (hB.drewN n) hR hk ho)
  have e1 : IntKind.u8.wrap ((y.toNat : Int) + ((aheadN P d k).toNat : Int)) = ((P.getD k 0).toNat : Int) := by
    rw [hy, ← du8_add]
    simp [IntKind.wrap, IntKind.bits, IntKind.signed]
  generalize P.getD k 0 = x at *
  generalize aheadN P d k = z at *
  clear hB hR hm ha hy hk hd1
  go_enter Try.func22, Try.ntmps22
  go_wp2_with fail
  go_quiet (fail)
  go_wp2_with fail
  refine (KP.out _).mono ?_
  rintro e w1 ⟨rfl, cs', h1, h2, h3, h4⟩
  have H := Lib.hid (And.intro h1 (And.intro h2 (And.intro h3 h4.of_drewN)))
  clear h1 h2 h3 h4
  go_wp2_with fail
  go_ret
  exact ⟨rfl, cs', H.out.1, H.out.2.1, H.out.2.2.1, H.out.2.2.2⟩
set_option maxRecDepth 100000 in
set_option maxHeartbeats 2000000 in
theorem dcode_any {y : UInt8} (hB : Blk w r T cs) (hR : RingC cs o d P k) (hk : k < P.length) (ho : o ≤ 1000) (hy : y = P.getD k 0 - aheadN P d k) :
    Calls Try.prog 21 #[.pointer (some ⟨r, o, none⟩), .int .u8 ((P.getD k 0).toNat : Int)] w fun e w' => e = .returned (.int .u8 (y.toNat : Int)) ∧ RingPost T w r o d P k cs w' := by
  have hm := Nat.mod_lt k hR.d0
  have hd1 := hR.d1
  obtain ⟨a, ha⟩ : ∃ a, a = k % d := ⟨_, rfl⟩
  rw [← ha] at hm
  have c0 : w.cell? ⟨r, o + 257, none⟩ = some (.int .i64 (a : Int)) := (hB.cell _).trans (by rw [ha]; exact hR.at_)
  have c1 : w.cell? ⟨r, o + a, none⟩ = some (.int .u8 ((aheadN P d k).toNat : Int)) := (hB.cell _).trans (by
    have := hR.last 0 hR.d0
    rw [Nat.add_zero, ← ha] at this
    exact this)
  have l0 : (0 : Int) ≤ (a : Int) := by omega
  have l1 : (a : Int) < 256 := by omega
  have KP := Lib.hid (fun n => dput_any (w := w.drewN n) (hB.drewN n) hR hk ho)
  have e1 : IntKind.u8.wrap (((P.getD k 0).toNat : Int) - ((aheadN P d k).toNat : Int)) = (y.toNat : Int) := by
    rw [hy, ← du8_sub]
    simp [IntKind.wrap, IntKind.bits, IntKind.signed]
  generalize P.getD k 0 = x at *
  generalize aheadN P d k = z at *
  clear hB hR hm ha hy hk hd1
  go_enter Try.func21, Try.ntmps21
  go_wp2_with fail
  go_quiet (fail)
  go_wp2_with fail
  refine (KP.out _).mono ?_
  rintro e w1 ⟨rfl, cs', h1, h2, h3, h4⟩
  have H := Lib.hid (And.intro h1 (And.intro h2 (And.intro h3 h4.of_drewN)))
  clear h1 h2 h3 h4
  go_wp2_with fail
  go_ret
  exact ⟨rfl, cs', H.out.1, H.out.2.1, H.out.2.2.1, H.out.2.2.2⟩
end
end Go.Proofs.Ytnmihkimkbiakaa
