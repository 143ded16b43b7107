/-
  PsAwake, PaWalk, Open: put together.
-/
import Derived.Test.YtpbjkiejegpbcaaMp11
import Derived.Lib.SlBytesConst
import Derived.Test.YtpbjkiejegpbcaaMp01
import Derived.Test.YtpbjkiejegpbcaaMp02
import Derived.ProofKit
import Derived.OpenShut
import Derived.ShutString
import Derived.ChangeOld
import Derived.Below
import Derived.Deep.Grids
set_option linter.unusedVariables false
set_option linter.unusedSimpArgs false
/-
  The laws' beginning.
-/
namespace Go.Proofs.Ytpbjkiejegpbcaa
open Go.RowKit

theorem below_p {w0 w1 w2 : World} {B : Nat} (h : Below B w0 w1) (hb : Below w1.heap.size w1 w2) (hB : B ≤ w0.heap.size) : Below B w0 w2 :=
  h.trans ⟨hb.os, hb.tape, hb.output, hb.size, fun i hi => hb.block i (by have := h.size; omega)⟩
theorem sl_marked (w : World) (e : TypeId) (cs : Array Value) (fr : Nat × Nat) : Sl (w.alloc (.cells cs e fr)) (some ⟨w.heap.size, 0, none⟩) cs.size cs.toList :=
  ⟨by simp, fun _ => ⟨w.heap.size, 0, rfl, by simp, fun j _ => by rw [Nat.zero_add, cell_of_row _ _ j cs e fr (heap_alloc_new w _)]; simp⟩⟩
theorem sl_four (w : World) (a b c d : UInt8) : Sl (w.alloc (.cells #[.int .u8 (a.toNat : Int), .int .u8 (b.toNat : Int), .int .u8 (c.toNat : Int), .int .u8 (d.toNat : Int)] 5 (4, 5))) (some ⟨w.heap.size, 0, none⟩) 4 (bv [a, b, c, d]) :=
  sl_marked w 5 #[.int .u8 (a.toNat : Int), .int .u8 (b.toNat : Int), .int .u8 (c.toNat : Int), .int .u8 (d.toNat : Int)] (4, 5)
theorem conv_four (w : World) (a b c d : Int) : (convert 22 22 (.slice (some ⟨w.heap.size, 0, none⟩) 4 4)).run Try.prog (w.alloc (.cells #[.int .u8 a, .int .u8 b, .int .u8 c, .int .u8 d] 5)) = .ok (.slice (some ⟨w.heap.size, 0, none⟩) 4 4) (w.alloc (.cells #[.int .u8 a, .int .u8 b, .int .u8 c, .int .u8 d] 5 (4, 5))) :=
  Go.Lib.run_convert_bytes_const w 22 5 #[.int .u8 a, .int .u8 b, .int .u8 c, .int .u8 d] 4 4 Try.underlying22 Try.underlying5
theorem pkts_two (w : World) (p q : Pq) (t : TypeId) : Pkts (w.alloc (.cells #[.int .i64 p.k, .int .u8 p.a, .int .i64 p.n, .int .u32 p.v, .int .i64 q.k, .int .u8 q.a, .int .i64 q.n, .int .u32 q.v] t)) (some ⟨w.heap.size, 0, none⟩) 2 (fun i => [p, q].getD i ⟨0, 0, 0, 0⟩) := by
  intro _
  have h := Blk.fresh w t #[.int .i64 p.k, .int .u8 p.a, .int .i64 p.n, .int .u32 p.v, .int .i64 q.k, .int .u8 q.a, .int .i64 q.n, .int .u32 q.v]
  refine ⟨w.heap.size, 0, rfl, h.lt, fun i hi => ?_⟩
  match i, hi with
  | 0, _ => exact ⟨h.cell 0, h.cell 1, h.cell 2, h.cell 3⟩
  | 1, _ => exact ⟨h.cell 4, h.cell 5, h.cell 6, h.cell 7⟩
/-- four bytes are found -/
theorem find_four {w : World} {a b c d : UInt8} {L : List Pq} {s : Ps} (hf : findF [a, b, c, d] 4096 4 ⟨0, 0, 0, 0, 0⟩ = (L, s)) :
    Calls Try.prog 8 #[.slice (some ⟨w.heap.size, 0, none⟩) 4 4, .int .i64 0, .int .i64 4, .int .i64 4096, .agg #[.int .u32 0, .int .u32 0, .int .u32 0, .int .u32 0]] (w.alloc (.cells #[.int .u8 (a.toNat : Int), .int .u8 (b.toNat : Int), .int .u8 (c.toNat : Int), .int .u8 (d.toNat : Int)] 5 (4, 5))) fun x w' =>
      Below w.heap.size w w' ∧ ∃ (R : Option Addr) (cl : Nat), x = .returned (.tuple #[.slice R L.length cl, .agg #[.int .u32 (s.r0 : Int), .int .u32 (s.r1 : Int), .int .u32 (s.r2 : Int), .int .u32 (s.r3 : Int)]]) ∧ Pkts w' R L.length (fun i => L.getD i ⟨0, 0, 0, 0⟩) := by
  refine (pfind_any (fi := 0) (ti := 4) (di := 4096) (r0 := 0) (r1 := 0) (r2 := 0) (r3 := 0) (sl_four w a b c d) (by decide) (Nat.le_refl 4) (by unfold maxLen; omega) (by decide) (by decide) ⟨by decide, by decide, by decide, by decide⟩).mono ?_
  rintro x w' ⟨hb, L', s', R, cl, hf', _, _, rfl, hrow⟩
  have hf' : findF [a, b, c, d] 4096 4 ⟨0, 0, 0, 0, 0⟩ = (L', s') := hf'
  rw [hf] at hf'
  injection hf' with e1 e2
  subst e1 e2
  exact ⟨((Below.refl _ w).alloc (Nat.le_refl _) _).trans (hb.mono (by simp)), R, cl, rfl, (pkts_row hrow).2⟩

set_option maxRecDepth 100000 in
set_option maxHeartbeats 4000000 in
theorem awake10_any (w : World) : Calls Try.prog 7 #[] w fun e w' => e = .returned (.bool true) ∧ Below w.heap.size w w' := by
  have hcv := conv_four w 97 97 97 97
  have K1 := Lib.hid (show Calls Try.prog 8 #[.slice (some ⟨w.heap.size, 0, none⟩) 4 4, .int .i64 0, .int .i64 4, .int .i64 4096, .agg #[.int .u32 0, .int .u32 0, .int .u32 0, .int .u32 0]] (w.alloc (.cells #[.int .u8 97, .int .u8 97, .int .u8 97, .int .u8 97] 5 (4, 5))) (fun x w' =>
      Below w.heap.size w w' ∧ ∃ (R : Option Addr) (cl : Nat), x = .returned (.tuple #[.slice R 2 cl, .agg #[.int .u32 0, .int .u32 0, .int .u32 0, .int .u32 0]]) ∧ Pkts w' R 2 (fun i => [(⟨0, 97, 0, 0⟩ : Pq), ⟨2, 0, 3, 0⟩].getD i ⟨0, 0, 0, 0⟩)) from find_four (w := w) (a := 97) (b := 97) (c := 97) (d := 97) awk_aaaa)
  go_enter Try.func7, Try.ntmps7
  go_wp2_with fail
  refine K1.out.mono ?_
  clear hcv
  rintro x w2 ⟨hb2, R1, c1, rfl, hP1⟩
  have HB2 := Lib.hid hb2
  have HP1 := Lib.hid hP1
  clear K1 hb2 hP1
  go_upto_region 2 with fail
  have HP3 := Lib.hid (Pkts.below HP1.out ((Below.refl _ w2).alloc (Nat.le_refl _) (.cells #[.int .u32 0, .int .u32 0, .int .u32 0, .int .u32 0] 24)))
  have HB3 := Lib.hid (HB2.out.alloc HB2.out.size (.cells #[.int .u32 0, .int .u32 0, .int .u32 0, .int .u32 0] 24))
  clear HP1 HB2
  generalize w2.alloc (.cells #[.int .u32 0, .int .u32 0, .int .u32 0, .int .u32 0] 24) = w3 at *
  generalize w2.heap.size = y1 at *
  have hcv := conv_four w3 97 98 97 98
  have K2 := Lib.hid (show Calls Try.prog 8 #[.slice (some ⟨w3.heap.size, 0, none⟩) 4 4, .int .i64 0, .int .i64 4, .int .i64 4096, .agg #[.int .u32 0, .int .u32 0, .int .u32 0, .int .u32 0]] (w3.alloc (.cells #[.int .u8 97, .int .u8 98, .int .u8 97, .int .u8 98] 5 (4, 5))) (fun x w' =>
      Below w3.heap.size w3 w' ∧ ∃ (R : Option Addr) (cl : Nat), x = .returned (.tuple #[.slice R 3 cl, .agg #[.int .u32 1, .int .u32 0, .int .u32 0, .int .u32 0]]) ∧ Pkts w' R 3 (fun i => [(⟨0, 97, 0, 0⟩ : Pq), ⟨0, 98, 0, 0⟩, ⟨1, 0, 2, 1⟩].getD i ⟨0, 0, 0, 0⟩)) from find_four (w := w3) (a := 97) (b := 98) (c := 97) (d := 98) awk_abab)
  go_wp2_with fail
  refine K2.out.mono ?_
  rintro x w4 ⟨hb4, R2, c2, rfl, hP2⟩
  have HP14 := Lib.hid (Pkts.below HP3.out hb4)
  have HB4 := Lib.hid (below_p HB3.out hb4 (Nat.le_refl _))
  have HP2 := Lib.hid hP2
  clear K2 hb4 hP2 HP3 HB3 hcv
  go_upto_region 3 with fail
  have hq := Blk.fresh w4 24 #[.int .u32 1, .int .u32 0, .int .u32 0, .int .u32 0]
  have HP15 := Lib.hid (Pkts.below HP14.out ((Below.refl _ w4).alloc (Nat.le_refl _) (.cells #[.int .u32 1, .int .u32 0, .int .u32 0, .int .u32 0] 24)))
  have HP25 := Lib.hid (Pkts.below HP2.out ((Below.refl _ w4).alloc (Nat.le_refl _) (.cells #[.int .u32 1, .int .u32 0, .int .u32 0, .int .u32 0] 24)))
  have HB5 := Lib.hid (HB4.out.alloc HB4.out.size (.cells #[.int .u32 1, .int .u32 0, .int .u32 0, .int .u32 0] 24))
  clear HP14 HP2 HB4
  generalize w4.alloc (.cells #[.int .u32 1, .int .u32 0, .int .u32 0, .int .u32 0] 24) = w5 at *
  generalize w4.heap.size = y2 at *
  have KS := Lib.hid (show Calls Try.prog 10 #[.slice R1 2 c1, .slice (some ⟨w5.heap.size, 0, none⟩) 2 2] (w5.alloc (.cells #[.int .i64 0, .int .u8 97, .int .i64 0, .int .u32 0, .int .i64 2, .int .u8 0, .int .i64 3, .int .u32 0] 44)) (fun e w' => e = .returned (.bool true) ∧ ∃ d, (w5.alloc (.cells #[.int .i64 0, .int .u8 97, .int .i64 0, .int .u32 0, .int .i64 2, .int .u8 0, .int .i64 3, .int .u32 0] 44)).drewN d = w') from
    rsame_any (HP15.out.below ((Below.refl _ w5).alloc (Nat.le_refl _) _)) (pkts_two w5 ⟨0, 97, 0, 0⟩ ⟨2, 0, 3, 0⟩ _) (by decide))
  have HO6 := Lib.hid ((Below.refl _ w5).alloc (Nat.le_refl _) (.cells #[.int .i64 0, .int .u8 97, .int .i64 0, .int .u32 0, .int .i64 2, .int .u8 0, .int .i64 3, .int .u32 0] 44))
  have HQ := Lib.hid hq
  clear hq
  go_wp2_with fail
  refine KS.out.mono ?_
  rintro x w6 ⟨rfl, d, rfl⟩
  have hB6 := below_drewN HO6.out d
  have hq6 := HQ.out.below hB6
  have HB6 := Lib.hid (below_p HB5.out hB6 (Nat.le_refl _))
  obtain ⟨b2, o2, rfl, _, hc2⟩ := HP25.out.below hB6 (by decide)
  obtain ⟨l0, l1, l2, l3⟩ := hc2 2 (by decide)
  generalize (w5.alloc (.cells #[.int .i64 0, .int .u8 97, .int .i64 0, .int .u32 0, .int .i64 2, .int .u8 0, .int .i64 3, .int .u32 0] 44)).drewN d = w7 at *
  have l0 : w7.cell? ⟨b2, o2 + 8, none⟩ = some (.int .i64 1) := l0
  have l1 : w7.cell? ⟨b2, o2 + 8 + 1, none⟩ = some (.int .u8 0) := l1
  have l2 : w7.cell? ⟨b2, o2 + 8 + 2, none⟩ = some (.int .i64 2) := l2
  have l3 : w7.cell? ⟨b2, o2 + 8 + 3, none⟩ = some (.int .u32 1) := l3
  have heq : ∀ W : World, (binOp .eql 24 (.agg #[.int .u32 1, .int .u32 0, .int .u32 0, .int .u32 0]) (.agg #[.int .u32 1, .int .u32 0, .int .u32 0, .int .u32 0])).run Try.prog W = .ok (.bool true) W := fun _ => by kernel_rfl
  have q0 : w7.cell? ⟨y2, 0, none⟩ = some (.int .u32 1) := hq6.cell 0
  have q1 : w7.cell? ⟨y2, 1, none⟩ = some (.int .u32 0) := hq6.cell 1
  have q2 : w7.cell? ⟨y2, 2, none⟩ = some (.int .u32 0) := hq6.cell 2
  have q3 : w7.cell? ⟨y2, 3, none⟩ = some (.int .u32 0) := hq6.cell 3
  clear KS hB6 hq6 hc2 HP25 HP15 HQ HO6 HB5
  go_wp2_with fail
  go_ret
  exact ⟨rfl, HB6.out⟩
end Go.Proofs.Ytpbjkiejegpbcaa

/-
  The law ParseAlone: its walk.
-/
namespace Go.Proofs.Ytpbjkiejegpbcaa
open Go.RowKit

theorem seen_zero : Try.zeroCells49 = (List.replicate 256 (Value.bool false)).toArray := by kernel_rfl
theorem rep_get {N v : Nat} (x : Value) (h : v < N) : ((List.replicate N x).toArray)[v]? = some x := by simp [h]
def seenB (bs : List UInt8) (j v : Nat) : Bool := (List.range j).any fun i => (bs.getD i 0).toNat == v
theorem seenB_succ (bs : List UInt8) (j v : Nat) : seenB bs (j + 1) v = (seenB bs j v || ((bs.getD j 0).toNat == v)) := by
  unfold seenB
  rw [List.range_succ, List.any_append]
  simp
/-- what was seen -/
structure Seen (w : World) (q : Nat) (bs : List UInt8) (j : Nat) (cs : Array Value) : Prop where
  b : Blk w q 49 cs
  z : cs.size = 256
  c : ∀ v, v < 256 → cs[v]? = some (.bool (seenB bs j v))
  a : Apart bs j
theorem Seen.succ {w : World} {q j : Nat} {bs : List UInt8} {cs : Array Value} (h : Seen w q bs j cs) (hs : seenB bs j (bs.getD j 0).toNat = false) : Seen (w.setCell ⟨q, (bs.getD j 0).toNat, none⟩ (.bool true)) q bs (j + 1) (cs.setIfInBounds (bs.getD j 0).toNat (.bool true)) := by
  have hx := (bs.getD j 0).toNat_lt
  refine ⟨h.b.put _ _, by rw [Array.size_setIfInBounds]; exact h.z, fun v hv => ?_, fun i k hik hk => ?_⟩
  · rw [Array.getElem?_setIfInBounds, seenB_succ]
    by_cases e : (bs.getD j 0).toNat = v
    · rw [if_pos e, if_pos (by rw [h.z]; exact hx), show ((bs.getD j 0).toNat == v) = true from beq_iff_eq.2 e, Bool.or_true]
    · rw [if_neg e, h.c v hv, show ((bs.getD j 0).toNat == v) = false from beq_eq_false_iff_ne.2 e, Bool.or_false]
  · by_cases e : k = j
    · subst e
      intro e2
      have : seenB bs k (bs.getD k 0).toNat = true := by
        unfold seenB
        rw [List.any_eq_true]
        exact ⟨i, List.mem_range.2 hik, by rw [e2]; simp⟩
      rw [hs] at this
      cases this
    · exact h.a i k hik (by omega)
theorem litA_get {bs : List UInt8} {n j : Nat} (h : j < n) : ((List.range n).map (litA bs)).getD j ⟨0, 0, 0, 0⟩ = litA bs j := by
  simp [List.getD_eq_getElem?_getD, h]

set_option maxRecDepth 100000 in
set_option maxHeartbeats 8000000 in
theorem parseAlone_walk {A : Option Addr} {n c : Nat} {bs : List UInt8} {w : World} (hS : Sl w A n (bv bs)) (hnc : n ≤ c) (hc : c ≤ maxLen) :
    Calls Try.prog 6 #[.slice A n c] w fun e w' => e = .returned (.bool true) ∧ Below w.heap.size w w' := by
  have HS := Lib.hid hS
  have HN := Lib.hid (show n ≤ c ∧ c ≤ maxLen ∧ bs.length = n from ⟨hnc, hc, by rw [← bv_length]; exact hS.1⟩)
  have KA := Lib.hid (awake10_any w)
  clear hS hnc hc
  go_enter Try.func6, Try.ntmps6
  go_wp2_with fail
  refine KA.out.mono ?_
  rintro x w1 ⟨rfl, hb1⟩
  have HB1 := Lib.hid hb1
  clear KA hb1
  go_upto_region 4 with fail
  have hB0 := Blk.fresh w1 49 Try.zeroCells49
  have hbel : Below w.heap.size w (w1.alloc (.cells Try.zeroCells49 49)) := HB1.out.alloc HB1.out.size _
  have HQW := Lib.hid (show w.heap.size ≤ w1.heap.size from HB1.out.size)
  clear HB1
  generalize w1.alloc (.cells Try.zeroCells49 49) = w2 at *
  generalize w1.heap.size = q at *
  have HB2 := Lib.hid hbel
  have HSE := Lib.hid (show Seen w2 q bs 0 Try.zeroCells49 from ⟨hB0, by rw [seen_zero]; simp, fun v hv => by rw [seen_zero]; exact rep_get _ hv, fun i k hik hk => absurd hk (Nat.not_lt_zero k)⟩)
  clear hB0 hbel
  go_wp2_with fail
  go_loopw [4] (fun v wr => ∃ (j : Nat) (cs : Array Value), j ≤ n ∧ v = .int .i64 (j : Int) ∧ Seen wr q bs j cs ∧ Below w.heap.size w wr) (fun v _ => n - (intOf v).toNat)
  case atStart => exact ⟨0, _, Nat.zero_le _, rfl, HSE.out, HB2.out⟩
  case round =>
    clear HSE HB2
    obtain ⟨j, cs, hj, rfl, hse, hb⟩ := hrel
    have HSE := Lib.hid hse
    have HB := Lib.hid hb
    have hS := HS.out.below hb
    by_cases hlt : j < n
    · obtain ⟨ba, oa, rfl, hba, hca⟩ := hS.2 (by omega)
      have k1' : wr.cell? ⟨ba, oa + j, none⟩ = some (.int .u8 ((bs.getD j 0).toNat : Int)) := by rw [hca j hlt, bv_get bs _ (by have := HN.out; omega)]
      have hx := (bs.getD j 0).toNat_lt
      have k2' : wr.cell? ⟨q, (bs.getD j 0).toNat, none⟩ = some (.bool (seenB bs j (bs.getD j 0).toNat)) := (hse.b.cell _).trans (hse.c _ hx)
      have kf := hse.b.free (bs.getD j 0).toNat
      have HNX := Lib.hid (fun h => hse.succ h)
      have HLT := Lib.hid hlt
      have i0 : (0 : Int) ≤ (j : Int) := by omega
      have i1 : (j : Int) < (n : Int) := by omega
      have e1 : IntKind.i64.wrap ((j : Int) + 1) = (j : Int) + 1 := IntWalk.i64_in _ (by have := HN.out; unfold maxLen at this; omega)
      obtain ⟨sv, hsv⟩ : ∃ sv, sv = seenB bs j (bs.getD j 0).toNat := ⟨_, rfl⟩
      rw [← hsv] at k2' HNX
      generalize hy : (bs.getD j 0).toNat = y at *
      have b0 : (0 : Int) ≤ (y : Int) := by omega
      have b1 : (y : Int) < 256 := by omega
      clear hca hba hS hse hb hj hlt hsv hx hy
      cases sv with
      | true =>
        go_wp2_with fail
        go_ret
        exact ⟨rfl, HB.out⟩
      | false =>
        have HN2 := Lib.hid (HNX.out rfl)
        have HB2 := Lib.hid (show Below w.heap.size w (wr.setCell ⟨q, y, none⟩ (.bool true)) from HB.out.trans (((Only.refl (fun i => i = q) wr).setCell (p := ⟨q, y, none⟩) (.inl rfl) (.bool true)).below HB.out.size (by rintro i rfl; exact HQW.out)))
        clear HNX
        go_wp2_with fail
        go_roundw
        case rel => exact ⟨j + 1, _, by have := HLT.out; omega, by go_num, HN2.out, HB2.out⟩
        case measure => have := HLT.out; simp [intOf]; omega
    · obtain rfl : j = n := by omega
      have hap := hse.a
      have hn := apart_le hap
      have KF := pfind_any (fi := 0) (ti := (j : Int)) (di := 1048576) (r0 := 0) (r1 := 0) (r2 := 0) (r3 := 0) hS (by omega) HN.out.1 HN.out.2.1 (by decide) (by decide) ⟨by decide, by decide, by decide, by decide⟩
      have hF : fromN j 0 = 0 := by unfold fromN; omega
      have hT : toN j 0 (j : Int) = j := by unfold toN; omega
      rw [hF, hT] at KF
      have KF := Lib.hid KF
      have HAP := Lib.hid (And.intro hap hn)
      have HSL := Lib.hid hS
      clear hj hse hb hS hlt hap hn hF hT HSE
      go_wp2_with fail
      refine KF.out.mono ?_
      rintro x w5 ⟨hb5, L, s', R, cl, hf, _, _, rfl, hrow⟩
      rw [find_apart HAP.out.1] at hf
      injection hf with e1 e2
      have hlen : L.length = j := by rw [← e1]; simp
      have hpk := (pkts_row hrow).2
      rw [hlen] at hpk ⊢
      have hq : s'.r0 = 0 ∧ s'.r1 = 0 ∧ s'.r2 = 0 ∧ s'.r3 = 0 := by rw [← e2]; exact ⟨rfl, rfl, rfl, rfl⟩
      rw [hq.1, hq.2.1, hq.2.2.1, hq.2.2.2]
      have hg : ∀ i, i < j → L.getD i ⟨0, 0, 0, 0⟩ = litA bs i := fun i hi => by rw [← e1]; exact litA_get hi
      have HG := Lib.hid hg
      have hb5' : Below w.heap.size w w5 := below_p HB.out hb5 (Nat.le_refl _)
      have HB5 := Lib.hid hb5'
      have HPK := Lib.hid hpk
      have HS5 := Lib.hid (HSL.out.below hb5)
      clear KF e1 e2 hlen hpk hq hg hrow hb5 hb5' HSL HB
      go_upto_region 11 with fail
      have HPK6 := Lib.hid (HPK.out.below ((Below.refl _ w5).alloc (Nat.le_refl _) (.cells #[.int .u32 0, .int .u32 0, .int .u32 0, .int .u32 0] 24)))
      have HS6 := Lib.hid (HS5.out.below ((Below.refl _ w5).alloc (Nat.le_refl _) (.cells #[.int .u32 0, .int .u32 0, .int .u32 0, .int .u32 0] 24)))
      have HB6 := Lib.hid (HB5.out.alloc HB5.out.size (.cells #[.int .u32 0, .int .u32 0, .int .u32 0, .int .u32 0] 24))
      have hq := Blk.fresh w5 24 #[.int .u32 0, .int .u32 0, .int .u32 0, .int .u32 0]
      clear HPK HS5 HB5
      generalize w5.alloc (.cells #[.int .u32 0, .int .u32 0, .int .u32 0, .int .u32 0] 24) = w6 at *
      generalize w5.heap.size = y at *
      have q0 : w6.cell? ⟨y, 0, none⟩ = some (.int .u32 0) := hq.cell 0
      have q1 : w6.cell? ⟨y, 1, none⟩ = some (.int .u32 0) := hq.cell 1
      have q2 : w6.cell? ⟨y, 2, none⟩ = some (.int .u32 0) := hq.cell 2
      have q3 : w6.cell? ⟨y, 3, none⟩ = some (.int .u32 0) := hq.cell 3
      have hne : ∀ W : World, (binOp .neq 24 (.agg #[.int .u32 0, .int .u32 0, .int .u32 0, .int .u32 0]) (.agg #[.int .u32 0, .int .u32 0, .int .u32 0, .int .u32 0])).run Try.prog W = .ok (.bool false) W := fun _ => by kernel_rfl
      clear hq
      go_wp2_with fail
      clear q0 q1 q2 q3 hne
      go_loopw [7] (fun v wr => ∃ i k : Nat, i ≤ j ∧ v = .int .i64 (i : Int) ∧ wr = w6.drewN k) (fun v _ => j - (intOf v).toNat)
      case atStart => exact ⟨0, 0, Nat.zero_le _, rfl, rfl⟩
      case round =>
        obtain ⟨i, k, hi, rfl, rfl⟩ := hrel
        by_cases hlt : i < j
        · obtain ⟨ba, oa, rfl, hba, hca⟩ := HS6.out.2 (by omega)
          obtain ⟨bb, ob, rfl, hbb, hcb⟩ := HPK6.out (by omega)
          have k1' : w6.cell? ⟨ba, oa + i, none⟩ = some (.int .u8 ((bs.getD i 0).toNat : Int)) := by rw [hca i hlt, bv_get bs _ (by have := HN.out; omega)]
          obtain ⟨l0, l1, l2, l3⟩ := hcb i hlt
          simp only [HG.out i hlt] at l0 l1 l2 l3
          have m0 : w6.cell? ⟨bb, ob + i * 4, none⟩ = some (.int .i64 0) := l0
          have m1 : w6.cell? ⟨bb, ob + i * 4 + 1, none⟩ = some (.int .u8 ((bs.getD i 0).toNat : Int)) := l1
          have m2 : w6.cell? ⟨bb, ob + i * 4 + 2, none⟩ = some (.int .i64 0) := l2
          have m3 : w6.cell? ⟨bb, ob + i * 4 + 3, none⟩ = some (.int .u32 0) := l3
          clear l0 l1 l2 l3
          generalize bs.getD i 0 = x at *
          have i0 : (0 : Int) ≤ (i : Int) := by omega
          have i1 : (i : Int) < (j : Int) := by omega
          have e1 : IntKind.i64.wrap ((i : Int) + 1) = (i : Int) + 1 := IntWalk.i64_in _ (by have := HAP.out.2; omega)
          have HLT := Lib.hid hlt
          have hne : ∀ W : World, (binOp .neq 44 (.agg #[.int .i64 0, .int .u8 (x.toNat : Int), .int .i64 0, .int .u32 0]) (.agg #[.int .i64 0, .int .u8 (x.toNat : Int), .int .i64 0, .int .u32 0])).run Try.prog W = .ok (.bool false) W := fun W => by go_simp
          clear hca hba hcb hbb hlt hi
          go_wp2_with fail
          go_region
          all_goals
            go_wp2_with fail
            go_roundw
            case rel => exact ⟨i + 1, k + 1, by have := HLT.out; omega, by go_num, rfl⟩
            case measure => have := HLT.out; simp [intOf]; omega
        · obtain rfl : i = j := by omega
          clear hlt hi
          go_wp2_with fail
          go_ret
          exact ⟨rfl, below_drewN HB6.out k⟩
end Go.Proofs.Ytpbjkiejegpbcaa

/-
  What comes in, opened: bytes, flags and numbers of 64 bits, as slices that read as lists.
-/
namespace Go.Proofs.Ytpbjkiejegpbcaa
open Go.ChangeShapes Go.WideShapes Go.ChangeAt Go.RowKit

theorem sl_row {w : World} {a : Addr} {len : Nat} {xs : List Value} (hl : len ≤ xs.length) (hcell : ∀ i, i < xs.length → w.cell? (a.add i) = xs[i]?) : Sl w (some a) len (xs.take len) := by
  refine ⟨by rw [List.length_take]; omega, fun hn => ?_⟩
  have h0 := hcell 0 (by omega)
  rw [List.getElem?_eq_getElem (by omega)] at h0
  have hs := World.cell?_spot h0
  have ha : a.add 0 = a := by simp [Addr.add]
  rw [ha] at hs h0
  have hb := World.block_lt_of_cell? _ _ h0
  obtain ⟨b, o, s⟩ := a
  simp only at hs hb
  subst hs
  refine ⟨b, o, rfl, hb, fun j hj => ?_⟩
  rw [List.getElem?_take_of_lt hj, ← hcell j (by omega)]
  unfold Addr.add
  by_cases h : j = 0
  · subst h; simp
  · simp [h]

/-- bytes out of numbers that are bytes -/
def toBytes (zs : List Int) : List UInt8 := zs.map fun z => UInt8.ofNat z.toNat
theorem bv_toBytes {zs : List Int} (h : ∀ n ∈ zs, (Lit.int .u8 n).wf = true) : bv (toBytes zs) = zs.map (Value.int .u8) := by
  induction zs with
  | nil => rfl
  | cons z r ih =>
    have hz := bounds_u8 (h z (by simp))
    have hr := ih (fun n hn => h n (by simp [hn]))
    simp only [bv, toBytes, List.map_cons, List.cons.injEq]
    refine ⟨?_, hr⟩
    congr 1
    rw [UInt8.toNat_ofNat']
    omega

section
variable {H : Type} {enc : TypeId × Value → H} {P : Program} {w : World} {held : Bool}
theorem open_bytes {t e : TypeId} (ht : P.underlying t = some (.slice e)) (he : P.underlying e = some (.int .u8)) (hc : P.cellsOf e = 1)
    {A : Option Addr} {len cap : Nat} {d : DataW H} {ps : List MemPlace} (h : DataW.Trod enc P w 0 (fun _ => true) held t (.slice A len cap) d ps) :
    ∃ bs : List UInt8, Sl w A len (bv bs) ∧ len ≤ cap ∧ cap ≤ maxLen := by
  obtain ⟨fuel, hf⟩ := h
  rcases open_ints ht he hc hf with ⟨hcs, _⟩ | ⟨x, l, c, zs, hcs, _, hl, hm, hz, _, hcell, hwz⟩
  · simp [Value.cells] at hcs
    obtain ⟨rfl, rfl, rfl⟩ := hcs
    exact ⟨[], Sl.nil, Nat.le_refl _, by unfold maxLen; omega⟩
  · simp [Value.cells] at hcs
    obtain ⟨rfl, rfl, rfl⟩ := hcs
    simp only [if_true] at hz
    refine ⟨toBytes (zs.take len), ?_, hl, hm⟩
    rw [bv_toBytes (fun n hn => hwz n (List.mem_of_mem_take hn)), List.map_take]
    refine sl_row (xs := zs.map (Value.int .u8)) (by rw [List.length_map, hz]; exact hl) (fun i hi => ?_)
    simp only [List.length_map] at hi
    rw [hcell i hi]
    simp [List.getD, hi]
end
end Go.Proofs.Ytpbjkiejegpbcaa
