/-
  PsSame, PsAwk, PsAwake, PtEq, Be, BytN, PsFindsW: put together.
-/
import Derived.Test.YtjganponepafpaaR04
import Derived.Test.YtjganponepafpaaR01
import Derived.Lib.SlBytesConst
import Derived.Laws.StructEq
import Derived.Deep.AppendLies
import Derived.LoopTactic
import Derived.Test.YtjganponepafpaaR05
import Derived.BigQuiet
set_option linter.unusedVariables false
set_option linter.unusedSimpArgs false
/-
  The same packets.
-/
namespace Go.Proofs.Ytjganponepafpaa
open Go.RowKit
set_option maxRecDepth 100000 in
set_option maxHeartbeats 2000000 in
theorem rsame_any {A B : Option Addr} {n ca cb : Nat} {q : Nat → Pq} {w : World} (hA : Pkts w A n q) (hB : Pkts w B n q) (hn : n ≤ 1000000000) :
    Calls Try.prog 8 #[.slice A n ca, .slice B n cb] w fun e w' => e = .returned (.bool true) ∧ ∃ d, w.drewN d = w' := by
  have HA := Lib.hid hA
  have HB := Lib.hid hB
  have HN := Lib.hid hn
  clear hA hB hn
  go_enter Try.func8, Try.ntmps8
  go_wp2_with fail
  go_loopw [5] (fun i wr => ∃ j k : Nat, j ≤ n ∧ i = .int .i64 (j : Int) ∧ wr = w.drewN k) (fun i _ => n - (intOf i).toNat)
  case atStart => exact ⟨0, 0, Nat.zero_le _, rfl, rfl⟩
  case round =>
    obtain ⟨j, k, hj, rfl, rfl⟩ := hrel
    by_cases hlt : j < n
    · obtain ⟨ba, oa, rfl, hba, hca⟩ := HA.out (by omega)
      obtain ⟨bb, ob, rfl, hbb, hcb⟩ := HB.out (by omega)
      obtain ⟨a0, a1, a2, a3⟩ := hca j hlt
      obtain ⟨b0, b1, b2, b3⟩ := hcb j hlt
      generalize q j = x at *
      have i0 : (0 : Int) ≤ (j : Int) := by omega
      have i1 : (j : Int) < (n : Int) := by omega
      have e1 : IntKind.i64.wrap ((j : Int) + 1) = (j : Int) + 1 := IntWalk.i64_in _ (by have := HN.out; omega)
      clear hca hcb
      go_wp2_with fail
      go_quiet (fail)
      go_wp2_with fail
      go_roundw
      case rel => exact ⟨j + 1, k + nq, by omega, by go_num, rfl⟩
      case measure => simp [intOf]; omega
    · obtain rfl : j = n := by omega
      go_wp2_with fail
      go_ret
      exact ⟨rfl, _, rfl⟩
end Go.Proofs.Ytjganponepafpaa

/-
  The laws' beginning: numbers.
-/
namespace Go.Proofs.Ytjganponepafpaa
theorem awk_aaaa : findF [97, 97, 97, 97] 4096 4 ⟨0, 0, 0, 0, 0⟩ = ([⟨0, 97, 0, 0⟩, ⟨2, 0, 3, 0⟩], ⟨4, 0, 0, 0, 0⟩) := by rfl
theorem awk_abab : findF [97, 98, 97, 98] 4096 4 ⟨0, 0, 0, 0, 0⟩ = ([⟨0, 97, 0, 0⟩, ⟨0, 98, 0, 0⟩, ⟨1, 0, 2, 1⟩], ⟨4, 1, 0, 0, 0⟩) := by rfl
end Go.Proofs.Ytjganponepafpaa

/-
  The laws' beginning.
-/
namespace Go.Proofs.Ytjganponepafpaa
open Go.RowKit

theorem below_p {w0 w1 w2 : World} {B : Nat} (h : Below B w0 w1) (hb : Below w1.heap.size w1 w2) (hB : B ≤ w0.heap.size) : Below B w0 w2 :=
  h.trans ⟨hb.os, hb.tape, hb.output, hb.size, fun i hi => hb.block i (by have := h.size; omega)⟩
theorem sl_marked (w : World) (e : TypeId) (cs : Array Value) (fr : Nat × Nat) : Sl (w.alloc (.cells cs e fr)) (some ⟨w.heap.size, 0, none⟩) cs.size cs.toList :=
  ⟨by simp, fun _ => ⟨w.heap.size, 0, rfl, by simp, fun j _ => by rw [Nat.zero_add, cell_of_row _ _ j cs e fr (heap_alloc_new w _)]; simp⟩⟩
theorem sl_four (w : World) (a b c d : UInt8) : Sl (w.alloc (.cells #[.int .u8 (a.toNat : Int), .int .u8 (b.toNat : Int), .int .u8 (c.toNat : Int), .int .u8 (d.toNat : Int)] 5 (4, 5))) (some ⟨w.heap.size, 0, none⟩) 4 (bv [a, b, c, d]) :=
  sl_marked w 5 #[.int .u8 (a.toNat : Int), .int .u8 (b.toNat : Int), .int .u8 (c.toNat : Int), .int .u8 (d.toNat : Int)] (4, 5)
theorem conv_four (w : World) (a b c d : Int) : (convert 22 22 (.slice (some ⟨w.heap.size, 0, none⟩) 4 4)).run Try.prog (w.alloc (.cells #[.int .u8 a, .int .u8 b, .int .u8 c, .int .u8 d] 5)) = .ok (.slice (some ⟨w.heap.size, 0, none⟩) 4 4) (w.alloc (.cells #[.int .u8 a, .int .u8 b, .int .u8 c, .int .u8 d] 5 (4, 5))) :=
  Go.Lib.run_convert_bytes_const w 22 5 #[.int .u8 a, .int .u8 b, .int .u8 c, .int .u8 d] 4 4 Try.underlying22 Try.underlying5
theorem pkts_two (w : World) (p q : Pq) (t : TypeId) : Pkts (w.alloc (.cells #[.int .i64 p.k, .int .u8 p.a, .int .i64 p.n, .int .u32 p.v, .int .i64 q.k, .int .u8 q.a, .int .i64 q.n, .int .u32 q.v] t)) (some ⟨w.heap.size, 0, none⟩) 2 (fun i => [p, q].getD i ⟨0, 0, 0, 0⟩) := by
  intro _
  have h := Blk.fresh w t #[.int .i64 p.k, .int .u8 p.a, .int .i64 p.n, .int .u32 p.v, .int .i64 q.k, .int .u8 q.a, .int .i64 q.n, .int .u32 q.v]
  refine ⟨w.heap.size, 0, rfl, h.lt, fun i hi => ?_⟩
  match i, hi with
  | 0, _ => exact ⟨h.cell 0, h.cell 1, h.cell 2, h.cell 3⟩
  | 1, _ => exact ⟨h.cell 4, h.cell 5, h.cell 6, h.cell 7⟩
/-- four bytes are found -/
theorem find_four {w : World} {a b c d : UInt8} {L : List Pq} {s : Ps} (hf : findF [a, b, c, d] 4096 4 ⟨0, 0, 0, 0, 0⟩ = (L, s)) :
    Calls Try.prog 6 #[.slice (some ⟨w.heap.size, 0, none⟩) 4 4, .int .i64 0, .int .i64 4, .int .i64 4096, .agg #[.int .u32 0, .int .u32 0, .int .u32 0, .int .u32 0]] (w.alloc (.cells #[.int .u8 (a.toNat : Int), .int .u8 (b.toNat : Int), .int .u8 (c.toNat : Int), .int .u8 (d.toNat : Int)] 5 (4, 5))) fun x w' =>
      Below w.heap.size w w' ∧ ∃ (R : Option Addr) (cl : Nat), x = .returned (.tuple #[.slice R L.length cl, .agg #[.int .u32 (s.r0 : Int), .int .u32 (s.r1 : Int), .int .u32 (s.r2 : Int), .int .u32 (s.r3 : Int)]]) ∧ Pkts w' R L.length (fun i => L.getD i ⟨0, 0, 0, 0⟩) := by
  refine (pfind_any (fi := 0) (ti := 4) (di := 4096) (r0 := 0) (r1 := 0) (r2 := 0) (r3 := 0) (sl_four w a b c d) (by decide) (Nat.le_refl 4) (by unfold maxLen; omega) (by decide) (by decide) ⟨by decide, by decide, by decide, by decide⟩).mono ?_
  rintro x w' ⟨hb, L', s', R, cl, hf', _, _, rfl, hrow⟩
  have hf' : findF [a, b, c, d] 4096 4 ⟨0, 0, 0, 0, 0⟩ = (L', s') := hf'
  rw [hf] at hf'
  injection hf' with e1 e2
  subst e1 e2
  exact ⟨((Below.refl _ w).alloc (Nat.le_refl _) _).trans (hb.mono (by simp)), R, cl, rfl, (pkts_row hrow).2⟩

set_option maxRecDepth 100000 in
set_option maxHeartbeats 4000000 in
theorem awake10_any (w : World) : Calls Try.prog 5 #[] w fun e w' => e = .returned (.bool true) ∧ Below w.heap.size w w' := by
  have hcv := conv_four w 97 97 97 97
  have K1 := Lib.hid (show Calls Try.prog 6 #[.slice (some ⟨w.heap.size, 0, none⟩) 4 4, .int .i64 0, .int .i64 4, .int .i64 4096, .agg #[.int .u32 0, .int .u32 0, .int .u32 0, .int .u32 0]] (w.alloc (.cells #[.int .u8 97, .int .u8 97, .int .u8 97, .int .u8 97] 5 (4, 5))) (fun x w' =>
      Below w.heap.size w w' ∧ ∃ (R : Option Addr) (cl : Nat), x = .returned (.tuple #[.slice R 2 cl, .agg #[.int .u32 0, .int .u32 0, .int .u32 0, .int .u32 0]]) ∧ Pkts w' R 2 (fun i => [(⟨0, 97, 0, 0⟩ : Pq), ⟨2, 0, 3, 0⟩].getD i ⟨0, 0, 0, 0⟩)) from find_four (w := w) (a := 97) (b := 97) (c := 97) (d := 97) awk_aaaa)
  go_enter Try.func5, Try.ntmps5
  go_wp2_with fail
  refine K1.out.mono ?_
  clear hcv
  rintro x w2 ⟨hb2, R1, c1, rfl, hP1⟩
  have HB2 := Lib.hid hb2
  have HP1 := Lib.hid hP1
  clear K1 hb2 hP1
  go_upto_region 2 with fail
  have HP3 := Lib.hid (Pkts.below HP1.out ((Below.refl _ w2).alloc (Nat.le_refl _) (.cells #[.int .u32 0, .int .u32 0, .int .u32 0, .int .u32 0] 24)))
  have HB3 := Lib.hid (HB2.out.alloc HB2.out.size (.cells #[.int .u32 0, .int .u32 0, .int .u32 0, .int .u32 0] 24))
  clear HP1 HB2
  generalize w2.alloc (.cells #[.int .u32 0, .int .u32 0, .int .u32 0, .int .u32 0] 24) = w3 at *
  generalize w2.heap.size = y1 at *
  have hcv := conv_four w3 97 98 97 98
  have K2 := Lib.hid (show Calls Try.prog 6 #[.slice (some ⟨w3.heap.size, 0, none⟩) 4 4, .int .i64 0, .int .i64 4, .int .i64 4096, .agg #[.int .u32 0, .int .u32 0, .int .u32 0, .int .u32 0]] (w3.alloc (.cells #[.int .u8 97, .int .u8 98, .int .u8 97, .int .u8 98] 5 (4, 5))) (fun x w' =>
      Below w3.heap.size w3 w' ∧ ∃ (R : Option Addr) (cl : Nat), x = .returned (.tuple #[.slice R 3 cl, .agg #[.int .u32 1, .int .u32 0, .int .u32 0, .int .u32 0]]) ∧ Pkts w' R 3 (fun i => [(⟨0, 97, 0, 0⟩ : Pq), ⟨0, 98, 0, 0⟩, ⟨1, 0, 2, 1⟩].getD i ⟨0, 0, 0, 0⟩)) from find_four (w := w3) (a := 97) (b := 98) (c := 97) (d := 98) awk_abab)
  go_wp2_with fail
  refine K2.out.mono ?_
  rintro x w4 ⟨hb4, R2, c2, rfl, hP2⟩
  have HP14 := Lib.hid (Pkts.below HP3.out hb4)
  have HB4 := Lib.hid (below_p HB3.out hb4 (Nat.le_refl _))
  have HP2 := Lib.hid hP2
  clear K2 hb4 hP2 HP3 HB3 hcv
  go_upto_region 3 with fail
  have hq := Blk.fresh w4 24 #[.int .u32 1, .int .u32 0, .int .u32 0, .int .u32 0]
  have HP15 := Lib.hid (Pkts.below HP14.out ((Below.refl _ w4).alloc (Nat.le_refl _) (.cells #[.int .u32 1, .int .u32 0, .int .u32 0, .int .u32 0] 24)))
  have HP25 := Lib.hid (Pkts.below HP2.out ((Below.refl _ w4).alloc (Nat.le_refl _) (.cells #[.int .u32 1, .int .u32 0, .int .u32 0, .int .u32 0] 24)))
  have HB5 := Lib.hid (HB4.out.alloc HB4.out.size (.cells #[.int .u32 1, .int .u32 0, .int .u32 0, .int .u32 0] 24))
  clear HP14 HP2 HB4
  generalize w4.alloc (.cells #[.int .u32 1, .int .u32 0, .int .u32 0, .int .u32 0] 24) = w5 at *
  generalize w4.heap.size = y2 at *
  have KS := Lib.hid (show Calls Try.prog 8 #[.slice R1 2 c1, .slice (some ⟨w5.heap.size, 0, none⟩) 2 2] (w5.alloc (.cells #[.int .i64 0, .int .u8 97, .int .i64 0, .int .u32 0, .int .i64 2, .int .u8 0, .int .i64 3, .int .u32 0] 42)) (fun e w' => e = .returned (.bool true) ∧ ∃ d, (w5.alloc (.cells #[.int .i64 0, .int .u8 97, .int .i64 0, .int .u32 0, .int .i64 2, .int .u8 0, .int .i64 3, .int .u32 0] 42)).drewN d = w') from
    rsame_any (HP15.out.below ((Below.refl _ w5).alloc (Nat.le_refl _) _)) (pkts_two w5 ⟨0, 97, 0, 0⟩ ⟨2, 0, 3, 0⟩ _) (by decide))
  have HO6 := Lib.hid ((Below.refl _ w5).alloc (Nat.le_refl _) (.cells #[.int .i64 0, .int .u8 97, .int .i64 0, .int .u32 0, .int .i64 2, .int .u8 0, .int .i64 3, .int .u32 0] 42))
  have HQ := Lib.hid hq
  clear hq
  go_wp2_with fail
  refine KS.out.mono ?_
  rintro x w6 ⟨rfl, d, rfl⟩
  have hB6 := below_drewN HO6.out d
  have hq6 := HQ.out.below hB6
  have HB6 := Lib.hid (below_p HB5.out hB6 (Nat.le_refl _))
  obtain ⟨b2, o2, rfl, _, hc2⟩ := HP25.out.below hB6 (by decide)
  obtain ⟨l0, l1, l2, l3⟩ := hc2 2 (by decide)
  generalize (w5.alloc (.cells #[.int .i64 0, .int .u8 97, .int .i64 0, .int .u32 0, .int .i64 2, .int .u8 0, .int .i64 3, .int .u32 0] 42)).drewN d = w7 at *
  have l0 : w7.cell? ⟨b2, o2 + 8, none⟩ = some (.int .i64 1) := l0
  have l1 : w7.cell? ⟨b2, o2 + 8 + 1, none⟩ = some (.int .u8 0) := l1
  have l2 : w7.cell? ⟨b2, o2 + 8 + 2, none⟩ = some (.int .i64 2) := l2
  have l3 : w7.cell? ⟨b2, o2 + 8 + 3, none⟩ = some (.int .u32 1) := l3
  have heq : ∀ W : World, (binOp .eql 24 (.agg #[.int .u32 1, .int .u32 0, .int .u32 0, .int .u32 0]) (.agg #[.int .u32 1, .int .u32 0, .int .u32 0, .int .u32 0])).run Try.prog W = .ok (.bool true) W := fun _ => by kernel_rfl
  have q0 : w7.cell? ⟨y2, 0, none⟩ = some (.int .u32 1) := hq6.cell 0
  have q1 : w7.cell? ⟨y2, 1, none⟩ = some (.int .u32 0) := hq6.cell 1
  have q2 : w7.cell? ⟨y2, 2, none⟩ = some (.int .u32 0) := hq6.cell 2
  have q3 : w7.cell? ⟨y2, 3, none⟩ = some (.int .u32 0) := hq6.cell 3
  clear KS hB6 hq6 hc2 HP25 HP15 HQ HO6 HB5
  go_wp2_with fail
  go_ret
  exact ⟨rfl, HB6.out⟩
end Go.Proofs.Ytjganponepafpaa

/-
  Four numbers are held against themselves.
-/
namespace Go.Proofs.Ytjganponepafpaa
open Go.RowKit

section
variable {P : Program} (w : World)
theorem run_four_same (t e : TypeId) (ht : P.underlying t = some (.array 4 e)) (he : P.underlying e = some (.int .u32)) (hsz : ∀ w, (sizeOf e).run P w = .ok 1 w) (a b c d : Int) :
    (binOp .eql t (.agg #[.int .u32 a, .int .u32 b, .int .u32 c, .int .u32 d]) (.agg #[.int .u32 a, .int .u32 b, .int .u32 c, .int .u32 d])).run P w = .ok (.bool true) w := by
  rw [run_eql_struct]
  rw [show (10000 : Nat) = 9998 + 2 from rfl, Op.equalIn]
  simp only [Sem.run_bind, run_underlying ht, Result.andThen_ok, hsz, Std.Legacy.Range.forIn_eq_forIn_range', Std.Legacy.Range.size, Nat.sub_zero, Nat.add_sub_cancel, Nat.div_one]
  rw [show List.range' 0 4 1 = [0, 1, 2, 3] from rfl]
  have pe : ∀ x : Int, (Op.equalIn (9998 + 1) e (.int .u32 x) (.int .u32 x)).run P w = .ok true w := fun x => by
    rw [run_equalIn_int w 9998 e .u32 .u32 _ _ he]
    simp
  have pp : ∀ (xs : Array Value) (i : Nat) (v : Value), xs[i]? = some v → (part e xs (i * 1)).run P w = .ok v w := fun xs i v h => by
    simp [part, isAgg, run_underlying he, h]
  have p0 := pp #[.int .u32 a, .int .u32 b, .int .u32 c, .int .u32 d] 0 (.int .u32 a) rfl
  have p1 := pp #[.int .u32 a, .int .u32 b, .int .u32 c, .int .u32 d] 1 (.int .u32 b) rfl
  have p2 := pp #[.int .u32 a, .int .u32 b, .int .u32 c, .int .u32 d] 2 (.int .u32 c) rfl
  have p3 := pp #[.int .u32 a, .int .u32 b, .int .u32 c, .int .u32 d] 3 (.int .u32 d) rfl
  simp only [List.forIn_cons, List.forIn_nil, Sem.run_bind, p0, p1, p2, p3, pe, Result.andThen_ok, Bool.not_true, Bool.false_eq_true, if_false, Sem.run_pure]
end
end Go.Proofs.Ytjganponepafpaa

/-
  Bytes as a number, the greatest first.
-/
namespace Go.Proofs.Ytjganponepafpaa

/-- bytes as a number, the greatest first -/
def be (l : List UInt8) : Nat := l.foldl (fun a b => a * 256 + b.toNat) 0
end Go.Proofs.Ytjganponepafpaa

/-
  A row of bytes of the call's own, its block named; rows compared.
-/
namespace Go.Proofs.Ytjganponepafpaa
open Go.RowKit

/-- Block q holds the bytes bs. -/
def Byt (w : World) (q c : Nat) (bs : List UInt8) : Prop := w.ownsRow 0 5 1 (.slice (some ⟨q, 0, none⟩) bs.length c) bs.length (bv bs)

theorem bv_set (bs : List UInt8) (i : Nat) (y : UInt8) : (bv bs).set i (.int .u8 (y.toNat : Int)) = bv (bs.set i y) := by
  simp [bv, List.map_set]

section
variable {w w' : World} {q c : Nat} {bs : List UInt8}
theorem Byt.cell (h : Byt w q c bs) {i : Nat} (hi : i < bs.length) : w.cell? ⟨q, i, none⟩ = some (.int .u8 ((bs.getD i 0).toNat : Int)) := by
  rw [World.ownsRow.cellAt h i (by omega), bv_get bs i hi]
theorem Byt.free (h : Byt w q c bs) (i : Nat) : w.frozen? ⟨q, i, none⟩ = false := World.ownsRow.frozenAt h i
theorem Byt.put (h : Byt w q c bs) (i : Nat) (y : UInt8) : Byt (w.setCell ⟨q, i, none⟩ (.int .u8 (y.toNat : Int))) q c (bs.set i y) := by
  have := (World.ownsRow.stored h i (.int .u8 (y.toNat : Int))).1
  rw [bv_set] at this
  unfold Byt
  rw [List.length_set]
  exact this
theorem Byt.drewN (h : Byt w q c bs) (n : Nat) : Byt (w.drewN n) q c bs := h
theorem Byt.only {S : Nat → Prop} (h : Byt w q c bs) (hb : Only S w w') (hS : ¬ S q) : Byt w' q c bs := own_only h hb hS
theorem Byt.lt (h : Byt w q c bs) : q < w.heap.size := (World.ownsRow.lt h q rfl).2
theorem Byt.own (h : Byt w q c bs) : w.ownsRow 0 5 1 (.slice (some ⟨q, 0, none⟩) bs.length c) bs.length (bv bs) := h
theorem Byt.sl (h : Byt w q c bs) : Sl w (some ⟨q, 0, none⟩) bs.length (bv bs) := (own_facts h).1
theorem Byt.cap (h : Byt w q c bs) : bs.length ≤ c ∧ c ≤ maxLen := by
  obtain ⟨_, h2, h3, _⟩ := own_facts h
  exact ⟨h2, h3⟩
end

set_option maxHeartbeats 1000000 in
theorem bytesSame_any {A B : Option Addr} {n ca cb : Nat} {bs : List UInt8} {w : World} (hA : Sl w A n (bv bs)) (hB : Sl w B n (bv bs)) (hn : n ≤ 1000000000) :
    Calls Try.prog 9 #[.slice A n ca, .slice B n cb] w fun e w' => e = .returned (.bool true) ∧ ∃ d, w.drewN d = w' := by
  have HA := Lib.hid hA
  have HB := Lib.hid hB
  have hl : bs.length = n := by rw [← bv_length]; exact hA.1
  have HL := Lib.hid hl
  clear hA hB hl
  go_enter Try.func9, Try.ntmps9
  go_wp2_with fail
  go_loopw [5] (fun i wr => ∃ j k : Nat, j ≤ n ∧ i = .int .i64 (j : Int) ∧ wr = w.drewN k) (fun i _ => n - (intOf i).toNat)
  case atStart => exact ⟨0, 0, Nat.zero_le _, rfl, rfl⟩
  case round =>
    obtain ⟨j, k, hj, rfl, rfl⟩ := hrel
    by_cases hlt : j < n
    · obtain ⟨ba, oa, rfl, hba, hca⟩ := HA.out.2 (by omega)
      obtain ⟨bb, ob, rfl, hbb, hcb⟩ := HB.out.2 (by omega)
      have c1 : w.cell? ⟨ba, oa + j, none⟩ = some (.int .u8 ((bs.getD j 0).toNat : Int)) := by rw [hca j hlt, bv_get bs j (by have := HL.out; omega)]
      have c2 : w.cell? ⟨bb, ob + j, none⟩ = some (.int .u8 ((bs.getD j 0).toNat : Int)) := by rw [hcb j hlt, bv_get bs j (by have := HL.out; omega)]
      generalize bs.getD j 0 = x at *
      have i0 : (0 : Int) ≤ (j : Int) := by omega
      have i1 : (j : Int) < (n : Int) := by omega
      clear hca hcb
      go_wp2_with fail
      go_quiet (fail)
      go_wp2_with fail
      go_roundw
      case rel => exact ⟨j + 1, k + nq, by omega, by go_num, rfl⟩
      case measure => simp [intOf]; omega
    · obtain rfl : j = n := by omega
      go_wp2_with fail
      go_ret
      exact ⟨rfl, _, rfl⟩
end Go.Proofs.Ytjganponepafpaa

/-
  The law ParseFinds: its walk.
-/
namespace Go.Proofs.Ytjganponepafpaa
set_option linter.unusedVariables false
set_option linter.unusedSimpArgs false
open Go.RowKit

def fourV (a b c d : Nat) : Array Value := #[.int .u32 (a : Int), .int .u32 (b : Int), .int .u32 (c : Int), .int .u32 (d : Int)]
set_option maxRecDepth 100000 in
set_option maxHeartbeats 16000000 in
theorem parseFinds_walk {A : Option Addr} {n c r0 r1 r2 r3 : Nat} {bs : List UInt8} {fi ti di : Int} {w : World} (hS : Sl w A n (bv bs)) (hnc : n ≤ c) (hc : c ≤ maxLen) (hd : -9223372036854775808 ≤ di ∧ di ≤ 9223372036854775807) (h0 : r0 < 4294967296) (h1 : r1 < 4294967296) (h2 : r2 < 4294967296) (h3 : r3 < 4294967296) :
    Calls Try.prog 3 #[.slice A n c, .agg #[.int .i64 fi, .int .i64 ti, .int .i64 di, .int .u32 (r0 : Int), .int .u32 (r1 : Int), .int .u32 (r2 : Int), .int .u32 (r3 : Int)]] w fun e w' => e = .returned (.bool true) ∧ Below w.heap.size w w' := by
  have HS := Lib.hid hS
  obtain ⟨wP, hwP⟩ : ∃ wP, wP = w.alloc (.cells #[.int .i64 fi, .int .i64 ti, .int .i64 di, .int .u32 (r0 : Int), .int .u32 (r1 : Int), .int .u32 (r2 : Int), .int .u32 (r3 : Int)] 26) := ⟨_, rfl⟩
  have hbP : Below w.heap.size w wP := by rw [hwP]; exact (Below.refl _ _).alloc (Nat.le_refl _) _
  have hP : Blk wP w.heap.size 26 #[.int .i64 fi, .int .i64 ti, .int .i64 di, .int .u32 (r0 : Int), .int .u32 (r1 : Int), .int .u32 (r2 : Int), .int .u32 (r3 : Int)] := by rw [hwP]; exact Blk.fresh w _ _
  obtain ⟨i, hi, hz0, hz1, hz2⟩ := info_parts info_u8
  have KA := Lib.hid (awake10_any wP)
  have HP := Lib.hid hP
  have HBP := Lib.hid hbP
  have HWP := Lib.hid hwP
  have HL := Lib.hid (show Ps.Lit ⟨0, r0, r1, r2, r3⟩ from ⟨h0, h1, h2, h3⟩)
  clear hS hP hbP hwP h0 h1 h2 h3
  by_cases hbig : n > 1500
  · have g1 : (n : Int) > 1500 := by omega
    clear hnc hc hbig
    go_enter Try.func3, Try.ntmps3
    go_wp2_with fail
    rw [← HWP.out]
    refine KA.out.mono ?_
    rintro x w1 ⟨rfl, hb1⟩
    have HB1 := Lib.hid (below_p HBP.out hb1 (Nat.le_refl _))
    clear KA hb1
    go_wp2_with fail
    go_ret
    exact ⟨rfl, HB1.out⟩
  · have g1 : ¬ (n : Int) > 1500 := by omega
    have HN := Lib.hid (And.intro (show n ≤ 1500 by omega) (And.intro hnc hc))
    clear hbig hnc hc
    go_enter Try.func3, Try.ntmps3
    go_wp2_with fail
    rw [← HWP.out]
    refine KA.out.mono ?_
    rintro x w1 ⟨rfl, hb1⟩
    have HP1 := Lib.hid (HP.out.below hb1)
    have HB1 := Lib.hid (below_p HBP.out hb1 (Nat.le_refl _))
    clear KA hb1 HWP HBP HP
    obtain ⟨y, hy⟩ : ∃ y, y = w.heap.size := ⟨_, rfl⟩
    have HY := Lib.hid hy
    rw [← hy] at HP1
    rw [← hy]
    clear hy
    have hB0 : Below w1.heap.size w1 w1 := Below.refl _ _
    go_wp2_with (at_builtin; refine wpList_app _ rfl (.tmp 15) (.tmp 16) 22 rfl w1.heap.size 5 i _ 1 Try.underlying22 hi hz0 hz1 hz2 rfl _ 0 [] rfl (own_empty w1 (Nat.le_refl _) _) A n c (bv bs) rfl ((HS.out.below HB1.out).alloc _) (bv_one bs) (by have := HN.out; omega) Nat.one_pos (by simp) ?_)
    intro Ao co w2 ho hg
    have HG2 := Lib.hid (show Below w1.heap.size w1 w2 from (hB0.alloc (Nat.le_refl _) _).grown hg (by simp) (fun k e => by simp [Value.ownBlock] at e; omega))
    have hof := own_facts ho
    have HO := Lib.hid (And.intro hof.1 (And.intro hof.2.1 hof.2.2.1))
    have HB2 := Lib.hid (below_p HB1.out HG2.out (Nat.le_refl _))
    have HP2 := Lib.hid (HP1.out.below HG2.out)
    clear ho hg hof hB0 HB1 HP1 HG2
    have k0 : w2.cell? ⟨y, 0, none⟩ = some (.int .i64 fi) := HP2.out.cell 0
    have k1 : w2.cell? ⟨y, 1, none⟩ = some (.int .i64 ti) := HP2.out.cell 1
    have k2 : w2.cell? ⟨y, 2, none⟩ = some (.int .i64 di) := HP2.out.cell 2
    have k3 : w2.cell? ⟨y, 3, none⟩ = some (.int .u32 (r0 : Int)) := HP2.out.cell 3
    have k4 : w2.cell? ⟨y, 4, none⟩ = some (.int .u32 (r1 : Int)) := HP2.out.cell 4
    have k5 : w2.cell? ⟨y, 5, none⟩ = some (.int .u32 (r2 : Int)) := HP2.out.cell 5
    have k6 : w2.cell? ⟨y, 6, none⟩ = some (.int .u32 (r3 : Int)) := HP2.out.cell 6
    have KF := Lib.hid (pfind_any (fi := fi) (ti := ti) (di := di) (r0 := r0) (r1 := r1) (r2 := r2) (r3 := r3) HO.out.1 (by have := HN.out; omega) HO.out.2.1 HO.out.2.2 hd.1 hd.2 HL.out)
    go_wp2_with fail
    refine KF.out.mono ?_
    clear KF k0 k1 k2 k3 k4 k5 k6
    rintro x w3 ⟨hb3, L, s', R, cl, hf, hlit, hlen, rfl, hrow⟩
    have HPK := Lib.hid (pkts_row hrow).2
    have HF := Lib.hid hf
    have HLL := Lib.hid hlen
    have HB3 := Lib.hid (below_p HB2.out hb3 (Nat.le_refl _))
    have HP3 := Lib.hid (HP2.out.below hb3)
    have HO3 := Lib.hid (HO.out.1.below hb3)
    clear hb3 hf hlit hlen hrow HB2 HP2 HO
    go_upto_region 7 with fail
    have hq := Blk.fresh w3 24 (fourV s'.r0 s'.r1 s'.r2 s'.r3)
    have hbn : Below w3.heap.size w3 (w3.alloc (.cells (fourV s'.r0 s'.r1 s'.r2 s'.r3) 24)) := (Below.refl _ _).alloc (Nat.le_refl _) _
    unfold fourV at hq hbn
    have HB4 := Lib.hid (below_p HB3.out hbn (Nat.le_refl _))
    have HP4 := Lib.hid (HP3.out.below hbn)
    have HO4 := Lib.hid (HO3.out.below hbn)
    have HPK4 := Lib.hid (HPK.out.below hbn)
    have HQ4 := Lib.hid hq
    clear hq hbn HB3 HP3 HO3 HPK
    generalize w3.alloc (.cells #[.int .u32 (s'.r0 : Int), .int .u32 (s'.r1 : Int), .int .u32 (s'.r2 : Int), .int .u32 (s'.r3 : Int)] 24) = w4 at *
    generalize w3.heap.size = z at *
    have k0 : w4.cell? ⟨y, 0, none⟩ = some (.int .i64 fi) := HP4.out.cell 0
    have k1 : w4.cell? ⟨y, 1, none⟩ = some (.int .i64 ti) := HP4.out.cell 1
    have k2 : w4.cell? ⟨y, 2, none⟩ = some (.int .i64 di) := HP4.out.cell 2
    have k3 : w4.cell? ⟨y, 3, none⟩ = some (.int .u32 (r0 : Int)) := HP4.out.cell 3
    have k4 : w4.cell? ⟨y, 4, none⟩ = some (.int .u32 (r1 : Int)) := HP4.out.cell 4
    have k5 : w4.cell? ⟨y, 5, none⟩ = some (.int .u32 (r2 : Int)) := HP4.out.cell 5
    have k6 : w4.cell? ⟨y, 6, none⟩ = some (.int .u32 (r3 : Int)) := HP4.out.cell 6
    have KF := Lib.hid (rfind_any (c := c) (fi := fi) (ti := ti) (di := di) (r0 := r0) (r1 := r1) (r2 := r2) (r3 := r3) (HS.out.below HB4.out) (by have := HN.out; omega) hd.1 hd.2 HL.out)
    go_wp2_with fail
    refine KF.out.mono ?_
    clear KF k0 k1 k2 k3 k4 k5 k6
    rintro x w5 ⟨hb5, L2, s2, R2, cl2, hf2, _, _, rfl, hrow2⟩
    rw [HF.out] at hf2
    injection hf2 with e1 e2
    subst e1 e2
    have HPR := Lib.hid (pkts_row hrow2).2
    have HB5 := Lib.hid (below_p HB4.out hb5 (Nat.le_refl _))
    have HO5 := Lib.hid (HO4.out.below hb5)
    have HPK5 := Lib.hid (HPK4.out.below hb5)
    have HQ5 := Lib.hid (HQ4.out.below hb5)
    clear hb5 hrow2 HB4 HP4 HO4 HPK4 HQ4
    go_upto_region 8 with fail
    have hq := Blk.fresh w5 24 (fourV s'.r0 s'.r1 s'.r2 s'.r3)
    have hbn : Below w5.heap.size w5 (w5.alloc (.cells (fourV s'.r0 s'.r1 s'.r2 s'.r3) 24)) := (Below.refl _ _).alloc (Nat.le_refl _) _
    unfold fourV at hq hbn
    have HB6 := Lib.hid (below_p HB5.out hbn (Nat.le_refl _))
    have HO6 := Lib.hid (HO5.out.below hbn)
    have HPK6 := Lib.hid (HPK5.out.below hbn)
    have HPR6 := Lib.hid (HPR.out.below hbn)
    have HQ6 := Lib.hid (HQ5.out.below hbn)
    have HR6 := Lib.hid hq
    clear hq hbn HB5 HO5 HPK5 HPR HQ5
    generalize w5.alloc (.cells #[.int .u32 (s'.r0 : Int), .int .u32 (s'.r1 : Int), .int .u32 (s'.r2 : Int), .int .u32 (s'.r3 : Int)] 24) = w6 at *
    generalize w5.heap.size = v at *
    have hl9 : L.length ≤ 1000000000 := by
      have := HLL.out
      have := HN.out
      have h1 : toN n (fromN n fi) ti ≤ n := by unfold toN; unfold fromN; omega
      omega
    have K1 := Lib.hid (rsame_any (ca := cl) (cb := cl2) HPK6.out HPR6.out hl9)
    have K2 := Lib.hid (fun d => bytesSame_any (ca := co) (cb := c) (HO6.out.drewN d) ((HS.out.below HB6.out).drewN d) (by have := HN.out; omega))
    have hne : ∀ W : World, (binOp .eql 24 (.agg #[.int .u32 (s'.r0 : Int), .int .u32 (s'.r1 : Int), .int .u32 (s'.r2 : Int), .int .u32 (s'.r3 : Int)]) (.agg #[.int .u32 (s'.r0 : Int), .int .u32 (s'.r1 : Int), .int .u32 (s'.r2 : Int), .int .u32 (s'.r3 : Int)])).run Try.prog W = .ok (.bool true) W := fun W => run_four_same (w := W) 24 23 Try.underlying24 Try.underlying23 (fun _ => by kernel_rfl) _ _ _ _
    clear hl9
    go_wp2_with fail
    refine K1.out.mono ?_
    rintro x w7 ⟨rfl, d1, rfl⟩
    have q0 : (w6.drewN d1).cell? ⟨z, 0, none⟩ = some (.int .u32 (s'.r0 : Int)) := HQ6.out.cell 0
    have q1 : (w6.drewN d1).cell? ⟨z, 1, none⟩ = some (.int .u32 (s'.r1 : Int)) := HQ6.out.cell 1
    have q2 : (w6.drewN d1).cell? ⟨z, 2, none⟩ = some (.int .u32 (s'.r2 : Int)) := HQ6.out.cell 2
    have q3 : (w6.drewN d1).cell? ⟨z, 3, none⟩ = some (.int .u32 (s'.r3 : Int)) := HQ6.out.cell 3
    have v0 : (w6.drewN d1).cell? ⟨v, 0, none⟩ = some (.int .u32 (s'.r0 : Int)) := HR6.out.cell 0
    have v1 : (w6.drewN d1).cell? ⟨v, 1, none⟩ = some (.int .u32 (s'.r1 : Int)) := HR6.out.cell 1
    have v2 : (w6.drewN d1).cell? ⟨v, 2, none⟩ = some (.int .u32 (s'.r2 : Int)) := HR6.out.cell 2
    have v3 : (w6.drewN d1).cell? ⟨v, 3, none⟩ = some (.int .u32 (s'.r3 : Int)) := HR6.out.cell 3
    have K3 := Lib.hid (K2.out d1)
    generalize hw7 : w6.drewN d1 = w7 at *
    have HW7 := Lib.hid hw7
    clear hw7 K1 K2
    go_wp2_with fail
    refine K3.out.mono ?_
    rintro x w8 ⟨rfl, d2, rfl⟩
    clear K3 q0 q1 q2 q3 v0 v1 v2 v3 hne
    go_wp2_with fail
    go_ret
    refine ⟨rfl, ?_⟩
    rw [← HW7.out]
    exact below_drewN (below_drewN HB6.out d1) d2
end Go.Proofs.Ytjganponepafpaa
