/-
  LzRes, LwUnp, LzShort, LzFitN, Pkts, LzCodeN: put together.
-/
import Derived.Test.YtpdpbbmkicemdaaGreatMc05
import Derived.Test.YtpdpbbmkicemdaaGreatMc12
import Derived.Laws.MakeOwn
import Derived.Deep.Cut
import Derived.Defers
import Derived.Test.YtpdpbbmkicemdaaGreatMc11
import Derived.Test.YtpdpbbmkicemdaaGreatMc04
import Derived.ProofKit
import Derived.OpenShut
import Derived.ShutString
import Derived.ChangeOld
import Derived.Below
import Derived.Deep.Grids
import Derived.Deep.SlicePairs
set_option linter.unusedVariables false
set_option linter.unusedSimpArgs false
/-
  What the program's LZMA owes where a stream is unpacked; the laws' quota, their setting.
-/
namespace Go.Proofs.YtpdpbbmkicemdaaGreat
open Go.RowKit

def muchQ : Quo := ⟨1099511627776, 1099511627776, 1099511627776, 1099511627776, 1099511627776⟩
theorem much_lit : Lit64 muchQ := by constructor <;> dsimp only [muchQ] <;> omega
theorem much_up : muchQ.up = muchQ := by simp [Quo.up, muchQ]; omega
theorem much_fine : Fine muchQ Tel.zero := much_up ▸ Fine.new much_lit
/-- what a stream is, by a setting that may be or not; and its code -/
def lzRes (bs : List UInt8) (a b c d size : Int) : Option (List UInt8) := if maySet a b c d = true then unpackN bs a.toNat b.toNat c.toNat d.toNat size else none
def codeU : Option (List UInt8) → Int
  | none => 12
  | some _ => 0
def lzCode (bs : List UInt8) (a b c d size : Int) : Int := if maySet a b c d = true then codeU (unpackN bs a.toNat b.toNat c.toNat d.toNat size) else 11
/-- what is answered, the meter's memory given back -/
def UpPost (w : World) (m : Nat) (o : Option (List UInt8)) (cd : Int) (x : Ending) (w' : World) : Prop :=
  (∃ t, MeterAt w' 75 m muchQ t ∧ t.mem = 0) ∧ Only (fun i => i = m) w w' ∧ ∃ A c, x = .returned (.tuple #[.slice A (o.getD []).length c, .int .i64 cd]) ∧ Sl w' A (o.getD []).length (bv (o.getD []))
/-- What the program's Unpack owes, under the laws' great quota. -/
structure UpCon : Prop where
  up : ∀ {w A n c m} {bs : List UInt8} {a b cc d size : Int}, n = bs.length → Sl w A n (bv bs) → (0 < n → ∀ q o, A = some ⟨q, o, none⟩ → q ≠ m) → n ≤ 10000000 → MeterAt w 75 m muchQ Tel.zero →
    (maySet a b cc d = true → a + b ≤ 6) → size ≤ 100000 → -9223372036854775808 ≤ size →
    Calls Tryz.prog 8 #[.slice A n c, .agg #[.int .i64 a, .int .i64 b, .int .i64 cc, .int .i64 d], .int .i64 size, .pointer (some ⟨m, 0, none⟩)] w (UpPost w m (lzRes bs a b cc d size) (lzCode bs a b cc d size))
set_option maxHeartbeats 2000000 in
theorem much_any (w : World) : Calls Tryz.prog 7 #[] w fun e w' => ∃ g, e = .returned (.pointer (some ⟨g, 0, none⟩)) ∧ MeterAt w' 75 g muchQ Tel.zero ∧ w.heap.size ≤ g ∧ Below w.heap.size w w' := by
  have K := mnew_any muchQ w
  rw [much_up] at K
  have K : Calls Tryz.prog 14 #[.agg #[.int .i64 1099511627776, .int .i64 1099511627776, .int .i64 1099511627776, .int .i64 1099511627776, .int .i64 1099511627776]] w fun e w' => ∃ g, e = .returned (.pointer (some ⟨g, 0, none⟩)) ∧ MeterAt w' 75 g muchQ Tel.zero ∧ w.heap.size ≤ g ∧ Below w.heap.size w w' := K
  have K := Lib.hid K
  go_enter Tryz.func7, Tryz.ntmps7
  go_wp2_with fail
  refine K.out.mono ?_
  rintro e w1 ⟨g, rfl, hM, hg, hb⟩
  have HE := Lib.hid (And.intro hM (And.intro hg hb))
  clear hM hg hb K
  go_wp2_with fail
  go_ret
  exact ⟨g, rfl, HE.out.1, HE.out.2.1, HE.out.2.2⟩
def lightP (a b c d : Int) : Bool := !maySet a b c d || decide (a + b ≤ 6)
set_option maxRecDepth 100000 in
set_option maxHeartbeats 2000000 in
theorem light_any (a b c d : Int) (w : World) :
    Calls Tryz.prog 6 #[.agg #[.int .i64 a, .int .i64 b, .int .i64 c, .int .i64 d]] w fun x w' => x = .returned (.bool (lightP a b c d)) ∧ Below w.heap.size w w' := by
  obtain ⟨w1, hw1⟩ : ∃ w1, w1 = w.alloc (.cells #[.int .i64 a, .int .i64 b, .int .i64 c, .int .i64 d] 24) := ⟨_, rfl⟩
  have hb1 : Below w.heap.size w w1 := by rw [hw1]; exact (Below.refl _ _).alloc (Nat.le_refl _) _
  have HBk : Blk w1 w.heap.size 24 #[.int .i64 a, .int .i64 b, .int .i64 c, .int .i64 d] := by rw [hw1]; exact Blk.fresh w _ _
  have K := Lib.hid (may_any a b c d w1)
  have d0 : w1.cell? ⟨w.heap.size, 0, none⟩ = some (.int .i64 a) := HBk.cell 0
  have d1 : w1.cell? ⟨w.heap.size, 1, none⟩ = some (.int .i64 b) := HBk.cell 1
  have d2 : w1.cell? ⟨w.heap.size, 2, none⟩ = some (.int .i64 c) := HBk.cell 2
  have d3 : w1.cell? ⟨w.heap.size, 3, none⟩ = some (.int .i64 d) := HBk.cell 3
  have HW1 := Lib.hid hw1
  have HB1 := Lib.hid hb1
  have HBK := Lib.hid HBk
  obtain ⟨v, hv⟩ : ∃ v, v = lightP a b c d := ⟨_, rfl⟩
  rw [← hv]
  unfold lightP at hv
  obtain ⟨mm, hmm⟩ : ∃ mm, mm = maySet a b c d := ⟨_, rfl⟩
  rw [← hmm] at hv K
  have HMM := Lib.hid hmm
  clear hw1 hb1 HBk hmm
  cases mm with
  | false =>
    obtain rfl : v = true := hv
    go_enter Tryz.func6, Tryz.ntmps6
    go_upto_region 1 with fail
    rw [← HW1.out]
    clear HW1
    go_wp2_with fail
    refine K.out.mono ?_
    rintro e w2 ⟨rfl, hb2⟩
    have HB2 := Lib.hid (HB1.out.trans ⟨hb2.os, hb2.tape, hb2.output, hb2.size, fun i hi => hb2.block i (Nat.lt_of_lt_of_le hi HB1.out.size)⟩)
    clear hb2 K d0 d1 d2 d3 HB1 HBK
    go_wp2_with fail
    go_ret
    exact ⟨rfl, HB2.out⟩
  | true =>
    obtain ⟨m1, m2, m3, m4, m5⟩ := may_iff.1 HMM.out.symm
    obtain ⟨ab, hab⟩ : ∃ ab, ab = a + b := ⟨_, rfl⟩
    have e1 : IntKind.i64.wrap (a + b) = ab := by rw [hab]; exact IntWalk.i64_in _ (by omega)
    have hv2 : v = decide (ab ≤ 6) := by rw [hab]; exact hv
    have HAB := Lib.hid hab
    clear m1 m2 m3 m4 m5 hab
    have HE1 := Lib.hid e1
    clear e1
    by_cases h6 : ab ≤ 6
    · obtain rfl : v = true := by rw [hv2, decide_eq_true h6]
      have H6 := Lib.hid h6
      clear hv hv2 h6
      go_enter Tryz.func6, Tryz.ntmps6
      go_upto_region 1 with fail
      rw [← HW1.out]
      clear HW1
      go_wp2_with fail
      refine K.out.mono ?_
      rintro e w2 ⟨rfl, hb2⟩
      have HB2 := Lib.hid (HB1.out.trans ⟨hb2.os, hb2.tape, hb2.output, hb2.size, fun i hi => hb2.block i (Nat.lt_of_lt_of_le hi HB1.out.size)⟩)
      have hk2 : Blk w2 w.heap.size 24 #[.int .i64 a, .int .i64 b, .int .i64 c, .int .i64 d] := HBK.out.below hb2
      have o0 : w2.cell? ⟨w.heap.size, 0, none⟩ = some (.int .i64 a) := hk2.cell 0
      have o1 : w2.cell? ⟨w.heap.size, 1, none⟩ = some (.int .i64 b) := hk2.cell 1
      have e1 := HE1.out
      have h6 := H6.out
      clear hb2 hk2 K d0 d1 d2 d3 HB1 HBK
      go_wp2_with fail
      go_ret
      exact ⟨rfl, HB2.out⟩
    · obtain rfl : v = false := by rw [hv2, decide_eq_false h6]
      have H6 := Lib.hid h6
      clear hv hv2 h6
      go_enter Tryz.func6, Tryz.ntmps6
      go_upto_region 1 with fail
      rw [← HW1.out]
      clear HW1
      go_wp2_with fail
      refine K.out.mono ?_
      rintro e w2 ⟨rfl, hb2⟩
      have HB2 := Lib.hid (HB1.out.trans ⟨hb2.os, hb2.tape, hb2.output, hb2.size, fun i hi => hb2.block i (Nat.lt_of_lt_of_le hi HB1.out.size)⟩)
      have hk2 : Blk w2 w.heap.size 24 #[.int .i64 a, .int .i64 b, .int .i64 c, .int .i64 d] := HBK.out.below hb2
      have o0 : w2.cell? ⟨w.heap.size, 0, none⟩ = some (.int .i64 a) := hk2.cell 0
      have o1 : w2.cell? ⟨w.heap.size, 1, none⟩ = some (.int .i64 b) := hk2.cell 1
      have e1 := HE1.out
      have h6 := H6.out
      clear hb2 hk2 K d0 d1 d2 d3 HB1 HBK
      go_wp2_with fail
      go_ret
      exact ⟨congrArg (fun b => Ending.returned (.bool b)) (decide_eq_false (by have := H6.out; omega)), HB2.out⟩
theorem below_go {w0 w1 w2 : World} {B : Nat} (h : Below B w0 w1) (hb : Below w1.heap.size w1 w2) (hB : B ≤ w0.heap.size) : Below B w0 w2 :=
  h.trans ⟨hb.os, hb.tape, hb.output, hb.size, fun i hi => hb.block i (by have := h.size; omega)⟩
end Go.Proofs.YtpdpbbmkicemdaaGreat

/-
  The program's Unpack.
-/
namespace Go.Proofs.YtpdpbbmkicemdaaGreat
open Go.RowKit

section
variable {P : Program} (w : World)
theorem wpList_appO {ops : Array Oper} {rest : List Oper} {o : Oper} {a : Act} {Q : Exit → Act → World → Prop} (hgd : o.guard = none) (s x : Operand) (t : TypeId)
    (ho : o.op = .call { callee := .builtin .append, args := #[s, x], argTypes := #[t, t] })
    (base : Nat) (e : TypeId) (i : TypeInfo) (z : Value) (bytes : Nat) (ht : P.underlying t = some (.slice e)) (hi : P.info? e = some i) (hz : i.zero = some z)
    (hsize : i.size = 1) (hby : i.bytes = bytes) (hzs : z.cells.size = 1)
    (v : Value) (n : Nat) (xs : List Value) (hs : a.eval s = v) (hown : w.ownsRow base e 1 v n xs)
    (A : Option Addr) (m c : Nat) (news : List Value) (hx : a.eval x = .slice A m c) (hr : Sl w A m news) (h1 : ∀ u ∈ news, u.oneCell' = true)
    (hbytes : (n + m) * bytes ≤ 140737488355328) (hb0 : 0 < bytes) (hbase : base ≤ w.heap.size)
    (h : ∀ A' c' w', w'.ownsRow base e 1 (.slice A' (n + m) c') (n + m) (xs ++ news) → w.grownBy w' v.ownBlock → ((Value.slice A' (n + m) c').ownBlock = v.ownBlock ∨ (Value.slice A' (n + m) c').ownBlock = some w.heap.size) → wpList P ops Q rest (a.put o.dst (.slice A' (n + m) c')) w') : wpList P ops Q (o :: rest) a w :=
  wpList_plain hgd fun K hK => by
    obtain ⟨v', w', hrun, h2, h3, h4⟩ := run_app (P := P) w base t o.type e i z bytes ht hi hz hsize hby hzs v n xs hown A m c news hr h1 hbytes hb0 hbase
    obtain ⟨A', c', rfl, h2⟩ := own_form h2
    unfold Oper.wp execOp
    simp only [ho, resolve, invoke, builtin, Sem.run_bind, Sem.run_pure, Result.andThen_ok, List.map_toArray, List.map_cons, List.map_nil, hs, hx, hrun]
    exact hK _ _ (h A' c' w' h2 h3 h4)
end

/-- how long a slice is -/
def slLen (v : Value) : Nat := match v with | .slice _ n _ => n | _ => 0
theorem Un.only {K : Kon} {w w' : World} {Gw S : Nat → Prop} {lc lp pb dict : Nat} (h : Un K w Gw lc lp pb dict) (hO : Only S w w') (h1 : ¬ S K.g) (h2 : ¬ S K.lb) (h3 : ∀ i, Gw i → ¬ S i) : Un K w' Gw lc lp pb dict :=
  ⟨(K.prb _ h.gn).only h.row hO (fun i hi => by rcases hi with rfl | rfl; exact h1; exact h2), h.win.only hO h3, h.gn, h.mg, h.mb, fun i hi => ⟨(h.wd i hi).1, (h.wd i hi).2.1, (h.wd i hi).2.2.1, Nat.lt_of_lt_of_le (h.wd i hi).2.2.2 hO.size⟩⟩

section
variable {w wr : World} {m lc lp pb dict : Nat} {size : Int}

set_option maxRecDepth 100000 in
set_option maxHeartbeats 4000000 in
theorem lnew_props {a b c d : Int} (h : maySet a b c d = false) (w : World) (m : Value) : Calls Tryz.prog 15 #[.agg #[.int .i64 a, .int .i64 b, .int .i64 c, .int .i64 d], .int .i64 size, m] w fun e w' =>
    e = .returned (.tuple #[.pointer none, .int .i64 11]) ∧ Below w.heap.size w w' := by
  obtain ⟨w1, hw1⟩ : ∃ w1, w1 = w.alloc (.cells #[.int .i64 a, .int .i64 b, .int .i64 c, .int .i64 d] 24) := ⟨_, rfl⟩
  have hb1 : Below w.heap.size w w1 := by rw [hw1]; exact (Below.refl _ _).alloc (Nat.le_refl _) _
  have HBk : Blk w1 w.heap.size 24 #[.int .i64 a, .int .i64 b, .int .i64 c, .int .i64 d] := by rw [hw1]; exact Blk.fresh w _ _
  have KM := pmay_any a b c d w1
  rw [h] at KM
  have KM := Lib.hid KM
  have c0 : w1.cell? ⟨w.heap.size, 0, none⟩ = some (.int .i64 a) := HBk.cell 0
  have c1 : w1.cell? ⟨w.heap.size, 1, none⟩ = some (.int .i64 b) := HBk.cell 1
  have c2 : w1.cell? ⟨w.heap.size, 2, none⟩ = some (.int .i64 c) := HBk.cell 2
  have c3 : w1.cell? ⟨w.heap.size, 3, none⟩ = some (.int .i64 d) := HBk.cell 3
  have HW1 := Lib.hid hw1
  have HB1 := Lib.hid hb1
  clear hw1 hb1 HBk h
  go_enter Tryz.func15, Tryz.ntmps15
  go_upto_region 1 with fail
  rw [← HW1.out]
  clear HW1
  go_wp2_with fail
  refine KM.out.mono ?_
  rintro e w2 ⟨rfl, hb2⟩
  have HB2 := Lib.hid (HB1.out.trans ⟨hb2.os, hb2.tape, hb2.output, hb2.size, fun i hi => hb2.block i (Nat.lt_of_lt_of_le hi HB1.out.size)⟩)
  clear hb2 KM c0 c1 c2 c3 HB1
  go_wp2_with fail
  go_ret2
  exact ⟨rfl, HB2.out⟩

theorem up_door {K : Kon} {Gw : Nat → Prop} {out : List UInt8} {t : Tel} (hH : Hold K wr Gw out) (hap : Apart K Gw) (hM : MeterAt wr 75 K.m muchQ t) (hF : Fine muchQ t) (hr : K.room ≤ 9223372036854775807) (hz : K.sz ≤ 1048576) (u : FrameMode) :
    CallsD Tryz.prog 16 #[.pointer (some ⟨K.g, 0, none⟩)] u wr fun e u' w' => u' = u ∧ e = .returned (.tuple #[]) ∧ MeterAt w' 75 K.m muchQ ((t.doFree (K.sz : Int)).doFree K.room) ∧ Only (fun i => Gw i ∨ i = K.m ∨ i = K.g) wr w' := by
  obtain ⟨fs, ps, h1, h2, h3, h4, h5⟩ := hH
  refine ((lclose_any h1 h2 h3 h4 hr h5 hz hM hF (fun h => (hap.wd _ h).2.2.1 rfl) (fun h => (hap.wd _ h).1 rfl) hap.mg).2 u).mono ?_
  rintro e u' w' ⟨rfl, rfl, G', _, _, k3, _, k5⟩
  exact ⟨rfl, rfl, k3, k5⟩

theorem much_mem {a b : Int} (ha : 0 ≤ a) (ha1 : a ≤ 1000000) (hb : 0 ≤ b) (hb1 : b ≤ 1000000) :
    fits Tel.zero.code Tel.zero.mem muchQ.mem a ∧ fits (Tel.zero.doMem muchQ a).code (Tel.zero.doMem muchQ a).mem muchQ.mem b ∧ (((((Tel.zero.doMem muchQ a).doMem muchQ b).doFree a).doFree b).mem = 0) := by
  have e0 : Tel.zero.mem = 0 := rfl
  have e1 : Tel.zero.code = 0 := rfl
  have e2 : muchQ.mem = 1099511627776 := rfl
  have f1 : (Tel.zero.doMem muchQ a).code = 0 := by
    show codeOf Tel.zero.code Tel.zero.mem muchQ.mem a 101 = 0
    rw [e0, e1, e2]
    unfold codeOf
    split <;> omega
  have f2 : (Tel.zero.doMem muchQ a).mem = a := by
    show wasOf Tel.zero.code Tel.zero.mem muchQ.mem a = a
    rw [e0, e1, e2]
    unfold wasOf
    split <;> omega
  have f3 : ((Tel.zero.doMem muchQ a).doMem muchQ b).mem = a + b := by
    show wasOf (Tel.zero.doMem muchQ a).code (Tel.zero.doMem muchQ a).mem muchQ.mem b = a + b
    rw [f1, f2, e2]
    unfold wasOf
    split <;> omega
  refine ⟨?_, ?_, ?_⟩
  · rw [e0, e1, e2]
    exact ⟨rfl, by omega⟩
  · rw [f1, f2, e2]
    exact ⟨rfl, by omega⟩
  · show max ((max (((Tel.zero.doMem muchQ a).doMem muchQ b).mem - max a 0) 0) - max b 0) 0 = 0
    rw [f3]
    omega

theorem up_fit {K : Kon} {z : Lzs} {n dict : Nat} {S size : Int} (hS : S = max (min (dict : Int) size) 1) (hz : K.sz = S.toNat) (h1 : S ≤ 100000) (hd : z.dict = dict) (hd0 : 4096 ≤ dict) (hn : n ≤ size.toNat) : Fit K (z.cut n) := by
  have hl : (z.cut n).out.length ≤ n := by
    show (z.out.take n).length ≤ n
    rw [List.length_take]
    exact Nat.min_le_left _ _
  have hdd : (z.cut n).dict = dict := hd
  unfold Fit
  rw [hdd, hz]
  generalize (z.cut n).out.length = l at *
  omega

set_option maxRecDepth 100000 in
set_option maxHeartbeats 8000000 in
theorem up_ok {A : Option Addr} {n c : Nat} {bs : List UInt8} (hn : n = bs.length) (hS : Sl w A n (bv bs)) (hA : 0 < n → ∀ q o, A = some ⟨q, o, none⟩ → q ≠ m) (hl : n ≤ 10000000) (hM : MeterAt w 75 m muchQ Tel.zero)
    (hs : SetOk lc lp pb dict) (h6 : lc + lp ≤ 6) (h1 : size ≤ 100000) (h0 : -9223372036854775808 ≤ size) :
    Calls Tryz.prog 8 #[.slice A n c, .agg #[.int .i64 (lc : Int), .int .i64 (lp : Int), .int .i64 (pb : Int), .int .i64 (dict : Int)], .int .i64 size, .pointer (some ⟨m, 0, none⟩)] w (UpPost w m (unpackN bs lc lp pb dict size) (codeU (unpackN bs lc lp pb dict size))) := by
  obtain ⟨i, hi, hz0, hz1, hz2⟩ := info_parts info_u8
  obtain ⟨w1, hw1⟩ : ∃ w1, w1 = w.alloc (.cells #[.int .i64 (lc : Int), .int .i64 (lp : Int), .int .i64 (pb : Int), .int .i64 (dict : Int)] 24) := ⟨_, rfl⟩
  have hO1 : Only (fun i => i = m) w w1 := by rw [hw1]; exact (Only.refl _ w).alloc _
  have hs1 : w1.heap.size = w.heap.size + 1 := by rw [hw1]; simp
  have HBk : Blk w1 w.heap.size 24 #[.int .i64 (lc : Int), .int .i64 (lp : Int), .int .i64 (pb : Int), .int .i64 (dict : Int)] := by rw [hw1]; exact Blk.fresh w _ _
  have hM1 : MeterAt w1 75 m muchQ Tel.zero := by rw [hw1]; exact hM.alloc _
  have hpn := (probsN_is hs).2.1
  have hnl6 : 768 * 2 ^ (lc + lp) ≤ 768 * 2 ^ 6 := Nat.mul_le_mul_left 768 (Nat.pow_le_pow_right (by decide) h6)
  have hpr : (probsN lc lp : Int) ≤ 60000 := by unfold probsN; omega
  have hd0 := hs.2.2.2
  obtain ⟨S, hSS⟩ : ∃ S, S = max (min (dict : Int) size) 1 := ⟨_, rfl⟩
  obtain ⟨R, hRR⟩ : ∃ R, R = 2 * (probsN lc lp : Int) := ⟨_, rfl⟩
  have hmm := much_mem (a := S) (b := R) (by omega) (by omega) (by omega) (by omega)
  have KN := lnew_any (size := size) hs h6 hM1 much_fine h0 (by omega) (by rw [← hSS]; exact hmm.1) (by rw [← hSS, ← hRR]; exact hmm.2.1)
  have KN := Lib.hid KN
  obtain ⟨res, hres⟩ : ∃ r, r = unpackN bs lc lp pb dict size := ⟨_, rfl⟩
  rw [← hres]
  rw [resN_start] at hres
  have HW1 := Lib.hid hw1
  have HO1 := Lib.hid hO1
  have HSO := Lib.hid (And.intro hs (And.intro h6 (And.intro h1 h0)))
  have HIN := Lib.hid (And.intro hn (And.intro hS (And.intro hA hl)))
  have HRES := Lib.hid hres
  have HNUM := Lib.hid (And.intro hSS (And.intro hRR (And.intro hmm.2.2 (And.intro (show R ≤ 1000000 by omega) (show S ≤ 100000 by omega)))))
  have HS1 := Lib.hid (And.intro hs1 hM.lt)
  have c0 : w1.cell? ⟨w.heap.size, 0, none⟩ = some (.int .i64 (lc : Int)) := HBk.cell 0
  have c1 : w1.cell? ⟨w.heap.size, 1, none⟩ = some (.int .i64 (lp : Int)) := HBk.cell 1
  have c2 : w1.cell? ⟨w.heap.size, 2, none⟩ = some (.int .i64 (pb : Int)) := HBk.cell 2
  have c3 : w1.cell? ⟨w.heap.size, 3, none⟩ = some (.int .i64 (dict : Int)) := HBk.cell 3
  clear hw1 hO1 hs h6 h1 h0 hn hS hA hl hres hSS hRR hmm hs1 HBk hM1 hM hpn hnl6 hpr hd0
  go_enter_defers Tryz.func8, Tryz.ntmps8
  go_upto_region 1 with fail
  rw [← HW1.out]
  clear HW1
  go_wp2_with fail
  refine KN.out.mono ?_
  rintro e w2 ⟨K, Gw, hKm, hroom, hsz, hnl, rfl, hUn, hM2, hnew, hO2⟩
  have HO2 := Lib.hid (HO1.out.trans hO2)
  have hS2 : Sl w2 A n (bv bs) := HIN.out.2.1.only HO2.out (fun hn b o e h => HIN.out.2.2.1 hn b o e h)
  have KF := Lib.hid (newFeed_any (bs := bs) (c := c) hS2 (by have := HIN.out.2.2.2; omega))
  have HUN := Lib.hid hUn
  have HM2 := Lib.hid hM2
  have HKN := Lib.hid (And.intro hKm (And.intro hroom (And.intro hsz (And.intro hnl hnew))))
  clear hUn hM2 hKm hroom hsz hnl hnew hO2 hS2 KN c0 c1 c2 c3 HO1
  go_wp2_with fail
  refine KF.out.mono ?_
  rintro e w3 ⟨f, rfl, hf, hF3, hb3⟩
  have hUn3 := HUN.out.only (Only.of_below (S := fun _ => False) hb3) (fun h => h) (fun h => h) (fun _ _ h => h)
  have hgl : K.g < w2.heap.size := HUN.out.row.1.lt
  have hll : K.lb < w2.heap.size := HUN.out.row.2.1.lt
  have hml : K.m < w2.heap.size := by rw [HKN.out.1]; exact HM2.out.lt
  have KB := Lib.hid (lbegin_any hUn3 HSO.out.1 HKN.out.2.2.2.1 hF3 hgl hll hml (fun i hi => (HUN.out.wd i hi).2.2.2))
  have HO3 := Lib.hid (HO2.out.then hb3)
  have HM3 := Lib.hid (HM2.out.below hb3)
  have HL := Lib.hid (And.intro hgl (And.intro hll (And.intro hml hf)))
  clear hUn3 hgl hll hml hf hF3 hb3 KF HO2
  go_wp2_with fail
  refine KB.out.mono ?_
  rintro e w4 ⟨rfl, dg, hdg, hNx, hO4⟩
  obtain ⟨K', hK'⟩ : ∃ K', K' = K.on dg f w2.heap.size bs := ⟨_, rfl⟩
  have kg : K'.g = K.g := by rw [hK']; rfl
  have km : K'.m = m := by rw [hK']; exact HKN.out.1
  have kr : K'.room = R := by rw [hK', HNUM.out.2.1]; exact HKN.out.2.1
  have kz : K'.sz = S.toNat := by rw [hK', HNUM.out.1]; exact HKN.out.2.2.1
  rw [← hK'] at hNx
  have hlow : w.heap.size ≤ K'.g ∧ w.heap.size ≤ K'.lb ∧ w.heap.size ≤ K'.lo ∧ K'.dg < w4.heap.size := by
    have h1 := HKN.out.2.2.2.2
    have h2 := HS1.out.1
    have h3 := HO3.out.size
    have h4 := HL.out.1
    refine ⟨by rw [hK']; show _ ≤ K.g; omega, by rw [hK']; show _ ≤ K.lb; omega, by rw [hK']; show _ ≤ w2.heap.size; omega, ?_⟩
    obtain ⟨_, _, _, _, hB, _⟩ := hNx.lw.mch.pd
    exact hB.lt
  have hmf : ¬ (m = K.g ∨ m = f) := by
    have h1 := HKN.out.2.2.2.2.1
    have h2 := HS1.out.1
    have h3 := HS1.out.2
    have h4 := HL.out.1
    have h5 := HL.out.2.2.2
    rintro (h | h) <;> omega
  have hP : (⟨List.replicate (1847 + K.nl) 1024, started bs⟩ : Pm Dc) = ⟨List.replicate (probsN lc lp) 1024, started bs⟩ := by
    unfold probsN
    rw [HKN.out.2.2.2.1]
  rw [hP] at hNx
  have hOn : Only (fun i => i = K'.m) w w4 := by
    rw [km]
    refine HO3.out.trans' hO4 (fun i hi => .inr ?_)
    have h1 := HKN.out.2.2.2.2.1
    have h2 := HS1.out.1
    have h5 := HL.out.2.2.2
    have h6 := HL.out.1
    rcases hi with hi | hi <;> omega
  have hI : Inv K' w4.heap.size w size dict res muchQ ((Tel.zero.doMem muchQ S).doMem muchQ R) (.slice none 0 0) w4 0 (Lzs.start lc lp pb dict) ⟨List.replicate (probsN lc lp) 1024, started bs⟩ Gw := by
    refine ⟨hNx, World.ownsRow_nil _ _ _ _, (fun b hb => by cases hb), Nat.zero_le _, HRES.out, rfl, ?_, hOn, fun i hi => ?_, hlow, Nat.le_refl _⟩
    · rw [km, HNUM.out.1, HNUM.out.2.1]
      exact HM3.out.only hO4 hmf
    · have h1 := HKN.out.2.2.2.2.2.2 i hi
      have h2 := HS1.out.1
      omega
  have hI : Inv K' w4.heap.size w size dict res muchQ ((Tel.zero.doMem muchQ S).doMem muchQ R) (.slice none 0 0) w4 0 (Lzs.start lc lp pb dict) ⟨List.replicate (probsN lc lp) 1024, started bs⟩ Gw := hI
  have HI := Lib.hid hI
  have HK := Lib.hid (And.intro kg (And.intro km (And.intro kr kz)))
  generalize hB : w4.heap.size = B at *
  generalize hg : K.g = g at *
  clear hI hOn hK' kg km kr kz hNx hlow hmf hP hO4 hdg KB HUN HM2 HM3 HKN HO3 HL HRES hg
  obtain ⟨T, hT⟩ : ∃ T, T = (Tel.zero.doMem muchQ S).doMem muchQ R := ⟨_, rfl⟩
  rw [← hT] at HI HNUM
  have hTF : Fine muchQ T := by rw [hT]; exact (much_fine.mem _).mem _
  have HT := Lib.hid hTF
  clear hT hTF
  have hB4 : B ≤ w4.heap.size := Nat.le_of_eq hB.symm
  have HB4 := Lib.hid hB4
  clear hB hB4
  go_wp2_with fail
  go_loopw [12] (fun v wr => ∃ (n' : Nat) (zf : Lzs) (tf : Pm Dc) (G1 : Nat → Prop), Inv K' B w size dict res muchQ T v wr n' zf tf G1) (fun v wr => size.toNat - slLen v)
  case atStart => exact ⟨0, _, _, Gw, HI.out⟩
  case round =>
    clear HI
    obtain ⟨n', zf, tf, G1, hinv⟩ := hrel
    obtain ⟨A1, c1, rfl, hown⟩ := own_form hinv.own
    have hfit : Fit K' (zf.cut n') := up_fit HNUM.out.1 HK.out.2.2.2 HNUM.out.2.2.2.2 hinv.fit HSO.out.1.2.2.2.1 hinv.le
    have hn8 : n' ≤ 800000 := by have := hinv.le; have := HSO.out.2.2.1; omega
    by_cases hlt : (n' : Int) < size
    · have KX := lnext_any hinv.nx hn8 hfit
      rw [HK.out.1] at KX
      have KX := Lib.hid KX
      have HV := Lib.hid hinv
      have HLT := Lib.hid hlt
      clear hinv hown hfit hn8
      go_wp2_with fail
      refine KX.out.mono ?_
      rintro e w6 hp
      rcases hp with ⟨zf', tf', G2, rfl, hN, hd, ht, hc, hG, hO⟩ | ⟨rfl, hn2, hs, z1, t1, l1, G2, hLw, hG, hO⟩
      · have hmid := HV.out.told HLT.out hN hd ht hc hG hO
        have HMI := Lib.hid hmid
        obtain ⟨x, hx⟩ : ∃ x, x = zf'.out.getD n' 0 := ⟨_, rfl⟩
        rw [← hx]
        have HX := Lib.hid hx
        clear hN hd ht hc hG hO hmid hx KX hlt
        go_wp2_with (first
          | (at_builtin; refine wpList_appO _ rfl _ _ 22 rfl B 5 i _ 1 Tryz.underlying22 hi hz0 hz1 hz2 rfl _ n' (bv (zf'.out.take n')) rfl (HMI.out.own.alloc _) _ 1 1 [.int .u8 (x.toNat : Int)] rfl (sl_one _ _ _) (one_one _ _) ?_ (by decide) ?_ ?_)
          | fail)
        · have := HSO.out.2.2.1
          have := HMI.out.le
          omega
        · have := HMI.out.bot
          simp
          omega
        · intro A2 c2 w7 ho hg2 hv
          have hin := HMI.out.put (v' := .slice A2 (n' + 1) c2) (by rw [← HX.out]; exact ho) hg2 (hv.imp id (fun h => h.trans (by simp)))
          have HIN2 := Lib.hid hin
          clear ho hg2 hv hin
          go_wp2_with fail
          go_roundw
          case rel => exact ⟨n' + 1, zf', tf', G2, HIN2.out⟩
          case measure =>
            have := HLT.out
            show size.toNat - (n' + 1) < size.toNat - n'
            omega
      · have hhold := hLw.hold
        have hap := hLw.ap
        have hlo := HV.out.nx.lw.mch.pd.lo
        have hM6 : MeterAt w6 75 K'.m muchQ T := HV.out.mt.only hO (HV.out.nx.lw.ap.meter hlo)
        have hres : res = none := by rw [HV.out.res]; exact resN_stop (by have := HLT.out; omega) hs
        have hGm : ∀ i, G2 i → w.heap.size ≤ i := by
          intro i hi
          rcases hG i hi with h | h
          · exact HV.out.gm i h
          · have := HV.out.only.size
            omega
        have hOw : Only (fun i => i = K'.m) w w6 := by
          refine HV.out.only.trans' hO (fun i hi => .inr ?_)
          obtain ⟨l1, l2, l3, _⟩ := HV.out.low
          rcases hi with (e | e | e | e) | e
          · omega
          · omega
          · omega
          · omega
          · exact HV.out.gm i e
        have KD := Lib.hid (up_door hhold hap hM6 HT.out (by rw [HK.out.2.2.1]; have := HNUM.out.2.2.2.1; omega) (by rw [HK.out.2.2.2]; have := HNUM.out.2.2.2.2; omega) .returning)
        have HE := Lib.hid (And.intro hres (And.intro hOw (And.intro hGm HV.out.low.1)))
        clear hhold hap hlo hM6 hres hGm hOw hn2 hs hLw hG hO KX hlt HV
        go_wp2_with fail
        refine leaves_cons (f := 16) (args := #[.pointer (some ⟨g, 0, none⟩)]) (by simp) (by simp [go_sem]) ?_
        have KD := KD.out
        rw [HK.out.1] at KD
        refine KD.mono ?_
        rintro e u' w7 ⟨rfl, rfl, hM7, hO7⟩
        obtain ⟨hres, hOw, hGm, hlg⟩ := HE.out
        rw [HK.out.1] at hlg
        rw [HK.out.2.1] at hM7 hO7 hOw
        rw [HK.out.2.2.1, HK.out.2.2.2] at hM7
        refine ⟨_, results_tmp2 rfl _ _ _, ?_⟩
        subst hres
        refine ⟨⟨_, hM7, ?_⟩, hOw.trans' hO7 (fun i hi => ?_), none, 0, rfl, ⟨rfl, fun h => absurd h (Nat.lt_irrefl 0)⟩⟩
        · have := HNUM.out.2.2.1
          rw [Int.toNat_of_nonneg (by have := HNUM.out.1; omega)]
          exact this
        · rcases hi with hi | hi | hi
          · exact .inr (hGm i hi)
          · exact .inl hi
          · exact .inr (by omega)
    · have KX := lfinish_any hinv.nx hn8 hfit
      rw [HK.out.1] at KX
      have KX := Lib.hid KX
      have HV := Lib.hid hinv
      have HLT := Lib.hid hlt
      clear hinv hown hfit hn8
      go_wp2_with fail
      refine KX.out.mono ?_
      rintro e w6 ⟨b, rfl, hb1, hb2, hhold, hO⟩
      have hap := HV.out.nx.lw.ap
      have hlo := HV.out.nx.lw.mch.pd.lo
      have hO : Only (K'.all G1) wr w6 := hO.mono fun i hi => .inl hi
      have hM6 : MeterAt w6 75 K'.m muchQ T := HV.out.mt.only hO (hap.meter hlo)
      have hres : res = if b = true then some (zf.out.take n') else none := by rw [HV.out.res]; exact resN_end HV.out.le (by have := HLT.out; omega) HV.out.nx.le hb1 hb2
      have hOw : Only (fun i => i = K'.m) w w6 := by
        refine HV.out.only.trans' hO (fun i hi => .inr ?_)
        obtain ⟨l1, l2, l3, _⟩ := HV.out.low
        rcases hi with (e | e | e | e) | e
        · omega
        · omega
        · omega
        · omega
        · exact HV.out.gm i e
      have hrow : w6.ownsRow B 5 1 (.slice A1 n' c1) n' (bv (zf.out.take n')) := own_onlyV HV.out.own hO (by
        intro b' hb' hk
        have h1 := (own_at HV.out.own hb').1
        have a1 := hap.gl
        have a2 := hap.ll
        have a3 := HV.out.low.2.2.2
        rcases hk with (e | e | e | e) | e
        · omega
        · omega
        · omega
        · omega
        · exact HV.out.far b' hb' e)
      have hdis : ∀ b', (Value.slice A1 n' c1).ownBlock = some b' → ¬ (G1 b' ∨ b' = K'.m ∨ b' = K'.g) := by
        intro b' hb' hk
        have h1 := (own_at HV.out.own hb').1
        have a1 := hap.gl
        have a2 := hap.ml
        have a3 := HV.out.low.2.2.2
        rcases hk with e | e | e
        · exact HV.out.far b' hb' e
        · omega
        · omega
      have hln : n' ≤ (zf.out).length := HV.out.nx.le
      have KD := Lib.hid (up_door hhold hap hM6 HT.out (by rw [HK.out.2.2.1]; have := HNUM.out.2.2.2.1; omega) (by rw [HK.out.2.2.2]; have := HNUM.out.2.2.2.2; omega) .returning)
      have HE := Lib.hid (And.intro hres (And.intro hOw (And.intro HV.out.gm HV.out.low.1)))
      have HR := Lib.hid (And.intro hrow (And.intro hdis hln))
      clear hhold hap hlo hM6 hres hOw hO KX hlt HV hb1 hb2 hrow hdis hln
      cases b with
      | false =>
        go_wp2_with fail
        refine leaves_cons (f := 16) (args := #[.pointer (some ⟨g, 0, none⟩)]) (by simp) (by simp [go_sem]) ?_
        have KD := KD.out
        rw [HK.out.1] at KD
        refine KD.mono ?_
        rintro e u' w7 ⟨rfl, rfl, hM7, hO7⟩
        obtain ⟨hres, hOw, hGm, hlg⟩ := HE.out
        rw [HK.out.1] at hlg
        rw [HK.out.2.1] at hM7 hO7 hOw
        rw [HK.out.2.2.1, HK.out.2.2.2] at hM7
        refine ⟨_, results_tmp2 rfl _ _ _, ?_⟩
        subst hres
        refine ⟨⟨_, hM7, ?_⟩, hOw.trans' hO7 (fun i hi => ?_), none, 0, rfl, ⟨rfl, fun h => absurd h (Nat.lt_irrefl 0)⟩⟩
        · have := HNUM.out.2.2.1
          rw [Int.toNat_of_nonneg (by have := HNUM.out.1; omega)]
          exact this
        · rcases hi with hi | hi | hi
          · exact .inr (hGm i hi)
          · exact .inl hi
          · exact .inr (by omega)
      | true =>
        go_wp2_with fail
        refine leaves_cons (f := 16) (args := #[.pointer (some ⟨g, 0, none⟩)]) (by simp) (by simp [go_sem]) ?_
        have KD := KD.out
        rw [HK.out.1] at KD
        refine KD.mono ?_
        rintro e u' w7 ⟨rfl, rfl, hM7, hO7⟩
        obtain ⟨hres, hOw, hGm, hlg⟩ := HE.out
        rw [HK.out.1] at hlg
        rw [HK.out.2.1] at hM7 hO7 hOw
        rw [HK.out.2.2.1, HK.out.2.2.2] at hM7
        refine ⟨_, results_tmp2 rfl _ _ _, ?_⟩
        subst hres
        refine ⟨⟨_, hM7, ?_⟩, hOw.trans' hO7 (fun i hi => ?_), A1, c1, ?g3, ?g4⟩
        case g3 =>
          show Ending.returned (.tuple #[.slice A1 n' c1, .int .i64 0]) = .returned (.tuple #[.slice A1 (zf.out.take n').length c1, .int .i64 0])
          rw [List.length_take, Nat.min_eq_left HR.out.2.2]
        case g4 =>
          have h9 := own_onlyV HR.out.1 hO7 (fun b' hb' hk => HR.out.2.1 b' hb' (by rw [HK.out.1, HK.out.2.1]; exact hk))
          have hlen : (zf.out.take n').length = n' := by rw [List.length_take, Nat.min_eq_left HR.out.2.2]
          show Sl w7 A1 (zf.out.take n').length (bv (zf.out.take n'))
          rw [hlen]
          exact Sl.of_own h9
        · have := HNUM.out.2.2.1
          rw [Int.toNat_of_nonneg (by have := HNUM.out.1; omega)]
          exact this
        · rcases hi with hi | hi | hi
          · exact .inr (hGm i hi)
          · exact .inl hi
          · exact .inr (by omega)

set_option maxRecDepth 100000 in
set_option maxHeartbeats 4000000 in
theorem up_bad {a b cc d : Int} {v : Value} (hmay : maySet a b cc d = false) (hM : MeterAt w 75 m muchQ Tel.zero) :
    Calls Tryz.prog 8 #[v, .agg #[.int .i64 a, .int .i64 b, .int .i64 cc, .int .i64 d], .int .i64 size, .pointer (some ⟨m, 0, none⟩)] w (UpPost w m none 11) := by
  obtain ⟨w1, hw1⟩ : ∃ w1, w1 = w.alloc (.cells #[.int .i64 a, .int .i64 b, .int .i64 cc, .int .i64 d] 24) := ⟨_, rfl⟩
  have hO1 : Only (fun i => i = m) w w1 := by rw [hw1]; exact (Only.refl _ w).alloc _
  have HBk : Blk w1 w.heap.size 24 #[.int .i64 a, .int .i64 b, .int .i64 cc, .int .i64 d] := by rw [hw1]; exact Blk.fresh w _ _
  have hM1 : MeterAt w1 75 m muchQ Tel.zero := by rw [hw1]; exact hM.alloc _
  have KN := Lib.hid (lnew_props (size := size) hmay w1 (.pointer (some ⟨m, 0, none⟩)))
  have c0 : w1.cell? ⟨w.heap.size, 0, none⟩ = some (.int .i64 a) := HBk.cell 0
  have c1 : w1.cell? ⟨w.heap.size, 1, none⟩ = some (.int .i64 b) := HBk.cell 1
  have c2 : w1.cell? ⟨w.heap.size, 2, none⟩ = some (.int .i64 cc) := HBk.cell 2
  have c3 : w1.cell? ⟨w.heap.size, 3, none⟩ = some (.int .i64 d) := HBk.cell 3
  have HW1 := Lib.hid hw1
  have HO1 := Lib.hid (And.intro hO1 hM1)
  clear hw1 hO1 HBk hM1 hM hmay
  go_enter_defers Tryz.func8, Tryz.ntmps8
  go_upto_region 1 with fail
  rw [← HW1.out]
  clear HW1
  go_wp2_with fail
  refine KN.out.mono ?_
  rintro e w2 ⟨rfl, hb2⟩
  have HO2 := Lib.hid (And.intro (HO1.out.1.then hb2) (HO1.out.2.below hb2))
  clear hb2 KN c0 c1 c2 c3 HO1
  go_wp2_with fail
  exact ⟨_, results_tmp2 rfl _ _ _, ⟨_, HO2.out.2, rfl⟩, HO2.out.1, none, 0, rfl, ⟨rfl, fun h => absurd h (Nat.lt_irrefl 0)⟩⟩
end

theorem up_con : UpCon where
  up := by
    intro w A n c m bs a b cc d size hn hS hA hl hM h6 h1 h0
    unfold lzRes lzCode
    by_cases h : maySet a b cc d = true
    · rw [if_pos h, if_pos h]
      have h66 := h6 h
      obtain ⟨a0, a1, b0, b1, e0, e1, d0, d1⟩ := may_iff.1 h
      obtain ⟨lc, rfl⟩ := Int.eq_ofNat_of_zero_le a0
      obtain ⟨lp, rfl⟩ := Int.eq_ofNat_of_zero_le b0
      obtain ⟨pb, rfl⟩ := Int.eq_ofNat_of_zero_le e0
      obtain ⟨dict, rfl⟩ := Int.eq_ofNat_of_zero_le (show 0 ≤ d by omega)
      exact up_ok hn hS hA hl hM ⟨by omega, by omega, by omega, by omega, by omega⟩ (by omega) h1 h0
    · rw [if_neg h, if_neg h]
      exact up_bad (by simpa using h) hM
end Go.Proofs.YtpdpbbmkicemdaaGreat

/-
  A decoder with a byte fewer tells the same, or falls bad; what a coder tells is what is wanted.
-/
namespace Go.Proofs.YtpdpbbmkicemdaaGreat

/-- the one has a byte more behind it -/
def OneMore (y : UInt8) (d d' : Dc) : Prop := ∃ r c s, d = some (r, c, s ++ [y]) ∧ d' = some (r, c, s)
theorem lvl_short (y : UInt8) (r c : Nat) (s : List UInt8) : lvl r c s = none ∨ OneMore y (lvl r c (s ++ [y])) (lvl r c s) := by
  unfold lvl
  by_cases h : r < 16777216
  · rw [if_pos h, if_pos h]
    cases s with
    | nil => exact .inl rfl
    | cons x t => exact .inr ⟨r * 256, c * 256 + x.toNat, t, rfl, rfl⟩
  · rw [if_neg h, if_neg h]
    exact .inr ⟨r, c, s, rfl, rfl⟩
theorem bit_short {y : UInt8} {d d' : Dc} (p : Nat) (h : OneMore y d d') : (bitD d' p).2.2 = none ∨ ((bitD d' p).1 = (bitD d p).1 ∧ (bitD d' p).2.1 = (bitD d p).2.1 ∧ OneMore y (bitD d p).2.2 (bitD d' p).2.2) := by
  obtain ⟨r, c, s, rfl, rfl⟩ := h
  show (if c < r / 2048 * p then _ else _ : Nat × Nat × Dc).2.2 = none ∨ _
  by_cases hc : c < r / 2048 * p
  · have e1 : bitD (some (r, c, s)) p = (0, up0 p, lvl (r / 2048 * p) c s) := by show (if _ then _ else _) = _; rw [if_pos hc]
    have e2 : bitD (some (r, c, s ++ [y])) p = (0, up0 p, lvl (r / 2048 * p) c (s ++ [y])) := by show (if _ then _ else _) = _; rw [if_pos hc]
    show (bitD (some (r, c, s)) p).2.2 = none ∨ _
    rw [e1, e2]
    rcases lvl_short y (r / 2048 * p) c s with h | h
    · exact .inl h
    · exact .inr ⟨rfl, rfl, h⟩
  · have e1 : bitD (some (r, c, s)) p = match lvl (r - r / 2048 * p) (c - r / 2048 * p) s with | none => (0, up1 p, none) | some t => (1, up1 p, some t) := by show (if _ then _ else _) = _; rw [if_neg hc]; rfl
    have e2 : bitD (some (r, c, s ++ [y])) p = match lvl (r - r / 2048 * p) (c - r / 2048 * p) (s ++ [y]) with | none => (0, up1 p, none) | some t => (1, up1 p, some t) := by show (if _ then _ else _) = _; rw [if_neg hc]; rfl
    show (bitD (some (r, c, s)) p).2.2 = none ∨ _
    rw [e1, e2]
    rcases lvl_short y (r - r / 2048 * p) (c - r / 2048 * p) s with h | ⟨r', c', s', h1, h2⟩
    · rw [h]; exact .inl rfl
    · rw [h1, h2]
      exact .inr ⟨rfl, rfl, r', c', s', rfl, rfl⟩
theorem one_short {y : UInt8} {d d' : Dc} (h : OneMore y d d') : (oneD d').2 = none ∨ ((oneD d').1 = (oneD d).1 ∧ OneMore y (oneD d).2 (oneD d').2) := by
  obtain ⟨r, c, s, rfl, rfl⟩ := h
  by_cases hc : c < r / 2
  · have e1 : oneD (some (r, c, s)) = (0, lvl (r / 2) c s) := by show (if _ then _ else _) = _; rw [if_pos hc]
    have e2 : oneD (some (r, c, s ++ [y])) = (0, lvl (r / 2) c (s ++ [y])) := by show (if _ then _ else _) = _; rw [if_pos hc]
    rw [e1, e2]
    rcases lvl_short y (r / 2) c s with h | h
    · exact .inl h
    · exact .inr ⟨rfl, h⟩
  · by_cases h2 : c - r / 2 < r / 2
    · have e1 : oneD (some (r, c, s)) = (1, lvl (r / 2) (c - r / 2) s) := by show (if _ then _ else _) = _; rw [if_neg hc, if_pos h2]
      have e2 : oneD (some (r, c, s ++ [y])) = (1, lvl (r / 2) (c - r / 2) (s ++ [y])) := by show (if _ then _ else _) = _; rw [if_neg hc, if_pos h2]
      rw [e1, e2]
      rcases lvl_short y (r / 2) (c - r / 2) s with h | h
      · exact .inl h
      · exact .inr ⟨rfl, h⟩
    · left
      show (if _ then _ else _ : Nat × Dc).2 = none
      rw [if_neg hc, if_neg h2]
theorem go_none (n : Nat) : (straightGo none n).2 = none := by
  induction n with
  | zero => rfl
  | succ n ih => show (oneD (straightGo none n).2).2 = none; rw [ih]; rfl
theorem go_short {y : UInt8} {d d' : Dc} (h : OneMore y d d') : ∀ n, (straightGo d' n).2 = none ∨ ((straightGo d' n).1 = (straightGo d n).1 ∧ OneMore y (straightGo d n).2 (straightGo d' n).2)
  | 0 => .inr ⟨rfl, h⟩
  | n + 1 => by
    rcases go_short h n with h1 | ⟨h1, h2⟩
    · left
      show (oneD (straightGo d' n).2).2 = none
      rw [h1]; rfl
    · rcases one_short h2 with h3 | ⟨h3, h4⟩
      · exact .inl h3
      · right
        refine ⟨?_, h4⟩
        show 2 * (straightGo d' n).1 + (oneD (straightGo d' n).2).1 = 2 * (straightGo d n).1 + (oneD (straightGo d n).2).1
        rw [h1, h3]
theorem short_simu (y : UInt8) : Simu decM okD decM (OneMore y) (fun _ => True) (fun d => d = none) where
  okm := decM_ok
  bit := by
    intro x d k p w w' _ _ _ h _
    exact bit_short p h
  str := by
    intro x d k n v v' _ _ _ h _
    rcases go_short h n with h1 | ⟨h1, h2⟩
    · exact .inl h1
    · right
      have hn : (straightGo x n).2 ≠ none := by obtain ⟨r, c, s, e, _⟩ := h2; rw [e]; intro h; cases h
      have hn' : (straightGo d n).2 ≠ none := by obtain ⟨r, c, s, _, e⟩ := h2; rw [e]; intro h; cases h
      refine ⟨?_, h2⟩
      show (if (straightGo d n).2 = none then 0 else (straightGo d n).1) = (if (straightGo x n).2 = none then 0 else (straightGo x n).1)
      rw [if_neg hn, if_neg hn', h1]
  fbit := fun _ _ _ _ => trivial
  fstr := fun _ _ => trivial
  dbit := by
    rintro d p w rfl
    rfl
  dstr := by
    rintro d n v rfl
    exact go_none n
  same := by
    rintro x d ⟨r, c, s, rfl, rfl⟩
    rfl

section
variable {σ : Type} {M : Mach σ} {ok : Nat → σ → Prop}
/-- what a bad machine leaves is bad -/
theorem packP_badM {z : Lzs} {t : Pm σ} {p : Pk} (h : M.bad (packP M z t p).2.2.x = true) : (packP M z t p).2.1.bad = true := by
  have htail : ∀ (many : Nat) (z : Lzs) (t : Pm σ), M.bad t.x = true → (tailP M many z t).2.1.bad = true := by
    intro many z t hb
    unfold tailP
    rw [if_pos (by rw [hb]; simp)]
    show (z.bad || M.bad t.x) = true
    rw [hb]; simp
  revert h
  unfold packP packK
  split
  · unfold packL
    split
    · intro _; rfl
    · rename_i hb
      intro h
      exact absurd h hb
  split
  · intro h
    unfold packM packD at h ⊢
    rw [tailP_x] at h
    exact htail _ _ _ h
  split
  · intro h
    rw [tailP_x] at h
    exact htail _ _ _ h
  · intro h
    unfold packR at h ⊢
    rw [tailP_x] at h
    exact htail _ _ _ h

/-- the least first: what is told is what is wanted -/
theorem revG_tell (h : MachOk M ok) (he : M.enc = true) {t : Pm σ} {a v : Nat} : ∀ j, (revG M t a (v : Int) j).o = v % 2 ^ j
  | 0 => by show 0 = v % 1; omega
  | j + 1 => by
    have hb : (bitP M (revG M t a (v : Int) j).t (a + (revG M t a (v : Int) j).m) (want (v : Int) j)).1 = bitOf v j := by
      have := h.tell (x := (revG M t a (v : Int) j).t.x) (p := (revG M t a (v : Int) j).t.ps.getD (a + (revG M t a (v : Int) j).m) 0) (w := want (v : Int) j) he
      rw [want_nat, Int.toNat_natCast] at this
      rw [want_nat]
      exact this
    show (revG M t a (v : Int) j).o + (bitP M (revG M t a (v : Int) j).t (a + (revG M t a (v : Int) j).m) (want (v : Int) j)).1 * 2 ^ j = _
    rw [hb, revG_tell h he j, low_bits]
theorem revP_tell (h : MachOk M ok) (he : M.enc = true) {t : Pm σ} {a n v : Nat} (hv : v < 2 ^ n) : (revP M t a n (v : Int)).1 = v := by
  show (revG M t a (v : Int) n).o = v
  rw [revG_tell h he n, Nat.mod_eq_of_lt hv]
end
theorem str_tell {e : En} {n v : Nat} : (encM.str e n v).1 = v := rfl

theorem distP_tell {L k l v : Nat} {t : Pm En} (ht : PmOk okE L (k + 12) t) (hL0 : 1847 ≤ L) (hv : v < 4294967296) : (distP encM t l v).1 = v := by
  obtain ⟨s1, s2, s3⟩ := slot_spec hv
  have htell : (treeP encM t (432 + 64 * min l 3) 6 ((slotOf v : Nat) : Int)).1 = slotOf v := treeP_tell encM_ok rfl s1
  have hdef : distP encM t l v = distB encM (treeP encM t (432 + 64 * min l 3) 6 ((slotOf v : Nat) : Int)) v := rfl
  rw [hdef]
  generalize treeP encM t (432 + 64 * min l 3) 6 ((slotOf v : Nat) : Int) = sl at *
  unfold distB
  by_cases h4 : sl.1 < 4
  · rw [if_pos h4, htell]
    exact (s2 (by omega)).symm
  rw [if_neg h4]
  obtain ⟨n, hn⟩ : ∃ n, n = sl.1 / 2 - 1 := ⟨_, rfl⟩
  obtain ⟨r, hr⟩ : ∃ r, r = sl.1 % 2 := ⟨_, rfl⟩
  obtain ⟨P, hP⟩ : ∃ P, P = 2 ^ n := ⟨_, rfl⟩
  obtain ⟨base, hb⟩ : ∃ b, b = (2 + r) * P := ⟨_, rfl⟩
  have hspec : base ≤ v ∧ v < base + P := by
    have h2 := s3 (by omega)
    rw [← htell, ← hn, ← hr, ← hP, ← hb] at h2
    exact h2
  by_cases h14 : sl.1 < 14
  · rw [if_pos h14, ← hn, ← hr, ← hP, ← hb]
    dsimp only
    rw [show (v : Int) - (base : Int) = ((v - base : Nat) : Int) by omega, revP_tell encM_ok rfl (by rw [← hP]; omega)]
    omega
  · rw [if_neg h14, ← hn, ← hr, ← hP, ← hb]
    have hn5 : 6 ≤ n := by omega
    obtain ⟨P4, hP4⟩ : ∃ P, P = 2 ^ (n - 4) := ⟨_, rfl⟩
    have hPP : P = 16 * P4 := by rw [hP, hP4, show (16 : Nat) = 2 ^ 4 from rfl, ← Nat.pow_add, show 4 + (n - 4) = n by omega]
    unfold distC
    dsimp only
    rw [str_tell, revP_tell encM_ok rfl (show v % 16 < 2 ^ 4 by omega)]
    have hbm : base % 16 = 0 := by rw [hb, hPP, show (2 + r) * (16 * P4) = 16 * ((2 + r) * P4) by rw [Nat.mul_left_comm], Nat.mul_mod_right]
    have hsl : slotOf v < 64 := s1
    have hn30 : n ≤ 30 := by omega
    have hP30 : P ≤ 2 ^ 30 := by rw [hP]; exact pow_le_of hn30
    omega
end Go.Proofs.YtpdpbbmkicemdaaGreat

/-
  Whether a packet may be coded, as numbers.
-/
namespace Go.Proofs.YtpdpbbmkicemdaaGreat

/-- whether it can't be, whatever is there -/
def lateP (ended : Bool) (kd len : Int) : Bool := ended || decide (kd ≠ 0 ∧ kd ≠ 6 ∧ kd ≠ 7 ∧ (len < 2 ∨ 273 < len))
/-- whether it can -/
def hasP (z : Lzs) (kd : Int) (d : Nat) : Bool :=
  if kd = 0 ∨ kd = 7 then true else if kd = 1 then z.has d else if kd = 2 then z.has z.r0 else if kd = 3 then z.has z.r1 else if kd = 4 then z.has z.r2 else if kd = 5 then z.has z.r3 else if kd = 6 then z.has z.r0 else false
def fitsP (z : Lzs) (kd : Int) (d : Nat) (len : Int) : Bool := if lateP z.ended kd len = true then false else hasP z kd d

theorem fits_may {z : Lzs} {kd len : Int} {d : Nat} (h : fitsP z kd d len = true) : z.ended = false ∧ 0 ≤ kd ∧ kd ≤ 7 ∧ (z.out.length = 0 → kd = 0 ∨ kd = 7) ∧ (1 ≤ kd ∧ kd ≤ 5 → 2 ≤ len ∧ len ≤ 273) ∧
    (kd = 1 → z.has d = true) ∧ (kd = 2 → z.has z.r0 = true) ∧ (kd = 3 → z.has z.r1 = true) ∧ (kd = 4 → z.has z.r2 = true) ∧ (kd = 5 → z.has z.r3 = true) ∧ (kd = 6 → z.has z.r0 = true) := by
  have hl : lateP z.ended kd len = false := by
    cases hl : lateP z.ended kd len with
    | false => rfl
    | true => unfold fitsP at h; rw [hl] at h; cases h
  unfold fitsP at h
  rw [hl] at h
  have h : hasP z kd d = true := h
  unfold lateP at hl
  have he : z.ended = false := by
    cases he : z.ended with
    | false => rfl
    | true => rw [he] at hl; cases hl
  rw [he] at hl
  have hl2 := of_decide_eq_false (show decide (kd ≠ 0 ∧ kd ≠ 6 ∧ kd ≠ 7 ∧ (len < 2 ∨ 273 < len)) = false from hl)
  have hno : ∀ e, z.has e = true → z.out.length ≠ 0 := by
    intro e he h0
    unfold Lzs.has at he
    have := of_decide_eq_true he
    omega
  unfold hasP at h
  split at h
  · rename_i hk
    exact ⟨he, by omega, by omega, fun _ => hk, by omega, by omega, by omega, by omega, by omega, by omega, by omega⟩
  split at h
  · rename_i hk
    exact ⟨he, by omega, by omega, fun h0 => absurd h0 (hno _ h), by omega, fun _ => h, by omega, by omega, by omega, by omega, by omega⟩
  split at h
  · rename_i hk
    exact ⟨he, by omega, by omega, fun h0 => absurd h0 (hno _ h), by omega, by omega, fun _ => h, by omega, by omega, by omega, by omega⟩
  split at h
  · rename_i hk
    exact ⟨he, by omega, by omega, fun h0 => absurd h0 (hno _ h), by omega, by omega, by omega, fun _ => h, by omega, by omega, by omega⟩
  split at h
  · rename_i hk
    exact ⟨he, by omega, by omega, fun h0 => absurd h0 (hno _ h), by omega, by omega, by omega, by omega, fun _ => h, by omega, by omega⟩
  split at h
  · rename_i hk
    exact ⟨he, by omega, by omega, fun h0 => absurd h0 (hno _ h), by omega, by omega, by omega, by omega, by omega, fun _ => h, by omega⟩
  split at h
  · rename_i hk
    exact ⟨he, by omega, by omega, fun h0 => absurd h0 (hno _ h), by omega, by omega, by omega, by omega, by omega, by omega, fun _ => h⟩
  · cases h
end Go.Proofs.YtpdpbbmkicemdaaGreat

/-
  A list of packets, opened: each element has four numbers (int, uint8, int, uint32).
-/
namespace Go.Proofs.YtpdpbbmkicemdaaGreat
open Go.ChangeShapes Go.WideShapes Go.ChangeAt Go.RowKit

/-- a packet as it comes in -/
structure Pq where
  k : Int
  a : Int
  n : Int
  v : Int
instance : Inhabited Pq := ⟨⟨0, 0, 0, 0⟩⟩

/-- a slice of packets -/
def Pkts (w : World) (B : Option Addr) (m : Nat) (q : Nat → Pq) : Prop :=
  0 < m → ∃ b o, B = some ⟨b, o, none⟩ ∧ b < w.heap.size ∧ ∀ i, i < m → w.cell? ⟨b, o + i * 4, none⟩ = some (.int .i64 (q i).k) ∧ w.cell? ⟨b, o + i * 4 + 1, none⟩ = some (.int .u8 (q i).a) ∧
    w.cell? ⟨b, o + i * 4 + 2, none⟩ = some (.int .i64 (q i).n) ∧ w.cell? ⟨b, o + i * 4 + 3, none⟩ = some (.int .u32 (q i).v)
structure PqLit (q : Pq) : Prop where
  k : -9223372036854775808 ≤ q.k ∧ q.k ≤ 9223372036854775807
  a : 0 ≤ q.a ∧ q.a ≤ 255
  n : -9223372036854775808 ≤ q.n ∧ q.n ≤ 9223372036854775807
  v : 0 ≤ q.v ∧ q.v ≤ 4294967295

theorem Pkts.below {w w' : World} {B : Option Addr} {m : Nat} {q : Nat → Pq} (h : Pkts w B m q) (hb : Below w.heap.size w w') : Pkts w' B m q := by
  intro hm
  obtain ⟨b, o, e, hlt, hc⟩ := h hm
  refine ⟨b, o, e, Nat.lt_of_lt_of_le hlt hb.size, fun i hi => ?_⟩
  rw [hb.cell hlt, hb.cell hlt, hb.cell hlt, hb.cell hlt]
  exact hc i hi

theorem Pkts.below' {w w' : World} {B : Option Addr} {m : Nat} {q : Nat → Pq} (h : Pkts w B m q) (hb : Below w.heap.size w w') :
    0 < m → ∃ b o, B = some ⟨b, o, none⟩ ∧ b < w.heap.size ∧ ∀ i, i < m → w'.cell? ⟨b, o + i * 4, none⟩ = some (.int .i64 (q i).k) ∧ w'.cell? ⟨b, o + i * 4 + 1, none⟩ = some (.int .u8 (q i).a) ∧ w'.cell? ⟨b, o + i * 4 + 2, none⟩ = some (.int .i64 (q i).n) ∧ w'.cell? ⟨b, o + i * 4 + 3, none⟩ = some (.int .u32 (q i).v) := by
  intro hm
  obtain ⟨b, o, e, hlt, hc⟩ := h hm
  refine ⟨b, o, e, hlt, fun i hi => ?_⟩
  rw [hb.cell hlt, hb.cell hlt, hb.cell hlt, hb.cell hlt]
  exact hc i hi

section
variable {H : Type} {enc : TypeId × Value → H} {P : Program} {w : World} {held : Bool}
theorem open_pkts {t e : TypeId} {f0 f1 f2 f3 : Field} (ht : P.underlying t = some (.slice e)) (he : P.underlying e = some (.struct #[f0, f1, f2, f3]))
    (ce : P.cellsOf e = 4) (o0 : f0.offset = 0) (o1 : f1.offset = 1) (o2 : f2.offset = 2) (o3 : f3.offset = 3)
    (c0 : P.cellsOf f0.type = 1) (c1 : P.cellsOf f1.type = 1) (c2 : P.cellsOf f2.type = 1) (c3 : P.cellsOf f3.type = 1)
    (t0 : P.underlying f0.type = some (.int .i64)) (t1 : P.underlying f1.type = some (.int .u8)) (t2 : P.underlying f2.type = some (.int .i64)) (t3 : P.underlying f3.type = some (.int .u32))
    {B : Option Addr} {len cap : Nat} {d : DataW H} {ps : List MemPlace} (h : DataW.Trod enc P w 0 (fun _ => true) held t (.slice B len cap) d ps) :
    ∃ q : Nat → Pq, Pkts w B len q ∧ (∀ i, i < len → PqLit (q i)) ∧ len ≤ cap ∧ cap ≤ maxLen := by
  obtain ⟨fuel, hf⟩ := h
  rcases Go.Deep.open_slice ht hf with ⟨hcs, _⟩ | ⟨a, l, c, m, n, D, Pl, hcs, _, hl, hm, hmm, _, hx⟩
  · simp [Value.cells] at hcs
    obtain ⟨rfl, rfl, rfl⟩ := hcs
    exact ⟨fun _ => ⟨0, 0, 0, 0⟩, fun h => absurd h (by omega), fun i hi => absurd hi (by omega), Nat.le_refl _, by unfold maxLen; omega⟩
  · simp [Value.cells] at hcs
    obtain ⟨rfl, rfl, rfl⟩ := hcs
    simp only [if_true] at hmm
    subst hmm
    have each : ∀ i, i < len → ∃ q : Pq, w.cell? (a.add (i * 4)) = some (.int .i64 q.k) ∧ w.cell? (a.add (i * 4 + 1)) = some (.int .u8 q.a) ∧ w.cell? (a.add (i * 4 + 2)) = some (.int .i64 q.n) ∧ w.cell? (a.add (i * 4 + 3)) = some (.int .u32 q.v) ∧ PqLit q := by
      intro i hi
      obtain ⟨cs', h1, h2⟩ := hx i (by omega)
      rw [ce] at h1
      obtain ⟨_, hlen, hcell⟩ := World.cells?_some h1
      obtain ⟨xs, k, hk, hxy, _, hxl, hff⟩ := DataW.trod_struct he h2
      match xs, hxl, cs', hlen with
      | [y0, y1, y2, y3], _, [v0, v1, v2, v3], _ =>
        have g0 := hff 0 f0 rfl
        have g1 := hff 1 f1 rfl
        have g2 := hff 2 f2 rfl
        have g3 := hff 3 f3 rfl
        simp [o0, o1, o2, o3, c0, c1, c2, c3] at g0 g1 g2 g3
        have e0 := hcell 0 (by omega)
        have e1 := hcell 1 (by omega)
        have e2 := hcell 2 (by omega)
        have e3 := hcell 3 (by omega)
        rw [Go.Deep.add_add] at e0 e1 e2 e3
        obtain ⟨n0, z0, _, w0⟩ := DataW.trod_int t0 g0
        obtain ⟨n1, z1, _, w1⟩ := DataW.trod_int t1 g1
        obtain ⟨n2, z2, _, w2⟩ := DataW.trod_int t2 g2
        obtain ⟨n3, z3, _, w3⟩ := DataW.trod_int t3 g3
        simp only [List.cons.injEq, and_true] at z0 z1 z2 z3
        subst z0 z1 z2 z3
        exact ⟨⟨n0, n1, n2, n3⟩, by simpa using e0, by simpa using e1, by simpa using e2, by simpa using e3, ⟨bounds_i64 w0, bounds_u8 w1, bounds_i64 w2, bounds_u32 w3⟩⟩
    obtain ⟨q, hq⟩ := Go.Deep.choose_lt each
    refine ⟨q, fun hpos => ?_, fun i hi => (hq i hi).2.2.2.2, hl, hm⟩
    have h0 := (hq 0 hpos).1
    have ha : a.add (0 * 4) = a := by simp [Addr.add]
    rw [ha] at h0
    have hs := World.cell?_spot h0
    have hb := World.block_lt_of_cell? _ _ h0
    obtain ⟨b, o, r⟩ := a
    simp only at hs hb
    subst hs
    have hadd : ∀ j, (⟨b, o, none⟩ : Addr).add j = ⟨b, o + j, none⟩ := fun j => by
      unfold Addr.add
      by_cases h : j = 0
      · subst h; simp
      · simp [h]
    refine ⟨b, o, rfl, hb, fun i hi => ?_⟩
    obtain ⟨h1, h2, h3, h4, _⟩ := hq i hi
    rw [hadd] at h1 h2 h3 h4
    exact ⟨h1, h2, h3, h4⟩
end
end Go.Proofs.YtpdpbbmkicemdaaGreat

/-
  Packets are coded, as numbers.
-/
namespace Go.Proofs.YtpdpbbmkicemdaaGreat
open Go.RowKit

def Pq.pk (q : Pq) : Pk := ⟨q.k, q.v.toNat, q.n, UInt8.ofNat q.a.toNat⟩
/-- whether it is coded -/
def takesP (most : Int) (z : Lzs) (q : Pq) : Bool := fitsP z q.k q.v.toNat q.n && decide (IntKind.i64.wrap ((z.out.length : Int) + max 1 q.n) ≤ most)
def codeS (most : Int) (s : Lzs × Pm En) (q : Pq) : Lzs × Pm En := if takesP most s.1 q = true then (packP encM s.1 s.2 q.pk).2 else s
def codeG (most : Int) (qs : Nat → Pq) (s : Lzs × Pm En) : Nat → Lzs × Pm En
  | 0 => s
  | j + 1 => codeS most (codeG most qs s j) (qs j)

theorem fits_pk {z : Lzs} {q : Pq} (hq : PqLit q) (h : fitsP z q.k q.v.toNat q.n = true) : PkFine q.pk ∧ PkMay encM z q.pk ∧ PkLen encM q.pk := by
  obtain ⟨_, h1, h2, h3, h4, _⟩ := fits_may h
  refine ⟨⟨by show -1000000 ≤ q.k; omega, by show q.k ≤ 1000000; omega, by show q.v.toNat < 4294967296; have := hq.v; omega⟩, fun _ => ⟨h1, h2, fun h0 => ?_, fun h => (h4 h).1⟩, ?_⟩
  · rcases h3 h0 with h | h
    · exact .inl h
    · exact .inr (.inr h)
  · by_cases hk : 1 ≤ q.k ∧ q.k ≤ 5
    · have := h4 hk
      exact .inl ⟨by show -900000 ≤ q.n; omega, by show q.n ≤ 900000; omega⟩
    · exact .inr ⟨rfl, by show q.k = 0 ∨ q.k = 6 ∨ q.k = 7; omega⟩

/-- the bounds, behind j packets -/
theorem codeG_ok {most : Int} {qs : Nat → Pq} {s : Lzs × Pm En} {L N k m : Nat} (hq : ∀ i, i < m → PqLit (qs i)) (hz : ZNear s.1 L N) (ht : PmOk okE L (k + 27 * m) s.2) :
    ∀ j, j ≤ m → ZNear (codeG most qs s j).1 L (N + 273 * j) ∧ PmOk okE L (k + 27 * (m - j)) (codeG most qs s j).2
  | 0, _ => ⟨hz, ht⟩
  | j + 1, hj => by
    obtain ⟨h1, h2⟩ := codeG_ok hq hz ht j (by omega)
    show ZNear (codeS most (codeG most qs s j) (qs j)).1 L _ ∧ PmOk okE L _ (codeS most (codeG most qs s j) (qs j)).2
    unfold codeS
    split
    · rename_i hc
      unfold takesP at hc
      have hf : fitsP (codeG most qs s j).1 (qs j).k (qs j).v.toNat (qs j).n = true := by
        revert hc
        cases fitsP (codeG most qs s j).1 (qs j).k (qs j).v.toNat (qs j).n <;> simp
      obtain ⟨f1, f2, f3⟩ := fits_pk (hq j (by omega)) hf
      obtain ⟨p1, p2, _⟩ := packP_near encM_ok (k := k + 27 * (m - (j + 1))) h1 (by rw [show k + 27 * (m - (j + 1)) + 27 = k + 27 * (m - j) by omega]; exact h2) f1 f2
      exact ⟨p1.more (by omega), p2⟩
    · exact ⟨h1.more (by omega), h2.mono encM_ok (by omega)⟩
end Go.Proofs.YtpdpbbmkicemdaaGreat
