/-
  LzRes, LwUnp, LzAwake, LzMem: put together.
-/
import Derived.Test.YtjgdjobhhdhfjaaGreatUa06
import Derived.Test.YtjgdjobhhdhfjaaGreatUa14
import Derived.Laws.MakeOwn
import Derived.Deep.Cut
import Derived.Defers
import Derived.Deep.RegionLaw
import Derived.Test.YtjgdjobhhdhfjaaGreatUa05
import Derived.Test.YtjgdjobhhdhfjaaGreatUa02
import Derived.Test.YtjgdjobhhdhfjaaGreatUa07
set_option linter.unusedVariables false
set_option linter.unusedSimpArgs false
/-
  What the program's LZMA owes where a stream is unpacked; the laws' quota, their setting.
-/
namespace Go.Proofs.YtjgdjobhhdhfjaaGreat
open Go.RowKit

def muchQ : Quo := ⟨1099511627776, 1099511627776, 1099511627776, 1099511627776, 1099511627776⟩
theorem much_lit : Lit64 muchQ := by constructor <;> dsimp only [muchQ] <;> omega
theorem much_up : muchQ.up = muchQ := by simp [Quo.up, muchQ]; omega
theorem much_fine : Fine muchQ Tel.zero := much_up ▸ Fine.new much_lit
/-- what a stream is, by a setting that may be or not; and its code -/
def lzRes (bs : List UInt8) (a b c d size : Int) : Option (List UInt8) := if maySet a b c d = true then unpackN bs a.toNat b.toNat c.toNat d.toNat size else none
def codeU : Option (List UInt8) → Int
  | none => 12
  | some _ => 0
def lzCode (bs : List UInt8) (a b c d size : Int) : Int := if maySet a b c d = true then codeU (unpackN bs a.toNat b.toNat c.toNat d.toNat size) else 11
/-- what is answered, the meter's memory given back -/
def UpPost (w : World) (m : Nat) (o : Option (List UInt8)) (cd : Int) (x : Ending) (w' : World) : Prop :=
  (∃ t, MeterAt w' 86 m muchQ t ∧ t.mem = 0) ∧ Only (fun i => i = m) w w' ∧ ∃ A c, x = .returned (.tuple #[.slice A (o.getD []).length c, .int .i64 cd]) ∧ Sl w' A (o.getD []).length (bv (o.getD []))
/-- What the program's Unpack owes, under the laws' great quota. -/
structure UpCon : Prop where
  up : ∀ {w A n c m} {bs : List UInt8} {a b cc d size : Int}, n = bs.length → Sl w A n (bv bs) → (0 < n → ∀ q o, A = some ⟨q, o, none⟩ → q ≠ m) → n ≤ 1000000 → MeterAt w 86 m muchQ Tel.zero →
    (maySet a b cc d = true → a + b ≤ 6) → size ≤ 100000 → -9223372036854775808 ≤ size →
    Calls Tryz.prog 11 #[.slice A n c, .agg #[.int .i64 a, .int .i64 b, .int .i64 cc, .int .i64 d], .int .i64 size, .pointer (some ⟨m, 0, none⟩)] w (UpPost w m (lzRes bs a b cc d size) (lzCode bs a b cc d size))
set_option maxHeartbeats 2000000 in
theorem much_any (w : World) : Calls Tryz.prog 10 #[] w fun e w' => ∃ g, e = .returned (.pointer (some ⟨g, 0, none⟩)) ∧ MeterAt w' 86 g muchQ Tel.zero ∧ w.heap.size ≤ g ∧ Below w.heap.size w w' := by
  have K := mnew_any muchQ w
  rw [much_up] at K
  have K : Calls Tryz.prog 25 #[.agg #[.int .i64 1099511627776, .int .i64 1099511627776, .int .i64 1099511627776, .int .i64 1099511627776, .int .i64 1099511627776]] w fun e w' => ∃ g, e = .returned (.pointer (some ⟨g, 0, none⟩)) ∧ MeterAt w' 86 g muchQ Tel.zero ∧ w.heap.size ≤ g ∧ Below w.heap.size w w' := K
  have K := Lib.hid K
  go_enter Tryz.func10, Tryz.ntmps10
  go_wp2_with fail
  refine K.out.mono ?_
  rintro e w1 ⟨g, rfl, hM, hg, hb⟩
  have HE := Lib.hid (And.intro hM (And.intro hg hb))
  clear hM hg hb K
  go_wp2_with fail
  go_ret
  exact ⟨g, rfl, HE.out.1, HE.out.2.1, HE.out.2.2⟩
def lightP (a b c d : Int) : Bool := !maySet a b c d || decide (a + b ≤ 6)
set_option maxRecDepth 100000 in
set_option maxHeartbeats 2000000 in
theorem light_any (a b c d : Int) (w : World) :
    Calls Tryz.prog 9 #[.agg #[.int .i64 a, .int .i64 b, .int .i64 c, .int .i64 d]] w fun x w' => x = .returned (.bool (lightP a b c d)) ∧ Below w.heap.size w w' := by
  obtain ⟨w1, hw1⟩ : ∃ w1, w1 = w.alloc (.cells #[.int .i64 a, .int .i64 b, .int .i64 c, .int .i64 d] 24) := ⟨_, rfl⟩
  have hb1 : Below w.heap.size w w1 := by rw [hw1]; exact (Below.refl _ _).alloc (Nat.le_refl _) _
  have HBk : Blk w1 w.heap.size 24 #[.int .i64 a, .int .i64 b, .int .i64 c, .int .i64 d] := by rw [hw1]; exact Blk.fresh w _ _
  have K := Lib.hid (may_any a b c d w1)
  have d0 : w1.cell? ⟨w.heap.size, 0, none⟩ = some (.int .i64 a) := HBk.cell 0
  have d1 : w1.cell? ⟨w.heap.size, 1, none⟩ = some (.int .i64 b) := HBk.cell 1
  have d2 : w1.cell? ⟨w.heap.size, 2, none⟩ = some (.int .i64 c) := HBk.cell 2
  have d3 : w1.cell? ⟨w.heap.size, 3, none⟩ = some (.int .i64 d) := HBk.cell 3
  have HW1 := Lib.hid hw1
  have HB1 := Lib.hid hb1
  have HBK := Lib.hid HBk
  obtain ⟨v, hv⟩ : ∃ v, v = lightP a b c d := ⟨_, rfl⟩
  rw [← hv]
  unfold lightP at hv
  obtain ⟨mm, hmm⟩ : ∃ mm, mm = maySet a b c d := ⟨_, rfl⟩
  rw [← hmm] at hv K
  have HMM := Lib.hid hmm
  clear hw1 hb1 HBk hmm
  cases mm with
  | false =>
    obtain rfl : v = true := hv
    go_enter Tryz.func9, Tryz.ntmps9
    go_upto_region 1 with fail
    rw [← HW1.out]
    clear HW1
    go_wp2_with fail
    refine K.out.mono ?_
    rintro e w2 ⟨rfl, hb2⟩
    have HB2 := Lib.hid (HB1.out.trans ⟨hb2.os, hb2.tape, hb2.output, hb2.size, fun i hi => hb2.block i (Nat.lt_of_lt_of_le hi HB1.out.size)⟩)
    clear hb2 K d0 d1 d2 d3 HB1 HBK
    go_wp2_with fail
    go_ret
    exact ⟨rfl, HB2.out⟩
  | true =>
    obtain ⟨m1, m2, m3, m4, m5⟩ := may_iff.1 HMM.out.symm
    obtain ⟨ab, hab⟩ : ∃ ab, ab = a + b := ⟨_, rfl⟩
    have e1 : IntKind.i64.wrap (a + b) = ab := by rw [hab]; exact IntWalk.i64_in _ (by omega)
    have hv2 : v = decide (ab ≤ 6) := by rw [hab]; exact hv
    have HAB := Lib.hid hab
    clear m1 m2 m3 m4 m5 hab
    have HE1 := Lib.hid e1
    clear e1
    by_cases h6 : ab ≤ 6
    · obtain rfl : v = true := by rw [hv2, decide_eq_true h6]
      have H6 := Lib.hid h6
      clear hv hv2 h6
      go_enter Tryz.func9, Tryz.ntmps9
      go_upto_region 1 with fail
      rw [← HW1.out]
      clear HW1
      go_wp2_with fail
      refine K.out.mono ?_
      rintro e w2 ⟨rfl, hb2⟩
      have HB2 := Lib.hid (HB1.out.trans ⟨hb2.os, hb2.tape, hb2.output, hb2.size, fun i hi => hb2.block i (Nat.lt_of_lt_of_le hi HB1.out.size)⟩)
      have hk2 : Blk w2 w.heap.size 24 #[.int .i64 a, .int .i64 b, .int .i64 c, .int .i64 d] := HBK.out.below hb2
      have o0 : w2.cell? ⟨w.heap.size, 0, none⟩ = some (.int .i64 a) := hk2.cell 0
      have o1 : w2.cell? ⟨w.heap.size, 1, none⟩ = some (.int .i64 b) := hk2.cell 1
      have e1 := HE1.out
      have h6 := H6.out
      clear hb2 hk2 K d0 d1 d2 d3 HB1 HBK
      go_wp2_with fail
      go_ret
      exact ⟨rfl, HB2.out⟩
    · obtain rfl : v = false := by rw [hv2, decide_eq_false h6]
      have H6 := Lib.hid h6
      clear hv hv2 h6
      go_enter Tryz.func9, Tryz.ntmps9
      go_upto_region 1 with fail
      rw [← HW1.out]
      clear HW1
      go_wp2_with fail
      refine K.out.mono ?_
      rintro e w2 ⟨rfl, hb2⟩
      have HB2 := Lib.hid (HB1.out.trans ⟨hb2.os, hb2.tape, hb2.output, hb2.size, fun i hi => hb2.block i (Nat.lt_of_lt_of_le hi HB1.out.size)⟩)
      have hk2 : Blk w2 w.heap.size 24 #[.int .i64 a, .int .i64 b, .int .i64 c, .int .i64 d] := HBK.out.below hb2
      have o0 : w2.cell? ⟨w.heap.size, 0, none⟩ = some (.int .i64 a) := hk2.cell 0
      have o1 : w2.cell? ⟨w.heap.size, 1, none⟩ = some (.int .i64 b) := hk2.cell 1
      have e1 := HE1.out
      have h6 := H6.out
      clear hb2 hk2 K d0 d1 d2 d3 HB1 HBK
      go_wp2_with fail
      go_ret
      exact ⟨congrArg (fun b => Ending.returned (.bool b)) (decide_eq_false (by have := H6.out; omega)), HB2.out⟩
theorem below_go {w0 w1 w2 : World} {B : Nat} (h : Below B w0 w1) (hb : Below w1.heap.size w1 w2) (hB : B ≤ w0.heap.size) : Below B w0 w2 :=
  h.trans ⟨hb.os, hb.tape, hb.output, hb.size, fun i hi => hb.block i (by have := h.size; omega)⟩
end Go.Proofs.YtjgdjobhhdhfjaaGreat

/-
  The program's Unpack.
-/
namespace Go.Proofs.YtjgdjobhhdhfjaaGreat
open Go.RowKit

section
variable {P : Program} (w : World)
theorem wpList_appO {ops : Array Oper} {rest : List Oper} {o : Oper} {a : Act} {Q : Exit → Act → World → Prop} (hgd : o.guard = none) (s x : Operand) (t : TypeId)
    (ho : o.op = .call { callee := .builtin .append, args := #[s, x], argTypes := #[t, t] })
    (base : Nat) (e : TypeId) (i : TypeInfo) (z : Value) (bytes : Nat) (ht : P.underlying t = some (.slice e)) (hi : P.info? e = some i) (hz : i.zero = some z)
    (hsize : i.size = 1) (hby : i.bytes = bytes) (hzs : z.cells.size = 1)
    (v : Value) (n : Nat) (xs : List Value) (hs : a.eval s = v) (hown : w.ownsRow base e 1 v n xs)
    (A : Option Addr) (m c : Nat) (news : List Value) (hx : a.eval x = .slice A m c) (hr : Sl w A m news) (h1 : ∀ u ∈ news, u.oneCell' = true)
    (hbytes : (n + m) * bytes ≤ 140737488355328) (hb0 : 0 < bytes) (hbase : base ≤ w.heap.size)
    (h : ∀ A' c' w', w'.ownsRow base e 1 (.slice A' (n + m) c') (n + m) (xs ++ news) → w.grownBy w' v.ownBlock → ((Value.slice A' (n + m) c').ownBlock = v.ownBlock ∨ (Value.slice A' (n + m) c').ownBlock = some w.heap.size) → wpList P ops Q rest (a.put o.dst (.slice A' (n + m) c')) w') : wpList P ops Q (o :: rest) a w :=
  wpList_plain hgd fun K hK => by
    obtain ⟨v', w', hrun, h2, h3, h4⟩ := run_app (P := P) w base t o.type e i z bytes ht hi hz hsize hby hzs v n xs hown A m c news hr h1 hbytes hb0 hbase
    obtain ⟨A', c', rfl, h2⟩ := own_form h2
    unfold Oper.wp execOp
    simp only [ho, resolve, invoke, builtin, Sem.run_bind, Sem.run_pure, Result.andThen_ok, List.map_toArray, List.map_cons, List.map_nil, hs, hx, hrun]
    exact hK _ _ (h A' c' w' h2 h3 h4)
end

/-- how long a slice is -/
def slLen (v : Value) : Nat := match v with | .slice _ n _ => n | _ => 0
theorem Un.only {K : Kon} {w w' : World} {Gw S : Nat → Prop} {lc lp pb dict : Nat} (h : Un K w Gw lc lp pb dict) (hO : Only S w w') (h1 : ¬ S K.g) (h2 : ¬ S K.lb) (h3 : ∀ i, Gw i → ¬ S i) : Un K w' Gw lc lp pb dict :=
  ⟨(K.prb _ h.gn).only h.row hO (fun i hi => by rcases hi with rfl | rfl; exact h1; exact h2), h.win.only hO h3, h.gn, h.mg, h.mb, fun i hi => ⟨(h.wd i hi).1, (h.wd i hi).2.1, (h.wd i hi).2.2.1, Nat.lt_of_lt_of_le (h.wd i hi).2.2.2 hO.size⟩⟩

section
variable {w wr : World} {m lc lp pb dict : Nat} {size : Int}

set_option maxRecDepth 100000 in
set_option maxHeartbeats 4000000 in
theorem lnew_props {a b c d : Int} (h : maySet a b c d = false) (w : World) (m : Value) : Calls Tryz.prog 26 #[.agg #[.int .i64 a, .int .i64 b, .int .i64 c, .int .i64 d], .int .i64 size, m] w fun e w' =>
    e = .returned (.tuple #[.pointer none, .int .i64 11]) ∧ Below w.heap.size w w' := by
  obtain ⟨w1, hw1⟩ : ∃ w1, w1 = w.alloc (.cells #[.int .i64 a, .int .i64 b, .int .i64 c, .int .i64 d] 24) := ⟨_, rfl⟩
  have hb1 : Below w.heap.size w w1 := by rw [hw1]; exact (Below.refl _ _).alloc (Nat.le_refl _) _
  have HBk : Blk w1 w.heap.size 24 #[.int .i64 a, .int .i64 b, .int .i64 c, .int .i64 d] := by rw [hw1]; exact Blk.fresh w _ _
  have KM := pmay_any a b c d w1
  rw [h] at KM
  have KM := Lib.hid KM
  have c0 : w1.cell? ⟨w.heap.size, 0, none⟩ = some (.int .i64 a) := HBk.cell 0
  have c1 : w1.cell? ⟨w.heap.size, 1, none⟩ = some (.int .i64 b) := HBk.cell 1
  have c2 : w1.cell? ⟨w.heap.size, 2, none⟩ = some (.int .i64 c) := HBk.cell 2
  have c3 : w1.cell? ⟨w.heap.size, 3, none⟩ = some (.int .i64 d) := HBk.cell 3
  have HW1 := Lib.hid hw1
  have HB1 := Lib.hid hb1
  clear hw1 hb1 HBk h
  go_enter Tryz.func26, Tryz.ntmps26
  go_upto_region 1 with fail
  rw [← HW1.out]
  clear HW1
  go_wp2_with fail
  refine KM.out.mono ?_
  rintro e w2 ⟨rfl, hb2⟩
  have HB2 := Lib.hid (HB1.out.trans ⟨hb2.os, hb2.tape, hb2.output, hb2.size, fun i hi => hb2.block i (Nat.lt_of_lt_of_le hi HB1.out.size)⟩)
  clear hb2 KM c0 c1 c2 c3 HB1
  go_wp2_with fail
  go_ret2
  exact ⟨rfl, HB2.out⟩

theorem up_door {K : Kon} {Gw : Nat → Prop} {out : List UInt8} {t : Tel} (hH : Hold K wr Gw out) (hap : Apart K Gw) (hM : MeterAt wr 86 K.m muchQ t) (hF : Fine muchQ t) (hr : K.room ≤ 9223372036854775807) (hz : K.sz ≤ 1048576) (u : FrameMode) :
    CallsD Tryz.prog 27 #[.pointer (some ⟨K.g, 0, none⟩)] u wr fun e u' w' => u' = u ∧ e = .returned (.tuple #[]) ∧ MeterAt w' 86 K.m muchQ ((t.doFree (K.sz : Int)).doFree K.room) ∧ Only (fun i => Gw i ∨ i = K.m ∨ i = K.g) wr w' := by
  obtain ⟨fs, ps, h1, h2, h3, h4, h5⟩ := hH
  refine ((lclose_any h1 h2 h3 h4 hr h5 hz hM hF (fun h => (hap.wd _ h).2.2.1 rfl) (fun h => (hap.wd _ h).1 rfl) hap.mg).2 u).mono ?_
  rintro e u' w' ⟨rfl, rfl, G', _, _, k3, _, k5⟩
  exact ⟨rfl, rfl, k3, k5⟩

theorem much_mem {a b : Int} (ha : 0 ≤ a) (ha1 : a ≤ 1000000) (hb : 0 ≤ b) (hb1 : b ≤ 1000000) :
    fits Tel.zero.code Tel.zero.mem muchQ.mem a ∧ fits (Tel.zero.doMem muchQ a).code (Tel.zero.doMem muchQ a).mem muchQ.mem b ∧ (((((Tel.zero.doMem muchQ a).doMem muchQ b).doFree a).doFree b).mem = 0) := by
  have e0 : Tel.zero.mem = 0 := rfl
  have e1 : Tel.zero.code = 0 := rfl
  have e2 : muchQ.mem = 1099511627776 := rfl
  have f1 : (Tel.zero.doMem muchQ a).code = 0 := by
    show codeOf Tel.zero.code Tel.zero.mem muchQ.mem a 101 = 0
    rw [e0, e1, e2]
    unfold codeOf
    split <;> omega
  have f2 : (Tel.zero.doMem muchQ a).mem = a := by
    show wasOf Tel.zero.code Tel.zero.mem muchQ.mem a = a
    rw [e0, e1, e2]
    unfold wasOf
    split <;> omega
  have f3 : ((Tel.zero.doMem muchQ a).doMem muchQ b).mem = a + b := by
    show wasOf (Tel.zero.doMem muchQ a).code (Tel.zero.doMem muchQ a).mem muchQ.mem b = a + b
    rw [f1, f2, e2]
    unfold wasOf
    split <;> omega
  refine ⟨?_, ?_, ?_⟩
  · rw [e0, e1, e2]
    exact ⟨rfl, by omega⟩
  · rw [f1, f2, e2]
    exact ⟨rfl, by omega⟩
  · show max ((max (((Tel.zero.doMem muchQ a).doMem muchQ b).mem - max a 0) 0) - max b 0) 0 = 0
    rw [f3]
    omega

theorem up_fit {K : Kon} {z : Lzs} {n dict : Nat} {S size : Int} (hS : S = max (min (dict : Int) size) 1) (hz : K.sz = S.toNat) (h1 : S ≤ 100000) (hd : z.dict = dict) (hd0 : 4096 ≤ dict) (hn : n ≤ size.toNat) : Fit K (z.cut n) := by
  have hl : (z.cut n).out.length ≤ n := by
    show (z.out.take n).length ≤ n
    rw [List.length_take]
    exact Nat.min_le_left _ _
  have hdd : (z.cut n).dict = dict := hd
  unfold Fit
  rw [hdd, hz]
  generalize (z.cut n).out.length = l at *
  omega

set_option maxRecDepth 100000 in
set_option maxHeartbeats 8000000 in
theorem up_ok {A : Option Addr} {n c : Nat} {bs : List UInt8} (hn : n = bs.length) (hS : Sl w A n (bv bs)) (hA : 0 < n → ∀ q o, A = some ⟨q, o, none⟩ → q ≠ m) (hl : n ≤ 1000000) (hM : MeterAt w 86 m muchQ Tel.zero)
    (hs : SetOk lc lp pb dict) (h6 : lc + lp ≤ 6) (h1 : size ≤ 100000) (h0 : -9223372036854775808 ≤ size) :
    Calls Tryz.prog 11 #[.slice A n c, .agg #[.int .i64 (lc : Int), .int .i64 (lp : Int), .int .i64 (pb : Int), .int .i64 (dict : Int)], .int .i64 size, .pointer (some ⟨m, 0, none⟩)] w (UpPost w m (unpackN bs lc lp pb dict size) (codeU (unpackN bs lc lp pb dict size))) := by
  obtain ⟨i, hi, hz0, hz1, hz2⟩ := info_parts info_u8
  obtain ⟨w1, hw1⟩ : ∃ w1, w1 = w.alloc (.cells #[.int .i64 (lc : Int), .int .i64 (lp : Int), .int .i64 (pb : Int), .int .i64 (dict : Int)] 24) := ⟨_, rfl⟩
  have hO1 : Only (fun i => i = m) w w1 := by rw [hw1]; exact (Only.refl _ w).alloc _
  have hs1 : w1.heap.size = w.heap.size + 1 := by rw [hw1]; simp
  have HBk : Blk w1 w.heap.size 24 #[.int .i64 (lc : Int), .int .i64 (lp : Int), .int .i64 (pb : Int), .int .i64 (dict : Int)] := by rw [hw1]; exact Blk.fresh w _ _
  have hM1 : MeterAt w1 86 m muchQ Tel.zero := by rw [hw1]; exact hM.alloc _
  have hpn := (probsN_is hs).2.1
  have hnl6 : 768 * 2 ^ (lc + lp) ≤ 768 * 2 ^ 6 := Nat.mul_le_mul_left 768 (Nat.pow_le_pow_right (by decide) h6)
  have hpr : (probsN lc lp : Int) ≤ 60000 := by unfold probsN; omega
  have hd0 := hs.2.2.2
  obtain ⟨S, hSS⟩ : ∃ S, S = max (min (dict : Int) size) 1 := ⟨_, rfl⟩
  obtain ⟨R, hRR⟩ : ∃ R, R = 2 * (probsN lc lp : Int) := ⟨_, rfl⟩
  have hmm := much_mem (a := S) (b := R) (by omega) (by omega) (by omega) (by omega)
  have KN := lnew_any (size := size) hs h6 hM1 much_fine h0 (by omega) (by rw [← hSS]; exact hmm.1) (by rw [← hSS, ← hRR]; exact hmm.2.1)
  have KN := Lib.hid KN
  obtain ⟨res, hres⟩ : ∃ r, r = unpackN bs lc lp pb dict size := ⟨_, rfl⟩
  rw [← hres]
  rw [resN_start] at hres
  have HW1 := Lib.hid hw1
  have HO1 := Lib.hid hO1
  have HSO := Lib.hid (And.intro hs (And.intro h6 (And.intro h1 h0)))
  have HIN := Lib.hid (And.intro hn (And.intro hS (And.intro hA hl)))
  have HRES := Lib.hid hres
  have HNUM := Lib.hid (And.intro hSS (And.intro hRR (And.intro hmm.2.2 (And.intro (show R ≤ 1000000 by omega) (show S ≤ 100000 by omega)))))
  have HS1 := Lib.hid (And.intro hs1 hM.lt)
  have c0 : w1.cell? ⟨w.heap.size, 0, none⟩ = some (.int .i64 (lc : Int)) := HBk.cell 0
  have c1 : w1.cell? ⟨w.heap.size, 1, none⟩ = some (.int .i64 (lp : Int)) := HBk.cell 1
  have c2 : w1.cell? ⟨w.heap.size, 2, none⟩ = some (.int .i64 (pb : Int)) := HBk.cell 2
  have c3 : w1.cell? ⟨w.heap.size, 3, none⟩ = some (.int .i64 (dict : Int)) := HBk.cell 3
  clear hw1 hO1 hs h6 h1 h0 hn hS hA hl hres hSS hRR hmm hs1 HBk hM1 hM hpn hnl6 hpr hd0
  go_enter_defers Tryz.func11, Tryz.ntmps11
  go_upto_region 1 with fail
  rw [← HW1.out]
  clear HW1
  go_wp2_with fail
  refine KN.out.mono ?_
  rintro e w2 ⟨K, Gw, hKm, hroom, hsz, hnl, rfl, hUn, hM2, hnew, hO2⟩
  have HO2 := Lib.hid (HO1.out.trans hO2)
  have hS2 : Sl w2 A n (bv bs) := HIN.out.2.1.only HO2.out (fun hn b o e h => HIN.out.2.2.1 hn b o e h)
  have KF := Lib.hid (newFeed_any (bs := bs) (c := c) hS2 (by have := HIN.out.2.2.2; omega))
  have HUN := Lib.hid hUn
  have HM2 := Lib.hid hM2
  have HKN := Lib.hid (And.intro hKm (And.intro hroom (And.intro hsz (And.intro hnl hnew))))
  clear hUn hM2 hKm hroom hsz hnl hnew hO2 hS2 KN c0 c1 c2 c3 HO1
  go_wp2_with fail
  refine KF.out.mono ?_
  rintro e w3 ⟨f, rfl, hf, hF3, hb3⟩
  have hUn3 := HUN.out.only (Only.of_below (S := fun _ => False) hb3) (fun h => h) (fun h => h) (fun _ _ h => h)
  have hgl : K.g < w2.heap.size := HUN.out.row.1.lt
  have hll : K.lb < w2.heap.size := HUN.out.row.2.1.lt
  have hml : K.m < w2.heap.size := by rw [HKN.out.1]; exact HM2.out.lt
  have KB := Lib.hid (lbegin_any hUn3 HSO.out.1 HKN.out.2.2.2.1 hF3 hgl hll hml (fun i hi => (HUN.out.wd i hi).2.2.2))
  have HO3 := Lib.hid (HO2.out.then hb3)
  have HM3 := Lib.hid (HM2.out.below hb3)
  have HL := Lib.hid (And.intro hgl (And.intro hll (And.intro hml hf)))
  clear hUn3 hgl hll hml hf hF3 hb3 KF HO2
  go_wp2_with fail
  refine KB.out.mono ?_
  rintro e w4 ⟨rfl, dg, hdg, hNx, hO4⟩
  obtain ⟨K', hK'⟩ : ∃ K', K' = K.on dg f w2.heap.size bs := ⟨_, rfl⟩
  have kg : K'.g = K.g := by rw [hK']; rfl
  have km : K'.m = m := by rw [hK']; exact HKN.out.1
  have kr : K'.room = R := by rw [hK', HNUM.out.2.1]; exact HKN.out.2.1
  have kz : K'.sz = S.toNat := by rw [hK', HNUM.out.1]; exact HKN.out.2.2.1
  rw [← hK'] at hNx
  have hlow : w.heap.size ≤ K'.g ∧ w.heap.size ≤ K'.lb ∧ w.heap.size ≤ K'.lo ∧ K'.dg < w4.heap.size := by
    have h1 := HKN.out.2.2.2.2
    have h2 := HS1.out.1
    have h3 := HO3.out.size
    have h4 := HL.out.1
    refine ⟨by rw [hK']; show _ ≤ K.g; omega, by rw [hK']; show _ ≤ K.lb; omega, by rw [hK']; show _ ≤ w2.heap.size; omega, ?_⟩
    obtain ⟨_, _, _, _, hB, _⟩ := hNx.lw.mch.pd
    exact hB.lt
  have hmf : ¬ (m = K.g ∨ m = f) := by
    have h1 := HKN.out.2.2.2.2.1
    have h2 := HS1.out.1
    have h3 := HS1.out.2
    have h4 := HL.out.1
    have h5 := HL.out.2.2.2
    rintro (h | h) <;> omega
  have hP : (⟨List.replicate (1847 + K.nl) 1024, started bs⟩ : Pm Dc) = ⟨List.replicate (probsN lc lp) 1024, started bs⟩ := by
    unfold probsN
    rw [HKN.out.2.2.2.1]
  rw [hP] at hNx
  have hOn : Only (fun i => i = K'.m) w w4 := by
    rw [km]
    refine HO3.out.trans' hO4 (fun i hi => .inr ?_)
    have h1 := HKN.out.2.2.2.2.1
    have h2 := HS1.out.1
    have h5 := HL.out.2.2.2
    have h6 := HL.out.1
    rcases hi with hi | hi <;> omega
  have hI : Inv K' w4.heap.size w size dict res muchQ ((Tel.zero.doMem muchQ S).doMem muchQ R) (.slice none 0 0) w4 0 (Lzs.start lc lp pb dict) ⟨List.replicate (probsN lc lp) 1024, started bs⟩ Gw := by
    refine ⟨hNx, World.ownsRow_nil _ _ _ _, (fun b hb => by cases hb), Nat.zero_le _, HRES.out, rfl, ?_, hOn, fun i hi => ?_, hlow, Nat.le_refl _⟩
    · rw [km, HNUM.out.1, HNUM.out.2.1]
      exact HM3.out.only hO4 hmf
    · have h1 := HKN.out.2.2.2.2.2.2 i hi
      have h2 := HS1.out.1
      omega
  have hI : Inv K' w4.heap.size w size dict res muchQ ((Tel.zero.doMem muchQ S).doMem muchQ R) (.slice none 0 0) w4 0 (Lzs.start lc lp pb dict) ⟨List.replicate (probsN lc lp) 1024, started bs⟩ Gw := hI
  have HI := Lib.hid hI
  have HK := Lib.hid (And.intro kg (And.intro km (And.intro kr kz)))
  generalize hB : w4.heap.size = B at *
  generalize hg : K.g = g at *
  clear hI hOn hK' kg km kr kz hNx hlow hmf hP hO4 hdg KB HUN HM2 HM3 HKN HO3 HL HRES hg
  obtain ⟨T, hT⟩ : ∃ T, T = (Tel.zero.doMem muchQ S).doMem muchQ R := ⟨_, rfl⟩
  rw [← hT] at HI HNUM
  have hTF : Fine muchQ T := by rw [hT]; exact (much_fine.mem _).mem _
  have HT := Lib.hid hTF
  clear hT hTF
  have hB4 : B ≤ w4.heap.size := Nat.le_of_eq hB.symm
  have HB4 := Lib.hid hB4
  clear hB hB4
  go_wp2_with fail
  go_loopw [12] (fun v wr => ∃ (n' : Nat) (zf : Lzs) (tf : Pm Dc) (G1 : Nat → Prop), Inv K' B w size dict res muchQ T v wr n' zf tf G1) (fun v wr => size.toNat - slLen v)
  case atStart => exact ⟨0, _, _, Gw, HI.out⟩
  case round =>
    clear HI
    obtain ⟨n', zf, tf, G1, hinv⟩ := hrel
    obtain ⟨A1, c1, rfl, hown⟩ := own_form hinv.own
    have hfit : Fit K' (zf.cut n') := up_fit HNUM.out.1 HK.out.2.2.2 HNUM.out.2.2.2.2 hinv.fit HSO.out.1.2.2.2.1 hinv.le
    have hn8 : n' ≤ 800000 := by have := hinv.le; have := HSO.out.2.2.1; omega
    by_cases hlt : (n' : Int) < size
    · have KX := lnext_any hinv.nx hn8 hfit
      rw [HK.out.1] at KX
      have KX := Lib.hid KX
      have HV := Lib.hid hinv
      have HLT := Lib.hid hlt
      clear hinv hown hfit hn8
      go_wp2_with fail
      refine KX.out.mono ?_
      rintro e w6 hp
      rcases hp with ⟨zf', tf', G2, rfl, hN, hd, ht, hc, hG, hO⟩ | ⟨rfl, hn2, hs, z1, t1, l1, G2, hLw, hG, hO⟩
      · have hmid := HV.out.told HLT.out hN hd ht hc hG hO
        have HMI := Lib.hid hmid
        obtain ⟨x, hx⟩ : ∃ x, x = zf'.out.getD n' 0 := ⟨_, rfl⟩
        rw [← hx]
        have HX := Lib.hid hx
        clear hN hd ht hc hG hO hmid hx KX hlt
        go_wp2_with (first
          | (at_builtin; refine wpList_appO _ rfl _ _ 22 rfl B 5 i _ 1 Tryz.underlying22 hi hz0 hz1 hz2 rfl _ n' (bv (zf'.out.take n')) rfl (HMI.out.own.alloc _) _ 1 1 [.int .u8 (x.toNat : Int)] rfl (sl_one _ _ _) (one_one _ _) ?_ (by decide) ?_ ?_)
          | fail)
        · have := HSO.out.2.2.1
          have := HMI.out.le
          omega
        · have := HMI.out.bot
          simp
          omega
        · intro A2 c2 w7 ho hg2 hv
          have hin := HMI.out.put (v' := .slice A2 (n' + 1) c2) (by rw [← HX.out]; exact ho) hg2 (hv.imp id (fun h => h.trans (by simp)))
          have HIN2 := Lib.hid hin
          clear ho hg2 hv hin
          go_wp2_with fail
          go_roundw
          case rel => exact ⟨n' + 1, zf', tf', G2, HIN2.out⟩
          case measure =>
            have := HLT.out
            show size.toNat - (n' + 1) < size.toNat - n'
            omega
      · have hhold := hLw.hold
        have hap := hLw.ap
        have hlo := HV.out.nx.lw.mch.pd.lo
        have hM6 : MeterAt w6 86 K'.m muchQ T := HV.out.mt.only hO (HV.out.nx.lw.ap.meter hlo)
        have hres : res = none := by rw [HV.out.res]; exact resN_stop (by have := HLT.out; omega) hs
        have hGm : ∀ i, G2 i → w.heap.size ≤ i := by
          intro i hi
          rcases hG i hi with h | h
          · exact HV.out.gm i h
          · have := HV.out.only.size
            omega
        have hOw : Only (fun i => i = K'.m) w w6 := by
          refine HV.out.only.trans' hO (fun i hi => .inr ?_)
          obtain ⟨l1, l2, l3, _⟩ := HV.out.low
          rcases hi with (e | e | e | e) | e
          · omega
          · omega
          · omega
          · omega
          · exact HV.out.gm i e
        have KD := Lib.hid (up_door hhold hap hM6 HT.out (by rw [HK.out.2.2.1]; have := HNUM.out.2.2.2.1; omega) (by rw [HK.out.2.2.2]; have := HNUM.out.2.2.2.2; omega) .returning)
        have HE := Lib.hid (And.intro hres (And.intro hOw (And.intro hGm HV.out.low.1)))
        clear hhold hap hlo hM6 hres hGm hOw hn2 hs hLw hG hO KX hlt HV
        go_wp2_with fail
        refine leaves_cons (f := 27) (args := #[.pointer (some ⟨g, 0, none⟩)]) (by simp) (by simp [go_sem]) ?_
        have KD := KD.out
        rw [HK.out.1] at KD
        refine KD.mono ?_
        rintro e u' w7 ⟨rfl, rfl, hM7, hO7⟩
        obtain ⟨hres, hOw, hGm, hlg⟩ := HE.out
        rw [HK.out.1] at hlg
        rw [HK.out.2.1] at hM7 hO7 hOw
        rw [HK.out.2.2.1, HK.out.2.2.2] at hM7
        refine ⟨_, results_tmp2 rfl _ _ _, ?_⟩
        subst hres
        refine ⟨⟨_, hM7, ?_⟩, hOw.trans' hO7 (fun i hi => ?_), none, 0, rfl, ⟨rfl, fun h => absurd h (Nat.lt_irrefl 0)⟩⟩
        · have := HNUM.out.2.2.1
          rw [Int.toNat_of_nonneg (by have := HNUM.out.1; omega)]
          exact this
        · rcases hi with hi | hi | hi
          · exact .inr (hGm i hi)
          · exact .inl hi
          · exact .inr (by omega)
    · have KX := lfinish_any hinv.nx hn8 hfit
      rw [HK.out.1] at KX
      have KX := Lib.hid KX
      have HV := Lib.hid hinv
      have HLT := Lib.hid hlt
      clear hinv hown hfit hn8
      go_wp2_with fail
      refine KX.out.mono ?_
      rintro e w6 ⟨b, rfl, hb1, hb2, hhold, hO⟩
      have hap := HV.out.nx.lw.ap
      have hlo := HV.out.nx.lw.mch.pd.lo
      have hO : Only (K'.all G1) wr w6 := hO.mono fun i hi => .inl hi
      have hM6 : MeterAt w6 86 K'.m muchQ T := HV.out.mt.only hO (hap.meter hlo)
      have hres : res = if b = true then some (zf.out.take n') else none := by rw [HV.out.res]; exact resN_end HV.out.le (by have := HLT.out; omega) HV.out.nx.le hb1 hb2
      have hOw : Only (fun i => i = K'.m) w w6 := by
        refine HV.out.only.trans' hO (fun i hi => .inr ?_)
        obtain ⟨l1, l2, l3, _⟩ := HV.out.low
        rcases hi with (e | e | e | e) | e
        · omega
        · omega
        · omega
        · omega
        · exact HV.out.gm i e
      have hrow : w6.ownsRow B 5 1 (.slice A1 n' c1) n' (bv (zf.out.take n')) := own_onlyV HV.out.own hO (by
        intro b' hb' hk
        have h1 := (own_at HV.out.own hb').1
        have a1 := hap.gl
        have a2 := hap.ll
        have a3 := HV.out.low.2.2.2
        rcases hk with (e | e | e | e) | e
        · omega
        · omega
        · omega
        · omega
        · exact HV.out.far b' hb' e)
      have hdis : ∀ b', (Value.slice A1 n' c1).ownBlock = some b' → ¬ (G1 b' ∨ b' = K'.m ∨ b' = K'.g) := by
        intro b' hb' hk
        have h1 := (own_at HV.out.own hb').1
        have a1 := hap.gl
        have a2 := hap.ml
        have a3 := HV.out.low.2.2.2
        rcases hk with e | e | e
        · exact HV.out.far b' hb' e
        · omega
        · omega
      have hln : n' ≤ (zf.out).length := HV.out.nx.le
      have KD := Lib.hid (up_door hhold hap hM6 HT.out (by rw [HK.out.2.2.1]; have := HNUM.out.2.2.2.1; omega) (by rw [HK.out.2.2.2]; have := HNUM.out.2.2.2.2; omega) .returning)
      have HE := Lib.hid (And.intro hres (And.intro hOw (And.intro HV.out.gm HV.out.low.1)))
      have HR := Lib.hid (And.intro hrow (And.intro hdis hln))
      clear hhold hap hlo hM6 hres hOw hO KX hlt HV hb1 hb2 hrow hdis hln
      cases b with
      | false =>
        go_wp2_with fail
        refine leaves_cons (f := 27) (args := #[.pointer (some ⟨g, 0, none⟩)]) (by simp) (by simp [go_sem]) ?_
        have KD := KD.out
        rw [HK.out.1] at KD
        refine KD.mono ?_
        rintro e u' w7 ⟨rfl, rfl, hM7, hO7⟩
        obtain ⟨hres, hOw, hGm, hlg⟩ := HE.out
        rw [HK.out.1] at hlg
        rw [HK.out.2.1] at hM7 hO7 hOw
        rw [HK.out.2.2.1, HK.out.2.2.2] at hM7
        refine ⟨_, results_tmp2 rfl _ _ _, ?_⟩
        subst hres
        refine ⟨⟨_, hM7, ?_⟩, hOw.trans' hO7 (fun i hi => ?_), none, 0, rfl, ⟨rfl, fun h => absurd h (Nat.lt_irrefl 0)⟩⟩
        · have := HNUM.out.2.2.1
          rw [Int.toNat_of_nonneg (by have := HNUM.out.1; omega)]
          exact this
        · rcases hi with hi | hi | hi
          · exact .inr (hGm i hi)
          · exact .inl hi
          · exact .inr (by omega)
      | true =>
        go_wp2_with fail
        refine leaves_cons (f := 27) (args := #[.pointer (some ⟨g, 0, none⟩)]) (by simp) (by simp [go_sem]) ?_
        have KD := KD.out
        rw [HK.out.1] at KD
        refine KD.mono ?_
        rintro e u' w7 ⟨rfl, rfl, hM7, hO7⟩
        obtain ⟨hres, hOw, hGm, hlg⟩ := HE.out
        rw [HK.out.1] at hlg
        rw [HK.out.2.1] at hM7 hO7 hOw
        rw [HK.out.2.2.1, HK.out.2.2.2] at hM7
        refine ⟨_, results_tmp2 rfl _ _ _, ?_⟩
        subst hres
        refine ⟨⟨_, hM7, ?_⟩, hOw.trans' hO7 (fun i hi => ?_), A1, c1, ?g3, ?g4⟩
        case g3 =>
          show Ending.returned (.tuple #[.slice A1 n' c1, .int .i64 0]) = .returned (.tuple #[.slice A1 (zf.out.take n').length c1, .int .i64 0])
          rw [List.length_take, Nat.min_eq_left HR.out.2.2]
        case g4 =>
          have h9 := own_onlyV HR.out.1 hO7 (fun b' hb' hk => HR.out.2.1 b' hb' (by rw [HK.out.1, HK.out.2.1]; exact hk))
          have hlen : (zf.out.take n').length = n' := by rw [List.length_take, Nat.min_eq_left HR.out.2.2]
          show Sl w7 A1 (zf.out.take n').length (bv (zf.out.take n'))
          rw [hlen]
          exact Sl.of_own h9
        · have := HNUM.out.2.2.1
          rw [Int.toNat_of_nonneg (by have := HNUM.out.1; omega)]
          exact this
        · rcases hi with hi | hi | hi
          · exact .inr (hGm i hi)
          · exact .inl hi
          · exact .inr (by omega)

set_option maxRecDepth 100000 in
set_option maxHeartbeats 4000000 in
theorem up_bad {a b cc d : Int} {v : Value} (hmay : maySet a b cc d = false) (hM : MeterAt w 86 m muchQ Tel.zero) :
    Calls Tryz.prog 11 #[v, .agg #[.int .i64 a, .int .i64 b, .int .i64 cc, .int .i64 d], .int .i64 size, .pointer (some ⟨m, 0, none⟩)] w (UpPost w m none 11) := by
  obtain ⟨w1, hw1⟩ : ∃ w1, w1 = w.alloc (.cells #[.int .i64 a, .int .i64 b, .int .i64 cc, .int .i64 d] 24) := ⟨_, rfl⟩
  have hO1 : Only (fun i => i = m) w w1 := by rw [hw1]; exact (Only.refl _ w).alloc _
  have HBk : Blk w1 w.heap.size 24 #[.int .i64 a, .int .i64 b, .int .i64 cc, .int .i64 d] := by rw [hw1]; exact Blk.fresh w _ _
  have hM1 : MeterAt w1 86 m muchQ Tel.zero := by rw [hw1]; exact hM.alloc _
  have KN := Lib.hid (lnew_props (size := size) hmay w1 (.pointer (some ⟨m, 0, none⟩)))
  have c0 : w1.cell? ⟨w.heap.size, 0, none⟩ = some (.int .i64 a) := HBk.cell 0
  have c1 : w1.cell? ⟨w.heap.size, 1, none⟩ = some (.int .i64 b) := HBk.cell 1
  have c2 : w1.cell? ⟨w.heap.size, 2, none⟩ = some (.int .i64 cc) := HBk.cell 2
  have c3 : w1.cell? ⟨w.heap.size, 3, none⟩ = some (.int .i64 d) := HBk.cell 3
  have HW1 := Lib.hid hw1
  have HO1 := Lib.hid (And.intro hO1 hM1)
  clear hw1 hO1 HBk hM1 hM hmay
  go_enter_defers Tryz.func11, Tryz.ntmps11
  go_upto_region 1 with fail
  rw [← HW1.out]
  clear HW1
  go_wp2_with fail
  refine KN.out.mono ?_
  rintro e w2 ⟨rfl, hb2⟩
  have HO2 := Lib.hid (And.intro (HO1.out.1.then hb2) (HO1.out.2.below hb2))
  clear hb2 KN c0 c1 c2 c3 HO1
  go_wp2_with fail
  exact ⟨_, results_tmp2 rfl _ _ _, ⟨_, HO2.out.2, rfl⟩, HO2.out.1, none, 0, rfl, ⟨rfl, fun h => absurd h (Nat.lt_irrefl 0)⟩⟩
end

theorem up_con : UpCon where
  up := by
    intro w A n c m bs a b cc d size hn hS hA hl hM h6 h1 h0
    unfold lzRes lzCode
    by_cases h : maySet a b cc d = true
    · rw [if_pos h, if_pos h]
      have h66 := h6 h
      obtain ⟨a0, a1, b0, b1, e0, e1, d0, d1⟩ := may_iff.1 h
      obtain ⟨lc, rfl⟩ := Int.eq_ofNat_of_zero_le a0
      obtain ⟨lp, rfl⟩ := Int.eq_ofNat_of_zero_le b0
      obtain ⟨pb, rfl⟩ := Int.eq_ofNat_of_zero_le e0
      obtain ⟨dict, rfl⟩ := Int.eq_ofNat_of_zero_le (show 0 ≤ d by omega)
      exact up_ok hn hS hA hl hM ⟨by omega, by omega, by omega, by omega, by omega⟩ (by omega) h1 h0
    · rw [if_neg h, if_neg h]
      exact up_bad (by simpa using h) hM
end Go.Proofs.YtjgdjobhhdhfjaaGreat

/-
  The laws' beginning, over what the program's Unpack owes.
-/
namespace Go.Proofs.YtjgdjobhhdhfjaaGreat
open Go.RowKit

def AwakeCon8 : Prop := ∀ w, Calls Tryz.prog 8 #[] w fun e w' => e = .returned (.bool true) ∧ Below w.heap.size w w'

theorem res_six : lzRes [0, 0, 0, 0, 0, 0] 3 0 2 4096 1 = some [0] := by
  unfold lzRes
  rw [if_pos (by decide)]
  exact awk_six
theorem res_five : lzRes [0, 0, 0, 0, 0] 3 0 2 4096 1 = none := by
  unfold lzRes
  rw [if_pos (by decide)]
  exact awk_five
theorem code_six : lzCode [0, 0, 0, 0, 0, 0] 3 0 2 4096 1 = 0 := by
  unfold lzCode
  rw [if_pos (by decide)]
  show codeU (unpackN [0, 0, 0, 0, 0, 0] 3 0 2 4096 1) = 0
  rw [awk_six]
  rfl
theorem code_five : lzCode [0, 0, 0, 0, 0] 3 0 2 4096 1 = 12 := by
  unfold lzCode
  rw [if_pos (by decide)]
  show codeU (unpackN [0, 0, 0, 0, 0] 3 0 2 4096 1) = 12
  rw [awk_five]
  rfl

/-- zeros that were made -/
theorem sl_zeros (k : Nat) (w : World) (hk : k ≤ 1000) : Sl (w.alloc (.cells (bv (List.replicate k 0)).toArray 5)) (some ⟨w.heap.size, 0, none⟩) k (bv (List.replicate k 0)) := by
  have := sl_lit w 5 (bv (List.replicate k 0)).toArray (by simp [bv]; omega)
  simpa [bv] using this

/-- behind one of the two: what is answered, the setting, and what was there -/
def AwkR (w : World) (ys : List UInt8) (cd : Int) (v2 v3 : Value) (wx : World) : Prop :=
  ∃ A c, v2 = .slice A ys.length c ∧ v3 = .int .i64 cd ∧ Sl wx A ys.length (bv ys) ∧ Blk wx w.heap.size 24 #[.int .i64 3, .int .i64 0, .int .i64 2, .int .i64 4096] ∧ Below w.heap.size w wx
theorem awk_end {w w1 w2 w3 W : World} {gm : Nat} {ys : List UInt8} {cd : Int} {x : Ending} (hB1 : Below w.heap.size w w1) (hK : Blk w1 w.heap.size 24 #[.int .i64 3, .int .i64 0, .int .i64 2, .int .i64 4096]) (hO2 : Only (fun _ => False) w1 w2) (hg : w1.heap.size ≤ gm)
    (hW : Only (fun _ => False) w2 W) {o : Option (List UInt8)} (ho : o.getD [] = ys) (h : UpPost W gm o cd x w3) : ∃ v2 v3, x = .returned (.tuple #[v2, v3]) ∧ AwkR w ys cd v2 v3 w3 ∧ Only (fun _ => False) w1 w3 := by
  obtain ⟨_, hO, A, c, rfl, hS⟩ := h
  have hO' : Only (fun i => i = gm) w1 w3 := ((hO2.trans hW).mono (fun _ h => h.elim)).trans hO
  rw [ho] at hS ⊢
  have hlt := hK.lt
  exact ⟨_, _, rfl, ⟨A, c, rfl, rfl, hS, hK.only hO' (by show ¬ w.heap.size = gm; omega), hB1.trans (hO'.below hB1.size (by rintro i rfl; have := hB1.size; omega))⟩, hO'.os, hO'.tape, hO'.output, hO'.size, fun i hi _ => hO'.block i hi (by show ¬ i = gm; omega)⟩

set_option maxRecDepth 100000 in
set_option maxHeartbeats 8000000 in
theorem awake8_any (C : UpCon) : AwakeCon8 := by
  intro w
  have hmk6 : ∀ w, (Instr.makeSlice 22 (.int .i64 6) (.int .i64 6)).run Tryz.prog w = .ok (.slice (some ⟨w.heap.size, 0, none⟩) 6 6) (w.alloc (.cells (bv [0, 0, 0, 0, 0, 0]).toArray 5)) := fun _ => by kernel_rfl
  have hmk5 : ∀ w, (Instr.makeSlice 22 (.int .i64 5) (.int .i64 5)).run Tryz.prog w = .ok (.slice (some ⟨w.heap.size, 0, none⟩) 5 5) (w.alloc (.cells (bv [0, 0, 0, 0, 0]).toArray 5)) := fun _ => by kernel_rfl
  obtain ⟨w1, hw1⟩ : ∃ w1, w1 = w.alloc (.cells #[.int .i64 3, .int .i64 0, .int .i64 2, .int .i64 4096] 24) := ⟨_, rfl⟩
  have hb1 : Below w.heap.size w w1 := by rw [hw1]; exact (Below.refl _ _).alloc (Nat.le_refl _) _
  have HBk : Blk w1 w.heap.size 24 #[.int .i64 3, .int .i64 0, .int .i64 2, .int .i64 4096] := by rw [hw1]; exact Blk.fresh w _ _
  have HW1 := Lib.hid hw1
  have HB1 := Lib.hid hb1
  have HBK := Lib.hid HBk
  clear hw1 hb1 HBk
  go_enter Tryz.func8, Tryz.ntmps8
  go_upto_region 2 with fail
  rw [← HW1.out]
  clear HW1
  go_cut [2, 3] from 7 (fun v2 v3 wx => AwkR w [0] 0 v2 v3 wx)
  case first =>
    have d0 : w1.cell? ⟨w.heap.size, 0, none⟩ = some (.int .i64 3) := HBK.out.cell 0
    have d1 : w1.cell? ⟨w.heap.size, 1, none⟩ = some (.int .i64 0) := HBK.out.cell 1
    have d2 : w1.cell? ⟨w.heap.size, 2, none⟩ = some (.int .i64 2) := HBK.out.cell 2
    have d3 : w1.cell? ⟨w.heap.size, 3, none⟩ = some (.int .i64 4096) := HBK.out.cell 3
    have a0 : (w1.alloc (.cells (bv [0, 0, 0, 0, 0, 0]).toArray 5)).cell? ⟨w.heap.size, 0, none⟩ = some (.int .i64 3) := (Blk.alloc HBK.out _).cell 0
    have a1 : (w1.alloc (.cells (bv [0, 0, 0, 0, 0, 0]).toArray 5)).cell? ⟨w.heap.size, 1, none⟩ = some (.int .i64 0) := (Blk.alloc HBK.out _).cell 1
    have a2 : (w1.alloc (.cells (bv [0, 0, 0, 0, 0, 0]).toArray 5)).cell? ⟨w.heap.size, 2, none⟩ = some (.int .i64 2) := (Blk.alloc HBK.out _).cell 2
    have a3 : (w1.alloc (.cells (bv [0, 0, 0, 0, 0, 0]).toArray 5)).cell? ⟨w.heap.size, 3, none⟩ = some (.int .i64 4096) := (Blk.alloc HBK.out _).cell 3
    go_region_law (first
      | (go_simp; go_at_call 10; refine (much_any _).mono ?_; rintro e w2 ⟨gm, rfl, hM, hg, hb⟩; have hO2 : Only (fun _ => False) w1 w2 := Only.trans (by first | exact (Only.refl _ w1).drewN _ | exact ((Only.refl _ w1).alloc _).drewN _) (Only.of_below hb); have hP2 := HBK.out.only hO2 (fun h => h); have r0 := hP2.cell 0; have r1 := hP2.cell 1; have r2 := hP2.cell 2; have r3 := hP2.cell 3; have s0 := (hP2.alloc (.cells (bv [0, 0, 0, 0, 0, 0]).toArray 5)).cell 0; have s1 := (hP2.alloc (.cells (bv [0, 0, 0, 0, 0, 0]).toArray 5)).cell 1; have s2 := (hP2.alloc (.cells (bv [0, 0, 0, 0, 0, 0]).toArray 5)).cell 2; have s3 := (hP2.alloc (.cells (bv [0, 0, 0, 0, 0, 0]).toArray 5)).cell 3; have HM2 := Lib.hid hM; have HO2 := Lib.hid hO2; have HG2 := Lib.hid (show w1.heap.size ≤ gm ∧ gm < w2.heap.size from ⟨by simp at hg; omega, hM.lt⟩); (first | (have HZ2 := Lib.hid (And.intro (Sl.below (w := (w1.alloc (.cells (bv [0, 0, 0, 0, 0, 0]).toArray 5)).drewN _) (sl_zeros 6 w1 (by omega)) hb) (show w1.heap.size ≠ gm from by simp at hg; omega))) | (have HZ2 := Lib.hid True.intro)); clear hM hO2 hg hb hP2)
      | (go_simp; go_at_call 11; refine (C.up (n := 6) (bs := [0, 0, 0, 0, 0, 0]) (a := 3) (b := 0) (cc := 2) (d := 4096) (size := 1) rfl (by first | exact HZ2.out.1 | exact sl_zeros 6 w2 (by omega)) (by intro _ q o e; injection e with e; injection e with e; first | exact e ▸ HZ2.out.2 | (have := HG2.out; omega)) (by omega) (by first | exact HM2.out | exact HM2.out.alloc _) (fun _ => by omega) (by omega) (by omega)).mono ?_; intro e w3 hpost; obtain ⟨v2, v3, rfl, hR, hO3⟩ := awk_end HB1.out HBK.out HO2.out HG2.out.1 (by first | exact Only.refl _ w2 | exact (Only.refl _ w2).alloc _) (ys := [0]) (cd := lzCode [0, 0, 0, 0, 0, 0] 3 0 2 4096 1) (o := lzRes [0, 0, 0, 0, 0, 0] 3 0 2 4096 1) (by rw [res_six]; rfl) hpost; rw [code_six] at hR; have HR := Lib.hid hR; have HO3 := Lib.hid hO3; clear hpost hR hO3))
    all_goals
      go_wp2_with fail
      go_meet
      exact HR.out
  case rest =>
    obtain ⟨A6, c6, rfl, rfl, hS6, hK6, hB6⟩ := hcut
    have HS6 := Lib.hid hS6
    have HK5 := Lib.hid hK6
    have HB5 := Lib.hid hB6
    have HB5s := Lib.hid hB6.size
    clear hS6 hK6 hB6 HBK HB1
    generalize wc = w5 at *
    go_upto_region 3 with fail
    go_cut [4, 5] from 14 (fun v2 v3 wx => AwkR w [] 12 v2 v3 wx ∧ Only (fun _ => False) w5 wx)
    case first =>
      have d0 : w5.cell? ⟨w.heap.size, 0, none⟩ = some (.int .i64 3) := HK5.out.cell 0
      have d1 : w5.cell? ⟨w.heap.size, 1, none⟩ = some (.int .i64 0) := HK5.out.cell 1
      have d2 : w5.cell? ⟨w.heap.size, 2, none⟩ = some (.int .i64 2) := HK5.out.cell 2
      have d3 : w5.cell? ⟨w.heap.size, 3, none⟩ = some (.int .i64 4096) := HK5.out.cell 3
      have a0 : (w5.alloc (.cells (bv [0, 0, 0, 0, 0]).toArray 5)).cell? ⟨w.heap.size, 0, none⟩ = some (.int .i64 3) := (Blk.alloc HK5.out _).cell 0
      have a1 : (w5.alloc (.cells (bv [0, 0, 0, 0, 0]).toArray 5)).cell? ⟨w.heap.size, 1, none⟩ = some (.int .i64 0) := (Blk.alloc HK5.out _).cell 1
      have a2 : (w5.alloc (.cells (bv [0, 0, 0, 0, 0]).toArray 5)).cell? ⟨w.heap.size, 2, none⟩ = some (.int .i64 2) := (Blk.alloc HK5.out _).cell 2
      have a3 : (w5.alloc (.cells (bv [0, 0, 0, 0, 0]).toArray 5)).cell? ⟨w.heap.size, 3, none⟩ = some (.int .i64 4096) := (Blk.alloc HK5.out _).cell 3
      go_region_law (first
        | (go_simp; go_at_call 10; refine (much_any _).mono ?_; rintro e w2 ⟨gm, rfl, hM, hg, hb⟩; have hO2 : Only (fun _ => False) w5 w2 := Only.trans (by first | exact (Only.refl _ w5).drewN _ | exact ((Only.refl _ w5).alloc _).drewN _) (Only.of_below hb); have hP2 := HK5.out.only hO2 (fun h => h); have r0 := hP2.cell 0; have r1 := hP2.cell 1; have r2 := hP2.cell 2; have r3 := hP2.cell 3; have s0 := (hP2.alloc (.cells (bv [0, 0, 0, 0, 0]).toArray 5)).cell 0; have s1 := (hP2.alloc (.cells (bv [0, 0, 0, 0, 0]).toArray 5)).cell 1; have s2 := (hP2.alloc (.cells (bv [0, 0, 0, 0, 0]).toArray 5)).cell 2; have s3 := (hP2.alloc (.cells (bv [0, 0, 0, 0, 0]).toArray 5)).cell 3; have HM2 := Lib.hid hM; have HO2 := Lib.hid hO2; have HG2 := Lib.hid (show w5.heap.size ≤ gm ∧ gm < w2.heap.size from ⟨by simp at hg; omega, hM.lt⟩); (first | (have HZ2 := Lib.hid (And.intro (Sl.below (w := (w5.alloc (.cells (bv [0, 0, 0, 0, 0]).toArray 5)).drewN _) (sl_zeros 5 w5 (by omega)) hb) (show w5.heap.size ≠ gm from by simp at hg; omega))) | (have HZ2 := Lib.hid True.intro)); clear hM hO2 hg hb hP2)
        | (go_simp; go_at_call 11; refine (C.up (n := 5) (bs := [0, 0, 0, 0, 0]) (a := 3) (b := 0) (cc := 2) (d := 4096) (size := 1) rfl (by first | exact HZ2.out.1 | exact sl_zeros 5 w2 (by omega)) (by intro _ q o e; injection e with e; injection e with e; first | exact e ▸ HZ2.out.2 | (have := HG2.out; omega)) (by omega) (by first | exact HM2.out | exact HM2.out.alloc _) (fun _ => by omega) (by omega) (by omega)).mono ?_; intro e w3 hpost; obtain ⟨v2, v3, rfl, hR, hO3⟩ := awk_end HB5.out HK5.out HO2.out HG2.out.1 (by first | exact Only.refl _ w2 | exact (Only.refl _ w2).alloc _) (ys := []) (cd := lzCode [0, 0, 0, 0, 0] 3 0 2 4096 1) (o := lzRes [0, 0, 0, 0, 0] 3 0 2 4096 1) (by rw [res_five]; rfl) hpost; rw [code_five] at hR; have HR := Lib.hid hR; have HO3 := Lib.hid hO3; clear hpost hR hO3))
      all_goals
        go_wp2_with fail
        go_meet
        exact ⟨HR.out, HO3.out⟩

    case rest =>
      obtain ⟨⟨A7, c7, rfl, rfl, hS7, hK7, hB7⟩, hO7⟩ := hcut
      have HS8 := Lib.hid (fun n => (HS6.out.only hO7 (fun _ _ _ _ h => h)).drewN n)
      have HB7 := Lib.hid hB7
      clear hS7 hK7 hB7 hO7 HS6 HK5 HB5
      go_wp2_with fail
      refine (bytesSame_any (bs := [0]) ((HS8.out 0).alloc _) (sl_one wc _ _) (by decide)).mono ?_
      rintro e w9 ⟨rfl, k9, rfl⟩
      go_wp2_with fail
      go_ret
      exact ⟨rfl, below_drewN (HB7.out.alloc HB7.out.size _) k9⟩
end Go.Proofs.YtjgdjobhhdhfjaaGreat

/-
  The reference's decoder or coder of LZMA in memory, over a machine that is not looked into.
-/
namespace Go.Proofs.YtjgdjobhhdhfjaaGreat
open Go.RowKit

def zCells (z : Lzs) (Dv Ev : Value) (p L pc : Nat) (A : Option Addr) (n c : Nat) : Array Value :=
  #[.int .i64 (z.lc : Int), .int .i64 (z.lp : Int), .int .i64 (z.pb : Int), .int .i64 (z.dict : Int), Dv, Ev, .slice (some ⟨p, 0, none⟩) L pc, .slice A n c, .int .i64 (z.st : Int),
    .int .u32 (z.r0 : Int), .int .u32 (z.r1 : Int), .int .u32 (z.r2 : Int), .int .u32 (z.r3 : Int), .bool z.ended, .bool z.bad]

/-- A machine in memory: what it owns (G), what it reads alone (R). -/
structure MachMem {σ : Type} (R : Nat → Prop) (K : World → Value → Value → (Nat → Prop) → σ → Prop) : Prop where
  old : ∀ {w Dv Ev G x i}, K w Dv Ev G x → G i → i < w.heap.size
  only : ∀ {w w' Dv Ev G x} {S : Nat → Prop}, K w Dv Ev G x → Only S w w' → (∀ i, G i → ¬ S i) → (∀ i, R i → ¬ S i) → K w' Dv Ev G x

/-- Block g is the reference's, in the state z; its probabilities and its machine are t. G holds all that it owns. -/
structure Zr {σ : Type} (R : Nat → Prop) (K : World → Value → Value → (Nat → Prop) → σ → Prop) (w : World) (g : Nat) (G : Nat → Prop) (z : Lzs) (t : Pm σ)
    (Gm : Nat → Prop) (Dv Ev : Value) (p pc : Nat) (A : Option Addr) (c : Nat) : Prop where
  blk : Blk w g 75 (zCells z Dv Ev p t.ps.length pc A z.out.length c)
  row : Row w p t.ps pc
  out : w.ownsRow 0 5 1 (.slice A z.out.length c) z.out.length (bv z.out)
  mch : K w Dv Ev Gm t.x
  gg : G g
  gp : G p
  gm : ∀ i, Gm i → G i
  go : ∀ i, (Value.slice A z.out.length c).ownBlock = some i → G i ∧ i ≠ g ∧ i ≠ p ∧ ¬ Gm i
  pg : p ≠ g
  mg : ¬ Gm g
  mp : ¬ Gm p
  old : ∀ i, G i → i < w.heap.size
  far : ∀ i, G i → ¬ R i
def Zz {σ : Type} (R : Nat → Prop) (K : World → Value → Value → (Nat → Prop) → σ → Prop) (w : World) (g : Nat) (G : Nat → Prop) (z : Lzs) (t : Pm σ) : Prop :=
  ∃ Gm Dv Ev p pc A c, Zr R K w g G z t Gm Dv Ev p pc A c

theorem own_only' {S : Nat → Prop} {w w' : World} {base : Nat} {e : TypeId} {v : Value} {n : Nat} {xs : List Value} (h : w.ownsRow base e 1 v n xs) (hb : Only S w w') (hg : ∀ i, v.ownBlock = some i → ¬ S i) : w'.ownsRow base e 1 v n xs := by
  refine ⟨h.1, ?_⟩
  rcases h.2 with hv | ⟨g', cap, cur, hv, hb', hh, r⟩
  · exact .inl hv
  · refine .inr ⟨g', cap, cur, hv, hb', ?_, r⟩
    subst hv
    have hlt : g' < w.heap.size := by
      rcases Nat.lt_or_ge g' w.heap.size with hlt | hge
      · exact hlt
      · rw [Array.getElem?_eq_none hge] at hh; cases hh
    exact (hb.block g' hlt (hg g' rfl)).trans hh

section
variable {σ : Type} {R : Nat → Prop} {K : World → Value → Value → (Nat → Prop) → σ → Prop} {w w' : World} {g : Nat} {G : Nat → Prop} {z : Lzs} {t : Pm σ} {Gm : Nat → Prop} {Dv Ev : Value} {p pc : Nat} {A : Option Addr} {c : Nat}

theorem Zr.only (h : Zr R K w g G z t Gm Dv Ev p pc A c) (M : MachMem R K) {S : Nat → Prop} (hO : Only S w w') (hS : ∀ i, G i → ¬ S i) (hR : ∀ i, R i → ¬ S i) : Zr R K w' g G z t Gm Dv Ev p pc A c :=
  ⟨h.blk.only hO (hS g h.gg), h.row.only hO (hS p h.gp), own_only' h.out hO (fun i hi => hS i (h.go i hi).1), M.only h.mch hO (fun i hi => hS i (h.gm i hi)) hR, h.gg, h.gp, h.gm, h.go, h.pg, h.mg, h.mp, fun i hi => Nat.lt_of_lt_of_le (h.old i hi) hO.size, h.far⟩
theorem Zr.drewN (h : Zr R K w g G z t Gm Dv Ev p pc A c) (M : MachMem R K) (n : Nat) : Zr R K (w.drewN n) g G z t Gm Dv Ev p pc A c :=
  h.only M ((Only.refl (fun _ => False) w).drewN n) (fun _ _ h => h) (fun _ _ h => h)
/-- One of its own cells is stored: the place i, with what the state then is. -/
theorem Zr.put (h : Zr R K w g G z t Gm Dv Ev p pc A c) (M : MachMem R K) {i : Nat} {u : Value} {z' : Lzs} (hz : (zCells z Dv Ev p t.ps.length pc A z.out.length c).setIfInBounds i u = zCells z' Dv Ev p t.ps.length pc A z.out.length c) (ho : z'.out = z.out) :
    Zr R K (w.setCell ⟨g, i, none⟩ u) g G z' t Gm Dv Ev p pc A c := by
  have hO := (Only.refl (fun j => j = g) w).setCell (p := ⟨g, i, none⟩) (.inl rfl) u
  have hB := h.blk.put i u
  rw [hz] at hB
  refine ⟨by rw [ho]; exact hB, h.row.only hO h.pg, ?_, M.only h.mch hO (fun j hj e => h.mg (e ▸ hj)) (fun j hj e => h.far g h.gg (e ▸ hj)), h.gg, h.gp, h.gm, by rw [ho]; exact h.go, h.pg, h.mg, h.mp, fun j hj => by have := h.old j hj; simpa [World.setCell] using this, h.far⟩
  rw [ho]
  exact own_only' h.out hO (fun j hj e => (h.go j hj).2.1 e)
/-- A probability is stored. -/
theorem Zr.prob (h : Zr R K w g G z t Gm Dv Ev p pc A c) (M : MachMem R K) (i q : Nat) : Zr R K (w.setCell ⟨p, i, none⟩ (.int .u16 (q : Int))) g G z ⟨t.ps.set i q, t.x⟩ Gm Dv Ev p pc A c := by
  have hO := (Only.refl (fun j => j = p) w).setCell (p := ⟨p, i, none⟩) (.inl rfl) (.int .u16 (q : Int))
  refine ⟨?_, h.row.put i q, own_only' h.out hO (fun j hj e => (h.go j hj).2.2.1 e), M.only h.mch hO (fun j hj e => h.mp (e ▸ hj)) (fun j hj e => h.far p h.gp (e ▸ hj)), h.gg, h.gp, h.gm, h.go, h.pg, h.mg, h.mp, fun j hj => by have := h.old j hj; simpa [World.setCell] using this, h.far⟩
  show Blk _ g _ (zCells z Dv Ev p (t.ps.set i q).length pc A z.out.length c)
  rw [List.length_set]
  exact h.blk.only hO (fun e => h.pg e.symm)
/-- The machine has turned. -/
theorem Zr.mach (h : Zr R K w g G z t Gm Dv Ev p pc A c) {Gm' : Nat → Prop} {x : σ} (hO : Only Gm w w') (hK : K w' Dv Ev Gm' x) (hN : ∀ i, Gm' i → Gm i ∨ w.heap.size ≤ i) (hlt : ∀ i, Gm' i → i < w'.heap.size) (hR : ∀ i, R i → i < w.heap.size) :
    Zr R K w' g (fun i => G i ∨ Gm' i) z ⟨t.ps, x⟩ Gm' Dv Ev p pc A c := by
  refine ⟨h.blk.only hO h.mg, h.row.only hO h.mp, own_only' h.out hO (fun i hi => (h.go i hi).2.2.2), hK, .inl h.gg, .inl h.gp, fun i hi => .inr hi, fun i hi => ?_, h.pg, fun hi => ?_, fun hi => ?_, fun i hi => ?_, fun i hi hr => ?_⟩
  · obtain ⟨h1, h2, h3, h4⟩ := h.go i hi
    refine ⟨.inl h1, h2, h3, fun h5 => ?_⟩
    rcases hN i h5 with h6 | h6
    · exact h4 h6
    · have := h.old i h1; omega
  · rcases hN g hi with h6 | h6
    · exact h.mg h6
    · have := h.old g h.gg; omega
  · rcases hN p hi with h6 | h6
    · exact h.mp h6
    · have := h.old p h.gp; omega
  · rcases hi with hi | hi
    · exact Nat.lt_of_lt_of_le (h.old i hi) hO.size
    · exact hlt i hi
  · rcases hi with hi | hi
    · exact h.far i hi hr
    · rcases hN i hi with h6 | h6
      · exact h.far i (h.gm i h6) hr
      · have := hR i hr; omega

theorem Zz.only (h : Zz R K w g G z t) (M : MachMem R K) {S : Nat → Prop} (hO : Only S w w') (hS : ∀ i, G i → ¬ S i) (hR : ∀ i, R i → ¬ S i) : Zz R K w' g G z t := by
  obtain ⟨Gm, Dv, Ev, p, pc, A, c, h⟩ := h
  exact ⟨Gm, Dv, Ev, p, pc, A, c, h.only M hO hS hR⟩
theorem Zz.old (h : Zz R K w g G z t) {i : Nat} (hi : G i) : i < w.heap.size := by
  obtain ⟨Gm, Dv, Ev, p, pc, A, c, h⟩ := h
  exact h.old i hi
theorem Zz.own (h : Zz R K w g G z t) : G g := by
  obtain ⟨Gm, Dv, Ev, p, pc, A, c, h⟩ := h
  exact h.gg
/-- its numbers -/
theorem Zz.cells (h : Zz R K w g G z t) : w.cell? ⟨g, 0, none⟩ = some (.int .i64 (z.lc : Int)) ∧ w.cell? ⟨g, 1, none⟩ = some (.int .i64 (z.lp : Int)) ∧ w.cell? ⟨g, 2, none⟩ = some (.int .i64 (z.pb : Int)) ∧ w.cell? ⟨g, 3, none⟩ = some (.int .i64 (z.dict : Int)) ∧
    w.cell? ⟨g, 8, none⟩ = some (.int .i64 (z.st : Int)) ∧ w.cell? ⟨g, 9, none⟩ = some (.int .u32 (z.r0 : Int)) ∧ w.cell? ⟨g, 10, none⟩ = some (.int .u32 (z.r1 : Int)) ∧ w.cell? ⟨g, 11, none⟩ = some (.int .u32 (z.r2 : Int)) ∧ w.cell? ⟨g, 12, none⟩ = some (.int .u32 (z.r3 : Int)) ∧
    w.cell? ⟨g, 13, none⟩ = some (.bool z.ended) ∧ w.cell? ⟨g, 14, none⟩ = some (.bool z.bad) ∧ (∀ i, w.frozen? ⟨g, i, none⟩ = false) := by
  obtain ⟨Gm, Dv, Ev, p, pc, A, c, h⟩ := h
  exact ⟨h.blk.cell 0, h.blk.cell 1, h.blk.cell 2, h.blk.cell 3, h.blk.cell 8, h.blk.cell 9, h.blk.cell 10, h.blk.cell 11, h.blk.cell 12, h.blk.cell 13, h.blk.cell 14, fun i => h.blk.free i⟩
/-- what was told is read -/
theorem Zz.told (h : Zz R K w g G z t) : ∃ A c, w.cell? ⟨g, 7, none⟩ = some (.slice A z.out.length c) ∧ Sl w A z.out.length (bv z.out) := by
  obtain ⟨Gm, Dv, Ev, p, pc, A, c, h⟩ := h
  exact ⟨A, c, h.blk.cell 7, Sl.of_own h.out⟩
theorem Zz.put (h : Zz R K w g G z t) (M : MachMem R K) {i : Nat} {u : Value} {z' : Lzs} (hz : ∀ Dv Ev p pc A c, (zCells z Dv Ev p t.ps.length pc A z.out.length c).setIfInBounds i u = zCells z' Dv Ev p t.ps.length pc A z.out.length c) (ho : z'.out = z.out) :
    Zz R K (w.setCell ⟨g, i, none⟩ u) g G z' t := by
  obtain ⟨Gm, Dv, Ev, p, pc, A, c, h⟩ := h
  exact ⟨Gm, Dv, Ev, p, pc, A, c, h.put M (hz Dv Ev p pc A c) ho⟩
end

/-- what a call leaves, with a state -/
def ZPost {σ : Type} (R : Nat → Prop) (K : World → Value → Value → (Nat → Prop) → σ → Prop) (w : World) (g : Nat) (G : Nat → Prop) (z : Lzs) (t : Pm σ) (v : Value) : Ending → World → Prop :=
  OwnPost (fun w' G' => Zz R K w' g G' z t) w G v

/-- What the reference's bit and its straight bits owe. -/
structure ZOps {σ : Type} (M : Mach σ) (ok : Nat → σ → Prop) (R : Nat → Prop) (K : World → Value → Value → (Nat → Prop) → σ → Prop) : Prop where
  mem : MachMem R K
  okm : MachOk M ok
  bit : ∀ {w g G z t L k a} {b : Int}, Zz R K w g G z t → PmOk ok L (k + 1) t → a < L → L ≤ 100000000 → M.may b →
    Calls Tryz.prog 121 #[.pointer (some ⟨g, 0, none⟩), .int .i64 ((a : Nat) : Int), .int .i64 b] w (ZPost R K w g G z (bitP M t a b).2 (.int .i64 ((bitP M t a b).1 : Int)))
  str : ∀ {w g G z t L k n v}, Zz R K w g G z t → PmOk ok L (k + 1) t → n ≤ 26 → v < 4294967296 → (M.enc = true → v < 2 ^ n) →
    Calls Tryz.prog 126 #[.pointer (some ⟨g, 0, none⟩), .int .i64 ((n : Nat) : Int), .int .u32 ((v : Nat) : Int)] w (ZPost R K w g G z ⟨t.ps, (M.str t.x n v).2⟩ (.int .u32 ((M.str t.x n v).1 : Int)))

/-- one call behind another -/
theorem own_then {w w1 w2 : World} {G G1 G2 : Nat → Prop} (hN : ∀ i, G1 i → G i ∨ w.heap.size ≤ i) (hO : Only G w w1) (hN2 : ∀ i, G2 i → G1 i ∨ w1.heap.size ≤ i) (hO2 : Only G1 w1 w2) : (∀ i, G2 i → G i ∨ w.heap.size ≤ i) ∧ Only G w w2 := by
  refine ⟨fun i hi => ?_, hO.trans' hO2 hN⟩
  rcases hN2 i hi with h | h
  · exact hN i h
  · exact .inr (Nat.le_trans hO.size h)
end Go.Proofs.YtjgdjobhhdhfjaaGreat
