/-
  BytN, LzRes, LzAwake: put together.
-/
import Derived.Test.YtjgdjobhhdhfjaaPa02
import Derived.Test.YtjgdjobhhdhfjaaPa05
import Derived.Deep.AppendLies
import Derived.LoopTactic
import Derived.Test.YtjgdjobhhdhfjaaPa11
import Derived.Test.YtjgdjobhhdhfjaaPa17
import Derived.Laws.MakeOwn
import Derived.Deep.Cut
import Derived.Deep.RegionLaw
set_option linter.unusedVariables false
set_option linter.unusedSimpArgs false
/-
  A row of bytes of the call's own, its block named; rows compared.
-/
namespace Go.Proofs.Ytjgdjobhhdhfjaa
open Go.RowKit

/-- Block q holds the bytes bs. -/
def Byt (w : World) (q c : Nat) (bs : List UInt8) : Prop := w.ownsRow 0 5 1 (.slice (some ⟨q, 0, none⟩) bs.length c) bs.length (bv bs)

theorem bv_set (bs : List UInt8) (i : Nat) (y : UInt8) : (bv bs).set i (.int .u8 (y.toNat : Int)) = bv (bs.set i y) := by
  simp [bv, List.map_set]

section
variable {w w' : World} {q c : Nat} {bs : List UInt8}
theorem Byt.cell (h : Byt w q c bs) {i : Nat} (hi : i < bs.length) : w.cell? ⟨q, i, none⟩ = some (.int .u8 ((bs.getD i 0).toNat : Int)) := by
  rw [World.ownsRow.cellAt h i (by omega), bv_get bs i hi]
theorem Byt.free (h : Byt w q c bs) (i : Nat) : w.frozen? ⟨q, i, none⟩ = false := World.ownsRow.frozenAt h i
theorem Byt.put (h : Byt w q c bs) (i : Nat) (y : UInt8) : Byt (w.setCell ⟨q, i, none⟩ (.int .u8 (y.toNat : Int))) q c (bs.set i y) := by
  have := (World.ownsRow.stored h i (.int .u8 (y.toNat : Int))).1
  rw [bv_set] at this
  unfold Byt
  rw [List.length_set]
  exact this
theorem Byt.drewN (h : Byt w q c bs) (n : Nat) : Byt (w.drewN n) q c bs := h
theorem Byt.only {S : Nat → Prop} (h : Byt w q c bs) (hb : Only S w w') (hS : ¬ S q) : Byt w' q c bs := own_only h hb hS
theorem Byt.lt (h : Byt w q c bs) : q < w.heap.size := (World.ownsRow.lt h q rfl).2
theorem Byt.own (h : Byt w q c bs) : w.ownsRow 0 5 1 (.slice (some ⟨q, 0, none⟩) bs.length c) bs.length (bv bs) := h
theorem Byt.sl (h : Byt w q c bs) : Sl w (some ⟨q, 0, none⟩) bs.length (bv bs) := (own_facts h).1
theorem Byt.cap (h : Byt w q c bs) : bs.length ≤ c ∧ c ≤ maxLen := by
  obtain ⟨_, h2, h3, _⟩ := own_facts h
  exact ⟨h2, h3⟩
end

/-- a byte in the midst is another one -/
theorem be_set : ∀ (cs : List UInt8) (k : Nat) (z : UInt8), k < cs.length → be (cs.set k z) + (cs.getD k 0).toNat * 256 ^ (cs.length - 1 - k) = be cs + z.toNat * 256 ^ (cs.length - 1 - k) := by
  intro cs k z hk
  have e1 : cs = cs.take k ++ (cs[k] :: cs.drop (k + 1)) := by rw [← List.drop_eq_getElem_cons hk, List.take_append_drop]
  have e2 : cs.set k z = cs.take k ++ (z :: cs.drop (k + 1)) := by
    have := List.set_eq_take_append_cons_drop (l := cs) (i := k) (a := z)
    rw [this, if_pos hk]
  have e3 : cs.getD k 0 = cs[k] := by simp [List.getD, hk]
  have hl : (cs.drop (k + 1)).length = cs.length - 1 - k := by rw [List.length_drop]; omega
  have one : ∀ y : UInt8, be (cs.take k ++ (y :: cs.drop (k + 1))) = be (cs.take k) * 256 ^ (cs.length - 1 - k + 1) + (y.toNat * 256 ^ (cs.length - 1 - k) + be (cs.drop (k + 1))) := by
    intro y
    have hc : y :: cs.drop (k + 1) = [y] ++ cs.drop (k + 1) := rfl
    rw [be_append, hc, be_append, List.length_append, hl]
    simp only [List.length_singleton]
    rw [show be [y] = y.toNat by simp [be], Nat.add_comm 1]
  have f1 : be (cs.set k z) = be (cs.take k) * 256 ^ (cs.length - 1 - k + 1) + (z.toNat * 256 ^ (cs.length - 1 - k) + be (cs.drop (k + 1))) := by rw [e2]; exact one z
  have f2 : be cs = be (cs.take k) * 256 ^ (cs.length - 1 - k + 1) + ((cs[k]).toNat * 256 ^ (cs.length - 1 - k) + be (cs.drop (k + 1))) := by
    have := one cs[k]
    rwa [← e1] at this
  rw [f1, f2, e3]
  omega

set_option maxHeartbeats 1000000 in
theorem bytesSame_any {A B : Option Addr} {n ca cb : Nat} {bs : List UInt8} {w : World} (hA : Sl w A n (bv bs)) (hB : Sl w B n (bv bs)) (hn : n ≤ 1000000000) :
    Calls Try.prog 20 #[.slice A n ca, .slice B n cb] w fun e w' => e = .returned (.bool true) ∧ ∃ d, w.drewN d = w' := by
  have HA := Lib.hid hA
  have HB := Lib.hid hB
  have hl : bs.length = n := by rw [← bv_length]; exact hA.1
  have HL := Lib.hid hl
  clear hA hB hl
  go_enter Try.func20, Try.ntmps20
  go_wp2_with fail
  go_loopw [5] (fun i wr => ∃ j k : Nat, j ≤ n ∧ i = .int .i64 (j : Int) ∧ wr = w.drewN k) (fun i _ => n - (intOf i).toNat)
  case atStart => exact ⟨0, 0, Nat.zero_le _, rfl, rfl⟩
  case round =>
    obtain ⟨j, k, hj, rfl, rfl⟩ := hrel
    by_cases hlt : j < n
    · obtain ⟨ba, oa, rfl, hba, hca⟩ := HA.out.2 (by omega)
      obtain ⟨bb, ob, rfl, hbb, hcb⟩ := HB.out.2 (by omega)
      have c1 : w.cell? ⟨ba, oa + j, none⟩ = some (.int .u8 ((bs.getD j 0).toNat : Int)) := by rw [hca j hlt, bv_get bs j (by have := HL.out; omega)]
      have c2 : w.cell? ⟨bb, ob + j, none⟩ = some (.int .u8 ((bs.getD j 0).toNat : Int)) := by rw [hcb j hlt, bv_get bs j (by have := HL.out; omega)]
      generalize bs.getD j 0 = x at *
      have i0 : (0 : Int) ≤ (j : Int) := by omega
      have i1 : (j : Int) < (n : Int) := by omega
      clear hca hcb
      go_wp2_with fail
      go_quiet (fail)
      go_wp2_with fail
      go_roundw
      case rel => exact ⟨j + 1, k + nq, by omega, by go_num, rfl⟩
      case measure => simp [intOf]; omega
    · obtain rfl : j = n := by omega
      go_wp2_with fail
      go_ret
      exact ⟨rfl, _, rfl⟩
end Go.Proofs.Ytjgdjobhhdhfjaa

/-
  What the program's LZMA owes where a stream is unpacked; the laws' quota, their setting.
-/
namespace Go.Proofs.Ytjgdjobhhdhfjaa
open Go.RowKit

def muchQ : Quo := ⟨1099511627776, 1099511627776, 1099511627776, 1099511627776, 1099511627776⟩
theorem much_lit : Lit64 muchQ := by constructor <;> dsimp only [muchQ] <;> omega
theorem much_up : muchQ.up = muchQ := by simp [Quo.up, muchQ]; omega
theorem much_fine : Fine muchQ Tel.zero := much_up ▸ Fine.new much_lit
/-- what a stream is, by a setting that may be or not; and its code -/
def lzRes (bs : List UInt8) (a b c d size : Int) : Option (List UInt8) := if maySet a b c d = true then unpackN bs a.toNat b.toNat c.toNat d.toNat size else none
def codeU : Option (List UInt8) → Int
  | none => 12
  | some _ => 0
def lzCode (bs : List UInt8) (a b c d size : Int) : Int := if maySet a b c d = true then codeU (unpackN bs a.toNat b.toNat c.toNat d.toNat size) else 11
/-- what is answered, the meter's memory given back -/
def UpPost (w : World) (m : Nat) (o : Option (List UInt8)) (cd : Int) (x : Ending) (w' : World) : Prop :=
  (∃ t, MeterAt w' 105 m muchQ t ∧ t.mem = 0) ∧ Only (fun i => i = m) w w' ∧ ∃ A c, x = .returned (.tuple #[.slice A (o.getD []).length c, .int .i64 cd]) ∧ Sl w' A (o.getD []).length (bv (o.getD []))
/-- What the program's Unpack owes, under the laws' great quota. -/
structure UpCon : Prop where
  up : ∀ {w A n c m} {bs : List UInt8} {a b cc d size : Int}, n = bs.length → Sl w A n (bv bs) → (0 < n → ∀ q o, A = some ⟨q, o, none⟩ → q ≠ m) → n ≤ 1000000 → MeterAt w 105 m muchQ Tel.zero →
    (maySet a b cc d = true → a + b ≤ 6) → size ≤ 100000 → -9223372036854775808 ≤ size →
    Calls Try.prog 33 #[.slice A n c, .agg #[.int .i64 a, .int .i64 b, .int .i64 cc, .int .i64 d], .int .i64 size, .pointer (some ⟨m, 0, none⟩)] w (UpPost w m (lzRes bs a b cc d size) (lzCode bs a b cc d size))
set_option maxHeartbeats 2000000 in
theorem much_any (w : World) : Calls Try.prog 11 #[] w fun e w' => ∃ g, e = .returned (.pointer (some ⟨g, 0, none⟩)) ∧ MeterAt w' 105 g muchQ Tel.zero ∧ w.heap.size ≤ g ∧ Below w.heap.size w w' := by
  have K := mnew_any muchQ w
  rw [much_up] at K
  have K : Calls Try.prog 23 #[.agg #[.int .i64 1099511627776, .int .i64 1099511627776, .int .i64 1099511627776, .int .i64 1099511627776, .int .i64 1099511627776]] w fun e w' => ∃ g, e = .returned (.pointer (some ⟨g, 0, none⟩)) ∧ MeterAt w' 105 g muchQ Tel.zero ∧ w.heap.size ≤ g ∧ Below w.heap.size w w' := K
  have K := Lib.hid K
  go_enter Try.func11, Try.ntmps11
  go_wp2_with fail
  refine K.out.mono ?_
  rintro e w1 ⟨g, rfl, hM, hg, hb⟩
  have HE := Lib.hid (And.intro hM (And.intro hg hb))
  clear hM hg hb K
  go_wp2_with fail
  go_ret
  exact ⟨g, rfl, HE.out.1, HE.out.2.1, HE.out.2.2⟩
def lightP (a b c d : Int) : Bool := !maySet a b c d || decide (a + b ≤ 6)
set_option maxRecDepth 100000 in
set_option maxHeartbeats 2000000 in
theorem light_any (a b c d : Int) (w : World) :
    Calls Try.prog 9 #[.agg #[.int .i64 a, .int .i64 b, .int .i64 c, .int .i64 d]] w fun x w' => x = .returned (.bool (lightP a b c d)) ∧ Below w.heap.size w w' := by
  obtain ⟨w1, hw1⟩ : ∃ w1, w1 = w.alloc (.cells #[.int .i64 a, .int .i64 b, .int .i64 c, .int .i64 d] 24) := ⟨_, rfl⟩
  have hb1 : Below w.heap.size w w1 := by rw [hw1]; exact (Below.refl _ _).alloc (Nat.le_refl _) _
  have HBk : Blk w1 w.heap.size 24 #[.int .i64 a, .int .i64 b, .int .i64 c, .int .i64 d] := by rw [hw1]; exact Blk.fresh w _ _
  have K := Lib.hid (may_any a b c d w1)
  have d0 : w1.cell? ⟨w.heap.size, 0, none⟩ = some (.int .i64 a) := HBk.cell 0
  have d1 : w1.cell? ⟨w.heap.size, 1, none⟩ = some (.int .i64 b) := HBk.cell 1
  have d2 : w1.cell? ⟨w.heap.size, 2, none⟩ = some (.int .i64 c) := HBk.cell 2
  have d3 : w1.cell? ⟨w.heap.size, 3, none⟩ = some (.int .i64 d) := HBk.cell 3
  have HW1 := Lib.hid hw1
  have HB1 := Lib.hid hb1
  have HBK := Lib.hid HBk
  obtain ⟨v, hv⟩ : ∃ v, v = lightP a b c d := ⟨_, rfl⟩
  rw [← hv]
  unfold lightP at hv
  obtain ⟨mm, hmm⟩ : ∃ mm, mm = maySet a b c d := ⟨_, rfl⟩
  rw [← hmm] at hv K
  have HMM := Lib.hid hmm
  clear hw1 hb1 HBk hmm
  cases mm with
  | false =>
    obtain rfl : v = true := hv
    go_enter Try.func9, Try.ntmps9
    go_upto_region 1 with fail
    rw [← HW1.out]
    clear HW1
    go_wp2_with fail
    refine K.out.mono ?_
    rintro e w2 ⟨rfl, hb2⟩
    have HB2 := Lib.hid (HB1.out.trans ⟨hb2.os, hb2.tape, hb2.output, hb2.size, fun i hi => hb2.block i (Nat.lt_of_lt_of_le hi HB1.out.size)⟩)
    clear hb2 K d0 d1 d2 d3 HB1 HBK
    go_wp2_with fail
    go_ret
    exact ⟨rfl, HB2.out⟩
  | true =>
    obtain ⟨m1, m2, m3, m4, m5⟩ := may_iff.1 HMM.out.symm
    obtain ⟨ab, hab⟩ : ∃ ab, ab = a + b := ⟨_, rfl⟩
    have e1 : IntKind.i64.wrap (a + b) = ab := by rw [hab]; exact IntWalk.i64_in _ (by omega)
    have hv2 : v = decide (ab ≤ 6) := by rw [hab]; exact hv
    have HAB := Lib.hid hab
    clear m1 m2 m3 m4 m5 hab
    have HE1 := Lib.hid e1
    clear e1
    by_cases h6 : ab ≤ 6
    · obtain rfl : v = true := by rw [hv2, decide_eq_true h6]
      have H6 := Lib.hid h6
      clear hv hv2 h6
      go_enter Try.func9, Try.ntmps9
      go_upto_region 1 with fail
      rw [← HW1.out]
      clear HW1
      go_wp2_with fail
      refine K.out.mono ?_
      rintro e w2 ⟨rfl, hb2⟩
      have HB2 := Lib.hid (HB1.out.trans ⟨hb2.os, hb2.tape, hb2.output, hb2.size, fun i hi => hb2.block i (Nat.lt_of_lt_of_le hi HB1.out.size)⟩)
      have hk2 : Blk w2 w.heap.size 24 #[.int .i64 a, .int .i64 b, .int .i64 c, .int .i64 d] := HBK.out.below hb2
      have o0 : w2.cell? ⟨w.heap.size, 0, none⟩ = some (.int .i64 a) := hk2.cell 0
      have o1 : w2.cell? ⟨w.heap.size, 1, none⟩ = some (.int .i64 b) := hk2.cell 1
      have e1 := HE1.out
      have h6 := H6.out
      clear hb2 hk2 K d0 d1 d2 d3 HB1 HBK
      go_wp2_with fail
      go_ret
      exact ⟨rfl, HB2.out⟩
    · obtain rfl : v = false := by rw [hv2, decide_eq_false h6]
      have H6 := Lib.hid h6
      clear hv hv2 h6
      go_enter Try.func9, Try.ntmps9
      go_upto_region 1 with fail
      rw [← HW1.out]
      clear HW1
      go_wp2_with fail
      refine K.out.mono ?_
      rintro e w2 ⟨rfl, hb2⟩
      have HB2 := Lib.hid (HB1.out.trans ⟨hb2.os, hb2.tape, hb2.output, hb2.size, fun i hi => hb2.block i (Nat.lt_of_lt_of_le hi HB1.out.size)⟩)
      have hk2 : Blk w2 w.heap.size 24 #[.int .i64 a, .int .i64 b, .int .i64 c, .int .i64 d] := HBK.out.below hb2
      have o0 : w2.cell? ⟨w.heap.size, 0, none⟩ = some (.int .i64 a) := hk2.cell 0
      have o1 : w2.cell? ⟨w.heap.size, 1, none⟩ = some (.int .i64 b) := hk2.cell 1
      have e1 := HE1.out
      have h6 := H6.out
      clear hb2 hk2 K d0 d1 d2 d3 HB1 HBK
      go_wp2_with fail
      go_ret
      exact ⟨congrArg (fun b => Ending.returned (.bool b)) (decide_eq_false (by have := H6.out; omega)), HB2.out⟩
theorem below_go {w0 w1 w2 : World} {B : Nat} (h : Below B w0 w1) (hb : Below w1.heap.size w1 w2) (hB : B ≤ w0.heap.size) : Below B w0 w2 :=
  h.trans ⟨hb.os, hb.tape, hb.output, hb.size, fun i hi => hb.block i (by have := h.size; omega)⟩
end Go.Proofs.Ytjgdjobhhdhfjaa

/-
  The laws' beginning, over what the program's Unpack owes.
-/
namespace Go.Proofs.Ytjgdjobhhdhfjaa
open Go.RowKit

def AwakeCon8 : Prop := ∀ w, Calls Try.prog 7 #[] w fun e w' => e = .returned (.bool true) ∧ Below w.heap.size w w'

theorem res_six : lzRes [0, 0, 0, 0, 0, 0] 3 0 2 4096 1 = some [0] := by
  unfold lzRes
  rw [if_pos (by decide)]
  exact awk_six
theorem res_five : lzRes [0, 0, 0, 0, 0] 3 0 2 4096 1 = none := by
  unfold lzRes
  rw [if_pos (by decide)]
  exact awk_five
theorem code_six : lzCode [0, 0, 0, 0, 0, 0] 3 0 2 4096 1 = 0 := by
  unfold lzCode
  rw [if_pos (by decide)]
  show codeU (unpackN [0, 0, 0, 0, 0, 0] 3 0 2 4096 1) = 0
  rw [awk_six]
  rfl
theorem code_five : lzCode [0, 0, 0, 0, 0] 3 0 2 4096 1 = 12 := by
  unfold lzCode
  rw [if_pos (by decide)]
  show codeU (unpackN [0, 0, 0, 0, 0] 3 0 2 4096 1) = 12
  rw [awk_five]
  rfl

/-- zeros that were made -/
theorem sl_zeros (k : Nat) (w : World) (hk : k ≤ 1000) : Sl (w.alloc (.cells (bv (List.replicate k 0)).toArray 5)) (some ⟨w.heap.size, 0, none⟩) k (bv (List.replicate k 0)) := by
  have := sl_lit w 5 (bv (List.replicate k 0)).toArray (by simp [bv]; omega)
  simpa [bv] using this

/-- behind one of the two: what is answered, the setting, and what was there -/
def AwkR (w : World) (ys : List UInt8) (cd : Int) (v2 v3 : Value) (wx : World) : Prop :=
  ∃ A c, v2 = .slice A ys.length c ∧ v3 = .int .i64 cd ∧ Sl wx A ys.length (bv ys) ∧ Blk wx w.heap.size 24 #[.int .i64 3, .int .i64 0, .int .i64 2, .int .i64 4096] ∧ Below w.heap.size w wx
theorem awk_end {w w1 w2 w3 W : World} {gm : Nat} {ys : List UInt8} {cd : Int} {x : Ending} (hB1 : Below w.heap.size w w1) (hK : Blk w1 w.heap.size 24 #[.int .i64 3, .int .i64 0, .int .i64 2, .int .i64 4096]) (hO2 : Only (fun _ => False) w1 w2) (hg : w1.heap.size ≤ gm)
    (hW : Only (fun _ => False) w2 W) {o : Option (List UInt8)} (ho : o.getD [] = ys) (h : UpPost W gm o cd x w3) : ∃ v2 v3, x = .returned (.tuple #[v2, v3]) ∧ AwkR w ys cd v2 v3 w3 ∧ Only (fun _ => False) w1 w3 := by
  obtain ⟨_, hO, A, c, rfl, hS⟩ := h
  have hO' : Only (fun i => i = gm) w1 w3 := ((hO2.trans hW).mono (fun _ h => h.elim)).trans hO
  rw [ho] at hS ⊢
  have hlt := hK.lt
  exact ⟨_, _, rfl, ⟨A, c, rfl, rfl, hS, hK.only hO' (by show ¬ w.heap.size = gm; omega), hB1.trans (hO'.below hB1.size (by rintro i rfl; have := hB1.size; omega))⟩, hO'.os, hO'.tape, hO'.output, hO'.size, fun i hi _ => hO'.block i hi (by show ¬ i = gm; omega)⟩

set_option maxRecDepth 100000 in
set_option maxHeartbeats 8000000 in
theorem awake8_any (C : UpCon) : AwakeCon8 := by
  intro w
  have hmk6 : ∀ w, (Instr.makeSlice 22 (.int .i64 6) (.int .i64 6)).run Try.prog w = .ok (.slice (some ⟨w.heap.size, 0, none⟩) 6 6) (w.alloc (.cells (bv [0, 0, 0, 0, 0, 0]).toArray 5)) := fun _ => by kernel_rfl
  have hmk5 : ∀ w, (Instr.makeSlice 22 (.int .i64 5) (.int .i64 5)).run Try.prog w = .ok (.slice (some ⟨w.heap.size, 0, none⟩) 5 5) (w.alloc (.cells (bv [0, 0, 0, 0, 0]).toArray 5)) := fun _ => by kernel_rfl
  obtain ⟨w1, hw1⟩ : ∃ w1, w1 = w.alloc (.cells #[.int .i64 3, .int .i64 0, .int .i64 2, .int .i64 4096] 24) := ⟨_, rfl⟩
  have hb1 : Below w.heap.size w w1 := by rw [hw1]; exact (Below.refl _ _).alloc (Nat.le_refl _) _
  have HBk : Blk w1 w.heap.size 24 #[.int .i64 3, .int .i64 0, .int .i64 2, .int .i64 4096] := by rw [hw1]; exact Blk.fresh w _ _
  have HW1 := Lib.hid hw1
  have HB1 := Lib.hid hb1
  have HBK := Lib.hid HBk
  clear hw1 hb1 HBk
  go_enter Try.func7, Try.ntmps7
  go_upto_region 2 with fail
  rw [← HW1.out]
  clear HW1
  go_cut [2, 3] from 7 (fun v2 v3 wx => AwkR w [0] 0 v2 v3 wx)
  case first =>
    have d0 : w1.cell? ⟨w.heap.size, 0, none⟩ = some (.int .i64 3) := HBK.out.cell 0
    have d1 : w1.cell? ⟨w.heap.size, 1, none⟩ = some (.int .i64 0) := HBK.out.cell 1
    have d2 : w1.cell? ⟨w.heap.size, 2, none⟩ = some (.int .i64 2) := HBK.out.cell 2
    have d3 : w1.cell? ⟨w.heap.size, 3, none⟩ = some (.int .i64 4096) := HBK.out.cell 3
    have a0 : (w1.alloc (.cells (bv [0, 0, 0, 0, 0, 0]).toArray 5)).cell? ⟨w.heap.size, 0, none⟩ = some (.int .i64 3) := (Blk.alloc HBK.out _).cell 0
    have a1 : (w1.alloc (.cells (bv [0, 0, 0, 0, 0, 0]).toArray 5)).cell? ⟨w.heap.size, 1, none⟩ = some (.int .i64 0) := (Blk.alloc HBK.out _).cell 1
    have a2 : (w1.alloc (.cells (bv [0, 0, 0, 0, 0, 0]).toArray 5)).cell? ⟨w.heap.size, 2, none⟩ = some (.int .i64 2) := (Blk.alloc HBK.out _).cell 2
    have a3 : (w1.alloc (.cells (bv [0, 0, 0, 0, 0, 0]).toArray 5)).cell? ⟨w.heap.size, 3, none⟩ = some (.int .i64 4096) := (Blk.alloc HBK.out _).cell 3
    go_region_law (first
      | (go_simp; go_at_call 11; refine (much_any _).mono ?_; rintro e w2 ⟨gm, rfl, hM, hg, hb⟩; have hO2 : Only (fun _ => False) w1 w2 := Only.trans (by first | exact (Only.refl _ w1).drewN _ | exact ((Only.refl _ w1).alloc _).drewN _) (Only.of_below hb); have hP2 := HBK.out.only hO2 (fun h => h); have r0 := hP2.cell 0; have r1 := hP2.cell 1; have r2 := hP2.cell 2; have r3 := hP2.cell 3; have s0 := (hP2.alloc (.cells (bv [0, 0, 0, 0, 0, 0]).toArray 5)).cell 0; have s1 := (hP2.alloc (.cells (bv [0, 0, 0, 0, 0, 0]).toArray 5)).cell 1; have s2 := (hP2.alloc (.cells (bv [0, 0, 0, 0, 0, 0]).toArray 5)).cell 2; have s3 := (hP2.alloc (.cells (bv [0, 0, 0, 0, 0, 0]).toArray 5)).cell 3; have HM2 := Lib.hid hM; have HO2 := Lib.hid hO2; have HG2 := Lib.hid (show w1.heap.size ≤ gm ∧ gm < w2.heap.size from ⟨by simp at hg; omega, hM.lt⟩); (first | (have HZ2 := Lib.hid (And.intro (Sl.below (w := (w1.alloc (.cells (bv [0, 0, 0, 0, 0, 0]).toArray 5)).drewN _) (sl_zeros 6 w1 (by omega)) hb) (show w1.heap.size ≠ gm from by simp at hg; omega))) | (have HZ2 := Lib.hid True.intro)); clear hM hO2 hg hb hP2)
      | (go_simp; go_at_call 33; refine (C.up (n := 6) (bs := [0, 0, 0, 0, 0, 0]) (a := 3) (b := 0) (cc := 2) (d := 4096) (size := 1) rfl (by first | exact HZ2.out.1 | exact sl_zeros 6 w2 (by omega)) (by intro _ q o e; injection e with e; injection e with e; first | exact e ▸ HZ2.out.2 | (have := HG2.out; omega)) (by omega) (by first | exact HM2.out | exact HM2.out.alloc _) (fun _ => by omega) (by omega) (by omega)).mono ?_; intro e w3 hpost; obtain ⟨v2, v3, rfl, hR, hO3⟩ := awk_end HB1.out HBK.out HO2.out HG2.out.1 (by first | exact Only.refl _ w2 | exact (Only.refl _ w2).alloc _) (ys := [0]) (cd := lzCode [0, 0, 0, 0, 0, 0] 3 0 2 4096 1) (o := lzRes [0, 0, 0, 0, 0, 0] 3 0 2 4096 1) (by rw [res_six]; rfl) hpost; rw [code_six] at hR; have HR := Lib.hid hR; have HO3 := Lib.hid hO3; clear hpost hR hO3))
    all_goals
      go_wp2_with fail
      go_meet
      exact HR.out
  case rest =>
    obtain ⟨A6, c6, rfl, rfl, hS6, hK6, hB6⟩ := hcut
    have HS6 := Lib.hid hS6
    have HK5 := Lib.hid hK6
    have HB5 := Lib.hid hB6
    have HB5s := Lib.hid hB6.size
    clear hS6 hK6 hB6 HBK HB1
    generalize wc = w5 at *
    go_upto_region 3 with fail
    go_cut [4, 5] from 14 (fun v2 v3 wx => AwkR w [] 12 v2 v3 wx ∧ Only (fun _ => False) w5 wx)
    case first =>
      have d0 : w5.cell? ⟨w.heap.size, 0, none⟩ = some (.int .i64 3) := HK5.out.cell 0
      have d1 : w5.cell? ⟨w.heap.size, 1, none⟩ = some (.int .i64 0) := HK5.out.cell 1
      have d2 : w5.cell? ⟨w.heap.size, 2, none⟩ = some (.int .i64 2) := HK5.out.cell 2
      have d3 : w5.cell? ⟨w.heap.size, 3, none⟩ = some (.int .i64 4096) := HK5.out.cell 3
      have a0 : (w5.alloc (.cells (bv [0, 0, 0, 0, 0]).toArray 5)).cell? ⟨w.heap.size, 0, none⟩ = some (.int .i64 3) := (Blk.alloc HK5.out _).cell 0
      have a1 : (w5.alloc (.cells (bv [0, 0, 0, 0, 0]).toArray 5)).cell? ⟨w.heap.size, 1, none⟩ = some (.int .i64 0) := (Blk.alloc HK5.out _).cell 1
      have a2 : (w5.alloc (.cells (bv [0, 0, 0, 0, 0]).toArray 5)).cell? ⟨w.heap.size, 2, none⟩ = some (.int .i64 2) := (Blk.alloc HK5.out _).cell 2
      have a3 : (w5.alloc (.cells (bv [0, 0, 0, 0, 0]).toArray 5)).cell? ⟨w.heap.size, 3, none⟩ = some (.int .i64 4096) := (Blk.alloc HK5.out _).cell 3
      go_region_law (first
        | (go_simp; go_at_call 11; refine (much_any _).mono ?_; rintro e w2 ⟨gm, rfl, hM, hg, hb⟩; have hO2 : Only (fun _ => False) w5 w2 := Only.trans (by first | exact (Only.refl _ w5).drewN _ | exact ((Only.refl _ w5).alloc _).drewN _) (Only.of_below hb); have hP2 := HK5.out.only hO2 (fun h => h); have r0 := hP2.cell 0; have r1 := hP2.cell 1; have r2 := hP2.cell 2; have r3 := hP2.cell 3; have s0 := (hP2.alloc (.cells (bv [0, 0, 0, 0, 0]).toArray 5)).cell 0; have s1 := (hP2.alloc (.cells (bv [0, 0, 0, 0, 0]).toArray 5)).cell 1; have s2 := (hP2.alloc (.cells (bv [0, 0, 0, 0, 0]).toArray 5)).cell 2; have s3 := (hP2.alloc (.cells (bv [0, 0, 0, 0, 0]).toArray 5)).cell 3; have HM2 := Lib.hid hM; have HO2 := Lib.hid hO2; have HG2 := Lib.hid (show w5.heap.size ≤ gm ∧ gm < w2.heap.size from ⟨by simp at hg; omega, hM.lt⟩); (first | (have HZ2 := Lib.hid (And.intro (Sl.below (w := (w5.alloc (.cells (bv [0, 0, 0, 0, 0]).toArray 5)).drewN _) (sl_zeros 5 w5 (by omega)) hb) (show w5.heap.size ≠ gm from by simp at hg; omega))) | (have HZ2 := Lib.hid True.intro)); clear hM hO2 hg hb hP2)
        | (go_simp; go_at_call 33; refine (C.up (n := 5) (bs := [0, 0, 0, 0, 0]) (a := 3) (b := 0) (cc := 2) (d := 4096) (size := 1) rfl (by first | exact HZ2.out.1 | exact sl_zeros 5 w2 (by omega)) (by intro _ q o e; injection e with e; injection e with e; first | exact e ▸ HZ2.out.2 | (have := HG2.out; omega)) (by omega) (by first | exact HM2.out | exact HM2.out.alloc _) (fun _ => by omega) (by omega) (by omega)).mono ?_; intro e w3 hpost; obtain ⟨v2, v3, rfl, hR, hO3⟩ := awk_end HB5.out HK5.out HO2.out HG2.out.1 (by first | exact Only.refl _ w2 | exact (Only.refl _ w2).alloc _) (ys := []) (cd := lzCode [0, 0, 0, 0, 0] 3 0 2 4096 1) (o := lzRes [0, 0, 0, 0, 0] 3 0 2 4096 1) (by rw [res_five]; rfl) hpost; rw [code_five] at hR; have HR := Lib.hid hR; have HO3 := Lib.hid hO3; clear hpost hR hO3))
      all_goals
        go_wp2_with fail
        go_meet
        exact ⟨HR.out, HO3.out⟩

    case rest =>
      obtain ⟨⟨A7, c7, rfl, rfl, hS7, hK7, hB7⟩, hO7⟩ := hcut
      have HS8 := Lib.hid (fun n => (HS6.out.only hO7 (fun _ _ _ _ h => h)).drewN n)
      have HB7 := Lib.hid hB7
      clear hS7 hK7 hB7 hO7 HS6 HK5 HB5
      go_wp2_with fail
      refine (bytesSame_any (bs := [0]) ((HS8.out 0).alloc _) (sl_one wc _ _) (by decide)).mono ?_
      rintro e w9 ⟨rfl, k9, rfl⟩
      go_wp2_with fail
      go_ret
      exact ⟨rfl, below_drewN (HB7.out.alloc HB7.out.size _) k9⟩
end Go.Proofs.Ytjgdjobhhdhfjaa
