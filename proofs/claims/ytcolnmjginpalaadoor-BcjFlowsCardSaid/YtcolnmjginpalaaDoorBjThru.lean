/-
  A list that is gone through: Decode and Code.
-/
import Derived.Test.YtcolnmjginpalaaDoorBjWord
import Derived.Test.YtcolnmjginpalaaDoorInfo
import Derived.Laws.CopyOwn
import Derived.Laws.MakeOwn
namespace Go.Proofs.YtcolnmjginpalaaDoor
set_option linter.unusedVariables false
set_option linter.unusedSimpArgs false
open Go.RowKit

theorem made_arr (n : Nat) : madeCells #[Value.int .u8 0] n = (bv (List.replicate n 0)).toArray := by
  apply Array.toList_inj.1
  rw [toList_madeCells_one]
  simp [bv]
theorem arr_at (l : List UInt8) (i : Nat) (h : i < l.length) : (bv l).toArray[i]? = some (.int .u8 ((l.getD i 0).toNat : Int)) := by
  rw [List.getElem?_toArray]
  exact bv_get l i h
theorem u8_size : (Tryd.prog.info? 5).map (·.size) = some 1 := by kernel_rfl
/-- copied whole into a row of as many -/
theorem copy_all {w W : World} {A : Option Addr} {q n c : Nat} {xs b : List UInt8} (hb : Below w.heap.size w W) (hq : w.heap.size ≤ q) (hB : Blk W q 5 (bv xs).toArray) (hx : xs.length = n) (hS : Sl W A n (bv b)) :
    ∃ w2, (Builtin.copy_ #[22, 22] 3 #[.slice (some ⟨q, 0, none⟩) n n, .slice A n c]).run Tryd.prog W = .ok (.int .i64 (n : Int)) w2 ∧ Hid (Blk w2 q 5 (bv b).toArray ∧ Below w.heap.size w w2 ∧ Only (fun i => i = q) W w2) := by
  have hbl : b.length = n := by rw [← bv_length]; exact hS.1
  rcases Nat.eq_zero_or_pos n with h0 | h0
  · refine ⟨W, ?_, Lib.hid ⟨?_, hb, Only.refl _ _⟩⟩
    · rw [run_copy_none (P := Tryd.prog) W 22 22 3 5 _ A n n n c Tryd.underlying22 u8_size (by rw [h0]; rfl), h0]
      rfl
    · obtain rfl : b = [] := List.eq_nil_of_length_eq_zero (by omega)
      obtain rfl : xs = [] := List.eq_nil_of_length_eq_zero (by omega)
      exact hB
  · obtain ⟨ba, oa, rfl, hba, hca⟩ := hS.2 h0
    have hsrc : ∀ j v, (bv b)[j]? = some v → W.cell? ((⟨ba, oa, none⟩ : Addr).add j) = some v := hS.news
    have hmin : Nat.min n n = n := Nat.min_self n
    have hrun := run_copy_row (P := Tryd.prog) W 22 22 3 5 q 0 n n ⟨ba, oa, none⟩ n c _ 5 (bv b) Tryd.underlying22 u8_size hB (by rw [bv_length, hmin, hbl]) hsrc (by simp [bv]; omega) (bv_one _)
    have e : (List.take 0 (bv xs).toArray.toList ++ bv b ++ List.drop (0 + (bv b).length) (bv xs).toArray.toList).toArray = (bv b).toArray := by
      rw [List.take_zero, List.nil_append, List.drop_eq_nil_of_le (by simp [bv]; omega), List.append_nil]
    rw [e, bv_length, hbl] at hrun
    refine ⟨_, hrun, Lib.hid ⟨setRow_heap W q _ _ 5 _ hB, below_setRow hb hq _, ?_⟩⟩
    exact ⟨rfl, rfl, rfl, by simp [World.setRow], fun i hi hn => by
      simp only [World.setRow, Array.getElem?_modify]
      rw [if_neg (fun h => hn h.symm)]⟩
theorem At.shift {w : World} {r o q k p : Nat} {c : Bool} {l m : Int} {hd t : List UInt8} {n : Nat} (h : At w r o q k c p l m (hd ++ t)) (hn : hd.length = n) : At w r o q (k + n) c p l m t :=
  ⟨h.codes, h.place, h.last, h.mask, fun j hj => by
    have := h.byte (n + j) (by rw [List.length_append]; omega)
    rw [← Nat.add_assoc] at this
    rw [this, List.getD_eq_getElem?_getD, List.getElem?_append_right (by omega), show n + j - hd.length = j by omega, ← List.getD_eq_getElem?_getD], h.free, h.freeq, fun e j hj => by
    have := h.apart e (n + j) (by rw [List.length_append]; omega)
    omega, h.r2, h.q2, h.tabs⟩
def ThruPost (w : World) (n : Nat) (out : List UInt8) (e : Ending) (w' : World) : Prop :=
  ∃ q, e = .returned (.slice (some ⟨q, 0, none⟩) n n) ∧ Sl w' (some ⟨q, 0, none⟩) n (bv out) ∧ w.heap.size ≤ q ∧ Below w.heap.size w w'
/-- what holds from step to step -/
structure Thr (w wr : World) (r q : Nat) (c : Bool) (b : List UInt8) (i a : Nat) (done : List UInt8) : Prop where
  len : done.length = i
  le : i ≤ b.length
  at_ : ∃ l m, At wr r 0 q i c i l m (b.drop i) ∧ Aged i l m a
  row : Blk wr q 5 (bv (done ++ b.drop i)).toArray
  is : done ++ gN c i a (b.drop i) = gN c 0 0 b
  bel : Below w.heap.size w wr
  r0 : w.heap.size ≤ r
  q0 : w.heap.size ≤ q
  ne : q ≠ r
theorem Thr.next {w wr w' : World} {r q i a : Nat} {c : Bool} {b done : List UInt8} {x : UInt8} {rr : List UInt8} {e : Ending} (h : Thr w wr r q c b i a done) (hd : b.drop i = x :: rr)
    (hp : StepPost wr r 0 q i c i (x :: rr) (stN c i a (x :: rr)) (i + (stN c i a (x :: rr)).1) e w') :
    Thr w w' r q c b (i + (stN c i a (x :: rr)).1) (stN c i a (x :: rr)).2.1 (done ++ (stN c i a (x :: rr)).2.2) := by
  obtain ⟨_, l', m', h1, h2, h3⟩ := hp
  obtain ⟨s1, s2, s3, s4⟩ := st_len c i a x rr
  have hgs := gN_step c i a x rr
  generalize stN c i a (x :: rr) = S at *
  obtain ⟨n, a', hd'⟩ := S
  simp only at *
  have hlen := h.len
  have hrl : rr.length + 1 = b.length - i := by rw [← List.length_drop, hd, List.length_cons]
  have hle := h.le
  have hdd : (x :: rr).drop n = b.drop (i + n) := by rw [← hd, List.drop_drop]
  refine ⟨by rw [List.length_append, hlen, s1], by omega, ⟨l', m', ?_, h2⟩, ?_, ?_, h.bel.trans (h3.only.below (by exact h.bel.size) (by rintro j (rfl | rfl); exact h.r0; exact h.q0)), h.r0, h.q0, h.ne⟩
  · rw [← hdd]
    exact h1.shift s1
  · obtain ⟨cs', b1, b2, b3⟩ := h3.blk q _ _ h.row
    have hcs : cs' = (bv (done ++ hd' ++ b.drop (i + n))).toArray := by
      have hsz : cs'.size = b.length := by
        rw [b2]
        simp [bv]
        omega
      apply Array.ext_getElem?
      intro j
      by_cases hj : j < b.length
      · rw [arr_at _ _ (by simp; omega)]
        by_cases hji : j < i
        · have hne := h.ne
          rw [b3 j (fun h => hne h.1) (fun h => by omega), arr_at _ _ (by simp; omega)]
          rw [List.getD_eq_getElem?_getD, List.getD_eq_getElem?_getD, List.append_assoc, List.getElem?_append_left (by omega), List.getElem?_append_left (by omega)]
        · have := h1.byte (j - i) (by rw [List.length_append, hdd, List.length_drop]; omega)
          rw [show i + (j - i) = j by omega, b1.cell] at this
          rw [this, List.append_assoc, List.getD_eq_getElem?_getD, List.getD_eq_getElem?_getD, List.getElem?_append_right (l₁ := done) (by omega), hlen, hdd]
      · rw [Array.getElem?_eq_none (by omega), Array.getElem?_eq_none (by simp [bv]; omega)]
    rw [← hcs]
    exact b1
  · rw [List.append_assoc, ← hdd, ← hgs, ← hd]
    exact h.is
set_option maxHeartbeats 1000000 in
theorem begin_any (c : Bool) (w : World) : Calls Tryd.prog 19 #[.bool c] w fun e w' => e = .returned (.agg #[.bool c, .int .i64 0, .int .i64 (-1), .int .i64 0]) ∧ Below w.heap.size w w' := by
  go_enter Tryd.func19, Tryd.ntmps19
  go_wp2_with fail
  exact bodyPost_ret (v := .agg #[.bool c, .int .i64 0, .int .i64 (-1), .int .i64 0]) (by simp [results, Tryd.results19, go_sem]) rfl ⟨rfl, (Below.refl _ _).alloc (Nat.le_refl _) _⟩
theorem thr_wrap {n i s : Nat} (h : i < n) (hn : n ≤ 1000000) (hs : s ≤ 5) : wrap64 ((i : Int) + (s : Int)) = (i : Int) + (s : Int) := IntWalk.wrap64_in _ (by omega)
theorem thr_meas {n i s : Nat} (h : i < n) (hs : 1 ≤ s) : n - (intOf (Value.int .i64 ((i : Int) + (s : Int)))).toNat < n - (intOf (Value.int .i64 (i : Int))).toNat := by
  simp [intOf]
  omega
set_option maxRecDepth 100000 in
set_option maxHeartbeats 4000000 in
theorem through_any {A : Option Addr} {n cp : Nat} {b : List UInt8} {c : Bool} {w : World} (hS : Sl w A n (bv b)) (hn : n ≤ 1000000) (hT : Tabs w) :
    Calls Tryd.prog 18 #[.slice A n cp, .agg #[.bool c, .int .i64 0, .int .i64 (-1), .int .i64 0]] w (ThruPost w n (gN c 0 0 b)) := by
  obtain ⟨i, hi, hz0, hz1, hz2⟩ := info_parts info_u8
  have hbl : b.length = n := by rw [← bv_length]; exact hS.1
  have hmk : ∀ W : World, (Instr.makeSlice 22 (.int .i64 (n : Int)) (.int .i64 (n : Int))).run Tryd.prog W = .ok (.slice (some ⟨W.heap.size, 0, none⟩) n n) (W.alloc (.cells (bv (List.replicate n 0)).toArray 5)) := by
    intro W
    have hmk := run_make (P := Tryd.prog) W 22 5 i (.int .u8 0) Tryd.underlying22 hi hz0 .i64 .i64 (n : Int) (n : Int) (by omega) (Int.le_refl _) (by rw [hz2]; omega) (by omega)
    rw [hz1, Nat.mul_one, Int.toNat_natCast, show (Value.int .u8 0).cells = #[Value.int .u8 0] from rfl, made_arr] at hmk
    exact hmk
  have hb1 : Below w.heap.size w (w.alloc (.cells #[.bool c, .int .i64 0, .int .i64 (-1), .int .i64 0] 40)) := (Below.refl _ w).alloc (Nat.le_refl _) _
  have hr1 : Blk (w.alloc (.cells #[.bool c, .int .i64 0, .int .i64 (-1), .int .i64 0] 40)) w.heap.size 40 #[.bool c, .int .i64 0, .int .i64 (-1), .int .i64 0] := Blk.fresh w _ _
  have hz1' : (w.alloc (.cells #[.bool c, .int .i64 0, .int .i64 (-1), .int .i64 0] 40)).heap.size = w.heap.size + 1 := by simp
  have HS := Lib.hid hS
  have HT := Lib.hid hT
  have HN := Lib.hid (And.intro hn hbl)
  clear hS hT hn hbl hz0 hz1 hz2 hi
  go_enter Tryd.func18, Tryd.ntmps18
  go_upto_region 2 with fail
  have hb2 : Below w.heap.size w ((w.alloc (.cells #[.bool c, .int .i64 0, .int .i64 (-1), .int .i64 0] 40)).alloc (.cells (bv (List.replicate n 0)).toArray 5)) := hb1.alloc hb1.size _
  have hr2 : Blk ((w.alloc (.cells #[.bool c, .int .i64 0, .int .i64 (-1), .int .i64 0] 40)).alloc (.cells (bv (List.replicate n 0)).toArray 5)) w.heap.size 40 #[.bool c, .int .i64 0, .int .i64 (-1), .int .i64 0] := hr1.alloc _
  have hq2 : Blk ((w.alloc (.cells #[.bool c, .int .i64 0, .int .i64 (-1), .int .i64 0] 40)).alloc (.cells (bv (List.replicate n 0)).toArray 5)) (w.heap.size + 1) 5 (bv (List.replicate n 0)).toArray := by
    have := Blk.fresh (w.alloc (.cells #[.bool c, .int .i64 0, .int .i64 (-1), .int .i64 0] 40)) 5 (bv (List.replicate n 0)).toArray
    rwa [hz1'] at this
  clear hb1 hr1 hz1' hmk
  generalize (w.alloc (.cells #[.bool c, .int .i64 0, .int .i64 (-1), .int .i64 0] 40)).alloc (.cells (bv (List.replicate n 0)).toArray 5) = W2 at *
  obtain ⟨w3, hrun, h3⟩ := copy_all (c := cp) (q := w.heap.size + 1) hb2 (by omega) hq2 (List.length_replicate) (HS.out.below hb2)
  obtain ⟨q, hq⟩ : ∃ q, q = w.heap.size + 1 := ⟨_, rfl⟩
  obtain ⟨r, hr⟩ : ∃ r, r = w.heap.size := ⟨_, rfl⟩
  have HR3 := Lib.hid (show Blk w3 r 40 #[.bool c, .int .i64 0, .int .i64 (-1), .int .i64 0] by rw [hr]; exact hr2.only h3.out.2.2 (by omega))
  have h0 : Thr w w3 r q c b 0 0 [] := by
    have hts : 2 ≤ w.heap.size := HT.out.size
    refine ⟨rfl, Nat.zero_le _, ⟨-1, 0, ⟨(HR3.out.cell 0), (HR3.out.cell 1), (HR3.out.cell 2), (HR3.out.cell 3), fun j hj => ?_, HR3.out.free, fun i => ?_, fun e => by omega, by omega, by omega, HT.out.below h3.out.2.1⟩, aged_start⟩, ?_, rfl, h3.out.2.1, by omega, by omega, by omega⟩
    · rw [hq, h3.out.1.cell, Nat.zero_add, List.drop_zero]
      exact arr_at b j hj
    · rw [hq]
      exact h3.out.1.free i
    · rw [hq]
      exact h3.out.1
  have H0 := Lib.hid h0
  rw [← hq] at hrun
  rw [← hq, ← hr]
  clear hb2 hr2 hq2 h3 h0 hq hr HR3
  go_wp2_with fail
  go_loopw [6] (fun v wr => ∃ (i a : Nat) (done : List UInt8), v = .int .i64 (i : Int) ∧ Thr w wr r q c b i a done) (fun v _ => n - (intOf v).toNat)
  case atStart => exact ⟨0, 0, [], rfl, H0.out⟩
  case round =>
    clear H0
    obtain ⟨i, a, done, rfl, hT⟩ := hrel
    by_cases hlt : i < n
    · obtain ⟨x, rr, hd⟩ : ∃ x rr, b.drop i = x :: rr := by
        cases hx : b.drop i with
        | nil =>
          have := congrArg List.length hx
          rw [List.length_drop] at this
          have h0 : ([] : List UInt8).length = 0 := rfl
          have := HN.out
          omega
        | cons x rr => exact ⟨x, rr, rfl⟩
      have hrl : rr.length + 1 = n - i := by
        have := congrArg List.length hd
        rw [List.length_drop, List.length_cons] at this
        have := HN.out
        omega
      obtain ⟨l, m, hat, hag⟩ := hT.at_
      rw [hd] at hat
      have KS := Lib.hid (step_any (C := n - i) hat hag hrl (Nat.le_refl _) (by have := HN.out; omega) (by have := HN.out; omega) (by have := HN.out; omega))
      have i0 : (0 : Int) ≤ (i : Int) := by omega
      have i1 : (i : Int) < (n : Int) := by omega
      have i2 : (i : Int) ≤ (n : Int) := by omega
      have i3 : ¬ n = i := by omega
      have HTH := Lib.hid hT
      have HD := Lib.hid hd
      have HLT := Lib.hid hlt
      clear hT hd hrl hat hag hlt
      go_wp2_with fail
      refine KS.out.mono ?_
      rintro e w4 hp
      have hn := HTH.out.next HD.out hp
      have hl := st_len c i a x rr
      have hE := hp.1
      generalize stN c i a (x :: rr) = S at *
      obtain ⟨s1, s2, s3⟩ := S
      subst hE
      have HE1 := Lib.hid (thr_wrap HLT.out HN.out.1 hl.2.2.2)
      have HNX := Lib.hid hn
      have HL := Lib.hid hl.2.1
      clear hn hl hp KS
      go_wp2_with fail
      go_roundw
      case rel => exact ⟨i + s1, s2, done ++ s3, by rw [Int.natCast_add]; first | rfl | rw [HE1.out], HNX.out⟩
      case measure => first | exact thr_meas HLT.out HL.out | (rw [HE1.out]; exact thr_meas HLT.out HL.out)
    · have hin : i = n := by have := hT.le; have := HN.out; omega
      subst hin
      have hdr : b.drop i = [] := List.drop_eq_nil_of_le (by have := HN.out; omega)
      have hrow := hT.row
      have his := hT.is
      rw [hdr, List.append_nil] at hrow
      rw [hdr, gN_nil, List.append_nil] at his
      subst his
      have HF := Lib.hid (And.intro hrow (And.intro hT.bel (And.intro hT.q0 hT.len)))
      clear hT hlt hdr hrow
      go_wp2_with fail
      go_ret
      refine ⟨q, rfl, ⟨by rw [bv_length]; exact HF.out.2.2.2, fun h0 => ⟨q, 0, rfl, HF.out.1.lt, fun j hj => ?_⟩⟩, HF.out.2.2.1, HF.out.2.1⟩
      rw [Nat.zero_add, HF.out.1.cell, List.getElem?_toArray]
set_option maxHeartbeats 1000000 in
theorem bDecode_any {A : Option Addr} {n cp : Nat} {b : List UInt8} {w : World} (hS : Sl w A n (bv b)) (hn : n ≤ 1000000) (hT : Tabs w) :
    Calls Tryd.prog 10 #[.slice A n cp] w (ThruPost w n (gN false 0 0 b)) := by
  have KB := Lib.hid (begin_any false w)
  have KT := Lib.hid (fun W (hb : Below w.heap.size w W) => through_any (cp := cp) (c := false) (hS.below hb) hn (hT.below hb))
  clear hS hn hT
  go_enter Tryd.func10, Tryd.ntmps10
  go_wp2_with fail
  refine KB.out.mono ?_
  rintro e w1 ⟨rfl, hb⟩
  have HB := Lib.hid hb
  clear hb
  go_wp2_with fail
  refine (KT.out w1 HB.out).mono ?_
  rintro e w2 ⟨q, rfl, h1, h2, h3⟩
  have H := Lib.hid (And.intro h1 (And.intro (Nat.le_trans HB.out.size h2) (HB.out.trans (h3.mono HB.out.size))))
  clear h1 h2 h3
  go_wp2_with fail
  go_ret
  exact ⟨q, rfl, H.out⟩
set_option maxHeartbeats 1000000 in
theorem bCode_any {A : Option Addr} {n cp : Nat} {b : List UInt8} {w : World} (hS : Sl w A n (bv b)) (hn : n ≤ 1000000) (hT : Tabs w) :
    Calls Tryd.prog 12 #[.slice A n cp] w (ThruPost w n (gN true 0 0 b)) := by
  have KB := Lib.hid (begin_any true w)
  have KT := Lib.hid (fun W (hb : Below w.heap.size w W) => through_any (cp := cp) (c := true) (hS.below hb) hn (hT.below hb))
  clear hS hn hT
  go_enter Tryd.func12, Tryd.ntmps12
  go_wp2_with fail
  refine KB.out.mono ?_
  rintro e w1 ⟨rfl, hb⟩
  have HB := Lib.hid hb
  clear hb
  go_wp2_with fail
  refine (KT.out w1 HB.out).mono ?_
  rintro e w2 ⟨q, rfl, h1, h2, h3⟩
  have H := Lib.hid (And.intro h1 (And.intro (Nat.le_trans HB.out.size h2) (HB.out.trans (h3.mono HB.out.size))))
  clear h1 h2 h3
  go_wp2_with fail
  go_ret
  exact ⟨q, rfl, H.out⟩
end Go.Proofs.YtcolnmjginpalaaDoor
