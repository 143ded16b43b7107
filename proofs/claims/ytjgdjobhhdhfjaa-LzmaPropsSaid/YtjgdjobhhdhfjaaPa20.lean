/-
  LzProps: put together.
-/
import Derived.Test.YtjgdjobhhdhfjaaPa18
import Derived.Test.YtjgdjobhhdhfjaaPa19
set_option linter.unusedVariables false
set_option linter.unusedSimpArgs false
/-
  The law LzmaProps, walked over what the program's Parse, May, Probs and Props owe.
-/
namespace Go.Proofs.Ytjgdjobhhdhfjaa
open Go.RowKit

/-- a setting's properties, or none -/
def propsB (a b c d : Int) : List UInt8 := if maySet a b c d = true then propsOf a.toNat b.toNat c.toNat d.toNat else []
theorem propsB_len (a b c d : Int) : (propsB a b c d).length ≤ 5 := by
  unfold propsB
  split
  · exact Nat.le_refl 5
  · exact Nat.zero_le _
/-- what five bytes say, as five numbers -/
def parse5 (bs : List UInt8) : Int × Int × Int × Int × Int :=
  match parseOf bs with
  | none => (0, 0, 0, 0, 11)
  | some (lc, lp, pb, dict) => ((lc : Int), (lp : Int), (pb : Int), (dict : Int), 0)
def ParseIs (w : World) (v : Int × Int × Int × Int × Int) (x : Ending) (w' : World) : Prop :=
  x = .returned (.tuple #[.agg #[.int .i64 v.1, .int .i64 v.2.1, .int .i64 v.2.2.1, .int .i64 v.2.2.2.1], .int .i64 v.2.2.2.2]) ∧ Below w.heap.size w w'
theorem parse_is {w : World} {bs : List UInt8} {x : Ending} {w' : World} (h : ParsePost w (parseOf bs) x w') : ParseIs w (parse5 bs) x w' := by
  obtain ⟨hb, ⟨ho, rfl⟩ | ⟨lc, lp, pb, dict, ho, rfl⟩⟩ := h
  · refine ⟨?_, hb⟩
    unfold parse5
    rw [ho]
  · refine ⟨?_, hb⟩
    unfold parse5
    rw [ho]
def PropsIs (w : World) (ys : List UInt8) (x : Ending) (w' : World) : Prop :=
  ∃ A c, x = .returned (.slice A ys.length c) ∧ Sl w' A ys.length (bv ys) ∧ Below w.heap.size w w'

theorem maySet_set {a b c d : Int} (h : maySet a b c d = true) : ∃ lc lp pb dict : Nat, a = (lc : Int) ∧ b = (lp : Int) ∧ c = (pb : Int) ∧ d = (dict : Int) ∧ SetOk lc lp pb dict := by
  obtain ⟨m1, m2, m3, m4, m5, m6, m7, m8⟩ := may_iff.1 h
  exact ⟨a.toNat, b.toNat, c.toNat, d.toNat, by omega, by omega, by omega, by omega, by omega, by omega, by omega, by omega, by omega⟩

theorem zprops_all (a b c d : Int) (w : World) :
    Calls Try.prog 22 #[.agg #[.int .i64 a, .int .i64 b, .int .i64 c, .int .i64 d]] w (PropsIs w (propsB a b c d)) := by
  by_cases hm : maySet a b c d = true
  · have e : propsB a b c d = propsOf a.toNat b.toNat c.toNat d.toNat := if_pos hm
    rw [e]
    obtain ⟨lc, lp, pb, dict, rfl, rfl, rfl, rfl, hs⟩ := maySet_set hm
    exact zprops_any hs w
  · have e : propsB a b c d = [] := if_neg hm
    rw [e]
    have hm' : maySet a b c d = false := by simpa using hm
    obtain ⟨w1, hw1⟩ : ∃ w1, w1 = w.alloc (.cells #[.int .i64 a, .int .i64 b, .int .i64 c, .int .i64 d] 24) := ⟨_, rfl⟩
    have hb1 : Below w.heap.size w w1 := by rw [hw1]; exact (Below.refl _ _).alloc (Nat.le_refl _) _
    have HBk : Blk w1 w.heap.size 24 #[.int .i64 a, .int .i64 b, .int .i64 c, .int .i64 d] := by rw [hw1]; exact Blk.fresh w _ _
    have K := Lib.hid (may_any a b c d w1)
    rw [hm'] at K
    have d0 : w1.cell? ⟨w.heap.size, 0, none⟩ = some (.int .i64 a) := HBk.cell 0
    have d1 : w1.cell? ⟨w.heap.size, 1, none⟩ = some (.int .i64 b) := HBk.cell 1
    have d2 : w1.cell? ⟨w.heap.size, 2, none⟩ = some (.int .i64 c) := HBk.cell 2
    have d3 : w1.cell? ⟨w.heap.size, 3, none⟩ = some (.int .i64 d) := HBk.cell 3
    have HW1 := Lib.hid hw1
    have HB1 := Lib.hid hb1
    clear hw1 hb1 HBk hm hm' e
    go_enter Try.func22, Try.ntmps22
    go_upto_region 1 with fail
    rw [← HW1.out]
    clear HW1
    go_wp2_with fail
    refine K.out.mono ?_
    rintro e w2 ⟨rfl, hb2⟩
    have HB2 := Lib.hid (below_go HB1.out hb2 (Nat.le_refl _))
    clear hb2 K d0 d1 d2 d3 HB1
    go_wp2_with fail
    go_ret
    exact ⟨none, 0, rfl, ⟨rfl, fun h => absurd h (Nat.not_lt_zero _)⟩, HB2.out⟩

/-- What the program owes. -/
structure PropCon : Prop where
  parse : ∀ {w A n c} {bs : List UInt8}, n = bs.length → Sl w A n (bv bs) → n ≤ 1000000 → Calls Try.prog 15 #[.slice A n c] w (ParseIs w (parse5 bs))
  may : ∀ (a b c d : Int) (w : World), Calls Try.prog 17 #[.agg #[.int .i64 a, .int .i64 b, .int .i64 c, .int .i64 d]] w fun x w' => x = .returned (.bool (maySet a b c d)) ∧ Below w.heap.size w w'
  probs : ∀ (a b c d : Int) (w : World), Calls Try.prog 18 #[.agg #[.int .i64 a, .int .i64 b, .int .i64 c, .int .i64 d]] w fun x w' => x = .returned (.int .i64 (probsOf a b c d)) ∧ Below w.heap.size w w'
  props : ∀ (a b c d : Int) (w : World), Calls Try.prog 21 #[.agg #[.int .i64 a, .int .i64 b, .int .i64 c, .int .i64 d]] w (PropsIs w (propsB a b c d))

theorem parse5_props {a b c d : Int} (h : maySet a b c d = true) : parse5 (propsB a b c d) = (a, b, c, d, 0) := by
  have e : propsB a b c d = propsOf a.toNat b.toNat c.toNat d.toNat := if_pos h
  rw [e]
  obtain ⟨lc, lp, pb, dict, rfl, rfl, rfl, rfl, h1, h2, h3, h4, h5⟩ := maySet_set h
  have hs : ∀ x : Nat, x < 256 → (UInt8.ofNat x).toNat = x := fun x hx => by simp; omega
  have hp : parseOf (propsOf lc lp pb dict) = some (lc, lp, pb, dict) := by
    unfold propsOf parseOf
    dsimp only
    rw [hs (45 * pb + 9 * lp + lc) (by omega), hs (dict % 256) (by omega), hs (dict / 256 % 256) (by omega), hs (dict / 65536 % 256) (by omega), hs (dict / 16777216) (by omega), if_pos (by omega)]
    rw [show (45 * pb + 9 * lp + lc) % 9 = lc by omega, show (45 * pb + 9 * lp + lc) / 9 % 5 = lp by omega, show (45 * pb + 9 * lp + lc) / 45 = pb by omega, show max 4096 (dict % 256 + 256 * (dict / 256 % 256) + 65536 * (dict / 65536 % 256) + 16777216 * (dict / 16777216)) = dict by omega]
  show parse5 (propsOf lc lp pb dict) = _
  unfold parse5
  rw [hp]

set_option maxRecDepth 100000 in
set_option maxHeartbeats 8000000 in
theorem lzmaProps_walk (C : PropCon) (CA : AwakeCon8) {A : Option Addr} {n c : Nat} {bs : List UInt8} {a b cc d : Int} {w : World} (hS : Sl w A n (bv bs)) (hL : n ≤ maxLen) :
    Calls Try.prog 4 #[.slice A n c, .agg #[.int .i64 a, .int .i64 b, .int .i64 cc, .int .i64 d]] w fun e w' => e = .returned (.bool true) ∧ Below w.heap.size w w' := by
  have hbl : n = bs.length := by rw [← bv_length]; exact hS.1.symm
  unfold maxLen at hL
  obtain ⟨w1, hw1⟩ : ∃ w1, w1 = w.alloc (.cells #[.int .i64 a, .int .i64 b, .int .i64 cc, .int .i64 d] 24) := ⟨_, rfl⟩
  have hb1 : Below w.heap.size w w1 := by rw [hw1]; exact (Below.refl _ _).alloc (Nat.le_refl _) _
  have HBk : Blk w1 w.heap.size 24 #[.int .i64 a, .int .i64 b, .int .i64 cc, .int .i64 d] := by rw [hw1]; exact Blk.fresh w _ _
  have HW1 := Lib.hid hw1
  have HB1 := Lib.hid hb1
  have HBK := Lib.hid HBk
  have HS := Lib.hid hS
  have HN := Lib.hid hbl
  have KA := Lib.hid (CA w1)
  obtain ⟨⟨p1, p2, p3, p4, p5⟩, hp⟩ : ∃ v, v = parse5 bs := ⟨_, rfl⟩
  have KP : ∀ W, Sl W A n (bv bs) → n ≤ 1000000 → Calls Try.prog 15 #[.slice A n c] W fun x w' => x = .returned (.tuple #[.agg #[.int .i64 p1, .int .i64 p2, .int .i64 p3, .int .i64 p4], .int .i64 p5]) ∧ Below W.heap.size W w' := by
    intro W h hle
    have := C.parse (c := c) hbl h hle
    rw [← hp] at this
    exact this
  have KR : ∀ W, Sl W A n (bv bs) → n ≤ 1000000 → Calls Try.prog 16 #[.slice A n c] W fun x w' => x = .returned (.tuple #[.agg #[.int .i64 p1, .int .i64 p2, .int .i64 p3, .int .i64 p4], .int .i64 p5]) ∧ Below W.heap.size W w' := by
    intro W h hle
    have := (zparse_any (c := c) hbl (by rw [← hbl]; exact h) (by omega)).mono (fun x w' h => parse_is h)
    rw [← hp] at this
    exact this
  have HKP := Lib.hid KP
  have HKR := Lib.hid KR
  have HC := Lib.hid C
  clear hw1 hb1 HBk hS hbl KP KR hp
  go_enter Try.func4, Try.ntmps4
  go_upto_region 1 with fail
  rw [← HW1.out]
  clear HW1
  go_wp2_with fail
  refine KA.out.mono ?_
  rintro e w2 ⟨rfl, hb2⟩
  have HE2 := Lib.hid (below_go HB1.out hb2 (Nat.le_refl _))
  have HK2 := Lib.hid (HBK.out.below hb2)
  clear hb2 KA hL HB1
  by_cases hn : (n : Int) > 1000
  · go_wp2_with fail
    go_ret
    exact ⟨rfl, HE2.out⟩
  have HNS := Lib.hid hn
  have K3 := Lib.hid (HKP.out w2 (HS.out.below HE2.out) (by omega))
  go_wp2_with fail
  refine K3.out.mono ?_
  rintro e w3 ⟨rfl, hb3⟩
  have HE3 := Lib.hid (below_go HE2.out hb3 (by have := HE2.out.size; omega))
  have HK3 := Lib.hid (HK2.out.below hb3)
  clear K3 hb3 HK2
  go_upto_region 6 with fail
  obtain ⟨w4, hw4⟩ : ∃ w4, w4 = w3.alloc (.cells #[.int .i64 p1, .int .i64 p2, .int .i64 p3, .int .i64 p4] 24) := ⟨_, rfl⟩
  have hb4 : Below w3.heap.size w3 w4 := by rw [hw4]; exact (Below.refl _ _).alloc (Nat.le_refl _) _
  have HP4 : Hid (Blk w4 w3.heap.size 24 #[.int .i64 p1, .int .i64 p2, .int .i64 p3, .int .i64 p4]) := Lib.hid (by rw [hw4]; exact Blk.fresh w3 _ _)
  rw [← hw4]
  have HE4 := Lib.hid (below_go HE3.out hb4 (by have := HE3.out.size; omega))
  have HK4 := Lib.hid (HK3.out.below hb4)
  obtain ⟨g4, hg4⟩ : ∃ g, g = w3.heap.size := ⟨_, rfl⟩
  rw [← hg4] at HP4
  rw [← hg4]
  clear hb4 HE3 HK3 hw4 hg4
  have K5 := Lib.hid (HKR.out w4 (HS.out.below HE4.out) (by have := HNS.out; omega))
  go_wp2_with fail
  refine K5.out.mono ?_
  rintro e w5 ⟨rfl, hb5⟩
  have HE5 := Lib.hid (below_go HE4.out hb5 (by have := HE4.out.size; omega))
  have HK5 := Lib.hid (HK4.out.below hb5)
  have HP5 := Lib.hid (HP4.out.below hb5)
  clear K5 hb5 HK4 HP4 HE4 HKR
  go_upto_region 7 with fail
  obtain ⟨w6, hw6⟩ : ∃ w6, w6 = w5.alloc (.cells #[.int .i64 p1, .int .i64 p2, .int .i64 p3, .int .i64 p4] 24) := ⟨_, rfl⟩
  have hb6 : Below w5.heap.size w5 w6 := by rw [hw6]; exact (Below.refl _ _).alloc (Nat.le_refl _) _
  have HQ6 : Hid (Blk w6 w5.heap.size 24 #[.int .i64 p1, .int .i64 p2, .int .i64 p3, .int .i64 p4]) := Lib.hid (by rw [hw6]; exact Blk.fresh w5 _ _)
  rw [← hw6]
  have HE6 := Lib.hid (below_go HE5.out hb6 (by have := HE5.out.size; omega))
  have HK6 := Lib.hid (HK5.out.below hb6)
  have HP6 := Lib.hid (HP5.out.below hb6)
  obtain ⟨g6, hg6⟩ : ∃ g, g = w5.heap.size := ⟨_, rfl⟩
  rw [← hg6] at HQ6
  rw [← hg6]
  clear hb6 HE5 HK5 HP5 hw6 hg6
  have q0 : w6.cell? ⟨w.heap.size, 0, none⟩ = some (.int .i64 a) := HK6.out.cell 0
  have q1 : w6.cell? ⟨w.heap.size, 1, none⟩ = some (.int .i64 b) := HK6.out.cell 1
  have q2 : w6.cell? ⟨w.heap.size, 2, none⟩ = some (.int .i64 cc) := HK6.out.cell 2
  have q3 : w6.cell? ⟨w.heap.size, 3, none⟩ = some (.int .i64 d) := HK6.out.cell 3
  have x0 : w6.cell? ⟨g4, 0, none⟩ = some (.int .i64 p1) := HP6.out.cell 0
  have x1 : w6.cell? ⟨g4, 1, none⟩ = some (.int .i64 p2) := HP6.out.cell 1
  have x2 : w6.cell? ⟨g4, 2, none⟩ = some (.int .i64 p3) := HP6.out.cell 2
  have x3 : w6.cell? ⟨g4, 3, none⟩ = some (.int .i64 p4) := HP6.out.cell 3
  have y0 : w6.cell? ⟨g6, 0, none⟩ = some (.int .i64 p1) := HQ6.out.cell 0
  have y1 : w6.cell? ⟨g6, 1, none⟩ = some (.int .i64 p2) := HQ6.out.cell 1
  have y2 : w6.cell? ⟨g6, 2, none⟩ = some (.int .i64 p3) := HQ6.out.cell 2
  have y3 : w6.cell? ⟨g6, 3, none⟩ = some (.int .i64 p4) := HQ6.out.cell 3
  have HSA : Hid (∀ w', Below w6.heap.size w6 w' → w'.cell? ⟨w.heap.size, 0, none⟩ = some (.int .i64 a) ∧ w'.cell? ⟨w.heap.size, 1, none⟩ = some (.int .i64 b) ∧ w'.cell? ⟨w.heap.size, 2, none⟩ = some (.int .i64 cc) ∧ w'.cell? ⟨w.heap.size, 3, none⟩ = some (.int .i64 d) ∧ w'.cell? ⟨g4, 0, none⟩ = some (.int .i64 p1) ∧ w'.cell? ⟨g4, 1, none⟩ = some (.int .i64 p2) ∧ w'.cell? ⟨g4, 2, none⟩ = some (.int .i64 p3) ∧ w'.cell? ⟨g4, 3, none⟩ = some (.int .i64 p4) ∧ w'.cell? ⟨g6, 0, none⟩ = some (.int .i64 p1) ∧ w'.cell? ⟨g6, 1, none⟩ = some (.int .i64 p2) ∧ w'.cell? ⟨g6, 2, none⟩ = some (.int .i64 p3) ∧ w'.cell? ⟨g6, 3, none⟩ = some (.int .i64 p4)) := Lib.hid (fun w' h => ⟨(HK6.out.below h).cell 0, (HK6.out.below h).cell 1, (HK6.out.below h).cell 2, (HK6.out.below h).cell 3, (HP6.out.below h).cell 0, (HP6.out.below h).cell 1, (HP6.out.below h).cell 2, (HP6.out.below h).cell 3, (HQ6.out.below h).cell 0, (HQ6.out.below h).cell 1, (HQ6.out.below h).cell 2, (HQ6.out.below h).cell 3⟩)
  obtain ⟨ys, hys⟩ : ∃ ys, ys = propsB a b cc d := ⟨_, rfl⟩
  obtain ⟨ny, hny⟩ : ∃ ny, ny = ys.length := ⟨_, rfl⟩
  have HNY := Lib.hid (show ny ≤ 5 by rw [hny, hys]; exact propsB_len _ _ _ _)
  have HPP : Hid (∀ W, Calls Try.prog 21 #[.agg #[.int .i64 a, .int .i64 b, .int .i64 cc, .int .i64 d]] W fun x w' => ∃ A c, x = .returned (.slice A ny c) ∧ Sl w' A ny (bv ys) ∧ Below W.heap.size W w') := Lib.hid (by
    intro W
    have := HC.out.props a b cc d W
    unfold PropsIs at this
    rw [← hys, ← hny] at this
    exact this)
  have HPZ : Hid (∀ W, Calls Try.prog 22 #[.agg #[.int .i64 a, .int .i64 b, .int .i64 cc, .int .i64 d]] W fun x w' => ∃ A c, x = .returned (.slice A ny c) ∧ Sl w' A ny (bv ys) ∧ Below W.heap.size W w') := Lib.hid (by
    intro W
    have := zprops_all a b cc d W
    unfold PropsIs at this
    rw [← hys, ← hny] at this
    exact this)
  have HYS := Lib.hid (And.intro hys hny)
  clear hys hny q0 q1 q2 q3 x0 x1 x2 x3 y0 y1 y2 y3 HBK HKP
  refine wp_region_held_drew (S := fun w' => w'.cell? ⟨w.heap.size, 0, none⟩ = some (.int .i64 a) ∧ w'.cell? ⟨w.heap.size, 1, none⟩ = some (.int .i64 b) ∧ w'.cell? ⟨w.heap.size, 2, none⟩ = some (.int .i64 cc) ∧ w'.cell? ⟨w.heap.size, 3, none⟩ = some (.int .i64 d) ∧ w'.cell? ⟨g4, 0, none⟩ = some (.int .i64 p1) ∧ w'.cell? ⟨g4, 1, none⟩ = some (.int .i64 p2) ∧ w'.cell? ⟨g4, 2, none⟩ = some (.int .i64 p3) ∧ w'.cell? ⟨g4, 3, none⟩ = some (.int .i64 p4) ∧ w'.cell? ⟨g6, 0, none⟩ = some (.int .i64 p1) ∧ w'.cell? ⟨g6, 1, none⟩ = some (.int .i64 p2) ∧ w'.cell? ⟨g6, 2, none⟩ = some (.int .i64 p3) ∧ w'.cell? ⟨g6, 3, none⟩ = some (.int .i64 p4)) (by kernel_rfl) (HSA.out _ (below_drewN (Below.refl _ _) _)) (fun hHeld => ?_)
  refine wpAnyH_take (i := 0) (v := ?_) rfl (by kernel_rfl) (by kernel_rfl) (by kernel_rfl) (fun _ _ _ h => h) (Or.inl ⟨by rfl, ?_⟩) (by assumption) ?_
  rotate_left
  · (intro w hSw; (try dsimp only at hSw); go_simp; try with_reducible rfl)
  try simp only [Act.put, List.setIfInBounds_toArray, List.set_cons_zero, List.set_cons_succ, List.getElem_toArray, List.getElem_cons_zero, List.getElem_cons_succ]
  refine wpAnyH_take (i := 1) (v := ?_) rfl (by kernel_rfl) (by kernel_rfl) (by kernel_rfl) (fun _ _ _ h => h) (Or.inl ⟨by rfl, ?_⟩) (by assumption) ?_
  rotate_left
  · (intro w hSw; (try dsimp only at hSw); go_simp; try with_reducible rfl)
  try simp only [Act.put, List.setIfInBounds_toArray, List.set_cons_zero, List.set_cons_succ, List.getElem_toArray, List.getElem_cons_zero, List.getElem_cons_succ]
  refine wpAnyH_take (i := 2) (v := ?_) rfl (by kernel_rfl) (by kernel_rfl) (by kernel_rfl) (fun _ _ _ h => h) (Or.inl ⟨by rfl, ?_⟩) (by assumption) ?_
  rotate_left
  · (intro w hSw; (try dsimp only at hSw); go_simp; try with_reducible rfl)
  try simp only [Act.put, List.setIfInBounds_toArray, List.set_cons_zero, List.set_cons_succ, List.getElem_toArray, List.getElem_cons_zero, List.getElem_cons_succ]
  refine wpAnyH_take (i := 3) (v := ?_) rfl (by kernel_rfl) (by kernel_rfl) (by kernel_rfl) (fun _ _ _ h => h) (Or.inl ⟨by rfl, ?_⟩) (by assumption) ?_
  rotate_left
  · (intro w hSw; (try dsimp only at hSw); go_simp; try with_reducible rfl)
  try simp only [Act.put, List.setIfInBounds_toArray, List.set_cons_zero, List.set_cons_succ, List.getElem_toArray, List.getElem_cons_zero, List.getElem_cons_succ]
  refine wpAnyH_take (i := 4) (v := ?_) rfl (by kernel_rfl) (by kernel_rfl) (by kernel_rfl) (fun _ _ _ h => h) (Or.inl ⟨by rfl, ?_⟩) (by assumption) ?_
  rotate_left
  · (intro w hSw; (try dsimp only at hSw); go_simp; try with_reducible rfl)
  try simp only [Act.put, List.setIfInBounds_toArray, List.set_cons_zero, List.set_cons_succ, List.getElem_toArray, List.getElem_cons_zero, List.getElem_cons_succ]
  refine wpAnyH_take (i := 5) (v := ?_) rfl (by kernel_rfl) (by kernel_rfl) (by kernel_rfl) (fun _ _ _ h => h) (Or.inl ⟨by rfl, ?_⟩) (by assumption) ?_
  rotate_left
  · (intro w hSw; (try dsimp only at hSw); go_simp; try with_reducible rfl)
  try simp only [Act.put, List.setIfInBounds_toArray, List.set_cons_zero, List.set_cons_succ, List.getElem_toArray, List.getElem_cons_zero, List.getElem_cons_succ]
  refine wpAnyH_take (i := 6) (v := ?_) rfl (by kernel_rfl) (by kernel_rfl) (by kernel_rfl) (fun _ _ _ h => h) (Or.inl ⟨by rfl, ?_⟩) (by assumption) ?_
  rotate_left
  · (intro w hSw; (try dsimp only at hSw); go_simp; try with_reducible rfl)
  try simp only [Act.put, List.setIfInBounds_toArray, List.set_cons_zero, List.set_cons_succ, List.getElem_toArray, List.getElem_cons_zero, List.getElem_cons_succ]
  refine wpAnyH_take (i := 7) (v := ?_) rfl (by kernel_rfl) (by kernel_rfl) (by kernel_rfl) (fun _ _ _ h => h) (Or.inl ⟨by rfl, ?_⟩) (by assumption) ?_
  rotate_left
  · (intro w hSw; (try dsimp only at hSw); go_simp; try with_reducible rfl)
  try simp only [Act.put, List.setIfInBounds_toArray, List.set_cons_zero, List.set_cons_succ, List.getElem_toArray, List.getElem_cons_zero, List.getElem_cons_succ]
  refine wpAnyH_take (i := 8) (v := ?_) rfl (by kernel_rfl) (by kernel_rfl) (by kernel_rfl) (fun _ _ _ h => h) (Or.inl ⟨by rfl, ?_⟩) (by assumption) ?_
  rotate_left
  · (intro w hSw; (try dsimp only at hSw); go_simp; try with_reducible rfl)
  try simp only [Act.put, List.setIfInBounds_toArray, List.set_cons_zero, List.set_cons_succ, List.getElem_toArray, List.getElem_cons_zero, List.getElem_cons_succ]
  refine wpAnyH_take (i := 9) (v := ?_) rfl (by kernel_rfl) (by kernel_rfl) (by kernel_rfl) (fun _ _ _ h => h) (Or.inl ⟨by rfl, ?_⟩) (by assumption) ?_
  rotate_left
  · (intro w hSw; (try dsimp only at hSw); go_simp; try with_reducible rfl)
  try simp only [Act.put, List.setIfInBounds_toArray, List.set_cons_zero, List.set_cons_succ, List.getElem_toArray, List.getElem_cons_zero, List.getElem_cons_succ]
  refine wpAnyH_take (i := 11) (v := ?_) rfl (by kernel_rfl) (by kernel_rfl) (by kernel_rfl) (fun _ _ _ h => h) (Or.inl ⟨by rfl, ?_⟩) (by assumption) ?_
  rotate_left
  · (intro w hSw; (try dsimp only at hSw); go_simp; try with_reducible rfl)
  try simp only [Act.put, List.setIfInBounds_toArray, List.set_cons_zero, List.set_cons_succ, List.getElem_toArray, List.getElem_cons_zero, List.getElem_cons_succ]
  refine wpAnyH_ready (rs := [10]) (by kernel_rfl) (by simp) (AllReadyH.cons (i := 10) rfl (fun K hK => ?_) AllReadyH.nil)
  try simp only [List.getElem_toArray, List.getElem_cons_zero, List.getElem_cons_succ]
  go_simp
  refine (HC.out.may a b cc d _).mono ?_
  rintro e w7 ⟨rfl, hb7⟩
  have HF7 := Lib.hid (below_go (B := w6.heap.size) (w0 := w6) (below_drewN (Below.refl _ _) _) hb7 (Nat.le_refl _))
  clear hb7
  refine hK.out _ _ (HSA.out _ HF7.out) (fun hHeld => ?_)
  clear hK K
  try simp only [Act.put, List.setIfInBounds_toArray, List.set_cons_zero, List.set_cons_succ]
  refine wpAnyH_ready (rs := [12]) (by kernel_rfl) (by simp) (AllReadyH.cons (i := 12) rfl (fun K hK => ?_) AllReadyH.nil)
  try simp only [List.getElem_toArray, List.getElem_cons_zero, List.getElem_cons_succ]
  go_simp
  refine (may_any a b cc d _).mono ?_
  rintro e w8 ⟨rfl, hb8⟩
  have HF8 := Lib.hid (below_go (B := w6.heap.size) (w0 := w6) HF7.out hb8 (Nat.le_refl _))
  clear hb8
  refine hK.out _ _ (HSA.out _ HF8.out) (fun hHeld => ?_)
  clear hK K
  try simp only [Act.put, List.setIfInBounds_toArray, List.set_cons_zero, List.set_cons_succ]
  refine wpAnyH_take (i := 13) (v := ?_) rfl (by kernel_rfl) (by kernel_rfl) (by kernel_rfl) (fun _ _ _ h => h) (Or.inl ⟨by rfl, ?_⟩) (by assumption) ?_
  rotate_left
  · (intro w hSw; (try dsimp only at hSw); go_simp; try with_reducible rfl)
  try simp only [Act.put, List.setIfInBounds_toArray, List.set_cons_zero, List.set_cons_succ, List.getElem_toArray, List.getElem_cons_zero, List.getElem_cons_succ]
  refine wpAnyH_take (i := 14) (v := ?_) rfl (by kernel_rfl) (by kernel_rfl) (by kernel_rfl) (fun _ _ _ h => h) (Or.inl ⟨by rfl, ?_⟩) (by assumption) ?_
  rotate_left
  · (intro w hSw; (try dsimp only at hSw); go_simp; try with_reducible rfl)
  try simp only [Act.put, List.setIfInBounds_toArray, List.set_cons_zero, List.set_cons_succ, List.getElem_toArray, List.getElem_cons_zero, List.getElem_cons_succ]
  refine wpAnyH_take (i := 15) (v := ?_) rfl (by kernel_rfl) (by kernel_rfl) (by kernel_rfl) (fun _ _ _ h => h) (Or.inl ⟨by rfl, ?_⟩) (by assumption) ?_
  rotate_left
  · (intro w hSw; (try dsimp only at hSw); go_simp; try with_reducible rfl)
  try simp only [Act.put, List.setIfInBounds_toArray, List.set_cons_zero, List.set_cons_succ, List.getElem_toArray, List.getElem_cons_zero, List.getElem_cons_succ]
  refine wpAnyH_take (i := 16) (v := ?_) rfl (by kernel_rfl) (by kernel_rfl) (by kernel_rfl) (fun _ _ _ h => h) (Or.inl ⟨by rfl, ?_⟩) (by assumption) ?_
  rotate_left
  · (intro w hSw; (try dsimp only at hSw); go_simp; try with_reducible rfl)
  try simp only [Act.put, List.setIfInBounds_toArray, List.set_cons_zero, List.set_cons_succ, List.getElem_toArray, List.getElem_cons_zero, List.getElem_cons_succ]
  refine wpAnyH_take (i := 18) (v := ?_) rfl (by kernel_rfl) (by kernel_rfl) (by kernel_rfl) (fun _ _ _ h => h) (Or.inl ⟨by rfl, ?_⟩) (by assumption) ?_
  rotate_left
  · (intro w hSw; (try dsimp only at hSw); go_simp; try with_reducible rfl)
  try simp only [Act.put, List.setIfInBounds_toArray, List.set_cons_zero, List.set_cons_succ, List.getElem_toArray, List.getElem_cons_zero, List.getElem_cons_succ]
  refine wpAnyH_ready (rs := [17]) (by kernel_rfl) (by simp) (AllReadyH.cons (i := 17) rfl (fun K hK => ?_) AllReadyH.nil)
  try simp only [List.getElem_toArray, List.getElem_cons_zero, List.getElem_cons_succ]
  go_simp
  refine (HC.out.probs a b cc d _).mono ?_
  rintro e w9 ⟨rfl, hb9⟩
  have HF9 := Lib.hid (below_go (B := w6.heap.size) (w0 := w6) HF8.out hb9 (Nat.le_refl _))
  clear hb9
  refine hK.out _ _ (HSA.out _ HF9.out) (fun hHeld => ?_)
  clear hK K
  try simp only [Act.put, List.setIfInBounds_toArray, List.set_cons_zero, List.set_cons_succ]
  refine wpAnyH_ready (rs := [19]) (by kernel_rfl) (by simp) (AllReadyH.cons (i := 19) rfl (fun K hK => ?_) AllReadyH.nil)
  try simp only [List.getElem_toArray, List.getElem_cons_zero, List.getElem_cons_succ]
  go_simp
  refine (probs_any a b cc d _).mono ?_
  rintro e w10 ⟨rfl, hb10⟩
  have HF10 := Lib.hid (below_go (B := w6.heap.size) (w0 := w6) HF9.out hb10 (Nat.le_refl _))
  clear hb10
  refine hK.out _ _ (HSA.out _ HF10.out) (fun hHeld => ?_)
  clear hK K
  try simp only [Act.put, List.setIfInBounds_toArray, List.set_cons_zero, List.set_cons_succ]
  refine wpAnyH_take (i := 20) (v := ?_) rfl (by kernel_rfl) (by kernel_rfl) (by kernel_rfl) (fun _ _ _ h => h) (Or.inl ⟨by rfl, ?_⟩) (by assumption) ?_
  rotate_left
  · (intro w hSw; (try dsimp only at hSw); go_simp; try with_reducible rfl)
  try simp only [Act.put, List.setIfInBounds_toArray, List.set_cons_zero, List.set_cons_succ, List.getElem_toArray, List.getElem_cons_zero, List.getElem_cons_succ]
  refine wpAnyH_take (i := 21) (v := ?_) rfl (by kernel_rfl) (by kernel_rfl) (by kernel_rfl) (fun _ _ _ h => h) (Or.inl ⟨by rfl, ?_⟩) (by assumption) ?_
  rotate_left
  · (intro w hSw; (try dsimp only at hSw); go_simp; try with_reducible rfl)
  try simp only [Act.put, List.setIfInBounds_toArray, List.set_cons_zero, List.set_cons_succ, List.getElem_toArray, List.getElem_cons_zero, List.getElem_cons_succ]
  refine wpAnyH_take (i := 22) (v := ?_) rfl (by kernel_rfl) (by kernel_rfl) (by kernel_rfl) (fun _ _ _ h => h) (Or.inl ⟨by rfl, ?_⟩) (by assumption) ?_
  rotate_left
  · (intro w hSw; (try dsimp only at hSw); go_simp; try with_reducible rfl)
  try simp only [Act.put, List.setIfInBounds_toArray, List.set_cons_zero, List.set_cons_succ, List.getElem_toArray, List.getElem_cons_zero, List.getElem_cons_succ]
  refine wpAnyH_take (i := 23) (v := ?_) rfl (by kernel_rfl) (by kernel_rfl) (by kernel_rfl) (fun _ _ _ h => h) (Or.inl ⟨by rfl, ?_⟩) (by assumption) ?_
  rotate_left
  · (intro w hSw; (try dsimp only at hSw); go_simp; try with_reducible rfl)
  try simp only [Act.put, List.setIfInBounds_toArray, List.set_cons_zero, List.set_cons_succ, List.getElem_toArray, List.getElem_cons_zero, List.getElem_cons_succ]
  refine wpAnyH_take (i := 25) (v := ?_) rfl (by kernel_rfl) (by kernel_rfl) (by kernel_rfl) (fun _ _ _ h => h) (Or.inl ⟨by rfl, ?_⟩) (by assumption) ?_
  rotate_left
  · (intro w hSw; (try dsimp only at hSw); go_simp; try with_reducible rfl)
  try simp only [Act.put, List.setIfInBounds_toArray, List.set_cons_zero, List.set_cons_succ, List.getElem_toArray, List.getElem_cons_zero, List.getElem_cons_succ]
  refine wpAnyH_ready (rs := [24]) (by kernel_rfl) (by simp) (AllReadyH.cons (i := 24) rfl (fun K hK => ?_) AllReadyH.nil)
  try simp only [List.getElem_toArray, List.getElem_cons_zero, List.getElem_cons_succ]
  go_simp
  refine (HPP.out _).mono ?_
  rintro e w11 ⟨A1, c1, rfl, hs1, hb11⟩
  have HF11 := Lib.hid (below_go (B := w6.heap.size) (w0 := w6) HF10.out hb11 (Nat.le_refl _))
  have HT1 := Lib.hid hs1
  clear hs1
  clear hb11
  refine hK.out _ _ (HSA.out _ HF11.out) (fun hHeld => ?_)
  clear hK K
  try simp only [Act.put, List.setIfInBounds_toArray, List.set_cons_zero, List.set_cons_succ]
  refine wpAnyH_ready (rs := [26]) (by kernel_rfl) (by simp) (AllReadyH.cons (i := 26) rfl (fun K hK => ?_) AllReadyH.nil)
  try simp only [List.getElem_toArray, List.getElem_cons_zero, List.getElem_cons_succ]
  go_simp
  refine (HPZ.out _).mono ?_
  rintro e w12 ⟨A2, c2, rfl, hs2, hb12⟩
  have HF12 := Lib.hid (below_go (B := w6.heap.size) (w0 := w6) HF11.out hb12 (Nat.le_refl _))
  have HT2 := Lib.hid hs2
  have HT1' := Lib.hid (HT1.out.below hb12)
  clear hs2
  clear hb12
  refine hK.out _ _ (HSA.out _ HF12.out) (fun hHeld => ?_)
  clear hK K
  try simp only [Act.put, List.setIfInBounds_toArray, List.set_cons_zero, List.set_cons_succ]
  refine wpAnyH_ready (rs := [27]) (by kernel_rfl) (by simp) (AllReadyH.cons (i := 27) rfl (fun K hK => ?_) AllReadyH.nil)
  try simp only [List.getElem_toArray, List.getElem_cons_zero, List.getElem_cons_succ]
  go_simp
  refine (bytesSame_any HT1'.out HT2.out (by have := HNY.out; omega)).mono ?_
  rintro e w13 ⟨rfl, k13, rfl⟩
  refine hK.out _ _ (HSA.out _ (below_drewN HF12.out _)) (fun hHeld => ?_)
  clear hK K
  try simp only [Act.put, List.setIfInBounds_toArray, List.set_cons_zero, List.set_cons_succ]
  refine wpAnyH_take (i := 28) (v := ?_) rfl (by kernel_rfl) (by kernel_rfl) (by kernel_rfl) (fun _ _ _ h => h) (Or.inl ⟨by rfl, ?_⟩) (by assumption) ?_
  rotate_left
  · (intro w hSw; (try dsimp only at hSw); go_simp; try with_reducible rfl)
  try simp only [Act.put, List.setIfInBounds_toArray, List.set_cons_zero, List.set_cons_succ, List.getElem_toArray, List.getElem_cons_zero, List.getElem_cons_succ]
  refine wpAnyH_take (i := 29) (v := ?_) rfl (by kernel_rfl) (by kernel_rfl) (by kernel_rfl) (fun _ _ _ h => h) (Or.inl ⟨by rfl, ?_⟩) (by assumption) ?_
  rotate_left
  · (intro w hSw; (try dsimp only at hSw); go_simp; try with_reducible rfl)
  try simp only [Act.put, List.setIfInBounds_toArray, List.set_cons_zero, List.set_cons_succ, List.getElem_toArray, List.getElem_cons_zero, List.getElem_cons_succ]
  refine wpAnyH_done (by kernel_rfl) ?_ _
  have HSS := Lib.hid (HSA.out _ (below_drewN HF12.out k13))
  obtain ⟨ms, hms⟩ : ∃ ms, ms = maySet a b cc d := ⟨_, rfl⟩
  have K14 : Hid (∀ W, Calls Try.prog 8 #[.agg #[.int .i64 a, .int .i64 b, .int .i64 cc, .int .i64 d]] W fun x w' => x = .returned (.bool ms) ∧ Below W.heap.size W w') := Lib.hid (by rw [hms]; exact may_any a b cc d)
  have HMS := Lib.hid hms
  have HF13 := Lib.hid (below_drewN HF12.out k13)
  clear hms
  cases ms with
  | false =>
    go_wp2_with fail
    refine (K14.out _).mono ?_
    rintro e w14 ⟨rfl, hb14⟩
    have HF14 := Lib.hid (below_go HF13.out hb14 (Nat.le_refl _))
    clear hb14
    go_wp2_with fail
    go_ret
    exact ⟨rfl, below_go HE6.out HF14.out (Nat.le_refl _)⟩
  | true =>
    go_wp2_with fail
    refine (K14.out _).mono ?_
    rintro e w14 ⟨rfl, hb14⟩
    have HF14 := Lib.hid (below_go HF13.out hb14 (Nat.le_refl _))
    clear hb14
    obtain ⟨q0, q1, q2, q3, _⟩ := HSA.out _ HF14.out
    go_wp2_with fail
    refine (HPP.out _).mono ?_
    rintro e w15 ⟨A3, c3, rfl, hs3, hb15⟩
    have HF15 := Lib.hid (below_go HF14.out hb15 (Nat.le_refl _))
    have K16 : Hid (Calls Try.prog 15 #[.slice A3 ny c3] w15 fun x w' => x = .returned (.tuple #[.agg #[.int .i64 a, .int .i64 b, .int .i64 cc, .int .i64 d], .int .i64 0]) ∧ Below w15.heap.size w15 w') := Lib.hid (by
      have := HC.out.parse (c := c3) HYS.out.2 hs3 (by have := HNY.out; omega)
      rw [HYS.out.1, parse5_props HMS.out.symm] at this
      exact this)
    clear hb15 hs3
    go_wp2_with fail
    refine K16.out.mono ?_
    rintro e w16 ⟨rfl, hb16⟩
    have HF16 := Lib.hid (below_go HF15.out hb16 (Nat.le_refl _))
    clear hb16 K16 q0 q1 q2 q3
    go_upto_region 12 with fail
    obtain ⟨w17, hw17⟩ : ∃ w17, w17 = w16.alloc (.cells #[.int .i64 a, .int .i64 b, .int .i64 cc, .int .i64 d] 24) := ⟨_, rfl⟩
    have hb17 : Below w16.heap.size w16 w17 := by rw [hw17]; exact (Below.refl _ _).alloc (Nat.le_refl _) _
    have HZ : Hid (Blk w17 w16.heap.size 24 #[.int .i64 a, .int .i64 b, .int .i64 cc, .int .i64 d]) := Lib.hid (by rw [hw17]; exact Blk.fresh w16 _ _)
    rw [← hw17]
    have HF17 := Lib.hid (below_go HF16.out hb17 (Nat.le_refl _))
    clear hb17 hw17
    obtain ⟨q0, q1, q2, q3, _⟩ := HSA.out _ HF17.out
    have z0 : w17.cell? ⟨w16.heap.size, 0, none⟩ = some (.int .i64 a) := HZ.out.cell 0
    have z1 : w17.cell? ⟨w16.heap.size, 1, none⟩ = some (.int .i64 b) := HZ.out.cell 1
    have z2 : w17.cell? ⟨w16.heap.size, 2, none⟩ = some (.int .i64 cc) := HZ.out.cell 2
    have z3 : w17.cell? ⟨w16.heap.size, 3, none⟩ = some (.int .i64 d) := HZ.out.cell 3
    go_wp2_with fail
    go_ret
    exact ⟨rfl, below_go HE6.out HF17.out (Nat.le_refl _)⟩
end Go.Proofs.Ytjgdjobhhdhfjaa
