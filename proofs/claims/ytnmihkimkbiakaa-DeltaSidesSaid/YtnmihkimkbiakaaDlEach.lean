/-
  Each byte by a method: all bytes, in new memory.
-/
import Derived.Test.YtnmihkimkbiakaaDlRing
import Derived.Test.YtnmihkimkbiakaaInfo
import Derived.Laws.MakeOwn
namespace Go.Proofs.Ytnmihkimkbiakaa
set_option linter.unusedVariables false
set_option linter.unusedSimpArgs false
open Go.RowKit

theorem made_arr (n : Nat) : madeCells #[Value.int .u8 0] n = (bv (List.replicate n 0)).toArray := by
  apply Array.toList_inj.1
  rw [toList_madeCells_one]
  simp [bv]
theorem arr_set (l : List UInt8) (i : Nat) (x : UInt8) : (bv l).toArray.setIfInBounds i (.int .u8 (x.toNat : Int)) = (bv (l.set i x)).toArray := by
  apply Array.toList_inj.1
  simp [bv, List.map_set]
theorem arr_at (l : List UInt8) (i : Nat) (h : i < l.length) : (bv l).toArray[i]? = some (.int .u8 ((l.getD i 0).toNat : Int)) := by
  rw [List.getElem?_toArray]
  exact bv_get l i h

/-- what a method owes to all that is told by it -/
structure Becomes (f : Nat) (rp : Addr) (b out : List UInt8) (J : Nat → World → Prop) : Prop where
  step : ∀ k W, k < b.length → J k W → Calls Try.prog f #[.pointer (some rp), .int .u8 ((b.getD k 0).toNat : Int)] W fun e W' => e = .returned (.int .u8 ((out.getD k 0).toNat : Int)) ∧ J (k + 1) W' ∧ Only (fun i => i = rp.block) W W'
  keep : ∀ k W W' S, J k W → Only S W W' → ¬ S rp.block → J k W'
  lt : ∀ k W, J k W → rp.block < W.heap.size
  len : out.length = b.length
  ent : ∀ args W, (callFunc f args).run Try.prog W = .ok (.enter f args) W

def EachPost (rp : Addr) (w : World) (n : Nat) (out : List UInt8) (J : Nat → World → Prop) (e : Ending) (w' : World) : Prop :=
  ∃ q, e = .returned (.slice (some ⟨q, 0, none⟩) n n) ∧ Sl w' (some ⟨q, 0, none⟩) n (bv out) ∧ w.heap.size ≤ q ∧ J n w' ∧ Only (fun i => i = rp.block) w w'

set_option maxRecDepth 100000 in
set_option maxHeartbeats 4000000 in
theorem deach_any {f : Nat} {rp : Addr} {b out : List UInt8} {J : Nat → World → Prop} (hM : Becomes f rp b out J) {A : Option Addr} {n c : Nat} {w : World} (hS : Sl w A n (bv b)) (hn : n ≤ 1000000000) (hJ : J 0 w) (hA : 0 < n → ∀ p o, A = some ⟨p, o, none⟩ → p ≠ rp.block) :
    Calls Try.prog 20 #[.slice A n c, .func (.func f) #[.pointer (some rp)] #[]] w (EachPost rp w n out J) := by
  obtain ⟨i, hi, hz0, hz1, hz2⟩ := info_parts info_u8
  have hbl : b.length = n := by rw [← bv_length]; exact hS.1
  have hmk := run_make (P := Try.prog) w 22 5 i (.int .u8 0) Try.underlying22 hi hz0 .i64 .i64 (n : Int) (n : Int) (by omega) (Int.le_refl _) (by rw [hz2]; omega) (by omega)
  rw [hz1, Nat.mul_one, Int.toNat_natCast, show (Value.int .u8 0).cells = #[Value.int .u8 0] from rfl, made_arr] at hmk
  have HM := Lib.hid hM
  have HA := Lib.hid hA
  have HN := Lib.hid (And.intro hn hbl)
  have hb0 : Below w.heap.size w (w.alloc (.cells (bv (List.replicate n 0)).toArray 5)) := (Below.refl _ w).alloc (Nat.le_refl _) _
  have HS := Lib.hid hS
  have HJ1 := Lib.hid (hM.keep 0 _ _ (fun _ => False) hJ (Only.of_below hb0) (fun h => h))
  have hB1 : Blk (w.alloc (.cells (bv (List.replicate n 0)).toArray 5)) w.heap.size 5 (bv (List.replicate n 0)).toArray := Blk.fresh w _ _
  have HO1 := Lib.hid (show Only (fun i => i = rp.block) w (w.alloc (.cells (bv (List.replicate n 0)).toArray 5)) from Only.of_below hb0)
  have hlt := hM.lt 0 w hJ
  have HLT := Lib.hid (show w.heap.size ≠ rp.block by omega)
  have HQW := Lib.hid (show 0 < n → ∀ p o, A = some ⟨p, o, none⟩ → p < w.heap.size from fun h0 p o e => by
    obtain ⟨b', o', e', h1, _⟩ := hS.2 h0
    rw [e] at e'
    injection e' with e'
    injection e' with e1 e2
    omega)
  have hent := hM.ent
  clear hM hA hS hJ hn hbl hb0 hlt
  go_enter Try.func20, Try.ntmps20
  go_upto_region 2 with fail
  generalize w.alloc (.cells (bv (List.replicate n 0)).toArray 5) = w1 at *
  obtain ⟨q, hq⟩ : ∃ q, q = w.heap.size := ⟨_, rfl⟩
  have HQ := Lib.hid (show w.heap.size ≤ q by omega)
  rw [← hq] at hB1 HLT
  simp only [← hq]
  clear hq
  have HB1 := Lib.hid hB1
  clear hB1 hmk
  go_wp2_with fail
  go_loopw [13] (fun v wr => ∃ (j : Nat) (xs : List UInt8), j ≤ n ∧ v = .int .i64 (j : Int) ∧ xs.length = n ∧ Blk wr q 5 (bv xs).toArray ∧ (∀ k, k < j → xs.getD k 0 = out.getD k 0) ∧ J j wr ∧ Only (fun i => i = rp.block) w wr) (fun v _ => n - (intOf v).toNat)
  case atStart => exact ⟨0, _, Nat.zero_le _, rfl, List.length_replicate, HB1.out, fun k hk => absurd hk (Nat.not_lt_zero k), HJ1.out, HO1.out⟩
  case round =>
    clear HB1 HJ1 HO1
    obtain ⟨j, xs, hj, rfl, hxl, hB, hxs, hJ, hO⟩ := hrel
    have HX := Lib.hid (And.intro hxl hxs)
    have HB := Lib.hid hB
    have HJ := Lib.hid hJ
    have HO := Lib.hid hO
    by_cases hlt : j < n
    · have hS := HS.out.only hO (fun h0 p o e h => HA.out h0 p o e h)
      obtain ⟨ba, oa, rfl, hba, hca⟩ := hS.2 (by omega)
      have k1 : wr.cell? ⟨ba, oa + j, none⟩ = some (.int .u8 ((b.getD j 0).toNat : Int)) := by rw [hca j hlt, bv_get b _ (by have := HN.out; omega)]
      have K := Lib.hid (HM.out.step j wr (by have := HN.out; omega) hJ)
      have i0 : (0 : Int) ≤ (j : Int) := by omega
      have i1 : (j : Int) < (n : Int) := by omega
      have e1 : IntKind.i64.wrap ((j : Int) + 1) = (j : Int) + 1 := IntWalk.i64_in _ (by have := HN.out; omega)
      have HLT2 := Lib.hid hlt
      generalize b.getD j 0 = y at *
      clear hca hba hS hB hJ hO hxl hxs hj hlt HJ
      go_wp2_with fail
      refine K.out.mono ?_
      rintro e w2 ⟨rfl, hJ2, hO2⟩
      have hB2 := HB.out.only hO2 HLT.out
      have c2 : w2.cell? ⟨q, j, none⟩ = some (.int .u8 ((xs.getD j 0).toNat : Int)) := (hB2.cell _).trans (arr_at _ _ (by have := HX.out.1; have := HLT2.out; omega))
      have f2 : w2.frozen? ⟨q, j, none⟩ = false := hB2.free _
      have hO3 : Only (fun i => i = q) w2 (w2.setCell ⟨q, j, none⟩ (.int .u8 ((out.getD j 0).toNat : Int))) := (Only.refl (fun i => i = q) w2).setCell (.inl rfl) _
      have HJ3 := Lib.hid (HM.out.keep (j + 1) _ _ _ hJ2 hO3 (fun h => HLT.out h.symm))
      have HB3 := Lib.hid (show Blk (w2.setCell ⟨q, j, none⟩ (.int .u8 ((out.getD j 0).toNat : Int))) q 5 (bv (xs.set j (out.getD j 0))).toArray by
        have := hB2.put j (.int .u8 ((out.getD j 0).toNat : Int))
        rwa [arr_set] at this)
      have HO3 := Lib.hid (show Only (fun i => i = rp.block) w (w2.setCell ⟨q, j, none⟩ (.int .u8 ((out.getD j 0).toNat : Int))) from (HO.out.trans hO2).setCell (.inr HQ.out) _)
      have hset : ∀ k, k < j + 1 → (xs.set j (out.getD j 0)).getD k 0 = out.getD k 0 := fun k hk => by
        rw [List.getD_eq_getElem?_getD, List.getElem?_set]
        by_cases e : j = k
        · subst e
          rw [if_pos rfl, if_pos (by have := HX.out.1; have := HLT2.out; omega)]
          rfl
        · rw [if_neg e, ← List.getD_eq_getElem?_getD]
          exact HX.out.2 k (by omega)
      have HSET := Lib.hid hset
      clear hB2 hJ2 hO2 hO3 hset HB HO K k1
      generalize out.getD j 0 = z at *
      go_wp2_with fail
      go_roundw
      case rel => exact ⟨j + 1, xs.set j z, by have := HLT2.out; omega, by go_num, by rw [List.length_set]; exact HX.out.1, HB3.out, HSET.out, HJ3.out, HO3.out⟩
      case measure => have := HLT2.out; simp [intOf]; omega
    · obtain rfl : j = n := by omega
      have hxo : xs = out := dlist_ext (by rw [hxl, HM.out.len, HN.out.2]) fun i hi => hxs i (by omega)
      clear hB hJ hO hxl hxs hj hlt
      go_wp2_with fail
      go_ret
      refine ⟨q, rfl, ⟨by rw [bv_length, HM.out.len, HN.out.2], fun h0 => ⟨q, 0, rfl, HB.out.lt, fun k hk => ?_⟩⟩, HQ.out, HJ.out, HO.out⟩
      rw [Nat.zero_add, HB.out.cell k, hxo, List.getElem?_toArray]
end Go.Proofs.Ytnmihkimkbiakaa
