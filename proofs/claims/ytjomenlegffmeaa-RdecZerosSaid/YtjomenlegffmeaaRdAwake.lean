/-
  What the laws ask first; and whether two rows of probabilities are the same.
-/
import Derived.Test.YtjomenlegffmeaaRdAsk
import Derived.Deep.AppendLies
namespace Go.Proofs.Ytjomenlegffmeaa
open Go.RowKit

set_option maxHeartbeats 1000000 in
theorem same_any {A B : Option Addr} {n ca cb : Nat} {ps : List Nat} {w : World} (hA : Sl w A n (pv ps)) (hB : Sl w B n (pv ps)) (hn : n ≤ 1000000000) :
    Calls Try.prog 19 #[.slice A n ca, .slice B n cb] w fun e w' => e = .returned (.bool true) ∧ ∃ d, w.drewN d = w' := by
  have HA := Lib.hid hA
  have HB := Lib.hid hB
  have hl : ps.length = n := by rw [← pv_length]; exact hA.1
  have HL := Lib.hid hl
  clear hA hB hl
  go_enter Try.func19, Try.ntmps19
  go_wp2_with fail
  go_loopw [5] (fun i wr => ∃ j k : Nat, j ≤ n ∧ i = .int .i64 (j : Int) ∧ wr = w.drewN k) (fun i _ => n - (intOf i).toNat)
  case atStart => exact ⟨0, 0, Nat.zero_le _, rfl, rfl⟩
  case round =>
    obtain ⟨j, k, hj, rfl, rfl⟩ := hrel
    by_cases hlt : j < n
    · obtain ⟨ba, oa, rfl, hba, hca⟩ := HA.out.2 (by omega)
      obtain ⟨bb, ob, rfl, hbb, hcb⟩ := HB.out.2 (by omega)
      have c1 : w.cell? ⟨ba, oa + j, none⟩ = some (.int .u16 ((ps.getD j 0 : Nat) : Int)) := by rw [hca j hlt, pv_get ps j (by have := HL.out; omega)]
      have c2 : w.cell? ⟨bb, ob + j, none⟩ = some (.int .u16 ((ps.getD j 0 : Nat) : Int)) := by rw [hcb j hlt, pv_get ps j (by have := HL.out; omega)]
      generalize ps.getD j 0 = x at *
      have i0 : (0 : Int) ≤ (j : Int) := by omega
      have i1 : (j : Int) < (n : Int) := by omega
      clear hca hcb
      go_wp2_with fail
      go_quiet (fail)
      go_wp2_with fail
      go_roundw
      case rel => exact ⟨j + 1, k + nq, by omega, by go_num, rfl⟩
      case measure => simp [intOf]; omega
    · obtain rfl : j = n := by omega
      go_wp2_with fail
      go_ret
      exact ⟨by simp, _, rfl⟩

theorem madeBytes (n : Nat) : (madeCells #[Value.int .u8 0] n).toList = bv (List.replicate n 0) := by
  rw [toList_madeCells_one]
  simp [bv]

theorem below_only {S : Nat → Prop} {B : Nat} {a b c : World} (h : Below B a b) (k : Only S b c) (hB : B ≤ a.heap.size) (hS : ∀ i, S i → B ≤ i) : Below B a c :=
  h.trans (k.below (Nat.le_trans hB h.size) hS)
theorem Pd.cells {w : World} {g f lo : Nat} {bs s : List UInt8} {r c : Nat} (h : Pd w g f lo bs (some (r, c, s))) : Blk w g 58 (pdCells f r c false) := by
  obtain ⟨at_, r', c', bad, hB, _, _, _, _, _, h⟩ := h
  rcases h with ⟨_, h⟩ | ⟨rfl, h⟩
  · cases h
  · injection h with h
    injection h with h1 h
    injection h with h2 h
    subst h1 h2
    exact hB
theorem Pd.cells_bad {w : World} {g f lo : Nat} {bs : List UInt8} (h : Pd w g f lo bs none) : ∃ r c, Blk w g 58 (pdCells f r c true) := by
  obtain ⟨at_, r', c', bad, hB, _, _, _, _, _, h⟩ := h
  rcases h with ⟨rfl, h⟩ | ⟨rfl, h⟩
  · exact ⟨r', c', hB⟩
  · cases h
/-- whether a decoder is done -/
def doneD (d : Dc) : Bool := match d with | none => false | some (_, c, _) => decide (c = 0)
theorem isBad_any {w : World} {g f lo : Nat} {bs : List UInt8} {d : Dc} (h : Pd w g f lo bs d) : Calls Try.prog 17 #[.pointer (some ⟨g, 0, none⟩)] w fun e w' => e = .returned (.bool d.isNone) ∧ w = w' := by
  cases d with
  | none =>
    obtain ⟨r, c, hB⟩ := h.cells_bad
    exact bad_any hB
  | some x => exact bad_any h.cells
theorem isDone_any {w : World} {g f lo : Nat} {bs : List UInt8} {d : Dc} (h : Pd w g f lo bs d) : Calls Try.prog 20 #[.pointer (some ⟨g, 0, none⟩)] w fun e w' => e = .returned (.bool (doneD d)) ∧ w = w' := by
  cases d with
  | none =>
    obtain ⟨r, c, hB⟩ := h.cells_bad
    exact done_any hB
  | some x => exact done_any h.cells

theorem started5 : started (List.replicate 5 0) = some (4294967295, 0, []) := rfl
theorem started1 : started [1, 0, 0, 0, 0] = none := rfl
theorem bit5 : bitD (some (4294967295, 0, [])) ((List.replicate 2 1024).getD 1 0) = (0, 1056, some (2147482624, 0, [])) := rfl
theorem psOk_fresh (n : Nat) : PsOk (List.replicate n 1024) := fun p hp => by rw [(List.mem_replicate.1 hp).2]; exact pOk_fresh

set_option maxRecDepth 100000 in
set_option maxHeartbeats 4000000 in
theorem awake_any (w : World) : Calls Try.prog 8 #[] w fun e w' => e = .returned (.bool true) ∧ Below w.heap.size w w' := by
  obtain ⟨i, hi, hz0, hz1, hz2⟩ := info_parts info_u8
  go_enter Try.func8, Try.ntmps8
  go_wp2_with (first
      | (at_make; refine wpList_make_full _ rfl _ _ 22 rfl w.heap.size 5 i _ 1 Try.underlying22 hi hz0 hz1 _ _ _ _ 5 rfl rfl rfl rfl ?b1 ?b2 (by simp) ?_))
  case b1 => rw [hz2]; omega
  case b2 => unfold maxLen; omega
  intro w1 ho hg
  rw [madeBytes] at ho
  have HB1 := Lib.hid (only_none hg)
  have HS1 := Lib.hid (own_facts ho).1
  clear ho hg
  go_wp2_with fail
  refine (newFeed_any HS1.out (by omega)).mono ?_
  rintro e w2 ⟨f, rfl, hf, hF, hb2⟩
  have HB2 := Lib.hid (below_trans HB1.out hb2)
  have HF2 := Lib.hid hF
  have hsz1 := HB1.out.size
  clear hF hb2 HS1 HB1
  go_wp2_with fail
  refine (pnew_any HF2.out).mono ?_
  rintro e w3 ⟨rfl, hP, ho⟩
  have hfg := HF2.out.lt
  have hsz2 := HB2.out.size
  have HB3 := Lib.hid (below_only HB2.out ho (Nat.le_refl _) (fun i hi => by omega))
  rw [started5] at hP
  have HP3 := Lib.hid hP
  clear hP ho HF2 HB2
  generalize w2.heap.size = g at *
  have hP3 := HP3.out.lt
  go_wp2_with fail
  refine (fresh_any (n := 2) (by omega) w3).mono ?_
  rintro e w4 ⟨rfl, hR, hb4⟩
  have HB4 := Lib.hid (below_trans HB3.out hb4)
  have HP4 := Lib.hid (HP3.out.only (Only.of_below (S := fun _ => False) hb4) (fun i hi => hi.elim))
  have HR4 := Lib.hid hR
  clear hR hb4 HB3 HP3
  generalize w3.heap.size = b at *
  go_wp2_with fail
  refine (fresh_any (n := 600) (by omega) w4).mono ?_
  rintro e w5 ⟨rfl, _, hb5⟩
  have hsz4 := HR4.out.lt
  have HB5 := Lib.hid (below_trans HB4.out hb5)
  have HP5 := Lib.hid (HP4.out.only (Only.of_below (S := fun _ => False) hb5) (fun i hi => hi.elim))
  have HR5 := Lib.hid (HR4.out.only (Only.of_below (S := fun _ => False) hb5) (fun h => h))
  have hb45 := hb5.size
  clear hb5 HB4 HP4 HR4
  go_wp2_with fail
  have HS6 := Lib.hid (show Sl (w5.alloc (.cells #[.int .u8 1, .int .u8 0, .int .u8 0, .int .u8 0, .int .u8 0] 5)) (some ⟨w5.heap.size, 0, none⟩) 5 (bv [1, 0, 0, 0, 0]) from sl_lit w5 _ #[.int .u8 1, .int .u8 0, .int .u8 0, .int .u8 0, .int .u8 0] (by decide))
  have HO6 := Lib.hid (Below.alloc (Below.refl w5.heap.size w5) (Nat.le_refl _) (.cells #[.int .u8 1, .int .u8 0, .int .u8 0, .int .u8 0, .int .u8 0] 5))
  refine (newFeed_any HS6.out (by omega)).mono ?_
  rintro e w7 ⟨f2, rfl, hf2, hF, hb7⟩
  have hb57 := below_trans HO6.out hb7
  have HB7 := Lib.hid (below_trans HB5.out hb57)
  have HP7 := Lib.hid (HP5.out.only (Only.of_below (S := fun _ => False) hb57) (fun i hi => hi.elim))
  have HR7 := Lib.hid (HR5.out.only (Only.of_below (S := fun _ => False) hb57) (fun h => h))
  have HF7 := Lib.hid hF
  have hsz7 : w5.heap.size < f2 := Nat.lt_of_lt_of_le (Blk.fresh w5 _ _).lt hf2
  have hlo7 := hF.lo
  clear hF hb7 hb57 HB5 HP5 HR5 HS6 HO6
  go_wp2_with fail
  refine (pnew_any HF7.out).mono ?_
  rintro e w8 ⟨rfl, hP, ho⟩
  have hfg7 := HF7.out.lt
  have HB8 := Lib.hid (below_only HB7.out ho (Nat.le_refl _) (fun i hi => by omega))
  rw [started1] at hP
  have HP8 := Lib.hid (HP7.out.only ho (fun i hi => by omega))
  have HR8 := Lib.hid (HR7.out.only ho (by omega))
  have HE8 := Lib.hid hP
  clear hP ho HF7 HB7 HP7 HR7
  have hbl : b < (w5.alloc (.cells #[.int .u8 1, .int .u8 0, .int .u8 0, .int .u8 0, .int .u8 0] 5)).heap.size := by
    have := (Blk.fresh w5 5 #[.int .u8 1, .int .u8 0, .int .u8 0, .int .u8 0, .int .u8 0]).lt
    omega
  generalize (w5.alloc (.cells #[.int .u8 1, .int .u8 0, .int .u8 0, .int .u8 0, .int .u8 0] 5)).heap.size = lo2 at *
  have HT := Lib.hid (tell_any (i := 1) HP8.out (dcOk_started (List.replicate 5 0)) HR8.out (by decide) (.inr hP3) pOk_fresh)
  have HBT := HT.out
  rw [bit5] at HBT
  have HT2 := Lib.hid HBT
  clear HBT HT HP8 HR8
  generalize w7.heap.size = g2 at *
  go_wp2_with fail
  refine HT2.out.mono ?_
  rintro e w9 ⟨rfl, hP9, hR9, ho9⟩
  have HB9 := Lib.hid (below_only HB8.out ho9 (Nat.le_refl _) (fun i hi => by rcases hi with hi | hi | hi <;> omega))
  have HE9 := Lib.hid (HE8.out.only ho9 (fun i hi => by rcases hi with hi | hi | hi <;> omega))
  have hx : w9.cell? ⟨b, 1, none⟩ = some (.int .u16 1056) := hR9.cell (by decide)
  have HD := Lib.hid (isDone_any hP9)
  have HBD := Lib.hid (isBad_any HE9.out)
  clear hP9 hR9 ho9 HB8 HE8 HT2 HE9
  go_wp2_with fail
  refine HD.out.mono ?_
  rintro e w10 ⟨rfl, rfl⟩
  go_wp2_with fail
  refine HBD.out.mono ?_
  rintro e w10 ⟨rfl, rfl⟩
  go_wp2_with fail
  go_ret
  exact ⟨rfl, HB9.out⟩
end Go.Proofs.Ytjomenlegffmeaa
