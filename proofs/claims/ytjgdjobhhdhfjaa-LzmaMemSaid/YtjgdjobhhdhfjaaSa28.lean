/-
  LwMemN, LzAwake: put together.
-/
import Derived.Test.YtjgdjobhhdhfjaaSa16
import Derived.Test.YtjgdjobhhdhfjaaSa27
import Derived.Test.YtjgdjobhhdhfjaaSa26
import Derived.Deep.RegionLaw
import Derived.Deep.Cut
set_option linter.unusedVariables false
set_option linter.unusedSimpArgs false
/-
  A meter that gives a decoder its memory, or doesn't: numbers.
-/
namespace Go.Proofs.Ytjgdjobhhdhfjaa
open Go.RowKit

/-- a quota of memory alone -/
def memQ (mem : Int) : Quo := ⟨mem, 0, 0, 0, 0⟩
theorem memQ_lit {mem : Int} (h : -9223372036854775808 ≤ mem ∧ mem ≤ 9223372036854775807) : Lit64 (memQ mem) := by constructor <;> dsimp only [memQ] <;> omega
theorem memQ_up (mem : Int) : (memQ mem).up.mem = max mem 0 := rfl

section
variable {q : Quo} {W P : Int}
theorem mem_one (h1 : 1 ≤ W) (h : W ≤ q.mem) : Tel.zero.doMem q W = ⟨W, W, 0, 0, 0, 0, 0⟩ := by
  unfold Tel.doMem wasOf codeOf Tel.zero
  dsimp only
  rw [if_pos ⟨rfl, by omega⟩, if_neg (by omega)]
  simp
  omega
theorem fit_one (h1 : 1 ≤ W) : fits Tel.zero.code Tel.zero.mem q.mem W ↔ W ≤ q.mem := by
  unfold fits Tel.zero
  dsimp only
  constructor
  · rintro ⟨_, h⟩; omega
  · intro h; exact ⟨rfl, by omega⟩
theorem fit_two (h1 : 1 ≤ W) (hP : 0 ≤ P) (h : W ≤ q.mem) : fits (Tel.zero.doMem q W).code (Tel.zero.doMem q W).mem q.mem P ↔ W + P ≤ q.mem := by
  rw [mem_one h1 h]
  unfold fits
  dsimp only
  constructor
  · rintro ⟨_, h⟩; omega
  · intro h; exact ⟨rfl, by omega⟩
theorem mem_two (h1 : 1 ≤ W) (hP : 0 ≤ P) (h : W + P ≤ q.mem) : (Tel.zero.doMem q W).doMem q P = ⟨W + P, W + P, 0, 0, 0, 0, 0⟩ := by
  rw [mem_one h1 (by omega)]
  unfold Tel.doMem wasOf codeOf
  dsimp only
  rw [if_pos ⟨rfl, by omega⟩, if_neg (by omega)]
  have e1 : W + max P 0 = W + P := by omega
  rw [e1]
  congr 1
  omega
theorem none_one (h1 : 1 ≤ W) (hq : 0 ≤ q.mem) (h : q.mem < W) : (Tel.zero.doMem q W).code = 101 ∧ (Tel.zero.doMem q W).mem = 0 := by
  unfold Tel.doMem wasOf codeOf Tel.zero
  dsimp only
  rw [if_pos ⟨rfl, by omega⟩, if_neg (by omega)]
  exact ⟨rfl, rfl⟩
theorem none_two (h1 : 1 ≤ W) (hP : 0 ≤ P) (h : W ≤ q.mem) (h2 : q.mem < W + P) : (((Tel.zero.doMem q W).doMem q P).doFree W).code = 101 ∧ (((Tel.zero.doMem q W).doMem q P).doFree W).mem = 0 := by
  rw [mem_one h1 h]
  unfold Tel.doFree Tel.doMem wasOf codeOf
  dsimp only
  rw [if_pos ⟨rfl, by omega⟩, if_neg (by omega)]
  exact ⟨rfl, by omega⟩
end
end Go.Proofs.Ytjgdjobhhdhfjaa

/-
  The laws' beginning, over what the program's Unpack owes.
-/
namespace Go.Proofs.Ytjgdjobhhdhfjaa
open Go.RowKit

def AwakeCon8 : Prop := ∀ w, Calls Try.prog 7 #[] w fun e w' => e = .returned (.bool true) ∧ Below w.heap.size w w'

theorem res_six : lzRes [0, 0, 0, 0, 0, 0] 3 0 2 4096 1 = some [0] := by
  unfold lzRes
  rw [if_pos (by decide)]
  exact awk_six
theorem res_five : lzRes [0, 0, 0, 0, 0] 3 0 2 4096 1 = none := by
  unfold lzRes
  rw [if_pos (by decide)]
  exact awk_five
theorem code_six : lzCode [0, 0, 0, 0, 0, 0] 3 0 2 4096 1 = 0 := by
  unfold lzCode
  rw [if_pos (by decide)]
  show codeU (unpackN [0, 0, 0, 0, 0, 0] 3 0 2 4096 1) = 0
  rw [awk_six]
  rfl
theorem code_five : lzCode [0, 0, 0, 0, 0] 3 0 2 4096 1 = 12 := by
  unfold lzCode
  rw [if_pos (by decide)]
  show codeU (unpackN [0, 0, 0, 0, 0] 3 0 2 4096 1) = 12
  rw [awk_five]
  rfl

/-- zeros that were made -/
theorem sl_zeros (k : Nat) (w : World) (hk : k ≤ 1000) : Sl (w.alloc (.cells (bv (List.replicate k 0)).toArray 5)) (some ⟨w.heap.size, 0, none⟩) k (bv (List.replicate k 0)) := by
  have := sl_lit w 5 (bv (List.replicate k 0)).toArray (by simp [bv]; omega)
  simpa [bv] using this

/-- behind one of the two: what is answered, the setting, and what was there -/
def AwkR (w : World) (ys : List UInt8) (cd : Int) (v2 v3 : Value) (wx : World) : Prop :=
  ∃ A c, v2 = .slice A ys.length c ∧ v3 = .int .i64 cd ∧ Sl wx A ys.length (bv ys) ∧ Blk wx w.heap.size 24 #[.int .i64 3, .int .i64 0, .int .i64 2, .int .i64 4096] ∧ Below w.heap.size w wx
theorem awk_end {w w1 w2 w3 W : World} {gm : Nat} {ys : List UInt8} {cd : Int} {x : Ending} (hB1 : Below w.heap.size w w1) (hK : Blk w1 w.heap.size 24 #[.int .i64 3, .int .i64 0, .int .i64 2, .int .i64 4096]) (hO2 : Only (fun _ => False) w1 w2) (hg : w1.heap.size ≤ gm)
    (hW : Only (fun _ => False) w2 W) {o : Option (List UInt8)} (ho : o.getD [] = ys) (h : UpPost W gm o cd x w3) : ∃ v2 v3, x = .returned (.tuple #[v2, v3]) ∧ AwkR w ys cd v2 v3 w3 ∧ Only (fun _ => False) w1 w3 := by
  obtain ⟨_, hO, A, c, rfl, hS⟩ := h
  have hO' : Only (fun i => i = gm) w1 w3 := ((hO2.trans hW).mono (fun _ h => h.elim)).trans hO
  rw [ho] at hS ⊢
  have hlt := hK.lt
  exact ⟨_, _, rfl, ⟨A, c, rfl, rfl, hS, hK.only hO' (by show ¬ w.heap.size = gm; omega), hB1.trans (hO'.below hB1.size (by rintro i rfl; have := hB1.size; omega))⟩, hO'.os, hO'.tape, hO'.output, hO'.size, fun i hi _ => hO'.block i hi (by show ¬ i = gm; omega)⟩

set_option maxRecDepth 100000 in
set_option maxHeartbeats 8000000 in
theorem awake8_any (C : UpCon) : AwakeCon8 := by
  intro w
  have hmk6 : ∀ w, (Instr.makeSlice 22 (.int .i64 6) (.int .i64 6)).run Try.prog w = .ok (.slice (some ⟨w.heap.size, 0, none⟩) 6 6) (w.alloc (.cells (bv [0, 0, 0, 0, 0, 0]).toArray 5)) := fun _ => by kernel_rfl
  have hmk5 : ∀ w, (Instr.makeSlice 22 (.int .i64 5) (.int .i64 5)).run Try.prog w = .ok (.slice (some ⟨w.heap.size, 0, none⟩) 5 5) (w.alloc (.cells (bv [0, 0, 0, 0, 0]).toArray 5)) := fun _ => by kernel_rfl
  obtain ⟨w1, hw1⟩ : ∃ w1, w1 = w.alloc (.cells #[.int .i64 3, .int .i64 0, .int .i64 2, .int .i64 4096] 24) := ⟨_, rfl⟩
  have hb1 : Below w.heap.size w w1 := by rw [hw1]; exact (Below.refl _ _).alloc (Nat.le_refl _) _
  have HBk : Blk w1 w.heap.size 24 #[.int .i64 3, .int .i64 0, .int .i64 2, .int .i64 4096] := by rw [hw1]; exact Blk.fresh w _ _
  have HW1 := Lib.hid hw1
  have HB1 := Lib.hid hb1
  have HBK := Lib.hid HBk
  clear hw1 hb1 HBk
  go_enter Try.func7, Try.ntmps7
  go_upto_region 2 with fail
  rw [← HW1.out]
  clear HW1
  go_cut [2, 3] from 7 (fun v2 v3 wx => AwkR w [0] 0 v2 v3 wx)
  case first =>
    have d0 : w1.cell? ⟨w.heap.size, 0, none⟩ = some (.int .i64 3) := HBK.out.cell 0
    have d1 : w1.cell? ⟨w.heap.size, 1, none⟩ = some (.int .i64 0) := HBK.out.cell 1
    have d2 : w1.cell? ⟨w.heap.size, 2, none⟩ = some (.int .i64 2) := HBK.out.cell 2
    have d3 : w1.cell? ⟨w.heap.size, 3, none⟩ = some (.int .i64 4096) := HBK.out.cell 3
    have a0 : (w1.alloc (.cells (bv [0, 0, 0, 0, 0, 0]).toArray 5)).cell? ⟨w.heap.size, 0, none⟩ = some (.int .i64 3) := (Blk.alloc HBK.out _).cell 0
    have a1 : (w1.alloc (.cells (bv [0, 0, 0, 0, 0, 0]).toArray 5)).cell? ⟨w.heap.size, 1, none⟩ = some (.int .i64 0) := (Blk.alloc HBK.out _).cell 1
    have a2 : (w1.alloc (.cells (bv [0, 0, 0, 0, 0, 0]).toArray 5)).cell? ⟨w.heap.size, 2, none⟩ = some (.int .i64 2) := (Blk.alloc HBK.out _).cell 2
    have a3 : (w1.alloc (.cells (bv [0, 0, 0, 0, 0, 0]).toArray 5)).cell? ⟨w.heap.size, 3, none⟩ = some (.int .i64 4096) := (Blk.alloc HBK.out _).cell 3
    go_region_law (first
      | (go_simp; go_at_call 11; refine (much_any _).mono ?_; rintro e w2 ⟨gm, rfl, hM, hg, hb⟩; have hO2 : Only (fun _ => False) w1 w2 := Only.trans (by first | exact (Only.refl _ w1).drewN _ | exact ((Only.refl _ w1).alloc _).drewN _) (Only.of_below hb); have hP2 := HBK.out.only hO2 (fun h => h); have r0 := hP2.cell 0; have r1 := hP2.cell 1; have r2 := hP2.cell 2; have r3 := hP2.cell 3; have s0 := (hP2.alloc (.cells (bv [0, 0, 0, 0, 0, 0]).toArray 5)).cell 0; have s1 := (hP2.alloc (.cells (bv [0, 0, 0, 0, 0, 0]).toArray 5)).cell 1; have s2 := (hP2.alloc (.cells (bv [0, 0, 0, 0, 0, 0]).toArray 5)).cell 2; have s3 := (hP2.alloc (.cells (bv [0, 0, 0, 0, 0, 0]).toArray 5)).cell 3; have HM2 := Lib.hid hM; have HO2 := Lib.hid hO2; have HG2 := Lib.hid (show w1.heap.size ≤ gm ∧ gm < w2.heap.size from ⟨by simp at hg; omega, hM.lt⟩); (first | (have HZ2 := Lib.hid (And.intro (Sl.below (w := (w1.alloc (.cells (bv [0, 0, 0, 0, 0, 0]).toArray 5)).drewN _) (sl_zeros 6 w1 (by omega)) hb) (show w1.heap.size ≠ gm from by simp at hg; omega))) | (have HZ2 := Lib.hid True.intro)); clear hM hO2 hg hb hP2)
      | (go_simp; go_at_call 33; refine (C.up (n := 6) (bs := [0, 0, 0, 0, 0, 0]) (a := 3) (b := 0) (cc := 2) (d := 4096) (size := 1) rfl (by first | exact HZ2.out.1 | exact sl_zeros 6 w2 (by omega)) (by intro _ q o e; injection e with e; injection e with e; first | exact e ▸ HZ2.out.2 | (have := HG2.out; omega)) (by omega) (by first | exact HM2.out | exact HM2.out.alloc _) (fun _ => by omega) (by omega) (by omega)).mono ?_; intro e w3 hpost; obtain ⟨v2, v3, rfl, hR, hO3⟩ := awk_end HB1.out HBK.out HO2.out HG2.out.1 (by first | exact Only.refl _ w2 | exact (Only.refl _ w2).alloc _) (ys := [0]) (cd := lzCode [0, 0, 0, 0, 0, 0] 3 0 2 4096 1) (o := lzRes [0, 0, 0, 0, 0, 0] 3 0 2 4096 1) (by rw [res_six]; rfl) hpost; rw [code_six] at hR; have HR := Lib.hid hR; have HO3 := Lib.hid hO3; clear hpost hR hO3))
    all_goals
      go_wp2_with fail
      go_meet
      exact HR.out
  case rest =>
    obtain ⟨A6, c6, rfl, rfl, hS6, hK6, hB6⟩ := hcut
    have HS6 := Lib.hid hS6
    have HK5 := Lib.hid hK6
    have HB5 := Lib.hid hB6
    have HB5s := Lib.hid hB6.size
    clear hS6 hK6 hB6 HBK HB1
    generalize wc = w5 at *
    go_upto_region 3 with fail
    go_cut [4, 5] from 14 (fun v2 v3 wx => AwkR w [] 12 v2 v3 wx ∧ Only (fun _ => False) w5 wx)
    case first =>
      have d0 : w5.cell? ⟨w.heap.size, 0, none⟩ = some (.int .i64 3) := HK5.out.cell 0
      have d1 : w5.cell? ⟨w.heap.size, 1, none⟩ = some (.int .i64 0) := HK5.out.cell 1
      have d2 : w5.cell? ⟨w.heap.size, 2, none⟩ = some (.int .i64 2) := HK5.out.cell 2
      have d3 : w5.cell? ⟨w.heap.size, 3, none⟩ = some (.int .i64 4096) := HK5.out.cell 3
      have a0 : (w5.alloc (.cells (bv [0, 0, 0, 0, 0]).toArray 5)).cell? ⟨w.heap.size, 0, none⟩ = some (.int .i64 3) := (Blk.alloc HK5.out _).cell 0
      have a1 : (w5.alloc (.cells (bv [0, 0, 0, 0, 0]).toArray 5)).cell? ⟨w.heap.size, 1, none⟩ = some (.int .i64 0) := (Blk.alloc HK5.out _).cell 1
      have a2 : (w5.alloc (.cells (bv [0, 0, 0, 0, 0]).toArray 5)).cell? ⟨w.heap.size, 2, none⟩ = some (.int .i64 2) := (Blk.alloc HK5.out _).cell 2
      have a3 : (w5.alloc (.cells (bv [0, 0, 0, 0, 0]).toArray 5)).cell? ⟨w.heap.size, 3, none⟩ = some (.int .i64 4096) := (Blk.alloc HK5.out _).cell 3
      go_region_law (first
        | (go_simp; go_at_call 11; refine (much_any _).mono ?_; rintro e w2 ⟨gm, rfl, hM, hg, hb⟩; have hO2 : Only (fun _ => False) w5 w2 := Only.trans (by first | exact (Only.refl _ w5).drewN _ | exact ((Only.refl _ w5).alloc _).drewN _) (Only.of_below hb); have hP2 := HK5.out.only hO2 (fun h => h); have r0 := hP2.cell 0; have r1 := hP2.cell 1; have r2 := hP2.cell 2; have r3 := hP2.cell 3; have s0 := (hP2.alloc (.cells (bv [0, 0, 0, 0, 0]).toArray 5)).cell 0; have s1 := (hP2.alloc (.cells (bv [0, 0, 0, 0, 0]).toArray 5)).cell 1; have s2 := (hP2.alloc (.cells (bv [0, 0, 0, 0, 0]).toArray 5)).cell 2; have s3 := (hP2.alloc (.cells (bv [0, 0, 0, 0, 0]).toArray 5)).cell 3; have HM2 := Lib.hid hM; have HO2 := Lib.hid hO2; have HG2 := Lib.hid (show w5.heap.size ≤ gm ∧ gm < w2.heap.size from ⟨by simp at hg; omega, hM.lt⟩); (first | (have HZ2 := Lib.hid (And.intro (Sl.below (w := (w5.alloc (.cells (bv [0, 0, 0, 0, 0]).toArray 5)).drewN _) (sl_zeros 5 w5 (by omega)) hb) (show w5.heap.size ≠ gm from by simp at hg; omega))) | (have HZ2 := Lib.hid True.intro)); clear hM hO2 hg hb hP2)
        | (go_simp; go_at_call 33; refine (C.up (n := 5) (bs := [0, 0, 0, 0, 0]) (a := 3) (b := 0) (cc := 2) (d := 4096) (size := 1) rfl (by first | exact HZ2.out.1 | exact sl_zeros 5 w2 (by omega)) (by intro _ q o e; injection e with e; injection e with e; first | exact e ▸ HZ2.out.2 | (have := HG2.out; omega)) (by omega) (by first | exact HM2.out | exact HM2.out.alloc _) (fun _ => by omega) (by omega) (by omega)).mono ?_; intro e w3 hpost; obtain ⟨v2, v3, rfl, hR, hO3⟩ := awk_end HB5.out HK5.out HO2.out HG2.out.1 (by first | exact Only.refl _ w2 | exact (Only.refl _ w2).alloc _) (ys := []) (cd := lzCode [0, 0, 0, 0, 0] 3 0 2 4096 1) (o := lzRes [0, 0, 0, 0, 0] 3 0 2 4096 1) (by rw [res_five]; rfl) hpost; rw [code_five] at hR; have HR := Lib.hid hR; have HO3 := Lib.hid hO3; clear hpost hR hO3))
      all_goals
        go_wp2_with fail
        go_meet
        exact ⟨HR.out, HO3.out⟩

    case rest =>
      obtain ⟨⟨A7, c7, rfl, rfl, hS7, hK7, hB7⟩, hO7⟩ := hcut
      have HS8 := Lib.hid (fun n => (HS6.out.only hO7 (fun _ _ _ _ h => h)).drewN n)
      have HB7 := Lib.hid hB7
      clear hS7 hK7 hB7 hO7 HS6 HK5 HB5
      go_wp2_with fail
      refine (bytesSame_any (bs := [0]) ((HS8.out 0).alloc _) (sl_one wc _ _) (by decide)).mono ?_
      rintro e w9 ⟨rfl, k9, rfl⟩
      go_wp2_with fail
      go_ret
      exact ⟨rfl, below_drewN (HB7.out.alloc HB7.out.size _) k9⟩
end Go.Proofs.Ytjgdjobhhdhfjaa
