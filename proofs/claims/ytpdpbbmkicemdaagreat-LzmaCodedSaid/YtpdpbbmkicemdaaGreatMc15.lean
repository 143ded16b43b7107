/-
  LzAwake, AppTwo, OwnRow, LzMem, LzTree, LzRev, LzLen, LzLit: put together.
-/
import Derived.Test.YtpdpbbmkicemdaaGreatMc13
import Derived.Deep.RegionLaw
import Derived.Deep.Cut
import Derived.Test.YtpdpbbmkicemdaaGreatMc01
import Derived.Test.YtpdpbbmkicemdaaGreatMc04
import Derived.Test.YtpdpbbmkicemdaaGreatMc02
import Derived.Test.YtpdpbbmkicemdaaGreatMc05
import Derived.Tactics
import Derived.Tactics2
import Derived.LoopN
import Derived.BigQuiet
import Derived.Lib.MinMax
set_option linter.unusedVariables false
set_option linter.unusedSimpArgs false
/-
  The laws' beginning, over what the program's Unpack owes.
-/
namespace Go.Proofs.YtpdpbbmkicemdaaGreat
open Go.RowKit

def AwakeCon8 : Prop := ∀ w, Calls Tryz.prog 5 #[] w fun e w' => e = .returned (.bool true) ∧ Below w.heap.size w w'

theorem res_six : lzRes [0, 0, 0, 0, 0, 0] 3 0 2 4096 1 = some [0] := by
  unfold lzRes
  rw [if_pos (by decide)]
  exact awk_six
theorem res_five : lzRes [0, 0, 0, 0, 0] 3 0 2 4096 1 = none := by
  unfold lzRes
  rw [if_pos (by decide)]
  exact awk_five
theorem code_six : lzCode [0, 0, 0, 0, 0, 0] 3 0 2 4096 1 = 0 := by
  unfold lzCode
  rw [if_pos (by decide)]
  show codeU (unpackN [0, 0, 0, 0, 0, 0] 3 0 2 4096 1) = 0
  rw [awk_six]
  rfl
theorem code_five : lzCode [0, 0, 0, 0, 0] 3 0 2 4096 1 = 12 := by
  unfold lzCode
  rw [if_pos (by decide)]
  show codeU (unpackN [0, 0, 0, 0, 0] 3 0 2 4096 1) = 12
  rw [awk_five]
  rfl

/-- zeros that were made -/
theorem sl_zeros (k : Nat) (w : World) (hk : k ≤ 1000) : Sl (w.alloc (.cells (bv (List.replicate k 0)).toArray 5)) (some ⟨w.heap.size, 0, none⟩) k (bv (List.replicate k 0)) := by
  have := sl_lit w 5 (bv (List.replicate k 0)).toArray (by simp [bv]; omega)
  simpa [bv] using this

/-- behind one of the two: what is answered, the setting, and what was there -/
def AwkR (w : World) (ys : List UInt8) (cd : Int) (v2 v3 : Value) (wx : World) : Prop :=
  ∃ A c, v2 = .slice A ys.length c ∧ v3 = .int .i64 cd ∧ Sl wx A ys.length (bv ys) ∧ Blk wx w.heap.size 24 #[.int .i64 3, .int .i64 0, .int .i64 2, .int .i64 4096] ∧ Below w.heap.size w wx
theorem awk_end {w w1 w2 w3 W : World} {gm : Nat} {ys : List UInt8} {cd : Int} {x : Ending} (hB1 : Below w.heap.size w w1) (hK : Blk w1 w.heap.size 24 #[.int .i64 3, .int .i64 0, .int .i64 2, .int .i64 4096]) (hO2 : Only (fun _ => False) w1 w2) (hg : w1.heap.size ≤ gm)
    (hW : Only (fun _ => False) w2 W) {o : Option (List UInt8)} (ho : o.getD [] = ys) (h : UpPost W gm o cd x w3) : ∃ v2 v3, x = .returned (.tuple #[v2, v3]) ∧ AwkR w ys cd v2 v3 w3 ∧ Only (fun _ => False) w1 w3 := by
  obtain ⟨_, hO, A, c, rfl, hS⟩ := h
  have hO' : Only (fun i => i = gm) w1 w3 := ((hO2.trans hW).mono (fun _ h => h.elim)).trans hO
  rw [ho] at hS ⊢
  have hlt := hK.lt
  exact ⟨_, _, rfl, ⟨A, c, rfl, rfl, hS, hK.only hO' (by show ¬ w.heap.size = gm; omega), hB1.trans (hO'.below hB1.size (by rintro i rfl; have := hB1.size; omega))⟩, hO'.os, hO'.tape, hO'.output, hO'.size, fun i hi _ => hO'.block i hi (by show ¬ i = gm; omega)⟩

set_option maxRecDepth 100000 in
set_option maxHeartbeats 8000000 in
theorem awake8_any (C : UpCon) : AwakeCon8 := by
  intro w
  have hmk6 : ∀ w, (Instr.makeSlice 22 (.int .i64 6) (.int .i64 6)).run Tryz.prog w = .ok (.slice (some ⟨w.heap.size, 0, none⟩) 6 6) (w.alloc (.cells (bv [0, 0, 0, 0, 0, 0]).toArray 5)) := fun _ => by kernel_rfl
  have hmk5 : ∀ w, (Instr.makeSlice 22 (.int .i64 5) (.int .i64 5)).run Tryz.prog w = .ok (.slice (some ⟨w.heap.size, 0, none⟩) 5 5) (w.alloc (.cells (bv [0, 0, 0, 0, 0]).toArray 5)) := fun _ => by kernel_rfl
  obtain ⟨w1, hw1⟩ : ∃ w1, w1 = w.alloc (.cells #[.int .i64 3, .int .i64 0, .int .i64 2, .int .i64 4096] 24) := ⟨_, rfl⟩
  have hb1 : Below w.heap.size w w1 := by rw [hw1]; exact (Below.refl _ _).alloc (Nat.le_refl _) _
  have HBk : Blk w1 w.heap.size 24 #[.int .i64 3, .int .i64 0, .int .i64 2, .int .i64 4096] := by rw [hw1]; exact Blk.fresh w _ _
  have HW1 := Lib.hid hw1
  have HB1 := Lib.hid hb1
  have HBK := Lib.hid HBk
  clear hw1 hb1 HBk
  go_enter Tryz.func5, Tryz.ntmps5
  go_upto_region 2 with fail
  rw [← HW1.out]
  clear HW1
  go_cut [2, 3] from 7 (fun v2 v3 wx => AwkR w [0] 0 v2 v3 wx)
  case first =>
    have d0 : w1.cell? ⟨w.heap.size, 0, none⟩ = some (.int .i64 3) := HBK.out.cell 0
    have d1 : w1.cell? ⟨w.heap.size, 1, none⟩ = some (.int .i64 0) := HBK.out.cell 1
    have d2 : w1.cell? ⟨w.heap.size, 2, none⟩ = some (.int .i64 2) := HBK.out.cell 2
    have d3 : w1.cell? ⟨w.heap.size, 3, none⟩ = some (.int .i64 4096) := HBK.out.cell 3
    have a0 : (w1.alloc (.cells (bv [0, 0, 0, 0, 0, 0]).toArray 5)).cell? ⟨w.heap.size, 0, none⟩ = some (.int .i64 3) := (Blk.alloc HBK.out _).cell 0
    have a1 : (w1.alloc (.cells (bv [0, 0, 0, 0, 0, 0]).toArray 5)).cell? ⟨w.heap.size, 1, none⟩ = some (.int .i64 0) := (Blk.alloc HBK.out _).cell 1
    have a2 : (w1.alloc (.cells (bv [0, 0, 0, 0, 0, 0]).toArray 5)).cell? ⟨w.heap.size, 2, none⟩ = some (.int .i64 2) := (Blk.alloc HBK.out _).cell 2
    have a3 : (w1.alloc (.cells (bv [0, 0, 0, 0, 0, 0]).toArray 5)).cell? ⟨w.heap.size, 3, none⟩ = some (.int .i64 4096) := (Blk.alloc HBK.out _).cell 3
    go_region_law (first
      | (go_simp; go_at_call 7; refine (much_any _).mono ?_; rintro e w2 ⟨gm, rfl, hM, hg, hb⟩; have hO2 : Only (fun _ => False) w1 w2 := Only.trans (by first | exact (Only.refl _ w1).drewN _ | exact ((Only.refl _ w1).alloc _).drewN _) (Only.of_below hb); have hP2 := HBK.out.only hO2 (fun h => h); have r0 := hP2.cell 0; have r1 := hP2.cell 1; have r2 := hP2.cell 2; have r3 := hP2.cell 3; have s0 := (hP2.alloc (.cells (bv [0, 0, 0, 0, 0, 0]).toArray 5)).cell 0; have s1 := (hP2.alloc (.cells (bv [0, 0, 0, 0, 0, 0]).toArray 5)).cell 1; have s2 := (hP2.alloc (.cells (bv [0, 0, 0, 0, 0, 0]).toArray 5)).cell 2; have s3 := (hP2.alloc (.cells (bv [0, 0, 0, 0, 0, 0]).toArray 5)).cell 3; have HM2 := Lib.hid hM; have HO2 := Lib.hid hO2; have HG2 := Lib.hid (show w1.heap.size ≤ gm ∧ gm < w2.heap.size from ⟨by simp at hg; omega, hM.lt⟩); (first | (have HZ2 := Lib.hid (And.intro (Sl.below (w := (w1.alloc (.cells (bv [0, 0, 0, 0, 0, 0]).toArray 5)).drewN _) (sl_zeros 6 w1 (by omega)) hb) (show w1.heap.size ≠ gm from by simp at hg; omega))) | (have HZ2 := Lib.hid True.intro)); clear hM hO2 hg hb hP2)
      | (go_simp; go_at_call 8; refine (C.up (n := 6) (bs := [0, 0, 0, 0, 0, 0]) (a := 3) (b := 0) (cc := 2) (d := 4096) (size := 1) rfl (by first | exact HZ2.out.1 | exact sl_zeros 6 w2 (by omega)) (by intro _ q o e; injection e with e; injection e with e; first | exact e ▸ HZ2.out.2 | (have := HG2.out; omega)) (by omega) (by first | exact HM2.out | exact HM2.out.alloc _) (fun _ => by omega) (by omega) (by omega)).mono ?_; intro e w3 hpost; obtain ⟨v2, v3, rfl, hR, hO3⟩ := awk_end HB1.out HBK.out HO2.out HG2.out.1 (by first | exact Only.refl _ w2 | exact (Only.refl _ w2).alloc _) (ys := [0]) (cd := lzCode [0, 0, 0, 0, 0, 0] 3 0 2 4096 1) (o := lzRes [0, 0, 0, 0, 0, 0] 3 0 2 4096 1) (by rw [res_six]; rfl) hpost; rw [code_six] at hR; have HR := Lib.hid hR; have HO3 := Lib.hid hO3; clear hpost hR hO3))
    all_goals
      go_wp2_with fail
      go_meet
      exact HR.out
  case rest =>
    obtain ⟨A6, c6, rfl, rfl, hS6, hK6, hB6⟩ := hcut
    have HS6 := Lib.hid hS6
    have HK5 := Lib.hid hK6
    have HB5 := Lib.hid hB6
    have HB5s := Lib.hid hB6.size
    clear hS6 hK6 hB6 HBK HB1
    generalize wc = w5 at *
    go_upto_region 3 with fail
    go_cut [4, 5] from 14 (fun v2 v3 wx => AwkR w [] 12 v2 v3 wx ∧ Only (fun _ => False) w5 wx)
    case first =>
      have d0 : w5.cell? ⟨w.heap.size, 0, none⟩ = some (.int .i64 3) := HK5.out.cell 0
      have d1 : w5.cell? ⟨w.heap.size, 1, none⟩ = some (.int .i64 0) := HK5.out.cell 1
      have d2 : w5.cell? ⟨w.heap.size, 2, none⟩ = some (.int .i64 2) := HK5.out.cell 2
      have d3 : w5.cell? ⟨w.heap.size, 3, none⟩ = some (.int .i64 4096) := HK5.out.cell 3
      have a0 : (w5.alloc (.cells (bv [0, 0, 0, 0, 0]).toArray 5)).cell? ⟨w.heap.size, 0, none⟩ = some (.int .i64 3) := (Blk.alloc HK5.out _).cell 0
      have a1 : (w5.alloc (.cells (bv [0, 0, 0, 0, 0]).toArray 5)).cell? ⟨w.heap.size, 1, none⟩ = some (.int .i64 0) := (Blk.alloc HK5.out _).cell 1
      have a2 : (w5.alloc (.cells (bv [0, 0, 0, 0, 0]).toArray 5)).cell? ⟨w.heap.size, 2, none⟩ = some (.int .i64 2) := (Blk.alloc HK5.out _).cell 2
      have a3 : (w5.alloc (.cells (bv [0, 0, 0, 0, 0]).toArray 5)).cell? ⟨w.heap.size, 3, none⟩ = some (.int .i64 4096) := (Blk.alloc HK5.out _).cell 3
      go_region_law (first
        | (go_simp; go_at_call 7; refine (much_any _).mono ?_; rintro e w2 ⟨gm, rfl, hM, hg, hb⟩; have hO2 : Only (fun _ => False) w5 w2 := Only.trans (by first | exact (Only.refl _ w5).drewN _ | exact ((Only.refl _ w5).alloc _).drewN _) (Only.of_below hb); have hP2 := HK5.out.only hO2 (fun h => h); have r0 := hP2.cell 0; have r1 := hP2.cell 1; have r2 := hP2.cell 2; have r3 := hP2.cell 3; have s0 := (hP2.alloc (.cells (bv [0, 0, 0, 0, 0]).toArray 5)).cell 0; have s1 := (hP2.alloc (.cells (bv [0, 0, 0, 0, 0]).toArray 5)).cell 1; have s2 := (hP2.alloc (.cells (bv [0, 0, 0, 0, 0]).toArray 5)).cell 2; have s3 := (hP2.alloc (.cells (bv [0, 0, 0, 0, 0]).toArray 5)).cell 3; have HM2 := Lib.hid hM; have HO2 := Lib.hid hO2; have HG2 := Lib.hid (show w5.heap.size ≤ gm ∧ gm < w2.heap.size from ⟨by simp at hg; omega, hM.lt⟩); (first | (have HZ2 := Lib.hid (And.intro (Sl.below (w := (w5.alloc (.cells (bv [0, 0, 0, 0, 0]).toArray 5)).drewN _) (sl_zeros 5 w5 (by omega)) hb) (show w5.heap.size ≠ gm from by simp at hg; omega))) | (have HZ2 := Lib.hid True.intro)); clear hM hO2 hg hb hP2)
        | (go_simp; go_at_call 8; refine (C.up (n := 5) (bs := [0, 0, 0, 0, 0]) (a := 3) (b := 0) (cc := 2) (d := 4096) (size := 1) rfl (by first | exact HZ2.out.1 | exact sl_zeros 5 w2 (by omega)) (by intro _ q o e; injection e with e; injection e with e; first | exact e ▸ HZ2.out.2 | (have := HG2.out; omega)) (by omega) (by first | exact HM2.out | exact HM2.out.alloc _) (fun _ => by omega) (by omega) (by omega)).mono ?_; intro e w3 hpost; obtain ⟨v2, v3, rfl, hR, hO3⟩ := awk_end HB5.out HK5.out HO2.out HG2.out.1 (by first | exact Only.refl _ w2 | exact (Only.refl _ w2).alloc _) (ys := []) (cd := lzCode [0, 0, 0, 0, 0] 3 0 2 4096 1) (o := lzRes [0, 0, 0, 0, 0] 3 0 2 4096 1) (by rw [res_five]; rfl) hpost; rw [code_five] at hR; have HR := Lib.hid hR; have HO3 := Lib.hid hO3; clear hpost hR hO3))
      all_goals
        go_wp2_with fail
        go_meet
        exact ⟨HR.out, HO3.out⟩

    case rest =>
      obtain ⟨⟨A7, c7, rfl, rfl, hS7, hK7, hB7⟩, hO7⟩ := hcut
      have HS8 := Lib.hid (fun n => (HS6.out.only hO7 (fun _ _ _ _ h => h)).drewN n)
      have HB7 := Lib.hid hB7
      clear hS7 hK7 hB7 hO7 HS6 HK5 HB5
      go_wp2_with fail
      refine (bytesSame_any (bs := [0]) ((HS8.out 0).alloc _) (sl_one wc _ _) (by decide)).mono ?_
      rintro e w9 ⟨rfl, k9, rfl⟩
      go_wp2_with fail
      go_ret
      exact ⟨rfl, below_drewN (HB7.out.alloc HB7.out.size _) k9⟩
end Go.Proofs.YtpdpbbmkicemdaaGreat

/-
  append, with what is known of the row then.
-/
namespace Go.Proofs.YtpdpbbmkicemdaaGreat
open Go.RowKit

section
variable {P : Program} (w : World)
/-- append, with what is known of the row then -/
theorem wpList_app2 {ops : Array Oper} {rest : List Oper} {o : Oper} {a : Act} {Q : Exit → Act → World → Prop} (hgd : o.guard = none) (s x : Operand) (t : TypeId)
    (ho : o.op = .call { callee := .builtin .append, args := #[s, x], argTypes := #[t, t] })
    (base : Nat) (e : TypeId) (i : TypeInfo) (z : Value) (bytes : Nat) (ht : P.underlying t = some (.slice e)) (hi : P.info? e = some i) (hz : i.zero = some z)
    (hsize : i.size = 1) (hby : i.bytes = bytes) (hzs : z.cells.size = 1)
    (v : Value) (n : Nat) (xs : List Value) (hs : a.eval s = v) (hown : w.ownsRow base e 1 v n xs)
    (A : Option Addr) (m c : Nat) (news : List Value) (hx : a.eval x = .slice A m c) (hr : Sl w A m news) (h1 : ∀ u ∈ news, u.oneCell' = true)
    (hbytes : (n + m) * bytes ≤ 140737488355328) (hb0 : 0 < bytes) (hbase : base ≤ w.heap.size)
    (h : ∀ A' c' w', w'.ownsRow base e 1 (.slice A' (n + m) c') (n + m) (xs ++ news) → w.grownBy w' v.ownBlock → ((Value.slice A' (n + m) c').ownBlock = v.ownBlock ∨ (Value.slice A' (n + m) c').ownBlock = some w.heap.size) → wpList P ops Q rest (a.put o.dst (.slice A' (n + m) c')) w') : wpList P ops Q (o :: rest) a w :=
  wpList_plain hgd fun K hK => by
    obtain ⟨v', w', hrun, h2, h3, h4⟩ := run_app (P := P) w base t o.type e i z bytes ht hi hz hsize hby hzs v n xs hown A m c news hr h1 hbytes hb0 hbase
    obtain ⟨A', c', rfl, h2⟩ := own_form h2
    unfold Oper.wp execOp
    simp only [ho, resolve, invoke, builtin, Sem.run_bind, Sem.run_pure, Result.andThen_ok, List.map_toArray, List.map_cons, List.map_nil, hs, hx, hrun]
    exact hK _ _ (h A' c' w' h2 h3 h4)
end
end Go.Proofs.YtpdpbbmkicemdaaGreat

/-
  An own row stays.
-/
namespace Go.Proofs.YtpdpbbmkicemdaaGreat
open Go.RowKit

theorem own_only' {S : Nat → Prop} {w w' : World} {base : Nat} {e : TypeId} {v : Value} {n : Nat} {xs : List Value} (h : w.ownsRow base e 1 v n xs) (hb : Only S w w') (hg : ∀ i, v.ownBlock = some i → ¬ S i) : w'.ownsRow base e 1 v n xs := by
  refine ⟨h.1, ?_⟩
  rcases h.2 with hv | ⟨g', cap, cur, hv, hb', hh, r⟩
  · exact .inl hv
  · refine .inr ⟨g', cap, cur, hv, hb', ?_, r⟩
    subst hv
    have hlt : g' < w.heap.size := by
      rcases Nat.lt_or_ge g' w.heap.size with hlt | hge
      · exact hlt
      · rw [Array.getElem?_eq_none hge] at hh; cases hh
    exact (hb.block g' hlt (hg g' rfl)).trans hh
end Go.Proofs.YtpdpbbmkicemdaaGreat

/-
  The reference's decoder or coder of LZMA in memory, over a machine that is not looked into.
-/
namespace Go.Proofs.YtpdpbbmkicemdaaGreat
open Go.RowKit

def zCells (z : Lzs) (Dv Ev : Value) (p L pc : Nat) (A : Option Addr) (n c : Nat) : Array Value :=
  #[.int .i64 (z.lc : Int), .int .i64 (z.lp : Int), .int .i64 (z.pb : Int), .int .i64 (z.dict : Int), Dv, Ev, .slice (some ⟨p, 0, none⟩) L pc, .slice A n c, .int .i64 (z.st : Int),
    .int .u32 (z.r0 : Int), .int .u32 (z.r1 : Int), .int .u32 (z.r2 : Int), .int .u32 (z.r3 : Int), .bool z.ended, .bool z.bad]

/-- A machine in memory: what it owns (G), what it reads alone (R). -/
structure MachMem {σ : Type} (R : Nat → Prop) (K : World → Value → Value → (Nat → Prop) → σ → Prop) : Prop where
  old : ∀ {w Dv Ev G x i}, K w Dv Ev G x → G i → i < w.heap.size
  only : ∀ {w w' Dv Ev G x} {S : Nat → Prop}, K w Dv Ev G x → Only S w w' → (∀ i, G i → ¬ S i) → (∀ i, R i → ¬ S i) → K w' Dv Ev G x

/-- Block g is the reference's, in the state z; its probabilities and its machine are t. G holds all that it owns. -/
structure Zr {σ : Type} (R : Nat → Prop) (K : World → Value → Value → (Nat → Prop) → σ → Prop) (w : World) (g : Nat) (G : Nat → Prop) (z : Lzs) (t : Pm σ)
    (Gm : Nat → Prop) (Dv Ev : Value) (p pc : Nat) (A : Option Addr) (c : Nat) : Prop where
  blk : Blk w g 64 (zCells z Dv Ev p t.ps.length pc A z.out.length c)
  row : Row w p t.ps pc
  out : w.ownsRow 0 5 1 (.slice A z.out.length c) z.out.length (bv z.out)
  mch : K w Dv Ev Gm t.x
  gg : G g
  gp : G p
  gm : ∀ i, Gm i → G i
  go : ∀ i, (Value.slice A z.out.length c).ownBlock = some i → G i ∧ i ≠ g ∧ i ≠ p ∧ ¬ Gm i
  pg : p ≠ g
  mg : ¬ Gm g
  mp : ¬ Gm p
  old : ∀ i, G i → i < w.heap.size
  far : ∀ i, G i → ¬ R i
def Zz {σ : Type} (R : Nat → Prop) (K : World → Value → Value → (Nat → Prop) → σ → Prop) (w : World) (g : Nat) (G : Nat → Prop) (z : Lzs) (t : Pm σ) : Prop :=
  ∃ Gm Dv Ev p pc A c, Zr R K w g G z t Gm Dv Ev p pc A c

section
variable {σ : Type} {R : Nat → Prop} {K : World → Value → Value → (Nat → Prop) → σ → Prop} {w w' : World} {g : Nat} {G : Nat → Prop} {z : Lzs} {t : Pm σ} {Gm : Nat → Prop} {Dv Ev : Value} {p pc : Nat} {A : Option Addr} {c : Nat}

theorem Zr.only (h : Zr R K w g G z t Gm Dv Ev p pc A c) (M : MachMem R K) {S : Nat → Prop} (hO : Only S w w') (hS : ∀ i, G i → ¬ S i) (hR : ∀ i, R i → ¬ S i) : Zr R K w' g G z t Gm Dv Ev p pc A c :=
  ⟨h.blk.only hO (hS g h.gg), h.row.only hO (hS p h.gp), own_only' h.out hO (fun i hi => hS i (h.go i hi).1), M.only h.mch hO (fun i hi => hS i (h.gm i hi)) hR, h.gg, h.gp, h.gm, h.go, h.pg, h.mg, h.mp, fun i hi => Nat.lt_of_lt_of_le (h.old i hi) hO.size, h.far⟩
theorem Zr.drewN (h : Zr R K w g G z t Gm Dv Ev p pc A c) (M : MachMem R K) (n : Nat) : Zr R K (w.drewN n) g G z t Gm Dv Ev p pc A c :=
  h.only M ((Only.refl (fun _ => False) w).drewN n) (fun _ _ h => h) (fun _ _ h => h)
/-- One of its own cells is stored: the place i, with what the state then is. -/
theorem Zr.put (h : Zr R K w g G z t Gm Dv Ev p pc A c) (M : MachMem R K) {i : Nat} {u : Value} {z' : Lzs} (hz : (zCells z Dv Ev p t.ps.length pc A z.out.length c).setIfInBounds i u = zCells z' Dv Ev p t.ps.length pc A z.out.length c) (ho : z'.out = z.out) :
    Zr R K (w.setCell ⟨g, i, none⟩ u) g G z' t Gm Dv Ev p pc A c := by
  have hO := (Only.refl (fun j => j = g) w).setCell (p := ⟨g, i, none⟩) (.inl rfl) u
  have hB := h.blk.put i u
  rw [hz] at hB
  refine ⟨by rw [ho]; exact hB, h.row.only hO h.pg, ?_, M.only h.mch hO (fun j hj e => h.mg (e ▸ hj)) (fun j hj e => h.far g h.gg (e ▸ hj)), h.gg, h.gp, h.gm, by rw [ho]; exact h.go, h.pg, h.mg, h.mp, fun j hj => by have := h.old j hj; simpa [World.setCell] using this, h.far⟩
  rw [ho]
  exact own_only' h.out hO (fun j hj e => (h.go j hj).2.1 e)
/-- A probability is stored. -/
theorem Zr.prob (h : Zr R K w g G z t Gm Dv Ev p pc A c) (M : MachMem R K) (i q : Nat) : Zr R K (w.setCell ⟨p, i, none⟩ (.int .u16 (q : Int))) g G z ⟨t.ps.set i q, t.x⟩ Gm Dv Ev p pc A c := by
  have hO := (Only.refl (fun j => j = p) w).setCell (p := ⟨p, i, none⟩) (.inl rfl) (.int .u16 (q : Int))
  refine ⟨?_, h.row.put i q, own_only' h.out hO (fun j hj e => (h.go j hj).2.2.1 e), M.only h.mch hO (fun j hj e => h.mp (e ▸ hj)) (fun j hj e => h.far p h.gp (e ▸ hj)), h.gg, h.gp, h.gm, h.go, h.pg, h.mg, h.mp, fun j hj => by have := h.old j hj; simpa [World.setCell] using this, h.far⟩
  show Blk _ g _ (zCells z Dv Ev p (t.ps.set i q).length pc A z.out.length c)
  rw [List.length_set]
  exact h.blk.only hO (fun e => h.pg e.symm)
/-- The machine has turned. -/
theorem Zr.mach (h : Zr R K w g G z t Gm Dv Ev p pc A c) {Gm' : Nat → Prop} {x : σ} (hO : Only Gm w w') (hK : K w' Dv Ev Gm' x) (hN : ∀ i, Gm' i → Gm i ∨ w.heap.size ≤ i) (hlt : ∀ i, Gm' i → i < w'.heap.size) (hR : ∀ i, R i → i < w.heap.size) :
    Zr R K w' g (fun i => G i ∨ Gm' i) z ⟨t.ps, x⟩ Gm' Dv Ev p pc A c := by
  refine ⟨h.blk.only hO h.mg, h.row.only hO h.mp, own_only' h.out hO (fun i hi => (h.go i hi).2.2.2), hK, .inl h.gg, .inl h.gp, fun i hi => .inr hi, fun i hi => ?_, h.pg, fun hi => ?_, fun hi => ?_, fun i hi => ?_, fun i hi hr => ?_⟩
  · obtain ⟨h1, h2, h3, h4⟩ := h.go i hi
    refine ⟨.inl h1, h2, h3, fun h5 => ?_⟩
    rcases hN i h5 with h6 | h6
    · exact h4 h6
    · have := h.old i h1; omega
  · rcases hN g hi with h6 | h6
    · exact h.mg h6
    · have := h.old g h.gg; omega
  · rcases hN p hi with h6 | h6
    · exact h.mp h6
    · have := h.old p h.gp; omega
  · rcases hi with hi | hi
    · exact Nat.lt_of_lt_of_le (h.old i hi) hO.size
    · exact hlt i hi
  · rcases hi with hi | hi
    · exact h.far i hi hr
    · rcases hN i hi with h6 | h6
      · exact h.far i (h.gm i h6) hr
      · have := hR i hr; omega

theorem Zz.only (h : Zz R K w g G z t) (M : MachMem R K) {S : Nat → Prop} (hO : Only S w w') (hS : ∀ i, G i → ¬ S i) (hR : ∀ i, R i → ¬ S i) : Zz R K w' g G z t := by
  obtain ⟨Gm, Dv, Ev, p, pc, A, c, h⟩ := h
  exact ⟨Gm, Dv, Ev, p, pc, A, c, h.only M hO hS hR⟩
theorem Zz.old (h : Zz R K w g G z t) {i : Nat} (hi : G i) : i < w.heap.size := by
  obtain ⟨Gm, Dv, Ev, p, pc, A, c, h⟩ := h
  exact h.old i hi
theorem Zz.own (h : Zz R K w g G z t) : G g := by
  obtain ⟨Gm, Dv, Ev, p, pc, A, c, h⟩ := h
  exact h.gg
/-- its numbers -/
theorem Zz.cells (h : Zz R K w g G z t) : w.cell? ⟨g, 0, none⟩ = some (.int .i64 (z.lc : Int)) ∧ w.cell? ⟨g, 1, none⟩ = some (.int .i64 (z.lp : Int)) ∧ w.cell? ⟨g, 2, none⟩ = some (.int .i64 (z.pb : Int)) ∧ w.cell? ⟨g, 3, none⟩ = some (.int .i64 (z.dict : Int)) ∧
    w.cell? ⟨g, 8, none⟩ = some (.int .i64 (z.st : Int)) ∧ w.cell? ⟨g, 9, none⟩ = some (.int .u32 (z.r0 : Int)) ∧ w.cell? ⟨g, 10, none⟩ = some (.int .u32 (z.r1 : Int)) ∧ w.cell? ⟨g, 11, none⟩ = some (.int .u32 (z.r2 : Int)) ∧ w.cell? ⟨g, 12, none⟩ = some (.int .u32 (z.r3 : Int)) ∧
    w.cell? ⟨g, 13, none⟩ = some (.bool z.ended) ∧ w.cell? ⟨g, 14, none⟩ = some (.bool z.bad) ∧ (∀ i, w.frozen? ⟨g, i, none⟩ = false) := by
  obtain ⟨Gm, Dv, Ev, p, pc, A, c, h⟩ := h
  exact ⟨h.blk.cell 0, h.blk.cell 1, h.blk.cell 2, h.blk.cell 3, h.blk.cell 8, h.blk.cell 9, h.blk.cell 10, h.blk.cell 11, h.blk.cell 12, h.blk.cell 13, h.blk.cell 14, fun i => h.blk.free i⟩
/-- what was told is read -/
theorem Zz.told (h : Zz R K w g G z t) : ∃ A c, w.cell? ⟨g, 7, none⟩ = some (.slice A z.out.length c) ∧ Sl w A z.out.length (bv z.out) := by
  obtain ⟨Gm, Dv, Ev, p, pc, A, c, h⟩ := h
  exact ⟨A, c, h.blk.cell 7, Sl.of_own h.out⟩
theorem Zz.put (h : Zz R K w g G z t) (M : MachMem R K) {i : Nat} {u : Value} {z' : Lzs} (hz : ∀ Dv Ev p pc A c, (zCells z Dv Ev p t.ps.length pc A z.out.length c).setIfInBounds i u = zCells z' Dv Ev p t.ps.length pc A z.out.length c) (ho : z'.out = z.out) :
    Zz R K (w.setCell ⟨g, i, none⟩ u) g G z' t := by
  obtain ⟨Gm, Dv, Ev, p, pc, A, c, h⟩ := h
  exact ⟨Gm, Dv, Ev, p, pc, A, c, h.put M (hz Dv Ev p pc A c) ho⟩
end

/-- what a call leaves, with a state -/
def ZPost {σ : Type} (R : Nat → Prop) (K : World → Value → Value → (Nat → Prop) → σ → Prop) (w : World) (g : Nat) (G : Nat → Prop) (z : Lzs) (t : Pm σ) (v : Value) : Ending → World → Prop :=
  OwnPost (fun w' G' => Zz R K w' g G' z t) w G v

/-- What the reference's bit and its straight bits owe. -/
structure ZOps {σ : Type} (M : Mach σ) (ok : Nat → σ → Prop) (R : Nat → Prop) (K : World → Value → Value → (Nat → Prop) → σ → Prop) : Prop where
  mem : MachMem R K
  okm : MachOk M ok
  bit : ∀ {w g G z t L k a} {b : Int}, Zz R K w g G z t → PmOk ok L (k + 1) t → a < L → L ≤ 100000000 → M.may b →
    Calls Tryz.prog 81 #[.pointer (some ⟨g, 0, none⟩), .int .i64 ((a : Nat) : Int), .int .i64 b] w (ZPost R K w g G z (bitP M t a b).2 (.int .i64 ((bitP M t a b).1 : Int)))
  str : ∀ {w g G z t L k n v}, Zz R K w g G z t → PmOk ok L (k + 1) t → n ≤ 26 → v < 4294967296 → (M.enc = true → v < 2 ^ n) →
    Calls Tryz.prog 86 #[.pointer (some ⟨g, 0, none⟩), .int .i64 ((n : Nat) : Int), .int .u32 ((v : Nat) : Int)] w (ZPost R K w g G z ⟨t.ps, (M.str t.x n v).2⟩ (.int .u32 ((M.str t.x n v).1 : Int)))

/-- one call behind another -/
theorem own_then {w w1 w2 : World} {G G1 G2 : Nat → Prop} (hN : ∀ i, G1 i → G i ∨ w.heap.size ≤ i) (hO : Only G w w1) (hN2 : ∀ i, G2 i → G1 i ∨ w1.heap.size ≤ i) (hO2 : Only G1 w1 w2) : (∀ i, G2 i → G i ∨ w.heap.size ≤ i) ∧ Only G w w2 := by
  refine ⟨fun i hi => ?_, hO.trans' hO2 hN⟩
  rcases hN2 i hi with h | h
  · exact hN i h
  · exact .inr (Nat.le_trans hO.size h)
end Go.Proofs.YtpdpbbmkicemdaaGreat

/-
  The reference of LZMA: powers, trees, the byte at a distance.
-/
namespace Go.Proofs.YtpdpbbmkicemdaaGreat
open Go.RowKit

set_option maxHeartbeats 1000000 in
theorem power_any {n : Nat} (hn : n ≤ 40) (w : World) : Calls Tryz.prog 49 #[.int .i64 (n : Int)] w fun x w' => x = .returned (.int .i64 ((2 ^ n : Nat) : Int)) ∧ w = w' := by
  have HN := Lib.hid hn
  clear hn
  go_enter Tryz.func49, Tryz.ntmps49
  go_wp2_with fail
  go_loopw [3, 4] (fun v i wr => ∃ j : Nat, j ≤ n ∧ i = .int .i64 (j : Int) ∧ v = .int .i64 ((2 ^ j : Nat) : Int) ∧ w = wr) (fun _ i _ => n - (intOf i).toNat)
  case atStart => exact ⟨0, Nat.zero_le _, rfl, rfl, rfl⟩
  case round =>
    obtain ⟨j, hj, rfl, rfl, hw⟩ := hrel
    subst hw
    by_cases hlt : j < n
    · have hlt' : (j : Int) < (n : Int) := by omega
      have ej : IntKind.i64.wrap ((j : Int) + 1) = (j : Int) + 1 := IntWalk.i64_in _ (by have := HN.out; omega)
      have hp : 2 ^ j ≤ 2 ^ 40 := Nat.pow_le_pow_right (by omega) (by have := HN.out; omega)
      obtain ⟨y, hy⟩ : ∃ y, y = 2 ^ j := ⟨_, rfl⟩
      obtain ⟨y2, hy2⟩ : ∃ y, y = 2 ^ (j + 1) := ⟨_, rfl⟩
      have hyy : y2 = y * 2 := by rw [hy2, hy, Nat.pow_succ]
      rw [← hy] at hp ⊢
      have ep : IntKind.i64.wrap ((y : Int) * 2) = (y2 : Int) := by rw [show (y : Int) * 2 = (y2 : Int) by omega]; exact IntWalk.i64_in _ (by omega)
      have HY2 := Lib.hid hy2
      clear hp hy hy2 hyy
      go_wp2_with fail
      go_roundw
      case rel => exact ⟨j + 1, by omega, by go_num, by rw [← HY2.out], by first | trivial | rfl⟩
      case measure => simp [intOf]; omega
    · obtain rfl : j = n := by omega
      have hirr : ¬ (j : Int) < (j : Int) := by omega
      go_wp2_with fail
      go_ret
      exact ⟨rfl, by first | trivial | rfl⟩

section
variable {σ : Type} {M : Mach σ} {ok : Nat → σ → Prop} {R : Nat → Prop} {K : World → Value → Value → (Nat → Prop) → σ → Prop} {w : World} {g : Nat} {G : Nat → Prop} {z : Lzs} {t : Pm σ}

/-- what is wanted, as the text reckons it -/
theorem want_text {v : Int} {i : Nat} {P : Int} (hP : P = ((2 ^ i : Nat) : Int)) : (v.tdiv P).tmod 2 = want v i := by rw [hP]; rfl
theorem tdiv_lit {v P : Int} (h0 : -9223372036854775807 ≤ v) (h1 : v ≤ 9223372036854775807) (hP : 1 ≤ P) : -9223372036854775807 ≤ v.tdiv P ∧ v.tdiv P ≤ 9223372036854775807 := by
  rcases Int.le_total 0 v with h | h
  · rw [Int.tdiv_eq_ediv_of_nonneg h]
    have a := Int.ediv_nonneg h (show 0 ≤ P by omega)
    have b := Int.ediv_le_self P h
    omega
  · obtain ⟨u, rfl⟩ : ∃ u, v = -u := ⟨-v, by omega⟩
    rw [Int.neg_tdiv, Int.tdiv_eq_ediv_of_nonneg (by omega)]
    have a := Int.ediv_nonneg (show 0 ≤ u by omega) (show 0 ≤ P by omega)
    have b := Int.ediv_le_self P (show 0 ≤ u by omega)
    omega
theorem tmod_two (v : Int) : -1 ≤ v.tmod 2 ∧ v.tmod 2 ≤ 1 := by
  have := Int.tmod_lt_of_pos v (show (0 : Int) < 2 by decide)
  have := Int.lt_tmod_of_pos v (show (0 : Int) < 2 by decide)
  omega

/-- a state on the way, reached from the beginning -/
def ZAt (R : Nat → Prop) (K : World → Value → Value → (Nat → Prop) → σ → Prop) (w0 : World) (G0 : Nat → Prop) (w : World) (g : Nat) (z : Lzs) (t : Pm σ) : Prop :=
  ∃ G, Zz R K w g G z t ∧ (∀ i, G i → G0 i ∨ w0.heap.size ≤ i) ∧ Only G0 w0 w
theorem ZAt.begin (h : Zz R K w g G z t) : ZAt R K w G w g z t := ⟨G, h, fun _ h => .inl h, Only.refl _ _⟩
theorem ZAt.post {w0 : World} {G0 : Nat → Prop} (h : ZAt R K w0 G0 w g z t) {v : Value} : ZPost R K w0 g G0 z t v (.returned v) w := ⟨rfl, h⟩
theorem ZAt.next {w0 w' : World} {G0 : Nat → Prop} {z' : Lzs} {t' : Pm σ} {v : Value} {e : Ending} (hN : ∀ i, G i → G0 i ∨ w0.heap.size ≤ i) (hO : Only G0 w0 w) (h : ZPost R K w g G z' t' v e w') : e = .returned v ∧ ZAt R K w0 G0 w' g z' t' := by
  obtain ⟨rfl, G', hz, hN', hO'⟩ := h
  obtain ⟨h1, h2⟩ := own_then hN hO hN' hO'
  exact ⟨rfl, G', hz, h1, h2⟩
/-- a bit, on the way -/
theorem ZAt.bit (Z : ZOps M ok R K) {w0 : World} {G0 : Nat → Prop} (h : ZAt R K w0 G0 w g z t) {L k a : Nat} {b : Int} (ht : PmOk ok L (k + 1) t) (ha : a < L) (hL : L ≤ 100000000) (hb : M.may b) :
    Calls Tryz.prog 81 #[.pointer (some ⟨g, 0, none⟩), .int .i64 (a : Int), .int .i64 b] w fun x w' => x = .returned (.int .i64 ((bitP M t a b).1 : Int)) ∧ ZAt R K w0 G0 w' g z (bitP M t a b).2 := by
  obtain ⟨G, hz, hN, hO⟩ := h
  exact (Z.bit hz ht ha hL hb).mono fun _ _ hp => ZAt.next hN hO hp

set_option maxHeartbeats 4000000 in
theorem ztree_any (Z : ZOps M ok R K) {w0 : World} {G0 : Nat → Prop} {L k a n : Nat} {v : Int} (h : ZAt R K w0 G0 w g z t) (ht : PmOk ok L (k + n) t) (ha : a + 2 ^ n ≤ L) (hL : L ≤ 100000000) (hn : n ≤ 8) (hv : M.mayN v) (h0 : -9223372036854775807 ≤ v) (h1 : v ≤ 9223372036854775807) :
    Calls Tryz.prog 83 #[.pointer (some ⟨g, 0, none⟩), .int .i64 (a : Int), .int .i64 (n : Int), .int .i64 v] w fun x w' => x = .returned (.int .i64 ((treeP M t a n v).1 : Int)) ∧ ZAt R K w0 G0 w' g z (treeP M t a n v).2 := by
  have HT := Lib.hid ht
  have HA := Lib.hid ha
  have HL := Lib.hid hL
  have HN := Lib.hid hn
  have HV := Lib.hid hv
  have H01 := Lib.hid (show -9223372036854775807 ≤ v ∧ v ≤ 9223372036854775807 from ⟨h0, h1⟩)
  have HZ := Lib.hid h
  have en : IntKind.i64.wrap ((n : Int) - 1) = (n : Int) - 1 := IntWalk.i64_in _ (by omega)
  clear ht ha hL hn hv h0 h1 h
  go_enter Tryz.func83, Tryz.ntmps83
  go_wp2_with fail
  go_loopw [9, 10] (fun m i wr => ∃ (j : Nat) (iv : Int), j ≤ n ∧ i = .int .i64 iv ∧ iv + 1 = (n : Int) - (j : Int) ∧ m = .int .i64 (((treeG M t a n v j).m : Nat) : Int) ∧ ZAt R K w0 G0 wr g z (treeG M t a n v j).t) (fun _ i _ => (intOf i + 1).toNat)
  case atStart => exact ⟨0, _, Nat.zero_le _, rfl, by omega, rfl, HZ.out⟩
  case round =>
    clear HZ
    obtain ⟨j, iv, hj, rfl, hiv, rfl, hz⟩ := hrel
    obtain ⟨t1, t2, t3⟩ := treeG_ok Z.okm HT.out HA.out HV.out j hj
    have hp8 : 2 ^ n ≤ 256 := pow8 HN.out
    have hpj : 2 ^ (j + 1) ≤ 2 * 2 ^ n := by rw [Nat.pow_succ]; have := Nat.pow_le_pow_right (show 0 < 2 by omega) hj; omega
    by_cases hlt : j < n
    · obtain ⟨i, hi⟩ : ∃ i, i = n - 1 - j := ⟨_, rfl⟩
      obtain rfl : iv = (i : Int) := by omega
      have hpj2 : 2 ^ (j + 1) ≤ 2 ^ n := Nat.pow_le_pow_right (by omega) hlt
      have hL := HL.out
      have hA := HA.out
      have hstep : treeG M t a n v (j + 1) = tgStep M a j (want v i) (treeG M t a n v j) := by rw [hi]; rfl
      have K := ZAt.bit Z hz (k := k + n - (j + 1)) (a := a + (treeG M t a n v j).m) (b := want v i) (by rw [show k + n - (j + 1) + 1 = k + n - j by omega]; exact t1) (by omega) hL (want_may HV.out _)
      have hb := (bitP_ok Z.okm (k := k + n - (j + 1)) (a := a + (treeG M t a n v j).m) (w := want v i) (by rw [show k + n - (j + 1) + 1 = k + n - j by omega]; exact t1) (by omega) (want_may HV.out _)).1
      have HST := Lib.hid hstep
      have KP := Lib.hid (power_any (show i ≤ 40 by have := HN.out; omega))
      obtain ⟨P, hP⟩ : ∃ P : Int, P = ((2 ^ i : Nat) : Int) := ⟨_, rfl⟩
      have hP1 : 1 ≤ P := by have := Nat.two_pow_pos i; omega
      have P0 : ¬ P = 0 := by omega
      have w1 := tdiv_lit H01.out.1 H01.out.2 hP1
      have w2 := tmod_two (v.tdiv P)
      have e1 : IntKind.i64.wrap (v.tdiv P) = v.tdiv P := IntWalk.i64_in _ (by omega)
      have e2 : (v.tdiv P).tmod 2 = want v i := want_text hP
      rw [← hP] at KP
      obtain ⟨tg, htg⟩ : ∃ tg, tg = treeG M t a n v j := ⟨_, rfl⟩
      rw [← htg] at K hb t3 HST ⊢
      obtain ⟨wv, hwv⟩ : ∃ wv, wv = want v i := ⟨_, rfl⟩
      rw [← hwv] at K hb HST e2
      obtain ⟨bb, hbb⟩ : ∃ bb, bb = (bitP M tg.t (a + tg.m) wv).1 := ⟨_, rfl⟩
      rw [← hbb] at K hb
      have e3 : IntKind.i64.wrap wv = wv := IntWalk.i64_in _ (by omega)
      obtain ⟨ad, had⟩ : ∃ ad, ad = a + tg.m := ⟨_, rfl⟩
      rw [← had] at K hbb
      obtain ⟨m2, hm2⟩ : ∃ m2, m2 = 2 * tg.m + bb := ⟨_, rfl⟩
      have HM2 := Lib.hid (show (tgStep M a j wv tg).m = m2 by rw [hm2, hbb, had]; rfl)
      have e4 : IntKind.i64.wrap (2 * (tg.m : Int)) = 2 * (tg.m : Int) := IntWalk.i64_in _ (by omega)
      have e5 : IntKind.i64.wrap ((a : Int) + (tg.m : Int)) = (ad : Int) := by rw [show (a : Int) + (tg.m : Int) = (ad : Int) by omega]; exact IntWalk.i64_in _ (by omega)
      have e6 : IntKind.i64.wrap (2 * (tg.m : Int) + (bb : Int)) = (m2 : Int) := by rw [show 2 * (tg.m : Int) + (bb : Int) = (m2 : Int) by omega]; exact IntWalk.i64_in _ (by omega)
      have hi8 : i ≤ 8 := by have := HN.out; omega
      have e7 : IntKind.i64.wrap ((i : Int) - 1) = (i : Int) - 1 := IntWalk.i64_in _ (by omega)
      have ii : (i : Int) ≥ 0 := by omega
      have HK := Lib.hid K
      have HI := Lib.hid hi
      have HAD := Lib.hid had
      have HJ := Lib.hid (show j < n from hlt)
      clear K hb hstep t1 t2 t3 hp8 hpj hpj2 hL hA hP hP1 w1 w2 htg hwv hbb hz hi hj hlt hiv had hm2 hi8
      go_wp2_with fail
      refine (KP.out _).mono ?_
      rintro e w2 ⟨rfl, rfl⟩
      clear KP
      go_wp2_with fail
      refine HK.out.mono ?_
      rintro e w3 ⟨rfl, hz3⟩
      have HZ3 := Lib.hid hz3
      clear hz3 HK e1 e2 e3 e4 e5
      go_wp2_with fail
      go_roundw
      case rel =>
        refine ⟨j + 1, (i : Int) - 1, by have := HJ.out; omega, rfl, by have := HI.out; have := HJ.out; omega, ?_, ?_⟩
        · rw [HST.out, HM2.out]
        · rw [HST.out]
          have hz := HZ3.out
          rw [HAD.out] at hz
          exact hz
      case measure => first | (simp [intOf]; done) | (simp [intOf]; omega)
    · obtain rfl : j = n := by omega
      have iin : ¬ iv ≥ 0 := by omega
      have KP := Lib.hid (power_any (show j ≤ 40 by have := HN.out; omega))
      obtain ⟨P, hP⟩ : ∃ P, P = 2 ^ j := ⟨_, rfl⟩
      have HTP := Lib.hid (show (treeP M t a j v).1 = (treeG M t a j v j).m - P by rw [hP]; rfl)
      rw [← hP] at KP t2 hp8 hpj
      obtain ⟨mm, hmm⟩ : ∃ mm, mm = (treeG M t a j v j).m - P := ⟨_, rfl⟩
      have HTP := Lib.hid (show (treeP M t a j v).1 = mm by rw [hmm]; exact HTP.out)
      have e1 : IntKind.i64.wrap ((((treeG M t a j v j).m : Nat) : Int) - (P : Int)) = (mm : Int) := by
        rw [show (((treeG M t a j v j).m : Nat) : Int) - (P : Int) = (mm : Int) by omega]
        exact IntWalk.i64_in _ (by omega)
      have HZ := Lib.hid hz
      clear hz t1 t2 t3 hp8 hpj hlt hj hiv hP hmm
      go_wp2_with fail
      refine (KP.out _).mono ?_
      rintro e w2 ⟨rfl, rfl⟩
      go_wp2_with fail
      go_ret
      refine ⟨?_, HZ.out⟩
      rw [HTP.out]
      rfl
end
end Go.Proofs.YtpdpbbmkicemdaaGreat

/-
  The reference of LZMA: trees the other way round, straight bits on the way, the byte at a distance.
-/
namespace Go.Proofs.YtpdpbbmkicemdaaGreat
open Go.RowKit

section
variable {σ : Type} {M : Mach σ} {ok : Nat → σ → Prop} {R : Nat → Prop} {K : World → Value → Value → (Nat → Prop) → σ → Prop} {w : World} {g : Nat} {G : Nat → Prop} {z : Lzs} {t : Pm σ}

theorem ZAt.str (Z : ZOps M ok R K) {w0 : World} {G0 : Nat → Prop} (h : ZAt R K w0 G0 w g z t) {L k n v : Nat} (ht : PmOk ok L (k + 1) t) (hn : n ≤ 26) (hv : v < 4294967296) (hv2 : M.enc = true → v < 2 ^ n) :
    Calls Tryz.prog 86 #[.pointer (some ⟨g, 0, none⟩), .int .i64 (n : Int), .int .u32 (v : Int)] w fun x w' => x = .returned (.int .u32 ((M.str t.x n v).1 : Int)) ∧ ZAt R K w0 G0 w' g z ⟨t.ps, (M.str t.x n v).2⟩ := by
  obtain ⟨G, hz, hN, hO⟩ := h
  exact (Z.str hz ht hn hv hv2).mono fun _ _ hp => ZAt.next hN hO hp
theorem ZAt.drewN (Z : ZOps M ok R K) {w0 : World} {G0 : Nat → Prop} (h : ZAt R K w0 G0 w g z t) (n : Nat) : ZAt R K w0 G0 (w.drewN n) g z t := by
  obtain ⟨G, hz, hN, hO⟩ := h
  exact ⟨G, hz.only Z.mem ((Only.refl (fun _ => False) w).drewN n) (fun _ _ h => h) (fun _ _ h => h), hN, hO.drewN n⟩

set_option maxHeartbeats 4000000 in
theorem zrev_any (Z : ZOps M ok R K) {w0 : World} {G0 : Nat → Prop} {L k a n : Nat} {v : Int} (h : ZAt R K w0 G0 w g z t) (ht : PmOk ok L (k + n) t) (ha : a + 2 ^ n ≤ L) (hL : L ≤ 100000000) (hn : n ≤ 8) (hv : M.mayN v) (h0 : -9223372036854775807 ≤ v) (h1 : v ≤ 9223372036854775807) :
    Calls Tryz.prog 85 #[.pointer (some ⟨g, 0, none⟩), .int .i64 (a : Int), .int .i64 (n : Int), .int .i64 v] w fun x w' => x = .returned (.int .i64 ((revP M t a n v).1 : Int)) ∧ ZAt R K w0 G0 w' g z (revP M t a n v).2 := by
  have HT := Lib.hid ht
  have HA := Lib.hid ha
  have HL := Lib.hid hL
  have HN := Lib.hid hn
  have HV := Lib.hid hv
  have H01 := Lib.hid (show -9223372036854775807 ≤ v ∧ v ≤ 9223372036854775807 from ⟨h0, h1⟩)
  have HZ := Lib.hid h
  clear ht ha hL hn hv h0 h1 h
  go_enter Tryz.func85, Tryz.ntmps85
  go_wp2_with fail
  go_loopw [9, 10, 11] (fun m o i wr => ∃ (j : Nat), j ≤ n ∧ i = .int .i64 (j : Int) ∧ m = .int .i64 (((revG M t a v j).m : Nat) : Int) ∧ o = .int .i64 (((revG M t a v j).o : Nat) : Int) ∧ ZAt R K w0 G0 wr g z (revG M t a v j).t) (fun _ _ i _ => n - (intOf i).toNat)
  case atStart => exact ⟨0, Nat.zero_le _, rfl, rfl, rfl, HZ.out⟩
  case round =>
    clear HZ
    obtain ⟨j, hj, rfl, rfl, rfl, hz⟩ := hrel
    obtain ⟨t1, t2, t3, t4⟩ := revG_ok Z.okm HT.out HA.out HV.out j hj
    have hp8 : 2 ^ n ≤ 256 := pow8 HN.out
    by_cases hlt : j < n
    · have hpj2 : 2 ^ (j + 1) ≤ 2 ^ n := Nat.pow_le_pow_right (by omega) hlt
      have hpj0 : 2 ^ j ≤ 2 ^ (j + 1) := Nat.pow_le_pow_right (by omega) (by omega)
      have hL := HL.out
      have hA := HA.out
      have hstep : revG M t a v (j + 1) = tgStep M a j (want v j) (revG M t a v j) := rfl
      have K := ZAt.bit Z hz (k := k + n - (j + 1)) (a := a + (revG M t a v j).m) (b := want v j) (by rw [show k + n - (j + 1) + 1 = k + n - j by omega]; exact t1) (by omega) hL (want_may HV.out _)
      have hb := (bitP_ok Z.okm (k := k + n - (j + 1)) (a := a + (revG M t a v j).m) (w := want v j) (by rw [show k + n - (j + 1) + 1 = k + n - j by omega]; exact t1) (by omega) (want_may HV.out _)).1
      have HST := Lib.hid hstep
      have KP := Lib.hid (power_any (show j ≤ 40 by have := HN.out; omega))
      obtain ⟨Pn, hPn⟩ : ∃ P, P = 2 ^ j := ⟨_, rfl⟩
      obtain ⟨P, hP⟩ : ∃ P : Int, P = (Pn : Int) := ⟨_, rfl⟩
      have hPn1 : 1 ≤ Pn := by rw [hPn]; exact Nat.two_pow_pos j
      have hP1 : 1 ≤ P := by omega
      have P0 : ¬ P = 0 := by omega
      have w1 := tdiv_lit H01.out.1 H01.out.2 hP1
      have w2 := tmod_two (v.tdiv P)
      have e1 : IntKind.i64.wrap (v.tdiv P) = v.tdiv P := IntWalk.i64_in _ (by omega)
      have e2 : (v.tdiv P).tmod 2 = want v j := want_text (by rw [hP, hPn])
      rw [← hPn, ← hP] at KP
      obtain ⟨tg, htg⟩ : ∃ tg, tg = revG M t a v j := ⟨_, rfl⟩
      rw [← htg] at K hb t3 t4 HST ⊢
      obtain ⟨wv, hwv⟩ : ∃ wv, wv = want v j := ⟨_, rfl⟩
      rw [← hwv] at K hb HST e2
      obtain ⟨bb, hbb⟩ : ∃ bb, bb = (bitP M tg.t (a + tg.m) wv).1 := ⟨_, rfl⟩
      rw [← hbb] at K hb
      have e3 : IntKind.i64.wrap wv = wv := IntWalk.i64_in _ (by omega)
      obtain ⟨ad, had⟩ : ∃ ad, ad = a + tg.m := ⟨_, rfl⟩
      rw [← had] at K hbb
      obtain ⟨m2, hm2⟩ : ∃ m2, m2 = 2 * tg.m + bb := ⟨_, rfl⟩
      obtain ⟨bp, hbp⟩ : ∃ bp, bp = bb * Pn := ⟨_, rfl⟩
      have hbp1 : bp ≤ Pn := by rw [hbp]; have := Nat.mul_le_mul_right Pn hb; omega
      obtain ⟨o2, ho2⟩ : ∃ o2, o2 = tg.o + bp := ⟨_, rfl⟩
      have HM2 := Lib.hid (show (tgStep M a j wv tg).m = m2 ∧ (tgStep M a j wv tg).o = o2 by rw [hm2, ho2, hbp, hbb, had, hPn]; exact ⟨rfl, rfl⟩)
      have e4 : IntKind.i64.wrap (2 * (tg.m : Int)) = 2 * (tg.m : Int) := IntWalk.i64_in _ (by omega)
      have e5 : IntKind.i64.wrap ((a : Int) + (tg.m : Int)) = (ad : Int) := by rw [show (a : Int) + (tg.m : Int) = (ad : Int) by omega]; exact IntWalk.i64_in _ (by omega)
      have e6 : IntKind.i64.wrap (2 * (tg.m : Int) + (bb : Int)) = (m2 : Int) := by rw [show 2 * (tg.m : Int) + (bb : Int) = (m2 : Int) by omega]; exact IntWalk.i64_in _ (by omega)
      have e7 : IntKind.i64.wrap ((j : Int) + 1) = (j : Int) + 1 := IntWalk.i64_in _ (by have := HN.out; omega)
      have e8 : IntKind.i64.wrap ((bb : Int) * P) = (bp : Int) := by rw [hP, ← Int.natCast_mul, ← hbp]; exact IntWalk.i64_in _ (by omega)
      have e9 : IntKind.i64.wrap ((tg.o : Int) + (bp : Int)) = (o2 : Int) := by rw [show (tg.o : Int) + (bp : Int) = (o2 : Int) by omega]; exact IntWalk.i64_in _ (by omega)
      have hlt' : (j : Int) < (n : Int) := by omega
      have HK := Lib.hid K
      have HAD := Lib.hid had
      have HJ := Lib.hid (show j < n from hlt)
      clear K hb hstep t1 t2 t3 t4 hp8 hpj2 hpj0 hL hA hP hPn hPn1 hP1 w1 w2 htg hwv hbb hz hj hlt had hm2 hbp hbp1 ho2
      go_wp2_with fail
      refine (KP.out _).mono ?_
      rintro e w2 ⟨rfl, rfl⟩
      go_wp2_with fail
      refine HK.out.mono ?_
      rintro e w3 ⟨rfl, hz3⟩
      have HZ3 := Lib.hid hz3
      clear hz3 HK e1 e2 e3 e5
      go_wp2_with fail
      refine (KP.out _).mono ?_
      rintro e w4 ⟨rfl, rfl⟩
      clear KP
      go_wp2_with fail
      go_roundw
      case rel =>
        refine ⟨j + 1, by have := HJ.out; omega, by go_num, ?_, ?_, ?_⟩
        · rw [HST.out, HM2.out.1]
        · rw [HST.out, HM2.out.2]
        · rw [HST.out]
          have hz := HZ3.out
          rw [HAD.out] at hz
          exact hz
      case measure => simp [intOf]; have := HJ.out; omega
    · obtain rfl : j = n := by omega
      have hirr : ¬ (j : Int) < (j : Int) := by omega
      have HTP := Lib.hid (show (revP M t a j v).1 = (revG M t a v j).o from rfl)
      have HZ := Lib.hid hz
      clear hz t1 t2 t3 t4 hp8 hlt hj
      go_wp2_with fail
      go_ret
      refine ⟨?_, HZ.out⟩
      rw [HTP.out]
      rfl

set_option maxHeartbeats 2000000 in
theorem zback_any {d : Nat} (h : Zz R K w g G z t) (hd : d < 4294967296) (hl : z.out.length ≤ 1000000000) (hdi : z.dict < 4294967296) :
    Calls Tryz.prog 55 #[.pointer (some ⟨g, 0, none⟩), .int .u32 (d : Int)] w fun x w' => x = .returned (.tuple #[.int .u8 ((z.back d).toNat : Int), .bool (z.has d)]) ∧ ∃ k, w.drewN k = w' := by
  obtain ⟨A, c, c7, hS⟩ := h.told
  obtain ⟨_, _, _, c3, _⟩ := h.cells
  have ed : IntKind.i64.wrap (d : Int) = (d : Int) := IntWalk.i64_in _ (by omega)
  clear h
  by_cases h1 : d < z.out.length
  · by_cases h2 : d < z.dict
    · have hh : z.has d = true := by unfold Lzs.has; simp [h1, h2]
      have hb : z.back d = z.out.getD (z.out.length - 1 - d) 0 := by unfold Lzs.back; rw [if_pos hh]
      obtain ⟨i, hi⟩ : ∃ i, i = z.out.length - 1 - d := ⟨_, rfl⟩
      obtain ⟨b, o, rfl, _, hc⟩ := hS.2 (by omega)
      have cx : w.cell? ⟨b, o + i, none⟩ = some (.int .u8 ((z.back d).toNat : Int)) := by rw [hc i (by omega), bv_get _ _ (by omega), hb, hi]
      have g1 : ¬ (d : Int) ≥ (z.out.length : Int) := by omega
      have g2 : ¬ (d : Int) ≥ (z.dict : Int) := by omega
      have e1 : IntKind.i64.wrap ((z.out.length : Int) - 1) = (z.out.length : Int) - 1 := IntWalk.i64_in _ (by omega)
      have e2 : IntKind.i64.wrap ((z.out.length : Int) - 1 - (d : Int)) = (i : Int) := by rw [show (z.out.length : Int) - 1 - (d : Int) = (i : Int) by omega]; exact IntWalk.i64_in _ (by omega)
      have i0 : (0 : Int) ≤ (i : Int) := by omega
      have i1 : (i : Int) < (z.out.length : Int) := by omega
      rw [hh]
      clear hS hc hi hb hh h1 h2 hd hl hdi
      generalize z.back d = x at *
      generalize z.out.length = n at *
      go_enter Tryz.func55, Tryz.ntmps55
      go_wp2_with fail
      go_quiet (fail)
      go_wp2_with fail
      go_ret2
      exact ⟨rfl, _, rfl⟩
    · have hh : z.has d = false := by unfold Lzs.has; simp; omega
      have hb : z.back d = 0 := by unfold Lzs.back; rw [if_neg (by rw [hh]; simp)]
      have g1 : ¬ (d : Int) ≥ (z.out.length : Int) := by omega
      have g2 : (d : Int) ≥ (z.dict : Int) := by omega
      rw [hh, hb]
      clear hS hb hh h1 h2 hd hl hdi
      generalize z.out.length = n at *
      go_enter Tryz.func55, Tryz.ntmps55
      go_wp2_with fail
      go_ret2
      exact ⟨rfl, 0, rfl⟩
  · have hh : z.has d = false := by unfold Lzs.has; simp; omega
    have hb : z.back d = 0 := by unfold Lzs.back; rw [if_neg (by rw [hh]; simp)]
    have g1 : (d : Int) ≥ (z.out.length : Int) := by omega
    rw [hh, hb]
    clear hS hb hh h1 hd hl hdi
    generalize z.out.length = n at *
    go_enter Tryz.func55, Tryz.ntmps55
    go_wp2_with fail
    go_ret2
    exact ⟨rfl, 0, rfl⟩
end
end Go.Proofs.YtpdpbbmkicemdaaGreat

/-
  The reference of LZMA: a length.
-/
namespace Go.Proofs.YtpdpbbmkicemdaaGreat
open Go.RowKit

section
variable {σ : Type} {M : Mach σ} {ok : Nat → σ → Prop} {R : Nat → Prop} {K : World → Value → Value → (Nat → Prop) → σ → Prop} {w : World} {g : Nat} {G : Nat → Prop} {z : Lzs} {t : Pm σ}

set_option maxHeartbeats 4000000 in
theorem zlen_any (Z : ZOps M ok R K) {w0 : World} {G0 : Nat → Prop} {L k a s : Nat} {v : Int} (h : ZAt R K w0 G0 w g z t) (ht : PmOk ok L (k + 10) t) (ha : a + 514 ≤ L) (hs : s ≤ 15) (hL : L ≤ 100000000) (hv : M.mayN v) (h0 : -1000000 ≤ v) (h1 : v ≤ 1000000) :
    Calls Tryz.prog 52 #[.pointer (some ⟨g, 0, none⟩), .int .i64 (a : Int), .int .i64 (s : Int), .int .i64 v] w fun x w' => x = .returned (.int .i64 ((lenP M t a s v).1 : Int)) ∧ ZAt R K w0 G0 w' g z (lenP M t a s v).2 := by
  obtain ⟨b1, p1⟩ := bitP_ok Z.okm (k := k + 9) ht (show a < L by omega) (may_min (c := 8) (by decide) hv)
  have K1 := ZAt.bit Z h (k := k + 9) (a := a) (b := min (v.tdiv 8) 1) ht (by omega) hL (may_min (c := 8) (by decide) hv)
  have w8 := tdiv_lit (v := v) (P := 8) (by omega) (by omega) (by decide)
  have w16 := tdiv_lit (v := v) (P := 16) (by omega) (by omega) (by decide)
  have e1 : IntKind.i64.wrap (v.tdiv 8) = v.tdiv 8 := IntWalk.i64_in _ (by omega)
  have e2 : IntKind.i64.wrap (v.tdiv 16) = v.tdiv 16 := IntWalk.i64_in _ (by omega)
  have hdef : lenP M t a s v = lenA M (bitP M t a (min (v.tdiv 8) 1)) a s v := rfl
  rw [hdef]
  obtain ⟨B1, hB1⟩ : ∃ B, B = bitP M t a (min (v.tdiv 8) 1) := ⟨_, rfl⟩
  rw [← hB1] at b1 p1 K1 ⊢
  have HK1 := Lib.hid K1
  have e3 : IntKind.i64.wrap (8 * (s : Int)) = 8 * (s : Int) := IntWalk.i64_in _ (by omega)
  by_cases hb0 : B1.1 = 0
  · obtain ⟨ad, had⟩ : ∃ ad, ad = a + 2 + 8 * s := ⟨_, rfl⟩
    have e4 : IntKind.i64.wrap ((a : Int) + 2) = (a : Int) + 2 := IntWalk.i64_in _ (by omega)
    have e5 : IntKind.i64.wrap ((a : Int) + 2 + 8 * (s : Int)) = (ad : Int) := by rw [show (a : Int) + 2 + 8 * (s : Int) = (ad : Int) by omega]; exact IntWalk.i64_in _ (by omega)
    have hres : lenA M B1 a s v = treeP M B1.2 ad 3 v := by unfold lenA; rw [if_pos hb0, had]
    rw [hres]
    have HP1 := Lib.hid (fun (w1 : World) (hz : ZAt R K w0 G0 w1 g z B1.2) => ztree_any Z hz (k := k) (n := 3) (a := ad) (v := v) (p1.mono Z.okm (show k + 3 ≤ k + 9 by omega)) (by show ad + 8 ≤ L; omega) hL (by decide) hv (by omega) (by omega))
    rw [hb0] at HK1
    clear hres hb0 had hdef hB1 b1 p1 K1 w8 w16 ht ha hs hL hv h0 h1 h
    go_enter Tryz.func52, Tryz.ntmps52
    go_wp2_with fail
    refine HK1.out.mono ?_
    rintro e w1 ⟨rfl, hz1⟩
    have HT := Lib.hid (HP1.out w1 hz1)
    clear hz1 HK1 HP1
    go_wp2_with fail
    refine HT.out.mono ?_
    rintro e w2 ⟨rfl, hz2⟩
    have HZ2 := Lib.hid hz2
    clear hz2 HT
    go_wp2_with fail
    go_ret
    exact ⟨rfl, HZ2.out⟩
  · have hv8 := may_less Z.okm (c := 8) (by decide) hv (by rw [hB1] at hb0; exact hb0)
    obtain ⟨b2, p2⟩ := bitP_ok Z.okm (k := k + 8) p1 (show a + 1 < L by omega) (may_min (c := 16) (by decide) hv)
    have HK2 := Lib.hid (fun (w1 : World) (hz : ZAt R K w0 G0 w1 g z B1.2) => ZAt.bit Z hz (k := k + 8) (a := a + 1) (b := min (v.tdiv 16) 1) p1 (by omega) hL (may_min (c := 16) (by decide) hv))
    have hres : lenA M B1 a s v = lenB M (bitP M B1.2 (a + 1) (min (v.tdiv 16) 1)) a s v := by unfold lenA; rw [if_neg hb0]
    rw [hres]
    have hless : ¬ (bitP M B1.2 (a + 1) (min (v.tdiv 16) 1)).1 = 0 → M.mayN (v - 16) := fun hb => may_less Z.okm (c := 16) (by decide) hv hb
    obtain ⟨B2, hB2⟩ : ∃ B, B = bitP M B1.2 (a + 1) (min (v.tdiv 16) 1) := ⟨_, rfl⟩
    rw [← hB2] at b2 p2 HK2 hless ⊢
    have hb1 : B1.1 = 1 := by omega
    rw [hb1] at HK1
    have f1 : IntKind.i64.wrap ((a : Int) + 1) = ((a + 1 : Nat) : Int) := by rw [show (a : Int) + 1 = ((a + 1 : Nat) : Int) by omega]; exact IntWalk.i64_in _ (by omega)
    obtain ⟨a1, ha1⟩ : ∃ a1, a1 = a + 1 := ⟨_, rfl⟩
    rw [← ha1] at f1 HK2
    by_cases hb20 : B2.1 = 0
    · obtain ⟨ad, had⟩ : ∃ ad, ad = a + 130 + 8 * s := ⟨_, rfl⟩
      have e4 : IntKind.i64.wrap ((a : Int) + 130) = (a : Int) + 130 := IntWalk.i64_in _ (by omega)
      have e5 : IntKind.i64.wrap ((a : Int) + 130 + 8 * (s : Int)) = (ad : Int) := by rw [show (a : Int) + 130 + 8 * (s : Int) = (ad : Int) by omega]; exact IntWalk.i64_in _ (by omega)
      have e6 : IntKind.i64.wrap (v - 8) = v - 8 := IntWalk.i64_in _ (by omega)
      obtain ⟨u, hu⟩ : ∃ u, u = (treeP M B2.2 ad 3 (v - 8)).1 := ⟨_, rfl⟩
      have hres2 : lenB M B2 a s v = (8 + u, (treeP M B2.2 ad 3 (v - 8)).2) := by unfold lenB; rw [if_pos hb20, hu, had]
      rw [hres2]
      have hu8 := (treeP_ok Z.okm (k := k) (n := 3) (a := ad) (p2.mono Z.okm (show k + 3 ≤ k + 8 by omega)) (by show ad + 8 ≤ L; omega) hv8).1
      have HP1 := Lib.hid (fun (w1 : World) (hz : ZAt R K w0 G0 w1 g z B2.2) => ztree_any Z hz (k := k) (n := 3) (a := ad) (v := v - 8) (p2.mono Z.okm (show k + 3 ≤ k + 8 by omega)) (by show ad + 8 ≤ L; omega) hL (by decide) hv8 (by omega) (by omega))
      rw [← hu] at HP1 hu8
      rw [hb20] at HK2
      have e7 : IntKind.i64.wrap (8 + (u : Int)) = ((8 + u : Nat) : Int) := by rw [show 8 + (u : Int) = ((8 + u : Nat) : Int) by omega]; exact IntWalk.i64_in _ (by have : u < 8 := hu8; omega)
      obtain ⟨v8, hv8e⟩ : ∃ v8, v8 = 8 + u := ⟨_, rfl⟩
      rw [← hv8e] at e7 ⊢
      clear hres hres2 hb0 hb1 hb20 had hdef hB1 hB2 b1 b2 p1 p2 K1 w8 w16 ht ha hs hL hv hv8 h0 h1 h hless hu hu8 ha1 hv8e
      go_enter Tryz.func52, Tryz.ntmps52
      go_wp2_with fail
      refine HK1.out.mono ?_
      rintro e w1 ⟨rfl, hz1⟩
      have HT2 := Lib.hid (HK2.out w1 hz1)
      clear hz1 HK1 HK2
      go_wp2_with fail
      refine HT2.out.mono ?_
      rintro e w2 ⟨rfl, hz2⟩
      have HT := Lib.hid (HP1.out w2 hz2)
      clear hz2 HT2 HP1
      go_wp2_with fail
      refine HT.out.mono ?_
      rintro e w3 ⟨rfl, hz3⟩
      have HZ3 := Lib.hid hz3
      clear hz3 HT
      go_wp2_with fail
      go_ret
      exact ⟨rfl, HZ3.out⟩
    · have hv16 := hless hb20
      obtain ⟨ad, had⟩ : ∃ ad, ad = a + 258 := ⟨_, rfl⟩
      have e5 : IntKind.i64.wrap ((a : Int) + 258) = (ad : Int) := by rw [show (a : Int) + 258 = (ad : Int) by omega]; exact IntWalk.i64_in _ (by omega)
      have e6 : IntKind.i64.wrap (v - 16) = v - 16 := IntWalk.i64_in _ (by omega)
      obtain ⟨u, hu⟩ : ∃ u, u = (treeP M B2.2 ad 8 (v - 16)).1 := ⟨_, rfl⟩
      have hres2 : lenB M B2 a s v = (16 + u, (treeP M B2.2 ad 8 (v - 16)).2) := by unfold lenB; rw [if_neg hb20, hu, had]
      rw [hres2]
      have hu8 := (treeP_ok Z.okm (k := k) (n := 8) (a := ad) p2 (by show ad + 256 ≤ L; omega) hv16).1
      have HP1 := Lib.hid (fun (w1 : World) (hz : ZAt R K w0 G0 w1 g z B2.2) => ztree_any Z hz (k := k) (n := 8) (a := ad) (v := v - 16) p2 (by show ad + 256 ≤ L; omega) hL (by decide) hv16 (by omega) (by omega))
      rw [← hu] at HP1 hu8
      have hb21 : B2.1 = 1 := by omega
      rw [hb21] at HK2
      have e7 : IntKind.i64.wrap (16 + (u : Int)) = ((16 + u : Nat) : Int) := by rw [show 16 + (u : Int) = ((16 + u : Nat) : Int) by omega]; exact IntWalk.i64_in _ (by have : u < 256 := hu8; omega)
      obtain ⟨v8, hv8e⟩ : ∃ v8, v8 = 16 + u := ⟨_, rfl⟩
      rw [← hv8e] at e7 ⊢
      clear hres hres2 hb0 hb1 hb20 hb21 had hdef hB1 hB2 b1 b2 p1 p2 K1 w8 w16 ht ha hs hL hv hv8 hv16 h0 h1 h hless hu hu8 ha1 hv8e
      go_enter Tryz.func52, Tryz.ntmps52
      go_wp2_with fail
      refine HK1.out.mono ?_
      rintro e w1 ⟨rfl, hz1⟩
      have HT2 := Lib.hid (HK2.out w1 hz1)
      clear hz1 HK1 HK2
      go_wp2_with fail
      refine HT2.out.mono ?_
      rintro e w2 ⟨rfl, hz2⟩
      have HT := Lib.hid (HP1.out w2 hz2)
      clear hz2 HT2 HP1
      go_wp2_with fail
      refine HT.out.mono ?_
      rintro e w3 ⟨rfl, hz3⟩
      have HZ3 := Lib.hid hz3
      clear hz3 HT
      go_wp2_with fail
      go_ret
      exact ⟨rfl, HZ3.out⟩
end
end Go.Proofs.YtpdpbbmkicemdaaGreat

/-
  The reference of LZMA: a literal.
-/
namespace Go.Proofs.YtpdpbbmkicemdaaGreat
open Go.RowKit

section
variable {σ : Type} {M : Mach σ} {ok : Nat → σ → Prop} {R : Nat → Prop} {K : World → Value → Value → (Nat → Prop) → σ → Prop} {w : World} {g : Nat} {G : Nat → Prop} {z : Lzs} {t : Pm σ}

theorem ZAt.put (Z : ZOps M ok R K) {w0 : World} {G0 : Nat → Prop} (h : ZAt R K w0 G0 w g z t) {i : Nat} {u : Value} {z' : Lzs} (hz : ∀ Dv Ev p pc A c, (zCells z Dv Ev p t.ps.length pc A z.out.length c).setIfInBounds i u = zCells z' Dv Ev p t.ps.length pc A z.out.length c) (ho : z'.out = z.out) : ZAt R K w0 G0 (w.setCell ⟨g, i, none⟩ u) g z' t := by
  obtain ⟨G, h, hN, hO⟩ := h
  exact ⟨G, h.put Z.mem hz ho, hN, hO.setCell (p := ⟨g, i, none⟩) (by have := hN g h.own; exact this) _⟩
theorem ZAt.cells {w0 : World} {G0 : Nat → Prop} (h : ZAt R K w0 G0 w g z t) : w.cell? ⟨g, 0, none⟩ = some (.int .i64 (z.lc : Int)) ∧ w.cell? ⟨g, 1, none⟩ = some (.int .i64 (z.lp : Int)) ∧ w.cell? ⟨g, 2, none⟩ = some (.int .i64 (z.pb : Int)) ∧ w.cell? ⟨g, 3, none⟩ = some (.int .i64 (z.dict : Int)) ∧
    w.cell? ⟨g, 8, none⟩ = some (.int .i64 (z.st : Int)) ∧ w.cell? ⟨g, 9, none⟩ = some (.int .u32 (z.r0 : Int)) ∧ w.cell? ⟨g, 10, none⟩ = some (.int .u32 (z.r1 : Int)) ∧ w.cell? ⟨g, 11, none⟩ = some (.int .u32 (z.r2 : Int)) ∧ w.cell? ⟨g, 12, none⟩ = some (.int .u32 (z.r3 : Int)) ∧
    w.cell? ⟨g, 13, none⟩ = some (.bool z.ended) ∧ w.cell? ⟨g, 14, none⟩ = some (.bool z.bad) ∧ (∀ i, w.frozen? ⟨g, i, none⟩ = false) := by
  obtain ⟨G, h, _⟩ := h
  exact h.cells
theorem ZAt.back {w0 : World} {G0 : Nat → Prop} (h : ZAt R K w0 G0 w g z t) {d : Nat} (hd : d < 4294967296) (hl : z.out.length ≤ 1000000000) (hdi : z.dict < 4294967296) :
    Calls Tryz.prog 55 #[.pointer (some ⟨g, 0, none⟩), .int .u32 (d : Int)] w fun x w' => x = .returned (.tuple #[.int .u8 ((z.back d).toNat : Int), .bool (z.has d)]) ∧ ∃ k, w.drewN k = w' := by
  obtain ⟨G, h, _⟩ := h
  exact zback_any h hd hl hdi
theorem ZAt.told {w0 : World} {G0 : Nat → Prop} (h : ZAt R K w0 G0 w g z t) : ∃ A c, w.cell? ⟨g, 7, none⟩ = some (.slice A z.out.length c) ∧ Sl w A z.out.length (bv z.out) := by
  obtain ⟨G, h, _⟩ := h
  exact h.told

/-- a literal's bits, on the way -/
def LitRel (R : Nat → Prop) (K : World → Value → Value → (Nat → Prop) → σ → Prop) (M : Mach σ) (w0 : World) (G0 : Nat → Prop) (wr : World) (g : Nat) (z : Lzs) (t : Pm σ) (a : Nat) (o v : UInt8) (same : Bool) (m sm i : Value) : Prop :=
  ∃ (j : Nat) (iv : Int), j ≤ 8 ∧ i = .int .i64 iv ∧ iv + 1 = 8 - (j : Int) ∧ m = .int .i64 (((litG M t a o v same j).m : Nat) : Int) ∧ sm = .bool (litG M t a o v same j).same ∧ ZAt R K w0 G0 wr g z (litG M t a o v same j).t
/-- What a literal leaves. -/
def LitPost (R : Nat → Prop) (K : World → Value → Value → (Nat → Prop) → σ → Prop) (M : Mach σ) (w0 : World) (G0 : Nat → Prop) (g : Nat) (z : Lzs) (t : Pm σ) (v : UInt8) (x : Ending) (w' : World) : Prop :=
  x = .returned (.int .u8 ((UInt8.ofNat (litP M z t v).1).toNat : Int)) ∧ ZAt R K w0 G0 w' g { z with st := litSt z.st } (litP M z t v).2

end
end Go.Proofs.YtpdpbbmkicemdaaGreat
