/-
  LzMem, LzTree, LzRev, LzLen, LzLit, LzSlot, LzDist, LzAfter: put together.
-/
import Derived.Test.YtoencondpbkomaaGreatQ03
import Derived.Test.YtoencondpbkomaaGreatQ02
import Derived.Test.YtoencondpbkomaaGreatQ13
import Derived.Test.YtoencondpbkomaaGreatQ01
import Derived.Tactics
import Derived.Tactics2
import Derived.LoopN
import Derived.BigQuiet
import Derived.Lib.MinMax
set_option linter.unusedVariables false
set_option linter.unusedSimpArgs false
/-
  The reference's decoder or coder of LZMA in memory, over a machine that is not looked into.
-/
namespace Go.Proofs.YtoencondpbkomaaGreat
open Go.RowKit

def zCells (z : Lzs) (Dv Ev : Value) (p L pc : Nat) (A : Option Addr) (n c : Nat) : Array Value :=
  #[.int .i64 (z.lc : Int), .int .i64 (z.lp : Int), .int .i64 (z.pb : Int), .int .i64 (z.dict : Int), Dv, Ev, .slice (some ⟨p, 0, none⟩) L pc, .slice A n c, .int .i64 (z.st : Int),
    .int .u32 (z.r0 : Int), .int .u32 (z.r1 : Int), .int .u32 (z.r2 : Int), .int .u32 (z.r3 : Int), .bool z.ended, .bool z.bad]

/-- A machine in memory: what it owns (G), what it reads alone (R). -/
structure MachMem {σ : Type} (R : Nat → Prop) (K : World → Value → Value → (Nat → Prop) → σ → Prop) : Prop where
  old : ∀ {w Dv Ev G x i}, K w Dv Ev G x → G i → i < w.heap.size
  only : ∀ {w w' Dv Ev G x} {S : Nat → Prop}, K w Dv Ev G x → Only S w w' → (∀ i, G i → ¬ S i) → (∀ i, R i → ¬ S i) → K w' Dv Ev G x

/-- Block g is the reference's, in the state z; its probabilities and its machine are t. G holds all that it owns. -/
structure Zr {σ : Type} (R : Nat → Prop) (K : World → Value → Value → (Nat → Prop) → σ → Prop) (w : World) (g : Nat) (G : Nat → Prop) (z : Lzs) (t : Pm σ)
    (Gm : Nat → Prop) (Dv Ev : Value) (p pc : Nat) (A : Option Addr) (c : Nat) : Prop where
  blk : Blk w g 56 (zCells z Dv Ev p t.ps.length pc A z.out.length c)
  row : Row w p t.ps pc
  out : w.ownsRow 0 5 1 (.slice A z.out.length c) z.out.length (bv z.out)
  mch : K w Dv Ev Gm t.x
  gg : G g
  gp : G p
  gm : ∀ i, Gm i → G i
  go : ∀ i, (Value.slice A z.out.length c).ownBlock = some i → G i ∧ i ≠ g ∧ i ≠ p ∧ ¬ Gm i
  pg : p ≠ g
  mg : ¬ Gm g
  mp : ¬ Gm p
  old : ∀ i, G i → i < w.heap.size
  far : ∀ i, G i → ¬ R i
def Zz {σ : Type} (R : Nat → Prop) (K : World → Value → Value → (Nat → Prop) → σ → Prop) (w : World) (g : Nat) (G : Nat → Prop) (z : Lzs) (t : Pm σ) : Prop :=
  ∃ Gm Dv Ev p pc A c, Zr R K w g G z t Gm Dv Ev p pc A c

section
variable {σ : Type} {R : Nat → Prop} {K : World → Value → Value → (Nat → Prop) → σ → Prop} {w w' : World} {g : Nat} {G : Nat → Prop} {z : Lzs} {t : Pm σ} {Gm : Nat → Prop} {Dv Ev : Value} {p pc : Nat} {A : Option Addr} {c : Nat}

theorem Zr.only (h : Zr R K w g G z t Gm Dv Ev p pc A c) (M : MachMem R K) {S : Nat → Prop} (hO : Only S w w') (hS : ∀ i, G i → ¬ S i) (hR : ∀ i, R i → ¬ S i) : Zr R K w' g G z t Gm Dv Ev p pc A c :=
  ⟨h.blk.only hO (hS g h.gg), h.row.only hO (hS p h.gp), own_only' h.out hO (fun i hi => hS i (h.go i hi).1), M.only h.mch hO (fun i hi => hS i (h.gm i hi)) hR, h.gg, h.gp, h.gm, h.go, h.pg, h.mg, h.mp, fun i hi => Nat.lt_of_lt_of_le (h.old i hi) hO.size, h.far⟩
theorem Zr.drewN (h : Zr R K w g G z t Gm Dv Ev p pc A c) (M : MachMem R K) (n : Nat) : Zr R K (w.drewN n) g G z t Gm Dv Ev p pc A c :=
  h.only M ((Only.refl (fun _ => False) w).drewN n) (fun _ _ h => h) (fun _ _ h => h)
/-- One of its own cells is stored: the place i, with what the state then is. -/
theorem Zr.put (h : Zr R K w g G z t Gm Dv Ev p pc A c) (M : MachMem R K) {i : Nat} {u : Value} {z' : Lzs} (hz : (zCells z Dv Ev p t.ps.length pc A z.out.length c).setIfInBounds i u = zCells z' Dv Ev p t.ps.length pc A z.out.length c) (ho : z'.out = z.out) :
    Zr R K (w.setCell ⟨g, i, none⟩ u) g G z' t Gm Dv Ev p pc A c := by
  have hO := (Only.refl (fun j => j = g) w).setCell (p := ⟨g, i, none⟩) (.inl rfl) u
  have hB := h.blk.put i u
  rw [hz] at hB
  refine ⟨by rw [ho]; exact hB, h.row.only hO h.pg, ?_, M.only h.mch hO (fun j hj e => h.mg (e ▸ hj)) (fun j hj e => h.far g h.gg (e ▸ hj)), h.gg, h.gp, h.gm, by rw [ho]; exact h.go, h.pg, h.mg, h.mp, fun j hj => by have := h.old j hj; simpa [World.setCell] using this, h.far⟩
  rw [ho]
  exact own_only' h.out hO (fun j hj e => (h.go j hj).2.1 e)
/-- A probability is stored. -/
theorem Zr.prob (h : Zr R K w g G z t Gm Dv Ev p pc A c) (M : MachMem R K) (i q : Nat) : Zr R K (w.setCell ⟨p, i, none⟩ (.int .u16 (q : Int))) g G z ⟨t.ps.set i q, t.x⟩ Gm Dv Ev p pc A c := by
  have hO := (Only.refl (fun j => j = p) w).setCell (p := ⟨p, i, none⟩) (.inl rfl) (.int .u16 (q : Int))
  refine ⟨?_, h.row.put i q, own_only' h.out hO (fun j hj e => (h.go j hj).2.2.1 e), M.only h.mch hO (fun j hj e => h.mp (e ▸ hj)) (fun j hj e => h.far p h.gp (e ▸ hj)), h.gg, h.gp, h.gm, h.go, h.pg, h.mg, h.mp, fun j hj => by have := h.old j hj; simpa [World.setCell] using this, h.far⟩
  show Blk _ g _ (zCells z Dv Ev p (t.ps.set i q).length pc A z.out.length c)
  rw [List.length_set]
  exact h.blk.only hO (fun e => h.pg e.symm)
/-- The machine has turned. -/
theorem Zr.mach (h : Zr R K w g G z t Gm Dv Ev p pc A c) {Gm' : Nat → Prop} {x : σ} (hO : Only Gm w w') (hK : K w' Dv Ev Gm' x) (hN : ∀ i, Gm' i → Gm i ∨ w.heap.size ≤ i) (hlt : ∀ i, Gm' i → i < w'.heap.size) (hR : ∀ i, R i → i < w.heap.size) :
    Zr R K w' g (fun i => G i ∨ Gm' i) z ⟨t.ps, x⟩ Gm' Dv Ev p pc A c := by
  refine ⟨h.blk.only hO h.mg, h.row.only hO h.mp, own_only' h.out hO (fun i hi => (h.go i hi).2.2.2), hK, .inl h.gg, .inl h.gp, fun i hi => .inr hi, fun i hi => ?_, h.pg, fun hi => ?_, fun hi => ?_, fun i hi => ?_, fun i hi hr => ?_⟩
  · obtain ⟨h1, h2, h3, h4⟩ := h.go i hi
    refine ⟨.inl h1, h2, h3, fun h5 => ?_⟩
    rcases hN i h5 with h6 | h6
    · exact h4 h6
    · have := h.old i h1; omega
  · rcases hN g hi with h6 | h6
    · exact h.mg h6
    · have := h.old g h.gg; omega
  · rcases hN p hi with h6 | h6
    · exact h.mp h6
    · have := h.old p h.gp; omega
  · rcases hi with hi | hi
    · exact Nat.lt_of_lt_of_le (h.old i hi) hO.size
    · exact hlt i hi
  · rcases hi with hi | hi
    · exact h.far i hi hr
    · rcases hN i hi with h6 | h6
      · exact h.far i (h.gm i h6) hr
      · have := hR i hr; omega

theorem Zz.only (h : Zz R K w g G z t) (M : MachMem R K) {S : Nat → Prop} (hO : Only S w w') (hS : ∀ i, G i → ¬ S i) (hR : ∀ i, R i → ¬ S i) : Zz R K w' g G z t := by
  obtain ⟨Gm, Dv, Ev, p, pc, A, c, h⟩ := h
  exact ⟨Gm, Dv, Ev, p, pc, A, c, h.only M hO hS hR⟩
theorem Zz.old (h : Zz R K w g G z t) {i : Nat} (hi : G i) : i < w.heap.size := by
  obtain ⟨Gm, Dv, Ev, p, pc, A, c, h⟩ := h
  exact h.old i hi
theorem Zz.own (h : Zz R K w g G z t) : G g := by
  obtain ⟨Gm, Dv, Ev, p, pc, A, c, h⟩ := h
  exact h.gg
/-- its numbers -/
theorem Zz.cells (h : Zz R K w g G z t) : w.cell? ⟨g, 0, none⟩ = some (.int .i64 (z.lc : Int)) ∧ w.cell? ⟨g, 1, none⟩ = some (.int .i64 (z.lp : Int)) ∧ w.cell? ⟨g, 2, none⟩ = some (.int .i64 (z.pb : Int)) ∧ w.cell? ⟨g, 3, none⟩ = some (.int .i64 (z.dict : Int)) ∧
    w.cell? ⟨g, 8, none⟩ = some (.int .i64 (z.st : Int)) ∧ w.cell? ⟨g, 9, none⟩ = some (.int .u32 (z.r0 : Int)) ∧ w.cell? ⟨g, 10, none⟩ = some (.int .u32 (z.r1 : Int)) ∧ w.cell? ⟨g, 11, none⟩ = some (.int .u32 (z.r2 : Int)) ∧ w.cell? ⟨g, 12, none⟩ = some (.int .u32 (z.r3 : Int)) ∧
    w.cell? ⟨g, 13, none⟩ = some (.bool z.ended) ∧ w.cell? ⟨g, 14, none⟩ = some (.bool z.bad) ∧ (∀ i, w.frozen? ⟨g, i, none⟩ = false) := by
  obtain ⟨Gm, Dv, Ev, p, pc, A, c, h⟩ := h
  exact ⟨h.blk.cell 0, h.blk.cell 1, h.blk.cell 2, h.blk.cell 3, h.blk.cell 8, h.blk.cell 9, h.blk.cell 10, h.blk.cell 11, h.blk.cell 12, h.blk.cell 13, h.blk.cell 14, fun i => h.blk.free i⟩
/-- what was told is read -/
theorem Zz.told (h : Zz R K w g G z t) : ∃ A c, w.cell? ⟨g, 7, none⟩ = some (.slice A z.out.length c) ∧ Sl w A z.out.length (bv z.out) := by
  obtain ⟨Gm, Dv, Ev, p, pc, A, c, h⟩ := h
  exact ⟨A, c, h.blk.cell 7, Sl.of_own h.out⟩
theorem Zz.put (h : Zz R K w g G z t) (M : MachMem R K) {i : Nat} {u : Value} {z' : Lzs} (hz : ∀ Dv Ev p pc A c, (zCells z Dv Ev p t.ps.length pc A z.out.length c).setIfInBounds i u = zCells z' Dv Ev p t.ps.length pc A z.out.length c) (ho : z'.out = z.out) :
    Zz R K (w.setCell ⟨g, i, none⟩ u) g G z' t := by
  obtain ⟨Gm, Dv, Ev, p, pc, A, c, h⟩ := h
  exact ⟨Gm, Dv, Ev, p, pc, A, c, h.put M (hz Dv Ev p pc A c) ho⟩
end

/-- what a call leaves, with a state -/
def ZPost {σ : Type} (R : Nat → Prop) (K : World → Value → Value → (Nat → Prop) → σ → Prop) (w : World) (g : Nat) (G : Nat → Prop) (z : Lzs) (t : Pm σ) (v : Value) : Ending → World → Prop :=
  OwnPost (fun w' G' => Zz R K w' g G' z t) w G v

/-- What the reference's bit and its straight bits owe. -/
structure ZOps {σ : Type} (M : Mach σ) (ok : Nat → σ → Prop) (R : Nat → Prop) (K : World → Value → Value → (Nat → Prop) → σ → Prop) : Prop where
  mem : MachMem R K
  okm : MachOk M ok
  bit : ∀ {w g G z t L k a} {b : Int}, Zz R K w g G z t → PmOk ok L (k + 1) t → a < L → L ≤ 100000000 → M.may b →
    Calls Tryz.prog 54 #[.pointer (some ⟨g, 0, none⟩), .int .i64 ((a : Nat) : Int), .int .i64 b] w (ZPost R K w g G z (bitP M t a b).2 (.int .i64 ((bitP M t a b).1 : Int)))
  str : ∀ {w g G z t L k n v}, Zz R K w g G z t → PmOk ok L (k + 1) t → n ≤ 26 → v < 4294967296 → (M.enc = true → v < 2 ^ n) →
    Calls Tryz.prog 59 #[.pointer (some ⟨g, 0, none⟩), .int .i64 ((n : Nat) : Int), .int .u32 ((v : Nat) : Int)] w (ZPost R K w g G z ⟨t.ps, (M.str t.x n v).2⟩ (.int .u32 ((M.str t.x n v).1 : Int)))

/-- one call behind another -/
theorem own_then {w w1 w2 : World} {G G1 G2 : Nat → Prop} (hN : ∀ i, G1 i → G i ∨ w.heap.size ≤ i) (hO : Only G w w1) (hN2 : ∀ i, G2 i → G1 i ∨ w1.heap.size ≤ i) (hO2 : Only G1 w1 w2) : (∀ i, G2 i → G i ∨ w.heap.size ≤ i) ∧ Only G w w2 := by
  refine ⟨fun i hi => ?_, hO.trans' hO2 hN⟩
  rcases hN2 i hi with h | h
  · exact hN i h
  · exact .inr (Nat.le_trans hO.size h)
end Go.Proofs.YtoencondpbkomaaGreat

/-
  The reference of LZMA: powers, trees, the byte at a distance.
-/
namespace Go.Proofs.YtoencondpbkomaaGreat
open Go.RowKit

set_option maxHeartbeats 1000000 in
theorem power_any {n : Nat} (hn : n ≤ 40) (w : World) : Calls Tryz.prog 36 #[.int .i64 (n : Int)] w fun x w' => x = .returned (.int .i64 ((2 ^ n : Nat) : Int)) ∧ w = w' := by
  have HN := Lib.hid hn
  clear hn
  go_enter Tryz.func36, Tryz.ntmps36
  go_wp2_with fail
  go_loopw [3, 4] (fun v i wr => ∃ j : Nat, j ≤ n ∧ i = .int .i64 (j : Int) ∧ v = .int .i64 ((2 ^ j : Nat) : Int) ∧ w = wr) (fun _ i _ => n - (intOf i).toNat)
  case atStart => exact ⟨0, Nat.zero_le _, rfl, rfl, rfl⟩
  case round =>
    obtain ⟨j, hj, rfl, rfl, hw⟩ := hrel
    subst hw
    by_cases hlt : j < n
    · have hlt' : (j : Int) < (n : Int) := by omega
      have ej : IntKind.i64.wrap ((j : Int) + 1) = (j : Int) + 1 := IntWalk.i64_in _ (by have := HN.out; omega)
      have hp : 2 ^ j ≤ 2 ^ 40 := Nat.pow_le_pow_right (by omega) (by have := HN.out; omega)
      obtain ⟨y, hy⟩ : ∃ y, y = 2 ^ j := ⟨_, rfl⟩
      obtain ⟨y2, hy2⟩ : ∃ y, y = 2 ^ (j + 1) := ⟨_, rfl⟩
      have hyy : y2 = y * 2 := by rw [hy2, hy, Nat.pow_succ]
      rw [← hy] at hp ⊢
      have ep : IntKind.i64.wrap ((y : Int) * 2) = (y2 : Int) := by rw [show (y : Int) * 2 = (y2 : Int) by omega]; exact IntWalk.i64_in _ (by omega)
      have HY2 := Lib.hid hy2
      clear hp hy hy2 hyy
      go_wp2_with fail
      go_roundw
      case rel => exact ⟨j + 1, by omega, by go_num, by rw [← HY2.out], by first | trivial | rfl⟩
      case measure => simp [intOf]; omega
    · obtain rfl : j = n := by omega
      have hirr : ¬ (j : Int) < (j : Int) := by omega
      go_wp2_with fail
      go_ret
      exact ⟨rfl, by first | trivial | rfl⟩

section
variable {σ : Type} {M : Mach σ} {ok : Nat → σ → Prop} {R : Nat → Prop} {K : World → Value → Value → (Nat → Prop) → σ → Prop} {w : World} {g : Nat} {G : Nat → Prop} {z : Lzs} {t : Pm σ}

/-- what is wanted, as the text reckons it -/
theorem want_text {v : Int} {i : Nat} {P : Int} (hP : P = ((2 ^ i : Nat) : Int)) : (v.tdiv P).tmod 2 = want v i := by rw [hP]; rfl
theorem tdiv_lit {v P : Int} (h0 : -9223372036854775807 ≤ v) (h1 : v ≤ 9223372036854775807) (hP : 1 ≤ P) : -9223372036854775807 ≤ v.tdiv P ∧ v.tdiv P ≤ 9223372036854775807 := by
  rcases Int.le_total 0 v with h | h
  · rw [Int.tdiv_eq_ediv_of_nonneg h]
    have a := Int.ediv_nonneg h (show 0 ≤ P by omega)
    have b := Int.ediv_le_self P h
    omega
  · obtain ⟨u, rfl⟩ : ∃ u, v = -u := ⟨-v, by omega⟩
    rw [Int.neg_tdiv, Int.tdiv_eq_ediv_of_nonneg (by omega)]
    have a := Int.ediv_nonneg (show 0 ≤ u by omega) (show 0 ≤ P by omega)
    have b := Int.ediv_le_self P (show 0 ≤ u by omega)
    omega
theorem tmod_two (v : Int) : -1 ≤ v.tmod 2 ∧ v.tmod 2 ≤ 1 := by
  have := Int.tmod_lt_of_pos v (show (0 : Int) < 2 by decide)
  have := Int.lt_tmod_of_pos v (show (0 : Int) < 2 by decide)
  omega

/-- a state on the way, reached from the beginning -/
def ZAt (R : Nat → Prop) (K : World → Value → Value → (Nat → Prop) → σ → Prop) (w0 : World) (G0 : Nat → Prop) (w : World) (g : Nat) (z : Lzs) (t : Pm σ) : Prop :=
  ∃ G, Zz R K w g G z t ∧ (∀ i, G i → G0 i ∨ w0.heap.size ≤ i) ∧ Only G0 w0 w
theorem ZAt.begin (h : Zz R K w g G z t) : ZAt R K w G w g z t := ⟨G, h, fun _ h => .inl h, Only.refl _ _⟩
theorem ZAt.post {w0 : World} {G0 : Nat → Prop} (h : ZAt R K w0 G0 w g z t) {v : Value} : ZPost R K w0 g G0 z t v (.returned v) w := ⟨rfl, h⟩
theorem ZAt.next {w0 w' : World} {G0 : Nat → Prop} {z' : Lzs} {t' : Pm σ} {v : Value} {e : Ending} (hN : ∀ i, G i → G0 i ∨ w0.heap.size ≤ i) (hO : Only G0 w0 w) (h : ZPost R K w g G z' t' v e w') : e = .returned v ∧ ZAt R K w0 G0 w' g z' t' := by
  obtain ⟨rfl, G', hz, hN', hO'⟩ := h
  obtain ⟨h1, h2⟩ := own_then hN hO hN' hO'
  exact ⟨rfl, G', hz, h1, h2⟩
/-- a bit, on the way -/
theorem ZAt.bit (Z : ZOps M ok R K) {w0 : World} {G0 : Nat → Prop} (h : ZAt R K w0 G0 w g z t) {L k a : Nat} {b : Int} (ht : PmOk ok L (k + 1) t) (ha : a < L) (hL : L ≤ 100000000) (hb : M.may b) :
    Calls Tryz.prog 54 #[.pointer (some ⟨g, 0, none⟩), .int .i64 (a : Int), .int .i64 b] w fun x w' => x = .returned (.int .i64 ((bitP M t a b).1 : Int)) ∧ ZAt R K w0 G0 w' g z (bitP M t a b).2 := by
  obtain ⟨G, hz, hN, hO⟩ := h
  exact (Z.bit hz ht ha hL hb).mono fun _ _ hp => ZAt.next hN hO hp

set_option maxHeartbeats 4000000 in
theorem ztree_any (Z : ZOps M ok R K) {w0 : World} {G0 : Nat → Prop} {L k a n : Nat} {v : Int} (h : ZAt R K w0 G0 w g z t) (ht : PmOk ok L (k + n) t) (ha : a + 2 ^ n ≤ L) (hL : L ≤ 100000000) (hn : n ≤ 8) (hv : M.mayN v) (h0 : -9223372036854775807 ≤ v) (h1 : v ≤ 9223372036854775807) :
    Calls Tryz.prog 56 #[.pointer (some ⟨g, 0, none⟩), .int .i64 (a : Int), .int .i64 (n : Int), .int .i64 v] w fun x w' => x = .returned (.int .i64 ((treeP M t a n v).1 : Int)) ∧ ZAt R K w0 G0 w' g z (treeP M t a n v).2 := by
  have HT := Lib.hid ht
  have HA := Lib.hid ha
  have HL := Lib.hid hL
  have HN := Lib.hid hn
  have HV := Lib.hid hv
  have H01 := Lib.hid (show -9223372036854775807 ≤ v ∧ v ≤ 9223372036854775807 from ⟨h0, h1⟩)
  have HZ := Lib.hid h
  have en : IntKind.i64.wrap ((n : Int) - 1) = (n : Int) - 1 := IntWalk.i64_in _ (by omega)
  clear ht ha hL hn hv h0 h1 h
  go_enter Tryz.func56, Tryz.ntmps56
  go_wp2_with fail
  go_loopw [9, 10] (fun m i wr => ∃ (j : Nat) (iv : Int), j ≤ n ∧ i = .int .i64 iv ∧ iv + 1 = (n : Int) - (j : Int) ∧ m = .int .i64 (((treeG M t a n v j).m : Nat) : Int) ∧ ZAt R K w0 G0 wr g z (treeG M t a n v j).t) (fun _ i _ => (intOf i + 1).toNat)
  case atStart => exact ⟨0, _, Nat.zero_le _, rfl, by omega, rfl, HZ.out⟩
  case round =>
    clear HZ
    obtain ⟨j, iv, hj, rfl, hiv, rfl, hz⟩ := hrel
    obtain ⟨t1, t2, t3⟩ := treeG_ok Z.okm HT.out HA.out HV.out j hj
    have hp8 : 2 ^ n ≤ 256 := pow8 HN.out
    have hpj : 2 ^ (j + 1) ≤ 2 * 2 ^ n := by rw [Nat.pow_succ]; have := Nat.pow_le_pow_right (show 0 < 2 by omega) hj; omega
    by_cases hlt : j < n
    · obtain ⟨i, hi⟩ : ∃ i, i = n - 1 - j := ⟨_, rfl⟩
      obtain rfl : iv = (i : Int) := by omega
      have hpj2 : 2 ^ (j + 1) ≤ 2 ^ n := Nat.pow_le_pow_right (by omega) hlt
      have hL := HL.out
      have hA := HA.out
      have hstep : treeG M t a n v (j + 1) = tgStep M a j (want v i) (treeG M t a n v j) := by rw [hi]; rfl
      have K := ZAt.bit Z hz (k := k + n - (j + 1)) (a := a + (treeG M t a n v j).m) (b := want v i) (by rw [show k + n - (j + 1) + 1 = k + n - j by omega]; exact t1) (by omega) hL (want_may HV.out _)
      have hb := (bitP_ok Z.okm (k := k + n - (j + 1)) (a := a + (treeG M t a n v j).m) (w := want v i) (by rw [show k + n - (j + 1) + 1 = k + n - j by omega]; exact t1) (by omega) (want_may HV.out _)).1
      have HST := Lib.hid hstep
      have KP := Lib.hid (power_any (show i ≤ 40 by have := HN.out; omega))
      obtain ⟨P, hP⟩ : ∃ P : Int, P = ((2 ^ i : Nat) : Int) := ⟨_, rfl⟩
      have hP1 : 1 ≤ P := by have := Nat.two_pow_pos i; omega
      have P0 : ¬ P = 0 := by omega
      have w1 := tdiv_lit H01.out.1 H01.out.2 hP1
      have w2 := tmod_two (v.tdiv P)
      have e1 : IntKind.i64.wrap (v.tdiv P) = v.tdiv P := IntWalk.i64_in _ (by omega)
      have e2 : (v.tdiv P).tmod 2 = want v i := want_text hP
      rw [← hP] at KP
      obtain ⟨tg, htg⟩ : ∃ tg, tg = treeG M t a n v j := ⟨_, rfl⟩
      rw [← htg] at K hb t3 HST ⊢
      obtain ⟨wv, hwv⟩ : ∃ wv, wv = want v i := ⟨_, rfl⟩
      rw [← hwv] at K hb HST e2
      obtain ⟨bb, hbb⟩ : ∃ bb, bb = (bitP M tg.t (a + tg.m) wv).1 := ⟨_, rfl⟩
      rw [← hbb] at K hb
      have e3 : IntKind.i64.wrap wv = wv := IntWalk.i64_in _ (by omega)
      obtain ⟨ad, had⟩ : ∃ ad, ad = a + tg.m := ⟨_, rfl⟩
      rw [← had] at K hbb
      obtain ⟨m2, hm2⟩ : ∃ m2, m2 = 2 * tg.m + bb := ⟨_, rfl⟩
      have HM2 := Lib.hid (show (tgStep M a j wv tg).m = m2 by rw [hm2, hbb, had]; rfl)
      have e4 : IntKind.i64.wrap (2 * (tg.m : Int)) = 2 * (tg.m : Int) := IntWalk.i64_in _ (by omega)
      have e5 : IntKind.i64.wrap ((a : Int) + (tg.m : Int)) = (ad : Int) := by rw [show (a : Int) + (tg.m : Int) = (ad : Int) by omega]; exact IntWalk.i64_in _ (by omega)
      have e6 : IntKind.i64.wrap (2 * (tg.m : Int) + (bb : Int)) = (m2 : Int) := by rw [show 2 * (tg.m : Int) + (bb : Int) = (m2 : Int) by omega]; exact IntWalk.i64_in _ (by omega)
      have hi8 : i ≤ 8 := by have := HN.out; omega
      have e7 : IntKind.i64.wrap ((i : Int) - 1) = (i : Int) - 1 := IntWalk.i64_in _ (by omega)
      have ii : (i : Int) ≥ 0 := by omega
      have HK := Lib.hid K
      have HI := Lib.hid hi
      have HAD := Lib.hid had
      have HJ := Lib.hid (show j < n from hlt)
      clear K hb hstep t1 t2 t3 hp8 hpj hpj2 hL hA hP hP1 w1 w2 htg hwv hbb hz hi hj hlt hiv had hm2 hi8
      go_wp2_with fail
      refine (KP.out _).mono ?_
      rintro e w2 ⟨rfl, rfl⟩
      clear KP
      go_wp2_with fail
      refine HK.out.mono ?_
      rintro e w3 ⟨rfl, hz3⟩
      have HZ3 := Lib.hid hz3
      clear hz3 HK e1 e2 e3 e4 e5
      go_wp2_with fail
      go_roundw
      case rel =>
        refine ⟨j + 1, (i : Int) - 1, by have := HJ.out; omega, rfl, by have := HI.out; have := HJ.out; omega, ?_, ?_⟩
        · rw [HST.out, HM2.out]
        · rw [HST.out]
          have hz := HZ3.out
          rw [HAD.out] at hz
          exact hz
      case measure => first | (simp [intOf]; done) | (simp [intOf]; omega)
    · obtain rfl : j = n := by omega
      have iin : ¬ iv ≥ 0 := by omega
      have KP := Lib.hid (power_any (show j ≤ 40 by have := HN.out; omega))
      obtain ⟨P, hP⟩ : ∃ P, P = 2 ^ j := ⟨_, rfl⟩
      have HTP := Lib.hid (show (treeP M t a j v).1 = (treeG M t a j v j).m - P by rw [hP]; rfl)
      rw [← hP] at KP t2 hp8 hpj
      obtain ⟨mm, hmm⟩ : ∃ mm, mm = (treeG M t a j v j).m - P := ⟨_, rfl⟩
      have HTP := Lib.hid (show (treeP M t a j v).1 = mm by rw [hmm]; exact HTP.out)
      have e1 : IntKind.i64.wrap ((((treeG M t a j v j).m : Nat) : Int) - (P : Int)) = (mm : Int) := by
        rw [show (((treeG M t a j v j).m : Nat) : Int) - (P : Int) = (mm : Int) by omega]
        exact IntWalk.i64_in _ (by omega)
      have HZ := Lib.hid hz
      clear hz t1 t2 t3 hp8 hpj hlt hj hiv hP hmm
      go_wp2_with fail
      refine (KP.out _).mono ?_
      rintro e w2 ⟨rfl, rfl⟩
      go_wp2_with fail
      go_ret
      refine ⟨?_, HZ.out⟩
      rw [HTP.out]
      rfl
end
end Go.Proofs.YtoencondpbkomaaGreat

/-
  The reference of LZMA: trees the other way round, straight bits on the way, the byte at a distance.
-/
namespace Go.Proofs.YtoencondpbkomaaGreat
open Go.RowKit

section
variable {σ : Type} {M : Mach σ} {ok : Nat → σ → Prop} {R : Nat → Prop} {K : World → Value → Value → (Nat → Prop) → σ → Prop} {w : World} {g : Nat} {G : Nat → Prop} {z : Lzs} {t : Pm σ}

theorem ZAt.str (Z : ZOps M ok R K) {w0 : World} {G0 : Nat → Prop} (h : ZAt R K w0 G0 w g z t) {L k n v : Nat} (ht : PmOk ok L (k + 1) t) (hn : n ≤ 26) (hv : v < 4294967296) (hv2 : M.enc = true → v < 2 ^ n) :
    Calls Tryz.prog 59 #[.pointer (some ⟨g, 0, none⟩), .int .i64 (n : Int), .int .u32 (v : Int)] w fun x w' => x = .returned (.int .u32 ((M.str t.x n v).1 : Int)) ∧ ZAt R K w0 G0 w' g z ⟨t.ps, (M.str t.x n v).2⟩ := by
  obtain ⟨G, hz, hN, hO⟩ := h
  exact (Z.str hz ht hn hv hv2).mono fun _ _ hp => ZAt.next hN hO hp
theorem ZAt.drewN (Z : ZOps M ok R K) {w0 : World} {G0 : Nat → Prop} (h : ZAt R K w0 G0 w g z t) (n : Nat) : ZAt R K w0 G0 (w.drewN n) g z t := by
  obtain ⟨G, hz, hN, hO⟩ := h
  exact ⟨G, hz.only Z.mem ((Only.refl (fun _ => False) w).drewN n) (fun _ _ h => h) (fun _ _ h => h), hN, hO.drewN n⟩

set_option maxHeartbeats 4000000 in
theorem zrev_any (Z : ZOps M ok R K) {w0 : World} {G0 : Nat → Prop} {L k a n : Nat} {v : Int} (h : ZAt R K w0 G0 w g z t) (ht : PmOk ok L (k + n) t) (ha : a + 2 ^ n ≤ L) (hL : L ≤ 100000000) (hn : n ≤ 8) (hv : M.mayN v) (h0 : -9223372036854775807 ≤ v) (h1 : v ≤ 9223372036854775807) :
    Calls Tryz.prog 58 #[.pointer (some ⟨g, 0, none⟩), .int .i64 (a : Int), .int .i64 (n : Int), .int .i64 v] w fun x w' => x = .returned (.int .i64 ((revP M t a n v).1 : Int)) ∧ ZAt R K w0 G0 w' g z (revP M t a n v).2 := by
  have HT := Lib.hid ht
  have HA := Lib.hid ha
  have HL := Lib.hid hL
  have HN := Lib.hid hn
  have HV := Lib.hid hv
  have H01 := Lib.hid (show -9223372036854775807 ≤ v ∧ v ≤ 9223372036854775807 from ⟨h0, h1⟩)
  have HZ := Lib.hid h
  clear ht ha hL hn hv h0 h1 h
  go_enter Tryz.func58, Tryz.ntmps58
  go_wp2_with fail
  go_loopw [9, 10, 11] (fun m o i wr => ∃ (j : Nat), j ≤ n ∧ i = .int .i64 (j : Int) ∧ m = .int .i64 (((revG M t a v j).m : Nat) : Int) ∧ o = .int .i64 (((revG M t a v j).o : Nat) : Int) ∧ ZAt R K w0 G0 wr g z (revG M t a v j).t) (fun _ _ i _ => n - (intOf i).toNat)
  case atStart => exact ⟨0, Nat.zero_le _, rfl, rfl, rfl, HZ.out⟩
  case round =>
    clear HZ
    obtain ⟨j, hj, rfl, rfl, rfl, hz⟩ := hrel
    obtain ⟨t1, t2, t3, t4⟩ := revG_ok Z.okm HT.out HA.out HV.out j hj
    have hp8 : 2 ^ n ≤ 256 := pow8 HN.out
    by_cases hlt : j < n
    · have hpj2 : 2 ^ (j + 1) ≤ 2 ^ n := Nat.pow_le_pow_right (by omega) hlt
      have hpj0 : 2 ^ j ≤ 2 ^ (j + 1) := Nat.pow_le_pow_right (by omega) (by omega)
      have hL := HL.out
      have hA := HA.out
      have hstep : revG M t a v (j + 1) = tgStep M a j (want v j) (revG M t a v j) := rfl
      have K := ZAt.bit Z hz (k := k + n - (j + 1)) (a := a + (revG M t a v j).m) (b := want v j) (by rw [show k + n - (j + 1) + 1 = k + n - j by omega]; exact t1) (by omega) hL (want_may HV.out _)
      have hb := (bitP_ok Z.okm (k := k + n - (j + 1)) (a := a + (revG M t a v j).m) (w := want v j) (by rw [show k + n - (j + 1) + 1 = k + n - j by omega]; exact t1) (by omega) (want_may HV.out _)).1
      have HST := Lib.hid hstep
      have KP := Lib.hid (power_any (show j ≤ 40 by have := HN.out; omega))
      obtain ⟨Pn, hPn⟩ : ∃ P, P = 2 ^ j := ⟨_, rfl⟩
      obtain ⟨P, hP⟩ : ∃ P : Int, P = (Pn : Int) := ⟨_, rfl⟩
      have hPn1 : 1 ≤ Pn := by rw [hPn]; exact Nat.two_pow_pos j
      have hP1 : 1 ≤ P := by omega
      have P0 : ¬ P = 0 := by omega
      have w1 := tdiv_lit H01.out.1 H01.out.2 hP1
      have w2 := tmod_two (v.tdiv P)
      have e1 : IntKind.i64.wrap (v.tdiv P) = v.tdiv P := IntWalk.i64_in _ (by omega)
      have e2 : (v.tdiv P).tmod 2 = want v j := want_text (by rw [hP, hPn])
      rw [← hPn, ← hP] at KP
      obtain ⟨tg, htg⟩ : ∃ tg, tg = revG M t a v j := ⟨_, rfl⟩
      rw [← htg] at K hb t3 t4 HST ⊢
      obtain ⟨wv, hwv⟩ : ∃ wv, wv = want v j := ⟨_, rfl⟩
      rw [← hwv] at K hb HST e2
      obtain ⟨bb, hbb⟩ : ∃ bb, bb = (bitP M tg.t (a + tg.m) wv).1 := ⟨_, rfl⟩
      rw [← hbb] at K hb
      have e3 : IntKind.i64.wrap wv = wv := IntWalk.i64_in _ (by omega)
      obtain ⟨ad, had⟩ : ∃ ad, ad = a + tg.m := ⟨_, rfl⟩
      rw [← had] at K hbb
      obtain ⟨m2, hm2⟩ : ∃ m2, m2 = 2 * tg.m + bb := ⟨_, rfl⟩
      obtain ⟨bp, hbp⟩ : ∃ bp, bp = bb * Pn := ⟨_, rfl⟩
      have hbp1 : bp ≤ Pn := by rw [hbp]; have := Nat.mul_le_mul_right Pn hb; omega
      obtain ⟨o2, ho2⟩ : ∃ o2, o2 = tg.o + bp := ⟨_, rfl⟩
      have HM2 := Lib.hid (show (tgStep M a j wv tg).m = m2 ∧ (tgStep M a j wv tg).o = o2 by rw [hm2, ho2, hbp, hbb, had, hPn]; exact ⟨rfl, rfl⟩)
      have e4 : IntKind.i64.wrap (2 * (tg.m : Int)) = 2 * (tg.m : Int) := IntWalk.i64_in _ (by omega)
      have e5 : IntKind.i64.wrap ((a : Int) + (tg.m : Int)) = (ad : Int) := by rw [show (a : Int) + (tg.m : Int) = (ad : Int) by omega]; exact IntWalk.i64_in _ (by omega)
      have e6 : IntKind.i64.wrap (2 * (tg.m : Int) + (bb : Int)) = (m2 : Int) := by rw [show 2 * (tg.m : Int) + (bb : Int) = (m2 : Int) by omega]; exact IntWalk.i64_in _ (by omega)
      have e7 : IntKind.i64.wrap ((j : Int) + 1) = (j : Int) + 1 := IntWalk.i64_in _ (by have := HN.out; omega)
      have e8 : IntKind.i64.wrap ((bb : Int) * P) = (bp : Int) := by rw [hP, ← Int.natCast_mul, ← hbp]; exact IntWalk.i64_in _ (by omega)
      have e9 : IntKind.i64.wrap ((tg.o : Int) + (bp : Int)) = (o2 : Int) := by rw [show (tg.o : Int) + (bp : Int) = (o2 : Int) by omega]; exact IntWalk.i64_in _ (by omega)
      have hlt' : (j : Int) < (n : Int) := by omega
      have HK := Lib.hid K
      have HAD := Lib.hid had
      have HJ := Lib.hid (show j < n from hlt)
      clear K hb hstep t1 t2 t3 t4 hp8 hpj2 hpj0 hL hA hP hPn hPn1 hP1 w1 w2 htg hwv hbb hz hj hlt had hm2 hbp hbp1 ho2
      go_wp2_with fail
      refine (KP.out _).mono ?_
      rintro e w2 ⟨rfl, rfl⟩
      go_wp2_with fail
      refine HK.out.mono ?_
      rintro e w3 ⟨rfl, hz3⟩
      have HZ3 := Lib.hid hz3
      clear hz3 HK e1 e2 e3 e5
      go_wp2_with fail
      refine (KP.out _).mono ?_
      rintro e w4 ⟨rfl, rfl⟩
      clear KP
      go_wp2_with fail
      go_roundw
      case rel =>
        refine ⟨j + 1, by have := HJ.out; omega, by go_num, ?_, ?_, ?_⟩
        · rw [HST.out, HM2.out.1]
        · rw [HST.out, HM2.out.2]
        · rw [HST.out]
          have hz := HZ3.out
          rw [HAD.out] at hz
          exact hz
      case measure => simp [intOf]; have := HJ.out; omega
    · obtain rfl : j = n := by omega
      have hirr : ¬ (j : Int) < (j : Int) := by omega
      have HTP := Lib.hid (show (revP M t a j v).1 = (revG M t a v j).o from rfl)
      have HZ := Lib.hid hz
      clear hz t1 t2 t3 t4 hp8 hlt hj
      go_wp2_with fail
      go_ret
      refine ⟨?_, HZ.out⟩
      rw [HTP.out]
      rfl

set_option maxHeartbeats 2000000 in
theorem zback_any {d : Nat} (h : Zz R K w g G z t) (hd : d < 4294967296) (hl : z.out.length ≤ 1000000000) (hdi : z.dict < 4294967296) :
    Calls Tryz.prog 42 #[.pointer (some ⟨g, 0, none⟩), .int .u32 (d : Int)] w fun x w' => x = .returned (.tuple #[.int .u8 ((z.back d).toNat : Int), .bool (z.has d)]) ∧ ∃ k, w.drewN k = w' := by
  obtain ⟨A, c, c7, hS⟩ := h.told
  obtain ⟨_, _, _, c3, _⟩ := h.cells
  have ed : IntKind.i64.wrap (d : Int) = (d : Int) := IntWalk.i64_in _ (by omega)
  clear h
  by_cases h1 : d < z.out.length
  · by_cases h2 : d < z.dict
    · have hh : z.has d = true := by unfold Lzs.has; simp [h1, h2]
      have hb : z.back d = z.out.getD (z.out.length - 1 - d) 0 := by unfold Lzs.back; rw [if_pos hh]
      obtain ⟨i, hi⟩ : ∃ i, i = z.out.length - 1 - d := ⟨_, rfl⟩
      obtain ⟨b, o, rfl, _, hc⟩ := hS.2 (by omega)
      have cx : w.cell? ⟨b, o + i, none⟩ = some (.int .u8 ((z.back d).toNat : Int)) := by rw [hc i (by omega), bv_get _ _ (by omega), hb, hi]
      have g1 : ¬ (d : Int) ≥ (z.out.length : Int) := by omega
      have g2 : ¬ (d : Int) ≥ (z.dict : Int) := by omega
      have e1 : IntKind.i64.wrap ((z.out.length : Int) - 1) = (z.out.length : Int) - 1 := IntWalk.i64_in _ (by omega)
      have e2 : IntKind.i64.wrap ((z.out.length : Int) - 1 - (d : Int)) = (i : Int) := by rw [show (z.out.length : Int) - 1 - (d : Int) = (i : Int) by omega]; exact IntWalk.i64_in _ (by omega)
      have i0 : (0 : Int) ≤ (i : Int) := by omega
      have i1 : (i : Int) < (z.out.length : Int) := by omega
      rw [hh]
      clear hS hc hi hb hh h1 h2 hd hl hdi
      generalize z.back d = x at *
      generalize z.out.length = n at *
      go_enter Tryz.func42, Tryz.ntmps42
      go_wp2_with fail
      go_quiet (fail)
      go_wp2_with fail
      go_ret2
      exact ⟨rfl, _, rfl⟩
    · have hh : z.has d = false := by unfold Lzs.has; simp; omega
      have hb : z.back d = 0 := by unfold Lzs.back; rw [if_neg (by rw [hh]; simp)]
      have g1 : ¬ (d : Int) ≥ (z.out.length : Int) := by omega
      have g2 : (d : Int) ≥ (z.dict : Int) := by omega
      rw [hh, hb]
      clear hS hb hh h1 h2 hd hl hdi
      generalize z.out.length = n at *
      go_enter Tryz.func42, Tryz.ntmps42
      go_wp2_with fail
      go_ret2
      exact ⟨rfl, 0, rfl⟩
  · have hh : z.has d = false := by unfold Lzs.has; simp; omega
    have hb : z.back d = 0 := by unfold Lzs.back; rw [if_neg (by rw [hh]; simp)]
    have g1 : (d : Int) ≥ (z.out.length : Int) := by omega
    rw [hh, hb]
    clear hS hb hh h1 hd hl hdi
    generalize z.out.length = n at *
    go_enter Tryz.func42, Tryz.ntmps42
    go_wp2_with fail
    go_ret2
    exact ⟨rfl, 0, rfl⟩
end
end Go.Proofs.YtoencondpbkomaaGreat

/-
  The reference of LZMA: a length.
-/
namespace Go.Proofs.YtoencondpbkomaaGreat
open Go.RowKit

section
variable {σ : Type} {M : Mach σ} {ok : Nat → σ → Prop} {R : Nat → Prop} {K : World → Value → Value → (Nat → Prop) → σ → Prop} {w : World} {g : Nat} {G : Nat → Prop} {z : Lzs} {t : Pm σ}

set_option maxHeartbeats 4000000 in
theorem zlen_any (Z : ZOps M ok R K) {w0 : World} {G0 : Nat → Prop} {L k a s : Nat} {v : Int} (h : ZAt R K w0 G0 w g z t) (ht : PmOk ok L (k + 10) t) (ha : a + 514 ≤ L) (hs : s ≤ 15) (hL : L ≤ 100000000) (hv : M.mayN v) (h0 : -1000000 ≤ v) (h1 : v ≤ 1000000) :
    Calls Tryz.prog 39 #[.pointer (some ⟨g, 0, none⟩), .int .i64 (a : Int), .int .i64 (s : Int), .int .i64 v] w fun x w' => x = .returned (.int .i64 ((lenP M t a s v).1 : Int)) ∧ ZAt R K w0 G0 w' g z (lenP M t a s v).2 := by
  obtain ⟨b1, p1⟩ := bitP_ok Z.okm (k := k + 9) ht (show a < L by omega) (may_min (c := 8) (by decide) hv)
  have K1 := ZAt.bit Z h (k := k + 9) (a := a) (b := min (v.tdiv 8) 1) ht (by omega) hL (may_min (c := 8) (by decide) hv)
  have w8 := tdiv_lit (v := v) (P := 8) (by omega) (by omega) (by decide)
  have w16 := tdiv_lit (v := v) (P := 16) (by omega) (by omega) (by decide)
  have e1 : IntKind.i64.wrap (v.tdiv 8) = v.tdiv 8 := IntWalk.i64_in _ (by omega)
  have e2 : IntKind.i64.wrap (v.tdiv 16) = v.tdiv 16 := IntWalk.i64_in _ (by omega)
  have hdef : lenP M t a s v = lenA M (bitP M t a (min (v.tdiv 8) 1)) a s v := rfl
  rw [hdef]
  obtain ⟨B1, hB1⟩ : ∃ B, B = bitP M t a (min (v.tdiv 8) 1) := ⟨_, rfl⟩
  rw [← hB1] at b1 p1 K1 ⊢
  have HK1 := Lib.hid K1
  have e3 : IntKind.i64.wrap (8 * (s : Int)) = 8 * (s : Int) := IntWalk.i64_in _ (by omega)
  by_cases hb0 : B1.1 = 0
  · obtain ⟨ad, had⟩ : ∃ ad, ad = a + 2 + 8 * s := ⟨_, rfl⟩
    have e4 : IntKind.i64.wrap ((a : Int) + 2) = (a : Int) + 2 := IntWalk.i64_in _ (by omega)
    have e5 : IntKind.i64.wrap ((a : Int) + 2 + 8 * (s : Int)) = (ad : Int) := by rw [show (a : Int) + 2 + 8 * (s : Int) = (ad : Int) by omega]; exact IntWalk.i64_in _ (by omega)
    have hres : lenA M B1 a s v = treeP M B1.2 ad 3 v := by unfold lenA; rw [if_pos hb0, had]
    rw [hres]
    have HP1 := Lib.hid (fun (w1 : World) (hz : ZAt R K w0 G0 w1 g z B1.2) => ztree_any Z hz (k := k) (n := 3) (a := ad) (v := v) (p1.mono Z.okm (show k + 3 ≤ k + 9 by omega)) (by show ad + 8 ≤ L; omega) hL (by decide) hv (by omega) (by omega))
    rw [hb0] at HK1
    clear hres hb0 had hdef hB1 b1 p1 K1 w8 w16 ht ha hs hL hv h0 h1 h
    go_enter Tryz.func39, Tryz.ntmps39
    go_wp2_with fail
    refine HK1.out.mono ?_
    rintro e w1 ⟨rfl, hz1⟩
    have HT := Lib.hid (HP1.out w1 hz1)
    clear hz1 HK1 HP1
    go_wp2_with fail
    refine HT.out.mono ?_
    rintro e w2 ⟨rfl, hz2⟩
    have HZ2 := Lib.hid hz2
    clear hz2 HT
    go_wp2_with fail
    go_ret
    exact ⟨rfl, HZ2.out⟩
  · have hv8 := may_less Z.okm (c := 8) (by decide) hv (by rw [hB1] at hb0; exact hb0)
    obtain ⟨b2, p2⟩ := bitP_ok Z.okm (k := k + 8) p1 (show a + 1 < L by omega) (may_min (c := 16) (by decide) hv)
    have HK2 := Lib.hid (fun (w1 : World) (hz : ZAt R K w0 G0 w1 g z B1.2) => ZAt.bit Z hz (k := k + 8) (a := a + 1) (b := min (v.tdiv 16) 1) p1 (by omega) hL (may_min (c := 16) (by decide) hv))
    have hres : lenA M B1 a s v = lenB M (bitP M B1.2 (a + 1) (min (v.tdiv 16) 1)) a s v := by unfold lenA; rw [if_neg hb0]
    rw [hres]
    have hless : ¬ (bitP M B1.2 (a + 1) (min (v.tdiv 16) 1)).1 = 0 → M.mayN (v - 16) := fun hb => may_less Z.okm (c := 16) (by decide) hv hb
    obtain ⟨B2, hB2⟩ : ∃ B, B = bitP M B1.2 (a + 1) (min (v.tdiv 16) 1) := ⟨_, rfl⟩
    rw [← hB2] at b2 p2 HK2 hless ⊢
    have hb1 : B1.1 = 1 := by omega
    rw [hb1] at HK1
    have f1 : IntKind.i64.wrap ((a : Int) + 1) = ((a + 1 : Nat) : Int) := by rw [show (a : Int) + 1 = ((a + 1 : Nat) : Int) by omega]; exact IntWalk.i64_in _ (by omega)
    obtain ⟨a1, ha1⟩ : ∃ a1, a1 = a + 1 := ⟨_, rfl⟩
    rw [← ha1] at f1 HK2
    by_cases hb20 : B2.1 = 0
    · obtain ⟨ad, had⟩ : ∃ ad, ad = a + 130 + 8 * s := ⟨_, rfl⟩
      have e4 : IntKind.i64.wrap ((a : Int) + 130) = (a : Int) + 130 := IntWalk.i64_in _ (by omega)
      have e5 : IntKind.i64.wrap ((a : Int) + 130 + 8 * (s : Int)) = (ad : Int) := by rw [show (a : Int) + 130 + 8 * (s : Int) = (ad : Int) by omega]; exact IntWalk.i64_in _ (by omega)
      have e6 : IntKind.i64.wrap (v - 8) = v - 8 := IntWalk.i64_in _ (by omega)
      obtain ⟨u, hu⟩ : ∃ u, u = (treeP M B2.2 ad 3 (v - 8)).1 := ⟨_, rfl⟩
      have hres2 : lenB M B2 a s v = (8 + u, (treeP M B2.2 ad 3 (v - 8)).2) := by unfold lenB; rw [if_pos hb20, hu, had]
      rw [hres2]
      have hu8 := (treeP_ok Z.okm (k := k) (n := 3) (a := ad) (p2.mono Z.okm (show k + 3 ≤ k + 8 by omega)) (by show ad + 8 ≤ L; omega) hv8).1
      have HP1 := Lib.hid (fun (w1 : World) (hz : ZAt R K w0 G0 w1 g z B2.2) => ztree_any Z hz (k := k) (n := 3) (a := ad) (v := v - 8) (p2.mono Z.okm (show k + 3 ≤ k + 8 by omega)) (by show ad + 8 ≤ L; omega) hL (by decide) hv8 (by omega) (by omega))
      rw [← hu] at HP1 hu8
      rw [hb20] at HK2
      have e7 : IntKind.i64.wrap (8 + (u : Int)) = ((8 + u : Nat) : Int) := by rw [show 8 + (u : Int) = ((8 + u : Nat) : Int) by omega]; exact IntWalk.i64_in _ (by have : u < 8 := hu8; omega)
      obtain ⟨v8, hv8e⟩ : ∃ v8, v8 = 8 + u := ⟨_, rfl⟩
      rw [← hv8e] at e7 ⊢
      clear hres hres2 hb0 hb1 hb20 had hdef hB1 hB2 b1 b2 p1 p2 K1 w8 w16 ht ha hs hL hv hv8 h0 h1 h hless hu hu8 ha1 hv8e
      go_enter Tryz.func39, Tryz.ntmps39
      go_wp2_with fail
      refine HK1.out.mono ?_
      rintro e w1 ⟨rfl, hz1⟩
      have HT2 := Lib.hid (HK2.out w1 hz1)
      clear hz1 HK1 HK2
      go_wp2_with fail
      refine HT2.out.mono ?_
      rintro e w2 ⟨rfl, hz2⟩
      have HT := Lib.hid (HP1.out w2 hz2)
      clear hz2 HT2 HP1
      go_wp2_with fail
      refine HT.out.mono ?_
      rintro e w3 ⟨rfl, hz3⟩
      have HZ3 := Lib.hid hz3
      clear hz3 HT
      go_wp2_with fail
      go_ret
      exact ⟨rfl, HZ3.out⟩
    · have hv16 := hless hb20
      obtain ⟨ad, had⟩ : ∃ ad, ad = a + 258 := ⟨_, rfl⟩
      have e5 : IntKind.i64.wrap ((a : Int) + 258) = (ad : Int) := by rw [show (a : Int) + 258 = (ad : Int) by omega]; exact IntWalk.i64_in _ (by omega)
      have e6 : IntKind.i64.wrap (v - 16) = v - 16 := IntWalk.i64_in _ (by omega)
      obtain ⟨u, hu⟩ : ∃ u, u = (treeP M B2.2 ad 8 (v - 16)).1 := ⟨_, rfl⟩
      have hres2 : lenB M B2 a s v = (16 + u, (treeP M B2.2 ad 8 (v - 16)).2) := by unfold lenB; rw [if_neg hb20, hu, had]
      rw [hres2]
      have hu8 := (treeP_ok Z.okm (k := k) (n := 8) (a := ad) p2 (by show ad + 256 ≤ L; omega) hv16).1
      have HP1 := Lib.hid (fun (w1 : World) (hz : ZAt R K w0 G0 w1 g z B2.2) => ztree_any Z hz (k := k) (n := 8) (a := ad) (v := v - 16) p2 (by show ad + 256 ≤ L; omega) hL (by decide) hv16 (by omega) (by omega))
      rw [← hu] at HP1 hu8
      have hb21 : B2.1 = 1 := by omega
      rw [hb21] at HK2
      have e7 : IntKind.i64.wrap (16 + (u : Int)) = ((16 + u : Nat) : Int) := by rw [show 16 + (u : Int) = ((16 + u : Nat) : Int) by omega]; exact IntWalk.i64_in _ (by have : u < 256 := hu8; omega)
      obtain ⟨v8, hv8e⟩ : ∃ v8, v8 = 16 + u := ⟨_, rfl⟩
      rw [← hv8e] at e7 ⊢
      clear hres hres2 hb0 hb1 hb20 hb21 had hdef hB1 hB2 b1 b2 p1 p2 K1 w8 w16 ht ha hs hL hv hv8 hv16 h0 h1 h hless hu hu8 ha1 hv8e
      go_enter Tryz.func39, Tryz.ntmps39
      go_wp2_with fail
      refine HK1.out.mono ?_
      rintro e w1 ⟨rfl, hz1⟩
      have HT2 := Lib.hid (HK2.out w1 hz1)
      clear hz1 HK1 HK2
      go_wp2_with fail
      refine HT2.out.mono ?_
      rintro e w2 ⟨rfl, hz2⟩
      have HT := Lib.hid (HP1.out w2 hz2)
      clear hz2 HT2 HP1
      go_wp2_with fail
      refine HT.out.mono ?_
      rintro e w3 ⟨rfl, hz3⟩
      have HZ3 := Lib.hid hz3
      clear hz3 HT
      go_wp2_with fail
      go_ret
      exact ⟨rfl, HZ3.out⟩
end
end Go.Proofs.YtoencondpbkomaaGreat

/-
  The reference of LZMA: a literal.
-/
namespace Go.Proofs.YtoencondpbkomaaGreat
open Go.RowKit

section
variable {σ : Type} {M : Mach σ} {ok : Nat → σ → Prop} {R : Nat → Prop} {K : World → Value → Value → (Nat → Prop) → σ → Prop} {w : World} {g : Nat} {G : Nat → Prop} {z : Lzs} {t : Pm σ}

theorem ZAt.put (Z : ZOps M ok R K) {w0 : World} {G0 : Nat → Prop} (h : ZAt R K w0 G0 w g z t) {i : Nat} {u : Value} {z' : Lzs} (hz : ∀ Dv Ev p pc A c, (zCells z Dv Ev p t.ps.length pc A z.out.length c).setIfInBounds i u = zCells z' Dv Ev p t.ps.length pc A z.out.length c) (ho : z'.out = z.out) : ZAt R K w0 G0 (w.setCell ⟨g, i, none⟩ u) g z' t := by
  obtain ⟨G, h, hN, hO⟩ := h
  exact ⟨G, h.put Z.mem hz ho, hN, hO.setCell (p := ⟨g, i, none⟩) (by have := hN g h.own; exact this) _⟩
theorem ZAt.cells {w0 : World} {G0 : Nat → Prop} (h : ZAt R K w0 G0 w g z t) : w.cell? ⟨g, 0, none⟩ = some (.int .i64 (z.lc : Int)) ∧ w.cell? ⟨g, 1, none⟩ = some (.int .i64 (z.lp : Int)) ∧ w.cell? ⟨g, 2, none⟩ = some (.int .i64 (z.pb : Int)) ∧ w.cell? ⟨g, 3, none⟩ = some (.int .i64 (z.dict : Int)) ∧
    w.cell? ⟨g, 8, none⟩ = some (.int .i64 (z.st : Int)) ∧ w.cell? ⟨g, 9, none⟩ = some (.int .u32 (z.r0 : Int)) ∧ w.cell? ⟨g, 10, none⟩ = some (.int .u32 (z.r1 : Int)) ∧ w.cell? ⟨g, 11, none⟩ = some (.int .u32 (z.r2 : Int)) ∧ w.cell? ⟨g, 12, none⟩ = some (.int .u32 (z.r3 : Int)) ∧
    w.cell? ⟨g, 13, none⟩ = some (.bool z.ended) ∧ w.cell? ⟨g, 14, none⟩ = some (.bool z.bad) ∧ (∀ i, w.frozen? ⟨g, i, none⟩ = false) := by
  obtain ⟨G, h, _⟩ := h
  exact h.cells
theorem ZAt.back {w0 : World} {G0 : Nat → Prop} (h : ZAt R K w0 G0 w g z t) {d : Nat} (hd : d < 4294967296) (hl : z.out.length ≤ 1000000000) (hdi : z.dict < 4294967296) :
    Calls Tryz.prog 42 #[.pointer (some ⟨g, 0, none⟩), .int .u32 (d : Int)] w fun x w' => x = .returned (.tuple #[.int .u8 ((z.back d).toNat : Int), .bool (z.has d)]) ∧ ∃ k, w.drewN k = w' := by
  obtain ⟨G, h, _⟩ := h
  exact zback_any h hd hl hdi
theorem ZAt.told {w0 : World} {G0 : Nat → Prop} (h : ZAt R K w0 G0 w g z t) : ∃ A c, w.cell? ⟨g, 7, none⟩ = some (.slice A z.out.length c) ∧ Sl w A z.out.length (bv z.out) := by
  obtain ⟨G, h, _⟩ := h
  exact h.told

/-- a literal's bits, on the way -/
def LitRel (R : Nat → Prop) (K : World → Value → Value → (Nat → Prop) → σ → Prop) (M : Mach σ) (w0 : World) (G0 : Nat → Prop) (wr : World) (g : Nat) (z : Lzs) (t : Pm σ) (a : Nat) (o v : UInt8) (same : Bool) (m sm i : Value) : Prop :=
  ∃ (j : Nat) (iv : Int), j ≤ 8 ∧ i = .int .i64 iv ∧ iv + 1 = 8 - (j : Int) ∧ m = .int .i64 (((litG M t a o v same j).m : Nat) : Int) ∧ sm = .bool (litG M t a o v same j).same ∧ ZAt R K w0 G0 wr g z (litG M t a o v same j).t
/-- What a literal leaves. -/
def LitPost (R : Nat → Prop) (K : World → Value → Value → (Nat → Prop) → σ → Prop) (M : Mach σ) (w0 : World) (G0 : Nat → Prop) (g : Nat) (z : Lzs) (t : Pm σ) (v : UInt8) (x : Ending) (w' : World) : Prop :=
  x = .returned (.int .u8 ((UInt8.ofNat (litP M z t v).1).toNat : Int)) ∧ ZAt R K w0 G0 w' g { z with st := litSt z.st } (litP M z t v).2

end
end Go.Proofs.YtoencondpbkomaaGreat

/-
  The slots of distances, as numbers; the reference of LZMA reckons them.
-/
namespace Go.Proofs.YtoencondpbkomaaGreat
open Go.RowKit

section
variable {σ : Type}
end

set_option maxHeartbeats 1000000 in
theorem slotOf_any {d : Nat} (hd : d < 4294967296) (w : World) : Calls Tryz.prog 57 #[.int .u32 (d : Int)] w fun x w' => x = .returned (.int .i64 ((slotOf d : Nat) : Int)) ∧ w = w' := by
  have HD := Lib.hid hd
  clear hd
  go_enter Tryz.func57, Tryz.ntmps57
  go_wp2_with fail
  go_loopw [0, 3] (fun xv nv wr => ∃ x c : Nat, xv = .int .u32 (x : Int) ∧ nv = .int .i64 (c : Int) ∧ c ≤ 32 ∧ x < 2 ^ (32 - c) ∧ slotGo (32 - c) (x, c) = slotGo 32 (d, 0) ∧ w = wr) (fun xv _ _ => (intOf xv).toNat)
  case atStart => exact ⟨d, 0, rfl, rfl, Nat.zero_le _, HD.out, rfl, rfl⟩
  case round =>
    obtain ⟨x, c, rfl, rfl, hc, hx, hs, hw⟩ := hrel
    subst hw
    have hx32 : 2 ^ (32 - c) ≤ 2 ^ 32 := pow_le_of (by omega)
    by_cases h4 : 4 ≤ x
    · obtain ⟨f, hf⟩ : ∃ f, 32 - c = f + 1 := by
        refine ⟨32 - c - 1, ?_⟩
        rcases Nat.eq_zero_or_pos (32 - c) with h | h
        · rw [h] at hx; simp at hx; omega
        · omega
      obtain ⟨y, hy⟩ : ∃ y, y = x / 2 := ⟨_, rfl⟩
      have hs2 : slotGo (32 - (c + 1)) (y, c + 1) = slotGo 32 (d, 0) := by
        rw [← hs, hf, show 32 - (c + 1) = f by omega]
        show _ = (if 4 ≤ x then slotGo f (x / 2, c + 1) else (x, c))
        rw [if_pos h4, hy]
      have hy2 : y < 2 ^ (32 - (c + 1)) := by rw [hf, Nat.pow_succ] at hx; rw [show 32 - (c + 1) = f by omega]; omega
      have HR := Lib.hid (show c + 1 ≤ 32 ∧ y < 2 ^ (32 - (c + 1)) ∧ slotGo (32 - (c + 1)) (y, c + 1) = slotGo 32 (d, 0) ∧ y < x from ⟨by omega, hy2, hs2, by omega⟩)
      have g4 : (x : Int) ≥ 4 := by omega
      have e1 : (x : Int) / 2 = (y : Int) := by omega
      have e2 : IntKind.u32.wrap (y : Int) = (y : Int) := by simp [IntKind.wrap, IntKind.bits, IntKind.signed]; omega
      have e3 : IntKind.i64.wrap ((c : Int) + 1) = (c : Int) + 1 := IntWalk.i64_in _ (by omega)
      clear hc hx hs hx32 h4 hf hy hs2 hy2
      go_wp2_with fail
      go_roundw
      case rel => exact ⟨y, c + 1, rfl, by go_num, HR.out.1, HR.out.2.1, HR.out.2.2.1, by first | trivial | rfl⟩
      case measure => simp [intOf]; have := HR.out.2.2.2; omega
    · have g4 : ¬ (x : Int) ≥ 4 := by omega
      have hgo : slotGo (32 - c) (x, c) = (x, c) := by
        cases 32 - c with
        | zero => rfl
        | succ f => show (if 4 ≤ x then slotGo f (x / 2, c + 1) else (x, c)) = _; rw [if_neg h4]
      have HS := Lib.hid (show slotOf d = 2 * c + x by unfold slotOf; rw [← hs, hgo])
      have e1 : IntKind.i64.wrap (2 * (c : Int)) = 2 * (c : Int) := IntWalk.i64_in _ (by omega)
      have e2 : IntKind.i64.wrap (x : Int) = (x : Int) := IntWalk.i64_in _ (by omega)
      obtain ⟨u, hu⟩ : ∃ u, u = 2 * c + x := ⟨_, rfl⟩
      have e3 : IntKind.i64.wrap (2 * (c : Int) + (x : Int)) = (u : Int) := by rw [show 2 * (c : Int) + (x : Int) = (u : Int) by omega]; exact IntWalk.i64_in _ (by omega)
      have HU := Lib.hid hu
      clear hc hx hs hx32 h4 hgo hu
      go_wp2_with fail
      go_ret
      refine ⟨?_, by first | trivial | rfl⟩
      rw [HS.out, ← HU.out]
      rfl
end Go.Proofs.YtoencondpbkomaaGreat

/-
  The reference of LZMA: a distance.
-/
namespace Go.Proofs.YtoencondpbkomaaGreat
open Go.RowKit

theorem u32_fit' (x : Int) (h0 : 0 ≤ x) (h : x < 4294967296) : IntKind.u32.wrap x = x := by
  simp [IntKind.wrap, IntKind.bits, IntKind.signed]; omega
section
variable {σ : Type} {M : Mach σ} {ok : Nat → σ → Prop} {R : Nat → Prop} {K : World → Value → Value → (Nat → Prop) → σ → Prop} {w : World} {g : Nat} {G : Nat → Prop} {z : Lzs} {t : Pm σ}

/-- what a distance leaves -/
def DistPost (R : Nat → Prop) (K : World → Value → Value → (Nat → Prop) → σ → Prop) (w0 : World) (G0 : Nat → Prop) (g : Nat) (z : Lzs) (r : Nat × Pm σ) (x : Ending) (w' : World) : Prop :=
  x = .returned (.int .u32 (r.1 : Int)) ∧ ZAt R K w0 G0 w' g z r.2

set_option maxHeartbeats 4000000 in
theorem zdist_any (Z : ZOps M ok R K) {w0 : World} {G0 : Nat → Prop} {L k l v : Nat} (h : ZAt R K w0 G0 w g z t) (ht : PmOk ok L (k + 12) t) (hL0 : 1847 ≤ L) (hL : L ≤ 100000000) (hl : l ≤ 1000) (hv : v < 4294967296) :
    Calls Tryz.prog 41 #[.pointer (some ⟨g, 0, none⟩), .int .i64 (l : Int), .int .u32 (v : Int)] w (DistPost R K w0 G0 g z (distP M t l v)) := by
  obtain ⟨s1, s2, s3⟩ := slot_spec hv
  have KS := Lib.hid (slotOf_any hv)
  obtain ⟨ml, hml⟩ : ∃ m, m = min l 3 := ⟨_, rfl⟩
  obtain ⟨a, ha⟩ : ∃ a, a = 432 + 64 * ml := ⟨_, rfl⟩
  have hmv : M.mayN ((slotOf v : Nat) : Int) := fun _ => by omega
  have hT := treeP_ok Z.okm (k := k + 6) (n := 6) (a := a) (v := ((slotOf v : Nat) : Int)) (t := t) ht (by show a + 64 ≤ L; omega) hmv
  have hKT := ztree_any Z h (k := k + 6) (n := 6) (a := a) (v := ((slotOf v : Nat) : Int)) ht (by show a + 64 ≤ L; omega) hL (by decide) hmv (by omega) (by omega)
  have htell : M.enc = true → (treeP M t a 6 ((slotOf v : Nat) : Int)).1 = slotOf v := fun he => treeP_tell Z.okm he s1
  have hdef : distP M t l v = distB M (treeP M t a 6 ((slotOf v : Nat) : Int)) v := by rw [ha, hml]; rfl
  rw [hdef]
  obtain ⟨sl, hsl⟩ : ∃ sl, sl = treeP M t a 6 ((slotOf v : Nat) : Int) := ⟨_, rfl⟩
  rw [← hsl] at hT hKT htell ⊢
  have hs64 : sl.1 < 64 := hT.1
  have hp1 := hT.2
  have HKT := Lib.hid hKT
  have m1 : min (l : Int) 3 = (ml : Int) := by omega
  have m2 : IntKind.i64.wrap (64 * (ml : Int)) = 64 * (ml : Int) := IntWalk.i64_in _ (by omega)
  have m3 : IntKind.i64.wrap (432 + 64 * (ml : Int)) = (a : Int) := by rw [show 432 + 64 * (ml : Int) = (a : Int) by omega]; exact IntWalk.i64_in _ (by omega)
  clear hT hKT hdef hmv ht h hml ha
  by_cases h4 : sl.1 < 4
  · have hres : distB M sl v = sl := by unfold distB; rw [if_pos h4]
    rw [hres]
    have g4 : (sl.1 : Int) < 4 := by omega
    have e1 : IntKind.u32.wrap (sl.1 : Int) = (sl.1 : Int) := u32_fit' _ (by omega) (by omega)
    clear hres h4 hs64 hp1 htell hsl s1 s2 s3 hL0 hL hl hv
    go_enter Tryz.func41, Tryz.ntmps41
    go_wp2_with fail
    refine (KS.out _).mono ?_
    rintro e w1 ⟨rfl, rfl⟩
    clear KS
    go_wp2_with fail
    refine HKT.out.mono ?_
    rintro e w2 ⟨rfl, hz2⟩
    have HZ2 := Lib.hid hz2
    clear hz2 HKT
    go_wp2_with fail
    go_ret
    exact ⟨rfl, HZ2.out⟩
  · obtain ⟨n, hn⟩ : ∃ n, n = sl.1 / 2 - 1 := ⟨_, rfl⟩
    obtain ⟨q, hq⟩ : ∃ q, q = sl.1 / 2 := ⟨_, rfl⟩
    obtain ⟨r, hr⟩ : ∃ r, r = sl.1 % 2 := ⟨_, rfl⟩
    obtain ⟨P, hP⟩ : ∃ P, P = 2 ^ n := ⟨_, rfl⟩
    obtain ⟨base, hb⟩ : ∃ b, b = (2 + r) * P := ⟨_, rfl⟩
    have hn30 : n ≤ 30 := by omega
    have hP30 : P ≤ 2 ^ 30 := by rw [hP]; exact pow_le_of hn30
    have hb3 : base ≤ 3 * P := by rw [hb]; exact Nat.mul_le_mul_right P (by omega)
    have hspec : M.enc = true → base ≤ v ∧ v < base + P := fun he => by
      have h1 := htell he
      have h2 := s3 (by omega)
      rw [← h1, ← hn, ← hr, ← hP, ← hb] at h2
      exact h2
    have KP := Lib.hid (fun w => power_any (n := n) (by omega) w)
    rw [← hP] at KP
    have g4 : ¬ (sl.1 : Int) < 4 := by omega
    have e1 : (sl.1 : Int) / 2 = (q : Int) := by omega
    have e1' : (sl.1 : Int).tdiv 2 = (q : Int) := by rw [Int.tdiv_eq_ediv_of_nonneg (by omega)]; exact e1
    have e2 : IntKind.i64.wrap (q : Int) = (q : Int) := IntWalk.i64_in _ (by omega)
    have e3 : IntKind.i64.wrap ((q : Int) - 1) = (n : Int) := by rw [show (q : Int) - 1 = (n : Int) by omega]; exact IntWalk.i64_in _ (by omega)
    have e4 : (sl.1 : Int).tmod 2 = (r : Int) := by rw [Int.tmod_eq_emod_of_nonneg (by omega)]; omega
    have e5 : IntKind.i64.wrap (r : Int) = (r : Int) := IntWalk.i64_in _ (by omega)
    have e6 : IntKind.i64.wrap (2 + (r : Int)) = 2 + (r : Int) := IntWalk.i64_in _ (by omega)
    have e7 : IntKind.i64.wrap ((2 + (r : Int)) * (P : Int)) = (base : Int) := by
      have hc : (2 + (r : Int)) * (P : Int) = (base : Int) := by rw [hb, Int.natCast_mul, Int.natCast_add]; rfl
      rw [hc]
      exact IntWalk.i64_in _ (by omega)
    by_cases h14 : sl.1 < 14
    · obtain ⟨c1, c2, c3⟩ := special_in ⟨sl.1, h14⟩ (by show 4 ≤ sl.1; omega)
      dsimp only at c1 c2 c3
      rw [← hn, ← hr, ← hP, ← hb] at c1
      rw [← hn] at c3
      obtain ⟨ad, had⟩ : ∃ ad, ad = 688 + base - sl.1 := ⟨_, rfl⟩
      obtain ⟨u, hu⟩ : ∃ u : Int, u = (v : Int) - (base : Int) := ⟨_, rfl⟩
      have hmu : M.mayN u := fun he => by have := (hspec he).1; omega
      have hR := (revP_ok Z.okm (k := k) (n := n) (a := ad) (v := u) (hp1.mono Z.okm (show k + n ≤ k + 6 by omega)) (by rw [← hP]; omega) hmu).1
      rw [← hP] at hR
      have HKR := Lib.hid (fun (w1 : World) (hz : ZAt R K w0 G0 w1 g z sl.2) => zrev_any Z hz (k := k) (n := n) (a := ad) (v := u) (hp1.mono Z.okm (show k + n ≤ k + 6 by omega)) (by rw [← hP]; omega) hL (by omega) hmu (by omega) (by omega))
      have hres : distB M sl v = (base + (revP M sl.2 ad n u).1, (revP M sl.2 ad n u).2) := by
        unfold distB
        rw [if_neg h4, if_pos h14, ← hn, ← hr, ← hP, ← hb, ← had, ← hu]
      rw [hres]
      obtain ⟨o, ho⟩ : ∃ o, o = (revP M sl.2 ad n u).1 := ⟨_, rfl⟩
      rw [← ho] at hR HKR ⊢
      obtain ⟨res, hrs⟩ : ∃ x, x = base + o := ⟨_, rfl⟩
      rw [← hrs]
      have g14 : (sl.1 : Int) < 14 := by omega
      have f1 : IntKind.i64.wrap (688 + (base : Int)) = 688 + (base : Int) := IntWalk.i64_in _ (by omega)
      have f2 : IntKind.i64.wrap (688 + (base : Int) - (sl.1 : Int)) = (ad : Int) := by rw [show 688 + (base : Int) - (sl.1 : Int) = (ad : Int) by omega]; exact IntWalk.i64_in _ (by omega)
      have f3 : IntKind.i64.wrap (v : Int) = (v : Int) := IntWalk.i64_in _ (by omega)
      have f4 : IntKind.i64.wrap ((v : Int) - (base : Int)) = u := by rw [← hu]; exact IntWalk.i64_in _ (by omega)
      have f5 : IntKind.i64.wrap ((base : Int) + (o : Int)) = (res : Int) := by rw [show (base : Int) + (o : Int) = (res : Int) by omega]; exact IntWalk.i64_in _ (by omega)
      have f6 : IntKind.u32.wrap (res : Int) = (res : Int) := u32_fit' _ (by omega) (by omega)
      clear hres h4 h14 hs64 hp1 htell hsl s1 s2 s3 hL0 hL hl hv hn hq hr hP hb hn30 hP30 hb3 hspec c1 c2 c3 had hu hmu hR ho hrs
      go_enter Tryz.func41, Tryz.ntmps41
      go_wp2_with fail
      refine (KS.out _).mono ?_
      rintro e w1 ⟨rfl, rfl⟩
      clear KS
      go_wp2_with fail
      refine HKT.out.mono ?_
      rintro e w2 ⟨rfl, hz2⟩
      have HR2 := Lib.hid (HKR.out w2 hz2)
      clear hz2 HKT HKR
      go_wp2_with fail
      refine (KP.out _).mono ?_
      rintro e w3 ⟨rfl, rfl⟩
      clear KP
      go_wp2_with fail
      (with_reducible refine HR2.out.mono ?_)
      rintro e w4 ⟨rfl, hz4⟩
      have HZ4 := Lib.hid hz4
      clear hz4 HR2
      go_wp2_with fail
      go_ret
      exact ⟨rfl, HZ4.out⟩
    · have hn5 : 6 ≤ n := by omega
      obtain ⟨rs, hrs⟩ : ∃ x, x = (v + 4294967296 - base) % 4294967296 := ⟨_, rfl⟩
      obtain ⟨rest, hrest⟩ : ∃ x, x = rs / 16 := ⟨_, rfl⟩
      obtain ⟨P4, hP4⟩ : ∃ P, P = 2 ^ (n - 4) := ⟨_, rfl⟩
      have hPP : P = 16 * P4 := by rw [hP, hP4, show (16 : Nat) = 2 ^ 4 from rfl, ← Nat.pow_add, show 4 + (n - 4) = n by omega]
      have hst : M.enc = true → rest < 2 ^ (n - 4) := fun he => by
        have := hspec he
        rw [← hP4]
        omega
      have hS := Z.okm.str (k := k + 5) (n := n - 4) (v := rest) hp1.x (by omega) hst
      have HKS := Lib.hid (fun (w1 : World) (hz : ZAt R K w0 G0 w1 g z sl.2) => ZAt.str Z hz (k := k + 5) (n := n - 4) (v := rest) hp1 (by omega) (by omega) hst)
      obtain ⟨hi, hhi⟩ : ∃ h, h = M.str sl.2.x (n - 4) rest := ⟨_, rfl⟩
      rw [← hhi] at hS HKS
      rw [← hP4] at hS
      obtain ⟨v16, hv16⟩ : ∃ x, x = v % 16 := ⟨_, rfl⟩
      have hp2 : PmOk ok L (k + 5) (⟨sl.2.ps, hi.2⟩ : Pm σ) := ⟨hp1.ps, hp1.len, hS.2⟩
      have hmr : M.mayN ((v16 : Nat) : Int) := fun _ => by omega
      have hR := (revP_ok Z.okm (k := k) (n := 4) (a := 803) (v := ((v16 : Nat) : Int)) (hp2.mono Z.okm (show k + 4 ≤ k + 5 by omega)) (by show 803 + 16 ≤ L; omega) hmr).1
      have HKR := Lib.hid (fun (w1 : World) (hz : ZAt R K w0 G0 w1 g z (⟨sl.2.ps, hi.2⟩ : Pm σ)) => zrev_any Z hz (k := k) (n := 4) (a := 803) (v := ((v16 : Nat) : Int)) (hp2.mono Z.okm (show k + 4 ≤ k + 5 by omega)) (by show 803 + 16 ≤ L; omega) hL (by decide) hmr (by omega) (by omega))
      have hres : distB M sl v = (base + 16 * hi.1 + (revP M ⟨sl.2.ps, hi.2⟩ 803 4 ((v16 : Nat) : Int)).1, (revP M ⟨sl.2.ps, hi.2⟩ 803 4 ((v16 : Nat) : Int)).2) := by
        unfold distB
        rw [if_neg h4, if_neg h14, ← hn, ← hr, ← hP, ← hb, ← hrs, ← hrest, ← hhi, hv16]
        rfl
      rw [hres]
      obtain ⟨o, ho⟩ : ∃ o, o = (revP M ⟨sl.2.ps, hi.2⟩ 803 4 ((v16 : Nat) : Int)).1 := ⟨_, rfl⟩
      rw [← ho] at hR HKR ⊢
      have ho16 : o < 16 := hR
      obtain ⟨hv1, hhv⟩ : ∃ x, x = hi.1 := ⟨_, rfl⟩
      rw [← hhv] at hS HKS ⊢
      have hh4 := hS.1
      obtain ⟨res, hrs2⟩ : ∃ x, x = base + 16 * hv1 + o := ⟨_, rfl⟩
      rw [← hrs2]
      obtain ⟨n4, hn4⟩ : ∃ x, x = n - 4 := ⟨_, rfl⟩
      rw [← hn4] at HKS
      have g14 : ¬ (sl.1 : Int) < 14 := by omega
      have f1 : IntKind.u32.wrap (base : Int) = (base : Int) := u32_fit' _ (by omega) (by omega)
      have f2 : IntKind.u32.wrap ((v : Int) - (base : Int)) = (rs : Int) := by simp [IntKind.wrap, IntKind.bits, IntKind.signed]; omega
      have f3 : (rs : Int) / 16 = (rest : Int) := by omega
      have f3' : (rs : Int).tdiv 16 = (rest : Int) := by rw [Int.tdiv_eq_ediv_of_nonneg (by omega)]; exact f3
      have f3'' : IntKind.u32.wrap (rest : Int) = (rest : Int) := u32_fit' _ (by omega) (by omega)
      have f4 : IntKind.i64.wrap ((n : Int) - 4) = (n4 : Int) := by rw [show (n : Int) - 4 = (n4 : Int) by omega]; exact IntWalk.i64_in _ (by omega)
      have f5 : IntKind.u32.wrap (16 * (hv1 : Int)) = 16 * (hv1 : Int) := u32_fit' _ (by omega) (by omega)
      have f6 : IntKind.u32.wrap ((base : Int) + 16 * (hv1 : Int)) = (base : Int) + 16 * (hv1 : Int) := u32_fit' _ (by omega) (by omega)
      have f7 : (v : Int).tmod 16 = (v16 : Int) := by rw [Int.tmod_eq_emod_of_nonneg (by omega)]; omega
      have f7' : IntKind.u32.wrap (v16 : Int) = (v16 : Int) := u32_fit' _ (by omega) (by omega)
      have f8 : IntKind.i64.wrap (v16 : Int) = (v16 : Int) := IntWalk.i64_in _ (by omega)
      have f9 : IntKind.u32.wrap (o : Int) = (o : Int) := u32_fit' _ (by omega) (by omega)
      have f10 : IntKind.u32.wrap ((base : Int) + 16 * (hv1 : Int) + (o : Int)) = (res : Int) := by rw [show (base : Int) + 16 * (hv1 : Int) + (o : Int) = (res : Int) by omega]; exact u32_fit' _ (by omega) (by omega)
      clear hres h4 h14 hs64 hp1 htell hsl s1 s2 s3 hL0 hL hl hv hn hq hr hP hb hn30 hP30 hb3 hspec hn5 hrs hrest hP4 hPP hst hS hhi hv16 hp2 hmr hR ho ho16 hhv hh4 hrs2 hn4
      go_enter Tryz.func41, Tryz.ntmps41
      go_wp2_with fail
      refine (KS.out _).mono ?_
      rintro e w1 ⟨rfl, rfl⟩
      clear KS
      go_wp2_with fail
      refine HKT.out.mono ?_
      rintro e w2 ⟨rfl, hz2⟩
      have HS2 := Lib.hid (HKS.out w2 hz2)
      clear hz2 HKT HKS
      go_wp2_with fail
      refine (KP.out _).mono ?_
      rintro e w3 ⟨rfl, rfl⟩
      clear KP
      go_wp2_with fail
      (with_reducible refine HS2.out.mono ?_)
      rintro e w4 ⟨rfl, hz4⟩
      have HR4 := Lib.hid (HKR.out w4 hz4)
      clear hz4 HS2 HKR
      go_wp2_with fail
      refine HR4.out.mono ?_
      rintro e w5 ⟨rfl, hz5⟩
      have HZ5 := Lib.hid hz5
      clear hz5 HR4
      go_wp2_with fail
      go_ret
      exact ⟨rfl, HZ5.out⟩
end
end Go.Proofs.YtoencondpbkomaaGreat

/-
  The reference of LZMA: one number or the other; the state behind.
-/
namespace Go.Proofs.YtoencondpbkomaaGreat
open Go.RowKit

set_option maxHeartbeats 1000000 in
theorem choose_any (b : Bool) (w : World) : Calls Tryz.prog 55 #[.bool b, .int .i64 0, .int .i64 1] w fun x w' => x = .returned (.int .i64 (if b = true then 0 else 1)) ∧ w = w' := by
  cases b
  all_goals
    go_enter Tryz.func55, Tryz.ntmps55
    go_wp2_with fail
    go_ret
    exact ⟨rfl, rfl⟩

section
variable {σ : Type} {M : Mach σ} {ok : Nat → σ → Prop} {R : Nat → Prop} {K : World → Value → Value → (Nat → Prop) → σ → Prop} {w : World} {g : Nat} {G : Nat → Prop} {z : Lzs} {t : Pm σ}

set_option maxHeartbeats 1000000 in
theorem zafter_any (Z : ZOps M ok R K) {w0 : World} {G0 : Nat → Prop} {a b : Nat} (h : ZAt R K w0 G0 w g z t) :
    Calls Tryz.prog 40 #[.pointer (some ⟨g, 0, none⟩), .int .i64 (a : Int), .int .i64 (b : Int)] w fun x w' => x = .returned (.tuple #[]) ∧ ZAt R K w0 G0 w' g { z with st := if z.st < 7 then a else b } t := by
  obtain ⟨_, _, _, _, s8, _, _, _, _, _, _, fz⟩ := h.cells
  have fz8 := fz 8
  have hput := fun n : Nat => ZAt.put Z h (i := 8) (u := .int .i64 (n : Int)) (z' := { z with st := n }) (fun _ _ _ _ _ _ => rfl) rfl
  have HPUT := Lib.hid hput
  clear hput h fz
  by_cases h7 : z.st < 7
  · have g7 : (z.st : Int) < 7 := by omega
    rw [if_pos h7]
    clear h7
    go_enter Tryz.func40, Tryz.ntmps40
    go_wp2_with fail
    first | go_end0 | refine bodyPost_ret (results_none rfl _ _ _) rfl ?_
    exact ⟨rfl, HPUT.out a⟩
  · have g7 : ¬ (z.st : Int) < 7 := by omega
    rw [if_neg h7]
    clear h7
    go_enter Tryz.func40, Tryz.ntmps40
    go_wp2_with fail
    first | go_end0 | refine bodyPost_ret (results_none rfl _ _ _) rfl ?_
    exact ⟨rfl, HPUT.out b⟩

end
end Go.Proofs.YtoencondpbkomaaGreat
