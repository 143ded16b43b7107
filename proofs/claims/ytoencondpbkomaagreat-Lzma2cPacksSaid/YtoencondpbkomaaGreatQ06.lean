/-
  PcFin, CwEnd, Pkts, PsPure, LzSim, LzSim2, LzSim3, LzShort: put together.
-/
import Derived.Test.YtoencondpbkomaaGreatQ03
import Derived.Test.YtoencondpbkomaaGreatQ05
import Derived.Test.YtoencondpbkomaaGreatQ01
import Derived.ProofKit
import Derived.OpenShut
import Derived.ShutString
import Derived.ChangeOld
import Derived.Below
import Derived.Deep.Grids
import Derived.Deep.SlicePairs
set_option linter.unusedVariables false
set_option linter.unusedSimpArgs false
/-
  The program's coder is finished.
-/
namespace Go.Proofs.YtoencondpbkomaaGreat
open Go.RowKit

/-- What a finish leaves: the coder's bytes, and a coder that begins. -/
def FinPost (w : World) (g : Nat) (G : Option Nat) (e : En) (x : Ending) (w' : World) : Prop :=
  ∃ A m bs, x = .returned (.slice A bs.length m) ∧ w'.ownsRow 0 5 1 (.slice A bs.length m) bs.length (bv bs) ∧ be bs = e.n ∧ bs.length = e.l ∧ Nwr w G (Value.slice A bs.length m).ownBlock ∧ (Value.slice A bs.length m).ownBlock ≠ some g ∧ Pn w' g none En.new ∧ Only (pset g G) w w'

set_option maxHeartbeats 4000000 in
theorem finish_any {w : World} {g : Nat} {G : Option Nat} {e : En} (h : Pn w g G e) (hlen : e.l ≤ 999999990) :
    Calls Tryz.prog 70 #[.pointer (some ⟨g, 0, none⟩)] w (FinPost w g G e) := by
  obtain ⟨c, hP, hc⟩ := h
  have HP := Lib.hid hP
  have HC := Lib.hid hc
  have HLEN := Lib.hid hlen
  clear hP hc hlen
  go_enter Tryz.func70, Tryz.ntmps70
  go_wp2_with fail
  go_loopw [4] (fun i wr => ∃ (k : Nat) (G' : Option Nat), k ≤ 5 ∧ i = .int .i64 (k : Int) ∧ Pw wr g G' (c.gives k) e.r ∧ Nwr w G G' ∧ Only (pset g G) w wr) (fun i _ => 5 - (intOf i).toNat)
  case atStart => exact ⟨0, G, Nat.zero_le _, rfl, HP.out, Nwr.refl _ _, Only.refl _ _⟩
  case round =>
    clear HP
    obtain ⟨k, G', hk, rfl, hP, hN, hO⟩ := hrel
    have HN := Lib.hid hN
    have HO := Lib.hid hO
    by_cases hlt : k < 5
    · have h5 := (HC.out.mono HC.out.pos (Nat.le_refl 1)).gives k
      have K := Lib.hid (give_any hP h5.wt h5.low (by have h1 := gives_len c k; have h2 := HC.out.len; have h3 := HLEN.out; omega))
      have hlt' : (k : Int) < 5 := by omega
      clear hP hN hO h5
      go_wp2_with fail
      refine K.out.mono ?_
      rintro x w3 ⟨rfl, G2, hP2, hN2, hO2⟩
      have HP2 := Lib.hid hP2
      have HN2 := Lib.hid (HN.out.trans hN2 HO.out.size)
      have HO2 := Lib.hid (pset_trans HO.out HN.out hO2)
      clear hP2 hN2 hO2 HN HO K
      go_wp2_with fail
      go_roundw
      case rel => exact ⟨k + 1, G2, by omega, by go_num, HP2.out, HN2.out, HO2.out⟩
      case measure => simp [intOf]; omega
    · obtain rfl : k = 5 := by omega
      have hirr : ¬ ((5 : Nat) : Int) < 5 := by omega
      obtain ⟨A, m, hB, hOw, hG, hne⟩ := hP
      have c0 : wr.cell? ⟨g, 0, none⟩ = some (.int .u64 ((c.gives 5).lo : Int)) := hB.cell 0
      have c1 : wr.cell? ⟨g, 1, none⟩ = some (.int .u32 (e.r : Int)) := hB.cell 1
      have c2 : wr.cell? ⟨g, 2, none⟩ = some (.slice A (c.gives 5).gs.length m) := hB.cell 2
      have HB := Lib.hid hB
      have HOw := Lib.hid hOw
      have HG := Lib.hid hG
      have HNE := Lib.hid hne
      have K := Lib.hid (cnew_any wr)
      clear hB hOw hG hne hN hO hk hlt
      go_wp2_with fail
      refine K.out.mono ?_
      rintro x w3 ⟨rfl, hw3⟩
      have hO3 : Only (fun _ => False) wr w3 := by rw [hw3]; exact (Only.refl _ wr).alloc _
      have hN3 : Blk w3 wr.heap.size 105 (pcCells 0 4294967295 (.slice none 0 0) 0 0) := by rw [hw3]; exact Blk.fresh wr _ _
      have hB3 : Blk w3 g 105 _ := HB.out.only hO3 (fun h => h)
      obtain ⟨n0, n1, n2, n3, n4⟩ : w3.cell? ⟨wr.heap.size, 0, none⟩ = some (.int .u64 0) ∧ w3.cell? ⟨wr.heap.size, 1, none⟩ = some (.int .u32 4294967295) ∧ w3.cell? ⟨wr.heap.size, 2, none⟩ = some (.slice none 0 0) ∧ w3.cell? ⟨wr.heap.size, 3, none⟩ = some (.int .u8 0) ∧ w3.cell? ⟨wr.heap.size, 4, none⟩ = some (.int .i64 0) := ⟨hN3.cell 0, hN3.cell 1, hN3.cell 2, hN3.cell 3, hN3.cell 4⟩
      obtain ⟨g0, g1, g2, g3, g4⟩ : w3.cell? ⟨g, 0, none⟩ = some (.int .u64 ((c.gives 5).lo : Int)) ∧ w3.cell? ⟨g, 1, none⟩ = some (.int .u32 (e.r : Int)) ∧ w3.cell? ⟨g, 2, none⟩ = some (.slice A (c.gives 5).gs.length m) ∧ w3.cell? ⟨g, 3, none⟩ = some (.int .u8 ((c.gives 5).wt : Int)) ∧ w3.cell? ⟨g, 4, none⟩ = some (.int .i64 ((c.gives 5).fu : Int)) := ⟨hB3.cell 0, hB3.cell 1, hB3.cell 2, hB3.cell 3, hB3.cell 4⟩
      obtain ⟨z0, z1, z2, z3, z4⟩ : w3.frozen? ⟨g, 0, none⟩ = false ∧ w3.frozen? ⟨g, 1, none⟩ = false ∧ w3.frozen? ⟨g, 2, none⟩ = false ∧ w3.frozen? ⟨g, 3, none⟩ = false ∧ w3.frozen? ⟨g, 4, none⟩ = false := ⟨hB3.free 0, hB3.free 1, hB3.free 2, hB3.free 3, hB3.free 4⟩
      have HB3 := Lib.hid hB3
      have HO3 := Lib.hid hO3
      clear hO3 hN3 hB3 hw3 c0 c1 c2 K
      go_wp2_with fail
      first | go_end0 | (go_ret) | refine bodyPost_ret (results_none rfl _ _ _) rfl ?_
      obtain ⟨f1, f2⟩ := HC.out.finish
      have S5 : Only (fun i => i = g) w3 (((((w3.setCell ⟨g, 0, none⟩ (.int .u64 0)).setCell ⟨g, 1, none⟩ (.int .u32 4294967295)).setCell ⟨g, 2, none⟩ (.slice none 0 0)).setCell ⟨g, 3, none⟩ (.int .u8 0)).setCell ⟨g, 4, none⟩ (.int .i64 0)) :=
        (((((Only.refl (fun i => i = g) w3).setCell (p := ⟨g, 0, none⟩) (.inl rfl) _).setCell (p := ⟨g, 1, none⟩) (.inl rfl) _).setCell (p := ⟨g, 2, none⟩) (.inl rfl) _).setCell (p := ⟨g, 3, none⟩) (.inl rfl) _).setCell (p := ⟨g, 4, none⟩) (.inl rfl) _
      have P5 := ((((HB3.out.put 0 (.int .u64 0)).put 1 (.int .u32 4294967295)).put 2 (.slice none 0 0)).put 3 (.int .u8 0)).put 4 (.int .i64 0)
      have hgn : ∀ i, (Value.slice A (c.gives 5).gs.length m).ownBlock = some i → ¬ i = g := fun i hi e => HNE.out (HG.out.symm.trans (e ▸ hi))
      refine ⟨A, m, (c.gives 5).gs, rfl, own_only' (own_only' HOw.out HO3.out (fun _ _ h => h)) S5 hgn, f1, f2, ?_, ?_, ⟨Co.new, ⟨none, 0, P5, ⟨rfl, .inl ⟨rfl, rfl⟩⟩, rfl, by simp⟩, coN_new⟩, ?_⟩
      · rw [HG.out]; exact HN.out
      · rw [HG.out]; exact HNE.out
      · exact (HO.out.trans (HO3.out.mono (fun _ h => h.elim))).trans (S5.mono (fun i hi => .inl hi))
end Go.Proofs.YtoencondpbkomaaGreat

/-
  The program's coder of LZMA: its stream.
-/
namespace Go.Proofs.YtoencondpbkomaaGreat
open Go.RowKit

section
variable {K : Koc} {w w' : World} {Ge Ge' : Option Nat} {A' : Option Addr} {c : Nat} {z : Lzs} {k : Nat} {t : Pm En}
/-- the stream: its bytes -/
def CFin (K : Koc) (w : World) (Ge : Option Nat) (A' : Option Addr) (c : Nat) (z : Lzs) (t : Pm En) (x : Ending) (w' : World) : Prop :=
  ∃ B m bs, x = .returned (.slice B bs.length m) ∧ Sl w' B bs.length (bv bs) ∧ be bs = t.x.n ∧ bs.length = t.x.l ∧ w'.cell? ⟨K.g, 5, none⟩ = some (.slice A' z.out.length c) ∧ Sl w' A' z.out.length (bv z.out) ∧ Only (K.own Ge) w w'
end
end Go.Proofs.YtoencondpbkomaaGreat

/-
  A list of packets, opened: each element has four numbers (int, uint8, int, uint32).
-/
namespace Go.Proofs.YtoencondpbkomaaGreat
open Go.ChangeShapes Go.WideShapes Go.ChangeAt Go.RowKit

/-- a packet as it comes in -/
structure Pq where
  k : Int
  a : Int
  n : Int
  v : Int
instance : Inhabited Pq := ⟨⟨0, 0, 0, 0⟩⟩

/-- a slice of packets -/
def Pkts (w : World) (B : Option Addr) (m : Nat) (q : Nat → Pq) : Prop :=
  0 < m → ∃ b o, B = some ⟨b, o, none⟩ ∧ b < w.heap.size ∧ ∀ i, i < m → w.cell? ⟨b, o + i * 4, none⟩ = some (.int .i64 (q i).k) ∧ w.cell? ⟨b, o + i * 4 + 1, none⟩ = some (.int .u8 (q i).a) ∧
    w.cell? ⟨b, o + i * 4 + 2, none⟩ = some (.int .i64 (q i).n) ∧ w.cell? ⟨b, o + i * 4 + 3, none⟩ = some (.int .u32 (q i).v)
structure PqLit (q : Pq) : Prop where
  k : -9223372036854775808 ≤ q.k ∧ q.k ≤ 9223372036854775807
  a : 0 ≤ q.a ∧ q.a ≤ 255
  n : -9223372036854775808 ≤ q.n ∧ q.n ≤ 9223372036854775807
  v : 0 ≤ q.v ∧ q.v ≤ 4294967295

theorem Pkts.below {w w' : World} {B : Option Addr} {m : Nat} {q : Nat → Pq} (h : Pkts w B m q) (hb : Below w.heap.size w w') : Pkts w' B m q := by
  intro hm
  obtain ⟨b, o, e, hlt, hc⟩ := h hm
  refine ⟨b, o, e, Nat.lt_of_lt_of_le hlt hb.size, fun i hi => ?_⟩
  rw [hb.cell hlt, hb.cell hlt, hb.cell hlt, hb.cell hlt]
  exact hc i hi

section
variable {H : Type} {enc : TypeId × Value → H} {P : Program} {w : World} {held : Bool}
end
end Go.Proofs.YtoencondpbkomaaGreat

/-
  Which packets tell bytes, as numbers.
-/
namespace Go.Proofs.YtoencondpbkomaaGreat

/-- how many bytes, up to so many, are those o ahead of them -/
def eqN (b : List UInt8) (o : Nat) : Nat → Nat → Nat
  | 0, _ => 0
  | f + 1, i => if b.getD i 0 = b.getD (i - o) 0 then eqN b o f (i + 1) + 1 else 0
theorem eqN_le (b : List UInt8) (o : Nat) : ∀ f i, eqN b o f i ≤ f
  | 0, _ => Nat.le_refl _
  | f + 1, i => by
    unfold eqN
    have := eqN_le b o f (i + 1)
    split <;> omega
theorem eqN_same (b : List UInt8) (o : Nat) : ∀ f i k, k < eqN b o f i → b.getD (i + k) 0 = b.getD (i + k - o) 0
  | 0, _, _, h => absurd h (Nat.not_lt_zero _)
  | f + 1, i, k, h => by
    unfold eqN at h
    split at h
    · rename_i he
      match k with
      | 0 => exact he
      | k + 1 =>
        have := eqN_same b o f (i + 1) k (by omega)
        rw [show i + 1 + k = i + (k + 1) by omega] at this
        exact this
    · omega
theorem eqN_ge {b : List UInt8} {o : Nat} : ∀ {f i n}, n ≤ f → (∀ k, k < n → b.getD (i + k) 0 = b.getD (i + k - o) 0) → n ≤ eqN b o f i
  | _, _, 0, _, _ => Nat.zero_le _
  | 0, _, n + 1, h, _ => absurd h (by omega)
  | f + 1, i, n + 1, hn, h => by
    have h0 := h 0 (by omega)
    simp only [Nat.add_zero] at h0
    unfold eqN
    rw [if_pos h0]
    have := eqN_ge (b := b) (o := o) (f := f) (i := i + 1) (n := n) (by omega) (fun k hk => by
      have := h (k + 1) (by omega)
      rw [show i + (k + 1) = i + 1 + k by omega] at this
      exact this)
    omega
theorem eqN_is {b : List UInt8} {o f i n : Nat} (hn : n ≤ f) (h : ∀ k, k < n → b.getD (i + k) 0 = b.getD (i + k - o) 0) (hs : n < f → b.getD (i + n) 0 ≠ b.getD (i + n - o) 0) : eqN b o f i = n := by
  have h1 := eqN_ge hn h
  have h2 := eqN_le b o f i
  by_cases he : eqN b o f i = n
  · exact he
  · exact absurd (eqN_same b o f i n (by omega)) (hs (by omega))
/-- bytes that are a part of others -/
theorem eqN_part {b c : List UInt8} {o p t : Nat} (hp : ∀ j, j < t → c.getD j 0 = b.getD (p + j) 0) : ∀ f i, o ≤ i → i + f ≤ t → eqN c o f i = eqN b o f (p + i)
  | 0, _, _, _ => rfl
  | f + 1, i, ho, ht => by
    unfold eqN
    rw [hp i (by omega), hp (i - o) (by omega), show p + (i - o) = p + i - o by omega, eqN_part hp f (i + 1) (by omega) (by omega)]
    rfl

/-- the copy at a distance -/
def cpN (b : List UInt8) (dict e i d : Nat) : Nat := if d < i ∧ d < dict then eqN b (d + 1) (min 273 (e - i)) i else 0
theorem cpN_le (b : List UInt8) (dict e i d : Nat) : cpN b dict e i d ≤ min 273 (e - i) := by
  unfold cpN
  split
  · exact eqN_le _ _ _ _
  · omega
/-- the least index of the greatest number, and it -/
def best (g : Nat → Nat) : Nat → Nat × Nat
  | 0 => (0, 0)
  | d + 1 => if (best g d).2 < g d then (d, g d) else best g d
theorem best_ge (g : Nat → Nat) : ∀ n d, d < n → g d ≤ (best g n).2
  | 0, _, h => absurd h (Nat.not_lt_zero _)
  | n + 1, d, h => by
    unfold best
    by_cases he : d = n
    · subst he
      split
      · exact Nat.le_refl _
      · omega
    · have := best_ge g n d (by omega)
      split
      · show g d ≤ g n; omega
      · exact this
theorem best_is (g : Nat → Nat) : ∀ n, 0 < (best g n).2 → (best g n).1 < n ∧ g (best g n).1 = (best g n).2 ∧ ∀ d, d < (best g n).1 → g d < (best g n).2
  | 0, h => absurd h (Nat.lt_irrefl _)
  | n + 1, h => by
    unfold best at h ⊢
    split
    · rename_i hl
      exact ⟨by simp, rfl, fun d hd => Nat.lt_of_le_of_lt (best_ge g n d hd) hl⟩
    · rename_i hl
      rw [if_neg hl] at h
      obtain ⟨h1, h2, h3⟩ := best_is g n h
      exact ⟨by omega, h2, h3⟩
theorem best_zero (g : Nat → Nat) : ∀ n, (best g n).2 = 0 → best g n = (0, 0)
  | 0, _ => rfl
  | n + 1, h => by
    unfold best at h ⊢
    split
    · rename_i hl
      rw [if_pos hl] at h
      have h : g n = 0 := h
      omega
    · rename_i hl
      rw [if_neg hl] at h
      exact best_zero g n h
theorem best_congr {g g' : Nat → Nat} : ∀ {n}, (∀ d, d < n → g d = g' d) → best g n = best g' n
  | 0, _ => rfl
  | n + 1, h => by
    unfold best
    rw [best_congr (n := n) (fun d hd => h d (by omega)), h n (by omega)]
/-- the same, of numbers that are 2 at least -/
def best2 (g : Nat → Nat) : Nat → Nat × Nat
  | 0 => (0, 0)
  | d + 1 => if 2 ≤ g d ∧ (best2 g d).2 < g d then (d, g d) else best2 g d
theorem best2_is (g : Nat → Nat) : ∀ n, best2 g n = if 2 ≤ (best g n).2 then best g n else (0, 0)
  | 0 => rfl
  | n + 1 => by
    have ih := best2_is g n
    unfold best2 best
    rw [ih]
    by_cases h2 : 2 ≤ (best g n).2
    · rw [if_pos h2]
      by_cases hl : (best g n).2 < g n
      · rw [if_pos ⟨by omega, hl⟩, if_pos hl, if_pos (by show 2 ≤ g n; omega)]
      · rw [if_neg (fun h => hl h.2), if_neg hl, if_pos h2]
    · rw [if_neg h2]
      by_cases hl : (best g n).2 < g n
      · rw [if_pos hl]
        by_cases hg : 2 ≤ g n
        · rw [if_pos ⟨hg, by show 0 < g n; omega⟩, if_pos (by show 2 ≤ g n; exact hg)]
        · rw [if_neg (fun h => hg h.1), if_neg (by show ¬ 2 ≤ g n; exact hg)]
      · rw [if_neg hl, if_neg h2, if_neg (fun h => by have : 0 < g n := h.2; omega)]

/-- where it stands: the place, and the elder distances -/
structure Ps where
  i : Nat
  r0 : Nat
  r1 : Nat
  r2 : Nat
  r3 : Nat
def Ps.rep (s : Ps) : Nat → Nat
  | 0 => s.r0
  | 1 => s.r1
  | 2 => s.r2
  | _ => s.r3
def Ps.raise (s : Ps) (n : Nat) : Nat → Ps
  | 0 => { s with i := s.i + n }
  | 1 => ⟨s.i + n, s.r1, s.r0, s.r2, s.r3⟩
  | 2 => ⟨s.i + n, s.r2, s.r0, s.r1, s.r3⟩
  | _ => ⟨s.i + n, s.r3, s.r0, s.r1, s.r2⟩
def Ps.push (s : Ps) (n d : Nat) : Ps := ⟨s.i + n, d, s.r0, s.r1, s.r2⟩
def Ps.on (s : Ps) : Ps := { s with i := s.i + 1 }
structure Ps.Lit (s : Ps) : Prop where
  r0 : s.r0 < 4294967296
  r1 : s.r1 < 4294967296
  r2 : s.r2 < 4294967296
  r3 : s.r3 < 4294967296
theorem Ps.Lit.rep {s : Ps} (h : s.Lit) (k : Nat) : s.rep k < 4294967296 := by
  match k with
  | 0 => exact h.r0
  | 1 => exact h.r1
  | 2 => exact h.r2
  | n + 3 => exact h.r3
theorem Ps.Lit.raise {s : Ps} (h : s.Lit) (n k : Nat) : (s.raise n k).Lit := by
  match k with
  | 0 => exact ⟨h.r0, h.r1, h.r2, h.r3⟩
  | 1 => exact ⟨h.r1, h.r0, h.r2, h.r3⟩
  | 2 => exact ⟨h.r2, h.r0, h.r1, h.r3⟩
  | n + 3 => exact ⟨h.r3, h.r0, h.r1, h.r2⟩
theorem Ps.raise_i (s : Ps) (n k : Nat) : (s.raise n k).i = s.i + n := by
  match k with
  | 0 => rfl
  | 1 => rfl
  | 2 => rfl
  | n + 3 => rfl

/-- which packet, by the elder distances' longest copy, the least distance of the longest copy, its length, the copy at the first elder distance, and the byte -/
def stepG (r : Nat × Nat) (d m c : Nat) (y : UInt8) (s : Ps) : Pq × Ps :=
  if 2 ≤ r.2 ∧ m ≤ r.2 + 1 then (⟨2 + (r.1 : Int), 0, (r.2 : Int), 0⟩, s.raise r.2 r.1)
  else if 3 ≤ m ∨ (m = 2 ∧ d < 128) then (⟨1, 0, (m : Int), (d : Int)⟩, s.push m d)
  else if 0 < c then (⟨6, 0, 0, 0⟩, s.on)
  else (⟨0, (y.toNat : Int), 0, 0⟩, s.on)
/-- the same in the program's order: its own two -/
def stepH (a m : Nat × Nat) (c : Nat) (y : UInt8) (s : Ps) : Pq × Ps :=
  if 2 < m.2 ∨ (m.2 = 2 ∧ m.1 < 128) then (⟨1, 0, (m.2 : Int), (m.1 : Int)⟩, s.push m.2 m.1)
  else if 0 < a.2 then (⟨2 + (a.1 : Int), 0, (a.2 : Int), 0⟩, s.raise a.2 a.1)
  else if 0 < c then (⟨6, 0, 0, 0⟩, s.on)
  else (⟨0, (y.toNat : Int), 0, 0⟩, s.on)
section
variable (b : List UInt8) (dict e : Nat)
def eldP (s : Ps) : Nat × Nat := best (fun h => cpN b dict e s.i (s.rep h)) 4
def lonP (s : Ps) : Nat × Nat := best (fun d => cpN b dict e s.i d) (min s.i dict)
def lonM (s : Ps) : Nat := if (lonP b dict e s).2 < 2 then 0 else (lonP b dict e s).2
/-- the packet at a place, and where it stands behind it -/
def stepF (s : Ps) : Pq × Ps := stepG (eldP b dict e s) (lonP b dict e s).1 (lonM b dict e s) (cpN b dict e s.i s.r0) (b.getD s.i 0) s
/-- so many packets, as long as the end isn't come to -/
def goF (s : Ps) : Nat → List Pq × Ps
  | 0 => ([], s)
  | n + 1 => if (goF s n).2.i < e then ((goF s n).1 ++ [(stepF b dict e (goF s n).2).1], (stepF b dict e (goF s n).2).2) else goF s n
def findF (s : Ps) : List Pq × Ps := goF b dict e s e
end

section
variable {b : List UInt8} {dict e : Nat} {s : Ps}
theorem eld_lt : (eldP b dict e s).1 < 4 := by
  by_cases h : 0 < (eldP b dict e s).2
  · exact (best_is _ _ h).1
  · have : eldP b dict e s = (0, 0) := best_zero _ _ (by unfold eldP at h; omega)
    rw [this]
    decide
theorem eld_le : (eldP b dict e s).2 ≤ min 273 (e - s.i) := by
  by_cases h : 0 < (eldP b dict e s).2
  · have := (best_is _ _ h).2.1
    unfold eldP at *
    rw [← this]
    exact cpN_le _ _ _ _ _
  · omega
theorem lon_le : (lonP b dict e s).2 ≤ min 273 (e - s.i) := by
  by_cases h : 0 < (lonP b dict e s).2
  · have := (best_is _ _ h).2.1
    unfold lonP at *
    rw [← this]
    exact cpN_le _ _ _ _ _
  · omega
theorem lonM_le : lonM b dict e s ≤ min 273 (e - s.i) := by
  unfold lonM
  have := lon_le (b := b) (dict := dict) (e := e) (s := s)
  split <;> omega
theorem lon_lt (h : 0 < (lonP b dict e s).2) : (lonP b dict e s).1 < min s.i dict := (best_is _ _ h).1
theorem lonM_pos (h : 0 < lonM b dict e s) : 2 ≤ lonM b dict e s ∧ lonM b dict e s = (lonP b dict e s).2 := by
  unfold lonM at *
  split at h
  · omega
  · rename_i hl
    rw [if_neg hl]
    exact ⟨by omega, rfl⟩
theorem step_i (h : s.i < e) : s.i < (stepF b dict e s).2.i ∧ (stepF b dict e s).2.i ≤ e := by
  have h1 := eld_le (b := b) (dict := dict) (e := e) (s := s)
  have h2 := lonM_le (b := b) (dict := dict) (e := e) (s := s)
  unfold stepF stepG
  split
  · rename_i ha
    have := ha.1
    rw [Ps.raise_i]
    omega
  · split
    · rename_i hm
      have : 2 ≤ lonM b dict e s := by rcases hm with hm | hm <;> omega
      show s.i < s.i + lonM b dict e s ∧ s.i + lonM b dict e s ≤ e
      omega
    · split
      · show s.i < s.i + 1 ∧ s.i + 1 ≤ e; omega
      · show s.i < s.i + 1 ∧ s.i + 1 ≤ e; omega
theorem step_lit (h : s.Lit) (he : e ≤ 4000000000) : (stepF b dict e s).2.Lit := by
  have h2 := lonM_le (b := b) (dict := dict) (e := e) (s := s)
  unfold stepF stepG
  split
  · exact h.raise _ _
  · split
    · rename_i hm
      have hp : 0 < lonM b dict e s := by rcases hm with hm | hm <;> omega
      obtain ⟨_, h4⟩ := lonM_pos hp
      have := lon_lt (b := b) (dict := dict) (e := e) (s := s) (by omega)
      exact ⟨by show (lonP b dict e s).1 < _; omega, h.r0, h.r1, h.r2⟩
    · split <;> exact ⟨h.r0, h.r1, h.r2, h.r3⟩
theorem go_succ {n : Nat} (h : (goF b dict e s n).2.i < e) : goF b dict e s (n + 1) = ((goF b dict e s n).1 ++ [(stepF b dict e (goF b dict e s n).2).1], (stepF b dict e (goF b dict e s n).2).2) := if_pos h
theorem go_same {n : Nat} (h : ¬ (goF b dict e s n).2.i < e) : goF b dict e s (n + 1) = goF b dict e s n := if_neg h
theorem go_more : ∀ n, (goF b dict e s n).2.i < e → s.i + n ≤ (goF b dict e s n).2.i
  | 0, _ => Nat.le_refl _
  | n + 1, h => by
    by_cases hl : (goF b dict e s n).2.i < e
    · rw [go_succ hl] at h ⊢
      have h1 := go_more n hl
      have h2 := (step_i (b := b) (dict := dict) hl).1
      show s.i + (n + 1) ≤ (stepF b dict e (goF b dict e s n).2).2.i
      omega
    · rw [go_same hl] at h
      exact absurd h hl
theorem go_stop {n : Nat} (h : e ≤ (goF b dict e s n).2.i) : ∀ m, goF b dict e s (n + m) = goF b dict e s n
  | 0 => rfl
  | m + 1 => by
    show goF b dict e s (n + m + 1) = _
    rw [go_same (by rw [go_stop h m]; omega), go_stop h m]
theorem find_is {n : Nat} (h : e ≤ (goF b dict e s n).2.i) : findF b dict e s = goF b dict e s n := by
  unfold findF
  have h2 : e ≤ (goF b dict e s e).2.i := by
    by_cases hl : (goF b dict e s e).2.i < e
    · have := go_more e hl
      omega
    · omega
  by_cases hn : n ≤ e
  · have := go_stop h (e - n)
    rwa [show n + (e - n) = e by omega] at this
  · have := go_stop h2 (n - e)
    rw [show e + (n - e) = n by omega] at this
    exact this.symm
theorem go_end (h : s.i ≤ e) : ∀ n, (goF b dict e s n).2.i ≤ e
  | 0 => h
  | n + 1 => by
    by_cases hl : (goF b dict e s n).2.i < e
    · rw [go_succ hl]
      exact (step_i hl).2
    · rw [go_same hl]
      exact go_end h n
theorem go_lit (h : s.Lit) (he : e ≤ 4000000000) : ∀ n, (goF b dict e s n).2.Lit
  | 0 => h
  | n + 1 => by
    by_cases hl : (goF b dict e s n).2.i < e
    · rw [go_succ hl]
      exact step_lit (go_lit h he n) he
    · rw [go_same hl]
      exact go_lit h he n
theorem go_len : ∀ n, (goF b dict e s n).1.length ≤ n
  | 0 => Nat.le_refl _
  | n + 1 => by
    have := go_len n
    by_cases hl : (goF b dict e s n).2.i < e
    · rw [go_succ hl, List.length_append]
      show _ + 1 ≤ _
      omega
    · rw [go_same hl]
      omega
end

/-! ### the program's way -/
section
variable {b : List UInt8} {dict e : Nat} {s : Ps}
/-- the longest copy that is worth more -/
def worth (b : List UInt8) (dict e : Nat) (s : Ps) (least : Nat) : Nat × Nat := if least ≤ (lonP b dict e s).2 then lonP b dict e s else (0, 0)
/-- the elder distances' one, if it is one of a packet -/
def eld2 (b : List UInt8) (dict e : Nat) (s : Ps) : Nat × Nat := best2 (fun h => cpN b dict e s.i (s.rep h)) 4
theorem eld2_is : eld2 b dict e s = if 2 ≤ (eldP b dict e s).2 then eldP b dict e s else (0, 0) := best2_is _ _
theorem step_prog : stepF b dict e s = stepH (eld2 b dict e s) (worth b dict e s ((eld2 b dict e s).2 + 2)) (cpN b dict e s.i s.r0) (b.getD s.i 0) s := by
  rw [eld2_is]
  unfold stepF
  by_cases h2 : 2 ≤ (eldP b dict e s).2
  · rw [if_pos h2]
    by_cases hm : (eldP b dict e s).2 + 2 ≤ (lonP b dict e s).2
    · have e1 : worth b dict e s ((eldP b dict e s).2 + 2) = lonP b dict e s := if_pos hm
      have e2 : lonM b dict e s = (lonP b dict e s).2 := if_neg (by omega)
      rw [e1, e2]
      unfold stepG stepH
      rw [if_neg (by omega), if_pos (.inl (by omega)), if_pos (.inl (by omega))]
    · have e1 : worth b dict e s ((eldP b dict e s).2 + 2) = (0, 0) := if_neg hm
      have e2 : lonM b dict e s ≤ (eldP b dict e s).2 + 1 := by unfold lonM; split <;> omega
      rw [e1]
      unfold stepG stepH
      rw [if_pos ⟨h2, e2⟩, if_neg (by simp), if_pos (by omega)]
  · rw [if_neg h2]
    by_cases hm : 2 ≤ (lonP b dict e s).2
    · have e1 : worth b dict e s (((0, 0) : Nat × Nat).2 + 2) = lonP b dict e s := if_pos hm
      have e2 : lonM b dict e s = (lonP b dict e s).2 := if_neg (by omega)
      rw [e1, e2]
      unfold stepG stepH
      rw [if_neg (fun h => h2 h.1)]
      by_cases hc : 3 ≤ (lonP b dict e s).2 ∨ ((lonP b dict e s).2 = 2 ∧ (lonP b dict e s).1 < 128)
      · rw [if_pos hc, if_pos (hc.imp (fun h => by omega) id)]
      · rw [if_neg hc, if_neg (show ¬ (2 < (lonP b dict e s).2 ∨ ((lonP b dict e s).2 = 2 ∧ (lonP b dict e s).1 < 128)) from fun h => hc (h.imp (fun h => by omega) id)), if_neg (show ¬ 0 < ((0, 0) : Nat × Nat).2 from Nat.lt_irrefl 0)]
    · have e1 : worth b dict e s (((0, 0) : Nat × Nat).2 + 2) = (0, 0) := if_neg hm
      have e2 : lonM b dict e s = 0 := if_pos (by omega)
      rw [e1, e2]
      unfold stepG stepH
      rw [if_neg (fun h => h2 h.1), if_neg (show ¬ (3 ≤ 0 ∨ (0 = 2 ∧ (lonP b dict e s).1 < 128)) by omega), if_neg (show ¬ (2 < ((0, 0) : Nat × Nat).2 ∨ (((0, 0) : Nat × Nat).2 = 2 ∧ ((0, 0) : Nat × Nat).1 < 128)) by simp), if_neg (show ¬ 0 < ((0, 0) : Nat × Nat).2 from Nat.lt_irrefl 0)]
end

/-! ### bytes that are a part of others -/
section
variable {b c : List UInt8} {dict p t : Nat}
theorem cpN_part (hp : ∀ j, j < t → c.getD j 0 = b.getD (p + j) 0) {i d : Nat} (hi : i ≤ t) (hd : p = 0 ∨ dict ≤ i) : cpN c dict t i d = cpN b dict (p + t) (p + i) d := by
  unfold cpN
  rw [show p + t - (p + i) = t - i by omega]
  by_cases h : d < i ∧ d < dict
  · rw [if_pos h, if_pos ⟨by omega, h.2⟩]
    exact eqN_part hp _ _ (by omega) (by omega)
  · rw [if_neg h, if_neg (fun h' => h ⟨by omega, h'.2⟩)]
def Ps.far (s : Ps) (p : Nat) : Ps := { s with i := p + s.i }
theorem far_rep (s : Ps) (p k : Nat) : (s.far p).rep k = s.rep k := by
  match k with
  | 0 => rfl
  | 1 => rfl
  | 2 => rfl
  | n + 3 => rfl
theorem far_raise (s : Ps) (p n k : Nat) : (s.far p).raise n k = (s.raise n k).far p := by
  have e : p + s.i + n = p + (s.i + n) := by omega
  match k with
  | 0 => show Ps.mk (p + s.i + n) _ _ _ _ = _; rw [e]; rfl
  | 1 => show Ps.mk (p + s.i + n) _ _ _ _ = _; rw [e]; rfl
  | 2 => show Ps.mk (p + s.i + n) _ _ _ _ = _; rw [e]; rfl
  | m + 3 => show Ps.mk (p + s.i + n) _ _ _ _ = _; rw [e]; rfl
theorem step_part (hp : ∀ j, j < t → c.getD j 0 = b.getD (p + j) 0) {s : Ps} (hi : s.i < t) (hd : p = 0 ∨ dict ≤ s.i) : stepF b dict (p + t) (s.far p) = ((stepF c dict t s).1, (stepF c dict t s).2.far p) := by
  have k1 : eldP b dict (p + t) (s.far p) = eldP c dict t s := best_congr fun h _ => by
    rw [far_rep]
    exact (cpN_part hp (by omega) hd).symm
  have e0 : min (p + s.i) dict = min s.i dict := by omega
  have k2 : lonP b dict (p + t) (s.far p) = lonP c dict t s := by
    unfold lonP
    show best _ (min (p + s.i) dict) = _
    rw [e0]
    exact best_congr fun d _ => (cpN_part hp (by omega) hd).symm
  have k3 : lonM b dict (p + t) (s.far p) = lonM c dict t s := by unfold lonM; rw [k2]
  have k4 : cpN b dict (p + t) (s.far p).i (s.far p).r0 = cpN c dict t s.i s.r0 := (cpN_part hp (by omega) hd).symm
  have k5 : b.getD (s.far p).i 0 = c.getD s.i 0 := (hp _ hi).symm
  have e1 : ∀ n, p + s.i + n = p + (s.i + n) := fun n => by omega
  unfold stepF
  rw [k1, k2, k3, k4, k5]
  unfold stepG
  rw [far_raise]
  split
  · rfl
  · split
    · show (_, Ps.mk (p + s.i + _) _ _ _ _) = _
      rw [e1]
      rfl
    · split
      · show (_, Ps.mk (p + s.i + 1) _ _ _ _) = _
        rw [e1]
        rfl
      · show (_, Ps.mk (p + s.i + 1) _ _ _ _) = _
        rw [e1]
        rfl
theorem go_part (hp : ∀ j, j < t → c.getD j 0 = b.getD (p + j) 0) {s : Ps} (hd : p = 0 ∨ dict ≤ s.i) : ∀ n, goF b dict (p + t) (s.far p) n = ((goF c dict t s n).1, (goF c dict t s n).2.far p) ∧ s.i ≤ (goF c dict t s n).2.i
  | 0 => ⟨rfl, Nat.le_refl _⟩
  | n + 1 => by
    obtain ⟨h1, h2⟩ := go_part hp hd n
    by_cases hl : (goF c dict t s n).2.i < t
    · rw [go_succ hl, go_succ (by rw [h1]; show p + _ < p + t; omega), h1]
      have := (step_i (b := c) (dict := dict) hl).1
      refine ⟨?_, by show s.i ≤ (stepF c dict t _).2.i; omega⟩
      show ((goF c dict t s n).1 ++ [(stepF b dict (p + t) ((goF c dict t s n).2.far p)).1], (stepF b dict (p + t) ((goF c dict t s n).2.far p)).2) = _
      rw [step_part hp hl (hd.imp id (fun h => by omega))]
    · rw [go_same hl, go_same (by rw [h1]; show ¬ p + _ < p + t; omega)]
      exact ⟨h1, h2⟩
theorem find_part (hp : ∀ j, j < t → c.getD j 0 = b.getD (p + j) 0) {s : Ps} (hi : s.i ≤ t) (hd : p = 0 ∨ dict ≤ s.i) : findF b dict (p + t) (s.far p) = ((findF c dict t s).1, (findF c dict t s).2.far p) := by
  obtain ⟨h1, h2⟩ := go_part hp hd t
  have h3 : t ≤ (goF c dict t s t).2.i := by
    by_cases hl : (goF c dict t s t).2.i < t
    · have := go_more t hl
      omega
    · omega
  rw [find_is (n := t) (by rw [h1]; show p + t ≤ p + _; omega), h1]
  rfl
end
end Go.Proofs.YtoencondpbkomaaGreat

/-
  Two machines go one way: packets as numbers, side by side; the second one may fall dead on the way.
-/
namespace Go.Proofs.YtoencondpbkomaaGreat

section
variable {σ τ : Type} {M1 : Mach σ} {M2 : Mach τ} {ok : Nat → σ → Prop} {Rel : σ → τ → Prop} {Fut : σ → Prop} {Dead : τ → Prop}

/-- The second machine does what the first one does, or falls dead; Fut: what the first one does on the way to its end. -/
structure Simu (M1 : Mach σ) (ok : Nat → σ → Prop) (M2 : Mach τ) (Rel : σ → τ → Prop) (Fut : σ → Prop) (Dead : τ → Prop) : Prop where
  okm : MachOk M1 ok
  bit : ∀ {x y k p w w'}, ok (k + 1) x → POk p → M1.may w → Rel x y → Fut (M1.bit x p w).2.2 →
    Dead (M2.bit y p w').2.2 ∨ ((M2.bit y p w').1 = (M1.bit x p w).1 ∧ (M2.bit y p w').2.1 = (M1.bit x p w).2.1 ∧ Rel (M1.bit x p w).2.2 (M2.bit y p w').2.2)
  str : ∀ {x y k n v v'}, ok (k + 1) x → n ≤ 32 → (M1.enc = true → v < 2 ^ n) → Rel x y → Fut (M1.str x n v).2 →
    Dead (M2.str y n v').2 ∨ ((M2.str y n v').1 = (M1.str x n v).1 ∧ Rel (M1.str x n v).2 (M2.str y n v').2)
  fbit : ∀ {x k p w}, ok (k + 1) x → POk p → M1.may w → Fut (M1.bit x p w).2.2 → Fut x
  fstr : ∀ {x k n v}, ok (k + 1) x → Fut (M1.str x n v).2 → Fut x
  dbit : ∀ {y p w}, Dead y → Dead (M2.bit y p w).2.2
  dstr : ∀ {y n v}, Dead y → Dead (M2.str y n v).2
  same : ∀ {x y}, Rel x y → M2.bad y = M1.bad x

def Sm (Rel : σ → τ → Prop) (t : Pm σ) (u : Pm τ) : Prop := u.ps = t.ps ∧ Rel t.x u.x
def Lk (Rel : σ → τ → Prop) (Dead : τ → Prop) (t : Pm σ) (u : Pm τ) : Prop := Dead u.x ∨ Sm Rel t u
def Eqv (Rel : σ → τ → Prop) (Dead : τ → Prop) (r : Nat × Pm σ) (q : Nat × Pm τ) : Prop := Dead q.2.x ∨ (q.1 = r.1 ∧ Sm Rel r.2 q.2)
def EqG (Rel : σ → τ → Prop) (Dead : τ → Prop) (r : Tg σ) (q : Tg τ) : Prop := Dead q.t.x ∨ (q.m = r.m ∧ q.o = r.o ∧ Sm Rel r.t q.t)

/-! ### once dead, dead -/
section
variable (hb : ∀ {y p w}, Dead y → Dead (M2.bit y p w).2.2) (hs : ∀ {y n v}, Dead y → Dead (M2.str y n v).2)
include hb
theorem bit_dead {u : Pm τ} {a : Nat} {w : Int} (h : Dead u.x) : Dead (bitP M2 u a w).2.x := hb h
theorem treeG_dead {u : Pm τ} {a n : Nat} {v : Int} (h : Dead u.x) : ∀ j, Dead (treeG M2 u a n v j).t.x
  | 0 => h
  | j + 1 => hb (treeG_dead h j)
theorem treeP_dead {u : Pm τ} {a n : Nat} {v : Int} (h : Dead u.x) : Dead (treeP M2 u a n v).2.x := treeG_dead hb h n
theorem revG_dead {u : Pm τ} {a : Nat} {v : Int} (h : Dead u.x) : ∀ j, Dead (revG M2 u a v j).t.x
  | 0 => h
  | j + 1 => hb (revG_dead h j)
theorem litG_dead {u : Pm τ} {a : Nat} {o v : UInt8} {s : Bool} (h : Dead u.x) : ∀ j, Dead (litG M2 u a o v s j).t.x
  | 0 => h
  | j + 1 => by
    show Dead (lgStep M2 a _ _ (litG M2 u a o v s j)).t.x
    unfold lgStep
    split
    · exact hb (litG_dead h j)
    · exact hb (litG_dead h j)
theorem lenA_dead {b : Nat × Pm τ} {a s : Nat} {v : Int} (h : Dead b.2.x) : Dead (lenA M2 b a s v).2.x := by
  unfold lenA
  split
  · exact treeP_dead hb h
  · unfold lenB
    split
    · exact treeG_dead (M2 := M2) (Dead := Dead) hb (u := (bitP M2 b.2 (a + 1) (min (v.tdiv 16) 1)).2) (hb h) _
    · exact treeG_dead (M2 := M2) (Dead := Dead) hb (u := (bitP M2 b.2 (a + 1) (min (v.tdiv 16) 1)).2) (hb h) _
include hs
omit hs
omit hb in
end

/-! ### side by side -/
theorem bitP_fut (S : Simu M1 ok M2 Rel Fut Dead) {L k a : Nat} {w : Int} {t : Pm σ} (ht : PmOk ok L (k + 1) t) (ha : a < L) (hw : M1.may w) (hf : Fut (bitP M1 t a w).2.x) : Fut t.x :=
  S.fbit ht.x (getD_ok ht.ps (show a < t.ps.length by rw [ht.len]; exact ha)) hw hf
theorem bitP_sim (S : Simu M1 ok M2 Rel Fut Dead) {L k a : Nat} {w w' : Int} {t : Pm σ} {u : Pm τ} (ht : PmOk ok L (k + 1) t) (ha : a < L) (hw : M1.may w) (hf : Fut (bitP M1 t a w).2.x) (hq : Lk Rel Dead t u) :
    Eqv Rel Dead (bitP M1 t a w) (bitP M2 u a w') := by
  rcases hq with hd | ⟨h1, h2⟩
  · exact .inl (S.dbit hd)
  · rcases S.bit (w' := w') ht.x (getD_ok ht.ps (show a < t.ps.length by rw [ht.len]; exact ha)) hw h2 hf with h | ⟨e1, e2, e3⟩
    · left
      show Dead (M2.bit u.x (u.ps.getD a 0) w').2.2
      rw [h1]
      exact h
    · right
      refine ⟨?_, ?_, ?_⟩
      · show (M2.bit u.x (u.ps.getD a 0) w').1 = _
        rw [h1, e1]
        rfl
      · show u.ps.set a (M2.bit u.x (u.ps.getD a 0) w').2.1 = t.ps.set a _
        rw [h1, e2]
      · show Rel _ (M2.bit u.x (u.ps.getD a 0) w').2.2
        rw [h1]
        exact e3

theorem tgStep_sim (S : Simu M1 ok M2 Rel Fut Dead) {L k a i : Nat} {w w' : Int} {s : Tg σ} {q : Tg τ} (ht : PmOk ok L (k + 1) s.t) (ha : a + s.m < L) (hw : M1.may w) (hf : Fut (tgStep M1 a i w s).t.x) (hq : EqG Rel Dead s q) :
    EqG Rel Dead (tgStep M1 a i w s) (tgStep M2 a i w' q) := by
  rcases hq with hd | ⟨e1, e2, e3⟩
  · exact .inl (S.dbit hd)
  · rcases bitP_sim S (w' := w') ht ha hw hf (.inr e3) with h | ⟨h1, h2⟩
    · left
      show Dead (bitP M2 q.t (a + q.m) w').2.x
      rw [e1]
      exact h
    · right
      refine ⟨?_, ?_, ?_⟩
      · show 2 * q.m + (bitP M2 q.t (a + q.m) w').1 = 2 * s.m + (bitP M1 s.t (a + s.m) w).1
        rw [e1, h1]
      · show q.o + (bitP M2 q.t (a + q.m) w').1 * 2 ^ i = s.o + (bitP M1 s.t (a + s.m) w).1 * 2 ^ i
        rw [e1, e2, h1]
      · show Sm Rel (bitP M1 s.t (a + s.m) w).2 (bitP M2 q.t (a + q.m) w').2
        rw [e1]
        exact h2
theorem tgStep_fut (S : Simu M1 ok M2 Rel Fut Dead) {L k a i : Nat} {w : Int} {s : Tg σ} (ht : PmOk ok L (k + 1) s.t) (ha : a + s.m < L) (hw : M1.may w) (hf : Fut (tgStep M1 a i w s).t.x) : Fut s.t.x := bitP_fut S ht ha hw hf

theorem treeG_sim (S : Simu M1 ok M2 Rel Fut Dead) {L k a n : Nat} {v v' : Int} {t : Pm σ} {u : Pm τ} (ht : PmOk ok L (k + n) t) (ha : a + 2 ^ n ≤ L) (hv : M1.mayN v) :
    ∀ j, j ≤ n → Fut (treeG M1 t a n v j).t.x → Fut t.x ∧ (Lk Rel Dead t u → EqG Rel Dead (treeG M1 t a n v j) (treeG M2 u a n v' j))
  | 0, _ => fun hf => ⟨hf, fun hq => by
    rcases hq with h | h
    · exact .inl h
    · exact .inr ⟨rfl, rfl, h⟩⟩
  | j + 1, hj => fun hf => by
    obtain ⟨h1, h2, h3⟩ := treeG_ok S.okm ht ha hv j (by omega)
    have hp : 2 ^ (j + 1) ≤ 2 ^ n := Nat.pow_le_pow_right (by omega) hj
    have h1' : PmOk ok L (k + n - (j + 1) + 1) (treeG M1 t a n v j).t := by rw [show k + n - (j + 1) + 1 = k + n - j by omega]; exact h1
    have hm := want_may hv (n - 1 - j)
    have hf' := tgStep_fut S h1' (by omega) hm hf
    obtain ⟨g1, g2⟩ := treeG_sim S ht ha hv j (by omega) hf'
    exact ⟨g1, fun hq => tgStep_sim S h1' (by omega) hm hf (g2 hq)⟩
theorem treeP_sim (S : Simu M1 ok M2 Rel Fut Dead) {L k a n : Nat} {v v' : Int} {t : Pm σ} {u : Pm τ} (ht : PmOk ok L (k + n) t) (ha : a + 2 ^ n ≤ L) (hv : M1.mayN v) (hf : Fut (treeP M1 t a n v).2.x) :
    Fut t.x ∧ (Lk Rel Dead t u → Eqv Rel Dead (treeP M1 t a n v) (treeP M2 u a n v')) := by
  obtain ⟨g1, g2⟩ := treeG_sim S (u := u) (v' := v') ht ha hv n (Nat.le_refl _) hf
  refine ⟨g1, fun hq => ?_⟩
  rcases g2 hq with h | ⟨e1, _, e3⟩
  · exact .inl h
  · right
    refine ⟨?_, e3⟩
    show (treeG M2 u a n v' n).m - 2 ^ n = (treeG M1 t a n v n).m - 2 ^ n
    rw [e1]
theorem revG_sim (S : Simu M1 ok M2 Rel Fut Dead) {L k a n : Nat} {v v' : Int} {t : Pm σ} {u : Pm τ} (ht : PmOk ok L (k + n) t) (ha : a + 2 ^ n ≤ L) (hv : M1.mayN v) :
    ∀ j, j ≤ n → Fut (revG M1 t a v j).t.x → Fut t.x ∧ (Lk Rel Dead t u → EqG Rel Dead (revG M1 t a v j) (revG M2 u a v' j))
  | 0, _ => fun hf => ⟨hf, fun hq => by
    rcases hq with h | h
    · exact .inl h
    · exact .inr ⟨rfl, rfl, h⟩⟩
  | j + 1, hj => fun hf => by
    obtain ⟨h1, h2, h3, _⟩ := revG_ok S.okm ht ha hv j (by omega)
    have hp : 2 ^ (j + 1) ≤ 2 ^ n := Nat.pow_le_pow_right (by omega) hj
    have h1' : PmOk ok L (k + n - (j + 1) + 1) (revG M1 t a v j).t := by rw [show k + n - (j + 1) + 1 = k + n - j by omega]; exact h1
    have hm := want_may hv j
    have hf' := tgStep_fut S h1' (by omega) hm hf
    obtain ⟨g1, g2⟩ := revG_sim S ht ha hv j (by omega) hf'
    exact ⟨g1, fun hq => tgStep_sim S h1' (by omega) hm hf (g2 hq)⟩
theorem revP_sim (S : Simu M1 ok M2 Rel Fut Dead) {L k a n : Nat} {v v' : Int} {t : Pm σ} {u : Pm τ} (ht : PmOk ok L (k + n) t) (ha : a + 2 ^ n ≤ L) (hv : M1.mayN v) (hf : Fut (revP M1 t a n v).2.x) :
    Fut t.x ∧ (Lk Rel Dead t u → Eqv Rel Dead (revP M1 t a n v) (revP M2 u a n v')) := by
  obtain ⟨g1, g2⟩ := revG_sim S (u := u) (v' := v') ht ha hv n (Nat.le_refl _) hf
  refine ⟨g1, fun hq => ?_⟩
  rcases g2 hq with h | ⟨_, e2, e3⟩
  · exact .inl h
  · exact .inr ⟨e2, e3⟩

theorem lenP_sim (S : Simu M1 ok M2 Rel Fut Dead) {L k a s : Nat} {v v' : Int} {t : Pm σ} {u : Pm τ} (ht : PmOk ok L (k + 10) t) (ha : a + 514 ≤ L) (hs : s ≤ 15) (hv : M1.mayN v) (hf : Fut (lenP M1 t a s v).2.x) :
    Fut t.x ∧ (Lk Rel Dead t u → Eqv Rel Dead (lenP M1 t a s v) (lenP M2 u a s v')) := by
  have m8 : M1.may (min (v.tdiv 8) 1) := may_min (c := 8) (by decide) hv
  have m16 : M1.may (min (v.tdiv 16) 1) := may_min (c := 16) (by decide) hv
  obtain ⟨b1, p1⟩ := bitP_ok S.okm (k := k + 9) ht (show a < L by omega) m8
  have key : ∀ w : Int, Fut (bitP M1 t a (min (v.tdiv 8) 1)).2.x ∧ (Lk Rel Dead t u → Eqv Rel Dead (bitP M1 t a (min (v.tdiv 8) 1)) (bitP M2 u a w) → Eqv Rel Dead (lenP M1 t a s v) (lenA M2 (bitP M2 u a w) a s v')) := by
    intro w
    unfold lenP lenA at hf
    unfold lenP
    by_cases h0 : (bitP M1 t a (min (v.tdiv 8) 1)).1 = 0
    · rw [if_pos h0] at hf
      obtain ⟨g1, g2⟩ := treeP_sim S (u := (bitP M2 u a w).2) (v' := v') (k := k) (p1.mono S.okm (show k + 3 ≤ k + 9 by omega)) (show a + 2 + 8 * s + 2 ^ 3 ≤ L by omega) hv hf
      refine ⟨g1, fun _ he => ?_⟩
      rcases he with hd | ⟨e1, e2⟩
      · exact .inl (lenA_dead S.dbit hd)
      · unfold lenA
        rw [if_pos h0, if_pos (by rw [e1]; exact h0)]
        exact g2 (.inr e2)
    · rw [if_neg h0] at hf
      have hv8 := may_less S.okm (by decide) hv h0
      obtain ⟨b2, p2⟩ := bitP_ok S.okm (k := k + 8) p1 (show a + 1 < L by omega) m16
      unfold lenB at hf
      by_cases h2 : (bitP M1 (bitP M1 t a (min (v.tdiv 8) 1)).2 (a + 1) (min (v.tdiv 16) 1)).1 = 0
      · rw [if_pos h2] at hf
        obtain ⟨g1, g2⟩ := treeP_sim S (u := (bitP M2 (bitP M2 u a w).2 (a + 1) (min (v'.tdiv 16) 1)).2) (v' := v' - 8) (k := k) (p2.mono S.okm (show k + 3 ≤ k + 8 by omega)) (show a + 130 + 8 * s + 2 ^ 3 ≤ L by omega) hv8 hf
        refine ⟨bitP_fut S p1 (by omega) m16 g1, fun _ he => ?_⟩
        rcases he with hd | ⟨e1, e2⟩
        · exact .inl (lenA_dead S.dbit hd)
        · have e3 := bitP_sim S (w' := min (v'.tdiv 16) 1) p1 (show a + 1 < L by omega) m16 g1 (.inr e2)
          unfold lenA
          rw [if_neg h0, if_neg (by rw [e1]; exact h0)]
          unfold lenB
          rcases e3 with hd | ⟨e4, e5⟩
          · left
            split
            · exact treeG_dead (M2 := M2) (Dead := Dead) S.dbit (u := (bitP M2 (bitP M2 u a w).2 (a + 1) (min (v'.tdiv 16) 1)).2) hd _
            · exact treeG_dead (M2 := M2) (Dead := Dead) S.dbit (u := (bitP M2 (bitP M2 u a w).2 (a + 1) (min (v'.tdiv 16) 1)).2) hd _
          · rw [if_pos h2, if_pos (by rw [e4]; exact h2)]
            rcases g2 (.inr e5) with hd | ⟨e6, e7⟩
            · exact .inl hd
            · exact .inr ⟨by dsimp only; rw [e6], e7⟩
      · rw [if_neg h2] at hf
        have hv16 := may_less S.okm (by decide) hv h2
        obtain ⟨g1, g2⟩ := treeP_sim S (u := (bitP M2 (bitP M2 u a w).2 (a + 1) (min (v'.tdiv 16) 1)).2) (v' := v' - 16) (k := k) p2 (show a + 258 + 2 ^ 8 ≤ L by omega) hv16 hf
        refine ⟨bitP_fut S p1 (by omega) m16 g1, fun _ he => ?_⟩
        rcases he with hd | ⟨e1, e2⟩
        · exact .inl (lenA_dead S.dbit hd)
        · have e3 := bitP_sim S (w' := min (v'.tdiv 16) 1) p1 (show a + 1 < L by omega) m16 g1 (.inr e2)
          unfold lenA
          rw [if_neg h0, if_neg (by rw [e1]; exact h0)]
          unfold lenB
          rcases e3 with hd | ⟨e4, e5⟩
          · left
            split
            · exact treeG_dead (M2 := M2) (Dead := Dead) S.dbit (u := (bitP M2 (bitP M2 u a w).2 (a + 1) (min (v'.tdiv 16) 1)).2) hd _
            · exact treeG_dead (M2 := M2) (Dead := Dead) S.dbit (u := (bitP M2 (bitP M2 u a w).2 (a + 1) (min (v'.tdiv 16) 1)).2) hd _
          · rw [if_neg h2, if_neg (by rw [e4]; exact h2)]
            rcases g2 (.inr e5) with hd | ⟨e6, e7⟩
            · exact .inl hd
            · exact .inr ⟨by dsimp only; rw [e6], e7⟩
  have hb := (key (min (v'.tdiv 8) 1)).1
  exact ⟨bitP_fut S (k := k + 9) ht (by omega) m8 hb, fun hq => (key (min (v'.tdiv 8) 1)).2 hq (bitP_sim S (k := k + 9) ht (by omega) m8 hb hq)⟩
end
end Go.Proofs.YtoencondpbkomaaGreat

/-
  Two machines go one way: literals, distances, kinds.
-/
namespace Go.Proofs.YtoencondpbkomaaGreat

section
variable {σ τ : Type} {M1 : Mach σ} {M2 : Mach τ} {ok : Nat → σ → Prop} {Rel : σ → τ → Prop} {Fut : σ → Prop} {Dead : τ → Prop}

def EqL (Rel : σ → τ → Prop) (Dead : τ → Prop) (r : Lg σ) (q : Lg τ) : Prop := Dead q.t.x ∨ (q.m = r.m ∧ q.same = r.same ∧ Sm Rel r.t q.t)
theorem lgStep_sim (S : Simu M1 ok M2 Rel Fut Dead) {L k a j y b : Nat} {b' : Int} {s : Lg σ} {q : Lg τ} (ht : PmOk ok L (k + 1) s.t) (ha : a + 768 ≤ L) (h0 : s.m < 2 ^ (j + 1)) (hj : j < 8) (hy : y ≤ 1) (hb : b ≤ 1) (hf : Fut (lgStep M1 a (y : Int) (b : Int) s).t.x) :
    Fut s.t.x ∧ (EqL Rel Dead s q → EqL Rel Dead (lgStep M1 a (y : Int) (b : Int) s) (lgStep M2 a (y : Int) b' q)) := by
  have hp : 2 ^ (j + 1) ≤ 256 := Nat.le_trans (Nat.pow_le_pow_right (by omega) (show j + 1 ≤ 8 by omega)) (by decide)
  have hm : M1.may (b : Int) := fun _ => by omega
  have hdead : Dead q.t.x → Dead (lgStep M2 a (y : Int) b' q).t.x := fun hd => by
    unfold lgStep
    split
    · exact bit_dead S.dbit hd
    · exact bit_dead S.dbit hd
  unfold lgStep at hf
  by_cases hs : s.same = true
  · rw [if_pos hs] at hf
    have hl : a + 256 * (1 + (y : Int).toNat) + s.m < L := by rw [Int.toNat_natCast]; omega
    have hf' := bitP_fut S ht hl hm hf
    refine ⟨hf', fun hq => ?_⟩
    rcases hq with hd | ⟨e1, e2, e3⟩
    · exact .inl (hdead hd)
    · unfold lgStep
      rw [if_pos hs, if_pos (by rw [e2]; exact hs), e1]
      rcases bitP_sim S (w' := b') ht hl hm hf (.inr e3) with hd | ⟨h1, h2⟩
      · exact .inl hd
      · exact .inr ⟨by dsimp only; rw [h1], by dsimp only; rw [h1], h2⟩
  · rw [if_neg hs] at hf
    have hf' := bitP_fut S ht (show a + s.m < L by omega) hm hf
    refine ⟨hf', fun hq => ?_⟩
    rcases hq with hd | ⟨e1, e2, e3⟩
    · exact .inl (hdead hd)
    · unfold lgStep
      rw [if_neg hs, if_neg (by rw [e2]; exact hs), e1]
      rcases bitP_sim S (w' := b') ht (show a + s.m < L by omega) hm hf (.inr e3) with hd | ⟨h1, h2⟩
      · exact .inl hd
      · exact .inr ⟨by dsimp only; rw [h1], rfl, h2⟩
theorem litG_sim (S : Simu M1 ok M2 Rel Fut Dead) {L k a : Nat} {o v v' : UInt8} {same : Bool} {t : Pm σ} {u : Pm τ} (ht : PmOk ok L (k + 8) t) (ha : a + 768 ≤ L) :
    ∀ j, j ≤ 8 → Fut (litG M1 t a o v same j).t.x → Fut t.x ∧ (Lk Rel Dead t u → EqL Rel Dead (litG M1 t a o v same j) (litG M2 u a o v' same j))
  | 0, _ => fun hf => ⟨hf, fun hq => by
    rcases hq with h | h
    · exact .inl h
    · exact .inr ⟨rfl, rfl, h⟩⟩
  | j + 1, hj => fun hf => by
    obtain ⟨h1, h2, h3⟩ := litG_ok S.okm (o := o) (v := v) (same := same) ht ha j (by omega)
    obtain ⟨y, hy, hy1⟩ := want_byte o (7 - j)
    obtain ⟨b, hb, hb1⟩ := want_byte v (7 - j)
    have hf : Fut (lgStep M1 a (want (o.toNat : Int) (7 - j)) (want (v.toNat : Int) (7 - j)) (litG M1 t a o v same j)).t.x := hf
    show Fut t.x ∧ (Lk Rel Dead t u → EqL Rel Dead (lgStep M1 a (want (o.toNat : Int) (7 - j)) (want (v.toNat : Int) (7 - j)) (litG M1 t a o v same j)) (lgStep M2 a (want (o.toNat : Int) (7 - j)) (want (v'.toNat : Int) (7 - j)) (litG M2 u a o v' same j)))
    rw [hy, hb] at hf ⊢
    obtain ⟨g1, g2⟩ := lgStep_sim S (q := litG M2 u a o v' same j) (b' := want (v'.toNat : Int) (7 - j)) (k := k + 8 - (j + 1)) (j := j) (by rw [show k + 8 - (j + 1) + 1 = k + 8 - j by omega]; exact h1) ha h3 (by omega) hy1 hb1 hf
    obtain ⟨i1, i2⟩ := litG_sim S (u := u) (v' := v') ht ha j (by omega) g1
    exact ⟨i1, fun hq => g2 (i2 hq)⟩
/-! ### kinds -/
def EqK (Rel : σ → τ → Prop) (Dead : τ → Prop) (r : Nat × Bool × Pm σ) (q : Nat × Bool × Pm τ) : Prop := Dead q.2.2.x ∨ (q.1 = r.1 ∧ q.2.1 = r.2.1 ∧ Sm Rel r.2.2 q.2.2)
def CK (ok : Nat → σ → Prop) (Rel : σ → τ → Prop) (Fut : σ → Prop) (Dead : τ → Prop) (L k : Nat) (C1 : Nat × Pm σ → Nat × Bool × Pm σ) (C2 : Nat × Pm τ → Nat × Bool × Pm τ) : Prop :=
  ∀ b q, PmOk ok L k b.2 → Fut (C1 b).2.2.x → Fut b.2.x ∧ (Eqv Rel Dead b q → EqK Rel Dead (C1 b) (C2 q))
theorem ck_bit (S : Simu M1 ok M2 Rel Fut Dead) {L k a : Nat} {w w' : Int} {C1 : Nat × Pm σ → Nat × Bool × Pm σ} {C2 : Nat × Pm τ → Nat × Bool × Pm τ} (hC : CK ok Rel Fut Dead L k C1 C2) {t : Pm σ} {u : Pm τ} (ht : PmOk ok L (k + 1) t) (ha : a < L) (hw : M1.may w)
    (hf : Fut (C1 (bitP M1 t a w)).2.2.x) : Fut t.x ∧ (Lk Rel Dead t u → EqK Rel Dead (C1 (bitP M1 t a w)) (C2 (bitP M2 u a w'))) := by
  have hb := (bitP_ok S.okm ht ha hw).2
  have g1 := (hC _ (bitP M2 u a w') hb hf).1
  exact ⟨bitP_fut S ht ha hw g1, fun hq => (hC _ _ hb hf).2 (bitP_sim S ht ha hw g1 hq)⟩
theorem ck_kd5 {L k : Nat} : CK ok Rel Fut Dead L k kd5 kd5 := fun b q _ hf => ⟨hf, fun he => by
  rcases he with hd | ⟨e1, e2⟩
  · exact .inl hd
  · refine .inr ⟨?_, rfl, e2⟩
    show (if q.1 = 0 then 4 else 5) = (if b.1 = 0 then 4 else 5)
    rw [e1]⟩
theorem ck_kdL {L k : Nat} : CK ok Rel Fut Dead L k kdL kdL := fun b q _ hf => ⟨hf, fun he => by
  rcases he with hd | ⟨e1, e2⟩
  · exact .inl hd
  · refine .inr ⟨?_, rfl, e2⟩
    show (if q.1 = 0 then 6 else 2) = (if b.1 = 0 then 6 else 2)
    rw [e1]⟩
theorem ck_kd4 (S : Simu M1 ok M2 Rel Fut Dead) {L k st : Nat} {kd kd' : Int} (hL : 1847 ≤ L) (hst : st ≤ 11) : CK ok Rel Fut Dead L (k + 1) (fun b => kd4 M1 b st kd) (fun q => kd4 M2 q st kd') := fun b q hb hf => by
  dsimp only at hf ⊢
  by_cases h0 : b.1 = 0
  · have e : kd4 M1 b st kd = (3, false, b.2) := if_pos h0
    rw [e] at hf ⊢
    refine ⟨hf, fun he => ?_⟩
    rcases he with hd | ⟨e1, e2⟩
    · left
      unfold kd4
      split
      · exact hd
      · exact bit_dead (M2 := M2) S.dbit (u := q.2) (a := 228 + st) (w := chI (kd' = 4)) hd
    · have e' : kd4 M2 q st kd' = (3, false, q.2) := if_pos (by rw [e1]; exact h0)
      rw [e']
      exact .inr ⟨rfl, rfl, e2⟩
  · have e : kd4 M1 b st kd = kd5 (bitP M1 b.2 (228 + st) (chI (kd = 4))) := if_neg h0
    rw [e] at hf ⊢
    obtain ⟨g1, g2⟩ := ck_bit S (w' := chI (kd' = 4)) (u := q.2) (ck_kd5 (L := L) (k := k)) hb (show 228 + st < L by omega) (chI_may _) hf
    refine ⟨g1, fun he => ?_⟩
    rcases he with hd | ⟨e1, e2⟩
    · left
      unfold kd4
      split
      · exact hd
      · exact bit_dead (M2 := M2) S.dbit (u := q.2) (a := 228 + st) (w := chI (kd' = 4)) hd
    · have e' : kd4 M2 q st kd' = kd5 (bitP M2 q.2 (228 + st) (chI (kd' = 4))) := if_neg (by rw [e1]; exact h0)
      rw [e']
      exact g2 (.inr e2)
theorem kd3_dead (S : Simu M1 ok M2 Rel Fut Dead) {q : Nat × Pm τ} {st s : Nat} {kd : Int} (hd : Dead q.2.x) : Dead (kd3 M2 q st s kd).2.2.x := by
  unfold kd3
  split
  · exact bit_dead (M2 := M2) S.dbit (u := q.2) (a := 240 + 16 * st + s) (w := chI (kd = 6)) hd
  · unfold kd4
    split
    · exact bit_dead (M2 := M2) S.dbit (u := q.2) (a := 216 + st) (w := chI (kd = 3)) hd
    · exact bit_dead (M2 := M2) S.dbit (u := (bitP M2 q.2 (216 + st) (chI (kd = 3))).2) (a := 228 + st) (w := chI (kd = 4)) (bit_dead (M2 := M2) S.dbit (u := q.2) (a := 216 + st) (w := chI (kd = 3)) hd)
theorem ck_kd3 (S : Simu M1 ok M2 Rel Fut Dead) {L k st s : Nat} {kd kd' : Int} (hL : 1847 ≤ L) (hst : st ≤ 11) (hs : s ≤ 15) : CK ok Rel Fut Dead L (k + 2) (fun b => kd3 M1 b st s kd) (fun q => kd3 M2 q st s kd') := fun b q hb hf => by
  dsimp only at hf ⊢
  by_cases h0 : b.1 = 0
  · have e : kd3 M1 b st s kd = kdL (bitP M1 b.2 (240 + 16 * st + s) (chI (kd = 6))) := if_pos h0
    rw [e] at hf ⊢
    obtain ⟨g1, g2⟩ := ck_bit S (w' := chI (kd' = 6)) (u := q.2) (ck_kdL (L := L) (k := k + 1)) hb (show 240 + 16 * st + s < L by omega) (chI_may _) hf
    refine ⟨g1, fun he => ?_⟩
    rcases he with hd | ⟨e1, e2⟩
    · exact .inl (kd3_dead S hd)
    · have e' : kd3 M2 q st s kd' = kdL (bitP M2 q.2 (240 + 16 * st + s) (chI (kd' = 6))) := if_pos (by rw [e1]; exact h0)
      rw [e']
      exact g2 (.inr e2)
  · have e : kd3 M1 b st s kd = kd4 M1 (bitP M1 b.2 (216 + st) (chI (kd = 3))) st kd := if_neg h0
    rw [e] at hf ⊢
    obtain ⟨g1, g2⟩ := ck_bit S (w' := chI (kd' = 3)) (u := q.2) (ck_kd4 S (L := L) (k := k) (st := st) (kd := kd) (kd' := kd') hL hst) hb (show 216 + st < L by omega) (chI_may _) hf
    refine ⟨g1, fun he => ?_⟩
    rcases he with hd | ⟨e1, e2⟩
    · exact .inl (kd3_dead S hd)
    · have e' : kd3 M2 q st s kd' = kd4 M2 (bitP M2 q.2 (216 + st) (chI (kd' = 3))) st kd' := if_neg (by rw [e1]; exact h0)
      rw [e']
      exact g2 (.inr e2)
theorem kd2_dead (S : Simu M1 ok M2 Rel Fut Dead) {q : Nat × Pm τ} {em : Bool} {st s : Nat} {kd : Int} (hd : Dead q.2.x) : Dead (kd2 M2 q em st s kd).2.2.x := by
  unfold kd2
  split
  · exact hd
  split
  · exact hd
  · exact kd3_dead S (bit_dead (M2 := M2) S.dbit (u := q.2) (a := 204 + st) (w := chI (kd = 2 ∨ kd = 6)) hd)
theorem ck_kd2 (S : Simu M1 ok M2 Rel Fut Dead) {L k st s : Nat} {em : Bool} {kd kd' : Int} (hL : 1847 ≤ L) (hst : st ≤ 11) (hs : s ≤ 15) : CK ok Rel Fut Dead L (k + 3) (fun b => kd2 M1 b em st s kd) (fun q => kd2 M2 q em st s kd') := fun b q hb hf => by
  dsimp only at hf ⊢
  by_cases h0 : b.1 = 0
  · have e : kd2 M1 b em st s kd = (1, false, b.2) := if_pos h0
    rw [e] at hf ⊢
    refine ⟨hf, fun he => ?_⟩
    rcases he with hd | ⟨e1, e2⟩
    · exact .inl (kd2_dead S hd)
    · have e' : kd2 M2 q em st s kd' = (1, false, q.2) := if_pos (by rw [e1]; exact h0)
      rw [e']
      exact .inr ⟨rfl, rfl, e2⟩
  · by_cases hem : em = true
    · have e : kd2 M1 b em st s kd = (6, true, b.2) := by unfold kd2; rw [if_neg h0, if_pos hem]
      rw [e] at hf ⊢
      refine ⟨hf, fun he => ?_⟩
      rcases he with hd | ⟨e1, e2⟩
      · exact .inl (kd2_dead S hd)
      · have e' : kd2 M2 q em st s kd' = (6, true, q.2) := by unfold kd2; rw [if_neg (by rw [e1]; exact h0), if_pos hem]
        rw [e']
        exact .inr ⟨rfl, rfl, e2⟩
    · have e : kd2 M1 b em st s kd = kd3 M1 (bitP M1 b.2 (204 + st) (chI (kd = 2 ∨ kd = 6))) st s kd := by unfold kd2; rw [if_neg h0, if_neg hem]
      rw [e] at hf ⊢
      obtain ⟨g1, g2⟩ := ck_bit S (w' := chI (kd' = 2 ∨ kd' = 6)) (u := q.2) (ck_kd3 S (L := L) (k := k) (st := st) (s := s) (kd := kd) (kd' := kd') hL hst hs) hb (show 204 + st < L by omega) (chI_may _) hf
      refine ⟨g1, fun he => ?_⟩
      rcases he with hd | ⟨e1, e2⟩
      · exact .inl (kd2_dead S hd)
      · have e' : kd2 M2 q em st s kd' = kd3 M2 (bitP M2 q.2 (204 + st) (chI (kd' = 2 ∨ kd' = 6))) st s kd' := by unfold kd2; rw [if_neg (by rw [e1]; exact h0), if_neg hem]
        rw [e']
        exact g2 (.inr e2)
theorem ck_kd1 (S : Simu M1 ok M2 Rel Fut Dead) {L k st s : Nat} {em : Bool} {kd kd' : Int} (hL : 1847 ≤ L) (hst : st ≤ 11) (hs : s ≤ 15) : CK ok Rel Fut Dead L (k + 4) (fun b => kd1 M1 b em st s kd) (fun q => kd1 M2 q em st s kd') := fun b q hb hf => by
  dsimp only at hf ⊢
  have hdd : Dead q.2.x → Dead (kd1 M2 q em st s kd').2.2.x := fun hd => by
    unfold kd1
    split
    · exact hd
    · exact kd2_dead S (bit_dead (M2 := M2) S.dbit (u := q.2) (a := 192 + st) (w := chI (kd' = 1 ∨ kd' = 7)) hd)
  by_cases h0 : b.1 = 0
  · have e : kd1 M1 b em st s kd = (0, false, b.2) := if_pos h0
    rw [e] at hf ⊢
    refine ⟨hf, fun he => ?_⟩
    rcases he with hd | ⟨e1, e2⟩
    · exact .inl (hdd hd)
    · have e' : kd1 M2 q em st s kd' = (0, false, q.2) := if_pos (by rw [e1]; exact h0)
      rw [e']
      exact .inr ⟨rfl, rfl, e2⟩
  · have e : kd1 M1 b em st s kd = kd2 M1 (bitP M1 b.2 (192 + st) (chI (kd = 1 ∨ kd = 7))) em st s kd := if_neg h0
    rw [e] at hf ⊢
    obtain ⟨g1, g2⟩ := ck_bit S (w' := chI (kd' = 1 ∨ kd' = 7)) (u := q.2) (ck_kd2 S (L := L) (k := k) (st := st) (s := s) (em := em) (kd := kd) (kd' := kd') hL hst hs) hb (show 192 + st < L by omega) (chI_may _) hf
    refine ⟨g1, fun he => ?_⟩
    rcases he with hd | ⟨e1, e2⟩
    · exact .inl (hdd hd)
    · have e' : kd1 M2 q em st s kd' = kd2 M2 (bitP M2 q.2 (192 + st) (chI (kd' = 1 ∨ kd' = 7))) em st s kd' := if_neg (by rw [e1]; exact h0)
      rw [e']
      exact g2 (.inr e2)
theorem kindP_sim (S : Simu M1 ok M2 Rel Fut Dead) {L k st s : Nat} {em : Bool} {kd kd' : Int} {t : Pm σ} {u : Pm τ} (ht : PmOk ok L (k + 5) t) (hL : 1847 ≤ L) (hst : st ≤ 11) (hs : s ≤ 15) (hk : M1.mayN kd) (hf : Fut (kindP M1 t em st s kd).2.2.x) :
    Fut t.x ∧ (Lk Rel Dead t u → EqK Rel Dead (kindP M1 t em st s kd) (kindP M2 u em st s kd')) := by
  have hmay : M1.may (min kd 1) := fun he => by have := hk he; omega
  exact ck_bit S (w' := min kd' 1) (u := u) (ck_kd1 S (L := L) (k := k) (st := st) (s := s) (em := em) (kd := kd) (kd' := kd') hL hst hs) ht (show 16 * st + s < L by omega) hmay hf
end
end Go.Proofs.YtoencondpbkomaaGreat

/-
  Two machines go one way: packets; what a coder codes a decoder tells; with a byte fewer it tells the same, or falls dead.
-/
namespace Go.Proofs.YtoencondpbkomaaGreat

section
variable {σ τ : Type} {M1 : Mach σ} {M2 : Mach τ} {ok : Nat → σ → Prop} {Rel : σ → τ → Prop} {Fut : σ → Prop} {Dead : τ → Prop}

def EqP (Rel : σ → τ → Prop) (Dead : τ → Prop) (r : Nat × Lzs × Pm σ) (q : Nat × Lzs × Pm τ) : Prop := Dead q.2.2.x ∨ (q.1 = r.1 ∧ q.2.1 = r.2.1 ∧ Sm Rel r.2.2 q.2.2)

end

end Go.Proofs.YtoencondpbkomaaGreat

/-
  A decoder with a byte fewer tells the same, or falls bad; what a coder tells is what is wanted.
-/
namespace Go.Proofs.YtoencondpbkomaaGreat

/-- the one has a byte more behind it -/
def OneMore (y : UInt8) (d d' : Dc) : Prop := ∃ r c s, d = some (r, c, s ++ [y]) ∧ d' = some (r, c, s)
theorem lvl_short (y : UInt8) (r c : Nat) (s : List UInt8) : lvl r c s = none ∨ OneMore y (lvl r c (s ++ [y])) (lvl r c s) := by
  unfold lvl
  by_cases h : r < 16777216
  · rw [if_pos h, if_pos h]
    cases s with
    | nil => exact .inl rfl
    | cons x t => exact .inr ⟨r * 256, c * 256 + x.toNat, t, rfl, rfl⟩
  · rw [if_neg h, if_neg h]
    exact .inr ⟨r, c, s, rfl, rfl⟩
theorem one_short {y : UInt8} {d d' : Dc} (h : OneMore y d d') : (oneD d').2 = none ∨ ((oneD d').1 = (oneD d).1 ∧ OneMore y (oneD d).2 (oneD d').2) := by
  obtain ⟨r, c, s, rfl, rfl⟩ := h
  by_cases hc : c < r / 2
  · have e1 : oneD (some (r, c, s)) = (0, lvl (r / 2) c s) := by show (if _ then _ else _) = _; rw [if_pos hc]
    have e2 : oneD (some (r, c, s ++ [y])) = (0, lvl (r / 2) c (s ++ [y])) := by show (if _ then _ else _) = _; rw [if_pos hc]
    rw [e1, e2]
    rcases lvl_short y (r / 2) c s with h | h
    · exact .inl h
    · exact .inr ⟨rfl, h⟩
  · by_cases h2 : c - r / 2 < r / 2
    · have e1 : oneD (some (r, c, s)) = (1, lvl (r / 2) (c - r / 2) s) := by show (if _ then _ else _) = _; rw [if_neg hc, if_pos h2]
      have e2 : oneD (some (r, c, s ++ [y])) = (1, lvl (r / 2) (c - r / 2) (s ++ [y])) := by show (if _ then _ else _) = _; rw [if_neg hc, if_pos h2]
      rw [e1, e2]
      rcases lvl_short y (r / 2) (c - r / 2) s with h | h
      · exact .inl h
      · exact .inr ⟨rfl, h⟩
    · left
      show (if _ then _ else _ : Nat × Dc).2 = none
      rw [if_neg hc, if_neg h2]
theorem go_short {y : UInt8} {d d' : Dc} (h : OneMore y d d') : ∀ n, (straightGo d' n).2 = none ∨ ((straightGo d' n).1 = (straightGo d n).1 ∧ OneMore y (straightGo d n).2 (straightGo d' n).2)
  | 0 => .inr ⟨rfl, h⟩
  | n + 1 => by
    rcases go_short h n with h1 | ⟨h1, h2⟩
    · left
      show (oneD (straightGo d' n).2).2 = none
      rw [h1]; rfl
    · rcases one_short h2 with h3 | ⟨h3, h4⟩
      · exact .inl h3
      · right
        refine ⟨?_, h4⟩
        show 2 * (straightGo d' n).1 + (oneD (straightGo d' n).2).1 = 2 * (straightGo d n).1 + (oneD (straightGo d n).2).1
        rw [h1, h3]
section
variable {σ : Type} {M : Mach σ} {ok : Nat → σ → Prop}
/-- the least first: what is told is what is wanted -/
theorem revG_tell (h : MachOk M ok) (he : M.enc = true) {t : Pm σ} {a v : Nat} : ∀ j, (revG M t a (v : Int) j).o = v % 2 ^ j
  | 0 => by show 0 = v % 1; omega
  | j + 1 => by
    have hb : (bitP M (revG M t a (v : Int) j).t (a + (revG M t a (v : Int) j).m) (want (v : Int) j)).1 = bitOf v j := by
      have := h.tell (x := (revG M t a (v : Int) j).t.x) (p := (revG M t a (v : Int) j).t.ps.getD (a + (revG M t a (v : Int) j).m) 0) (w := want (v : Int) j) he
      rw [want_nat, Int.toNat_natCast] at this
      rw [want_nat]
      exact this
    show (revG M t a (v : Int) j).o + (bitP M (revG M t a (v : Int) j).t (a + (revG M t a (v : Int) j).m) (want (v : Int) j)).1 * 2 ^ j = _
    rw [hb, revG_tell h he j, low_bits]
theorem revP_tell (h : MachOk M ok) (he : M.enc = true) {t : Pm σ} {a n v : Nat} (hv : v < 2 ^ n) : (revP M t a n (v : Int)).1 = v := by
  show (revG M t a (v : Int) n).o = v
  rw [revG_tell h he n, Nat.mod_eq_of_lt hv]
end
theorem str_tell {e : En} {n v : Nat} : (encM.str e n v).1 = v := rfl

theorem distP_tell {L k l v : Nat} {t : Pm En} (ht : PmOk okE L (k + 12) t) (hL0 : 1847 ≤ L) (hv : v < 4294967296) : (distP encM t l v).1 = v := by
  obtain ⟨s1, s2, s3⟩ := slot_spec hv
  have htell : (treeP encM t (432 + 64 * min l 3) 6 ((slotOf v : Nat) : Int)).1 = slotOf v := treeP_tell encM_ok rfl s1
  have hdef : distP encM t l v = distB encM (treeP encM t (432 + 64 * min l 3) 6 ((slotOf v : Nat) : Int)) v := rfl
  rw [hdef]
  generalize treeP encM t (432 + 64 * min l 3) 6 ((slotOf v : Nat) : Int) = sl at *
  unfold distB
  by_cases h4 : sl.1 < 4
  · rw [if_pos h4, htell]
    exact (s2 (by omega)).symm
  rw [if_neg h4]
  obtain ⟨n, hn⟩ : ∃ n, n = sl.1 / 2 - 1 := ⟨_, rfl⟩
  obtain ⟨r, hr⟩ : ∃ r, r = sl.1 % 2 := ⟨_, rfl⟩
  obtain ⟨P, hP⟩ : ∃ P, P = 2 ^ n := ⟨_, rfl⟩
  obtain ⟨base, hb⟩ : ∃ b, b = (2 + r) * P := ⟨_, rfl⟩
  have hspec : base ≤ v ∧ v < base + P := by
    have h2 := s3 (by omega)
    rw [← htell, ← hn, ← hr, ← hP, ← hb] at h2
    exact h2
  by_cases h14 : sl.1 < 14
  · rw [if_pos h14, ← hn, ← hr, ← hP, ← hb]
    dsimp only
    rw [show (v : Int) - (base : Int) = ((v - base : Nat) : Int) by omega, revP_tell encM_ok rfl (by rw [← hP]; omega)]
    omega
  · rw [if_neg h14, ← hn, ← hr, ← hP, ← hb]
    have hn5 : 6 ≤ n := by omega
    obtain ⟨P4, hP4⟩ : ∃ P, P = 2 ^ (n - 4) := ⟨_, rfl⟩
    have hPP : P = 16 * P4 := by rw [hP, hP4, show (16 : Nat) = 2 ^ 4 from rfl, ← Nat.pow_add, show 4 + (n - 4) = n by omega]
    unfold distC
    dsimp only
    rw [str_tell, revP_tell encM_ok rfl (show v % 16 < 2 ^ 4 by omega)]
    have hbm : base % 16 = 0 := by rw [hb, hPP, show (2 + r) * (16 * P4) = 16 * ((2 + r) * P4) by rw [Nat.mul_left_comm], Nat.mul_mod_right]
    have hsl : slotOf v < 64 := s1
    have hn30 : n ≤ 30 := by omega
    have hP30 : P ≤ 2 ^ 30 := by rw [hP]; exact pow_le_of hn30
    omega
end Go.Proofs.YtoencondpbkomaaGreat
