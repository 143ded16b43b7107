/-
  CwRun, Byt, OwnRow, PcPure, PcGive, PcEven, PcLevel, PcBit, PcNums: put together.
-/
import Derived.Test.YtjgdjobhhdhfjaaGreatQa13
import Derived.Test.YtjgdjobhhdhfjaaGreatQa01
import Derived.Test.YtjgdjobhhdhfjaaGreatQa12
import Derived.Test.YtjgdjobhhdhfjaaGreatQa03
import Derived.Test.YtjgdjobhhdhfjaaGreatQa02
import Derived.Deep.RegionLaw
import Derived.LoopN
import Derived.LoopTactic
set_option linter.unusedVariables false
set_option linter.unusedSimpArgs false
/-
  Packets one behind the other, each coded if it fits: numbers.
-/
namespace Go.Proofs.YtjgdjobhhdhfjaaGreat
open Go.RowKit

/-- the greatest number: no packet is left out as it tells too much -/
def mostI : Int := 9223372036854775807
theorem takes_all (z : Lzs) (q : Pq) : takesP mostI z q = fitsP z q.k q.v.toNat q.n := by
  unfold takesP mostI
  have h : ∀ x : Int, IntKind.i64.wrap x ≤ 9223372036854775807 := fun x => by
    rw [IntWalk.i64_left]
    unfold wrap64
    omega
  rw [decide_eq_true (h _), Bool.and_true]
theorem codeS_fits (s : Lzs × Pm En) (q : Pq) : codeS mostI s q = if fitsP s.1 q.pk.kind q.pk.dist q.pk.len = true then (packP encM s.1 s.2 q.pk).2 else s := by
  unfold codeS
  rw [takes_all]
  rfl
/-- behind the first j of a list -/
def runG (qs : Nat → Pq) (s : Lzs × Pm En) (j : Nat) : Lzs × Pm En := codeG mostI qs s j
/-- a coder that begins, as numbers -/
def freshS (lc lp pb dict : Nat) : Lzs × Pm En := (Lzs.start lc lp pb dict, ⟨List.replicate (probsN lc lp) 1024, En.new⟩)
theorem fresh_near {lc lp pb dict : Nat} (h : SetOk lc lp pb dict) : ZNear (freshS lc lp pb dict).1 (probsN lc lp) 0 :=
  ⟨h.1, h.2.1, h.2.2.1, h.2.2.2.2, Nat.le_refl _, (show 0 ≤ 11 by decide), (show 0 < 4294967296 by decide), (show 0 < 4294967296 by decide), (show 0 < 4294967296 by decide), (show 0 < 4294967296 by decide), rfl⟩
theorem fresh_pm {lc lp pb dict m : Nat} (hm : m ≤ 1000000) : PmOk okE (probsN lc lp) m (freshS lc lp pb dict).2 :=
  ⟨fun p hp => by rw [List.eq_of_mem_replicate hp]; exact ⟨by decide, by decide⟩, by show (List.replicate _ _).length = _; simp, enOk_new, by show 5 + 32 * m ≤ _; omega⟩

section
variable {qs : Nat → Pq} {lc lp pb dict n : Nat}
theorem run_ok (h : SetOk lc lp pb dict) (hq : ∀ i, i < n → PqLit (qs i)) (hn : n ≤ 10000) (j : Nat) (hj : j ≤ n) :
    ZNear (runG qs (freshS lc lp pb dict) j).1 (probsN lc lp) (273 * j) ∧ PmOk okE (probsN lc lp) (27 * (n - j)) (runG qs (freshS lc lp pb dict) j).2 := by
  obtain ⟨a, b⟩ := codeG_ok (most := mostI) (s := freshS lc lp pb dict) (k := 0) (m := n) hq (fresh_near h) (fresh_pm (m := 0 + 27 * n) (by omega)) j hj
  exact ⟨a.more (by omega), b.mono encM_ok (by omega)⟩
theorem run_succ (s : Lzs × Pm En) (j : Nat) : runG qs s (j + 1) = if fitsP (runG qs s j).1 (qs j).pk.kind (qs j).pk.dist (qs j).pk.len = true then (packP encM (runG qs s j).1 (runG qs s j).2 (qs j).pk).2 else runG qs s j :=
  codeS_fits (runG qs s j) (qs j)
theorem run_bad (h : SetOk lc lp pb dict) (hq : ∀ i, i < n → PqLit (qs i)) (hn : n ≤ 3000) : ∀ j, j ≤ n → (runG qs (freshS lc lp pb dict) j).1.bad = false
  | 0, _ => rfl
  | j + 1, hj => by
    have ih := run_bad h hq hn j (by omega)
    obtain ⟨h1, h2⟩ := run_ok h hq (by omega) j (by omega)
    rw [run_succ]
    split
    · rename_i hf
      obtain ⟨p1, p2⟩ := pack_enc (k := 0) h1 (h2.mono encM_ok (by omega)) (hq j (by omega)) hf ih
      by_cases hk : (qs j).k = 7
      · exact (p2 hk).1
      · exact (p1 hk).1
    · exact ih
/-- behind an end mark no packet fits -/
theorem run_ended (s : Lzs × Pm En) {j : Nat} (h : (runG qs s j).1.ended = true) : ∀ m, runG qs s (j + m) = runG qs s j
  | 0 => rfl
  | m + 1 => by
    have ih := run_ended s h m
    rw [show j + (m + 1) = (j + m) + 1 by omega, run_succ, ih]
    have : fitsP (runG qs s j).1 (qs (j + m)).pk.kind (qs (j + m)).pk.dist (qs (j + m)).pk.len = false := by unfold fitsP lateP; rw [h]; rfl
    rw [this]
    rfl
/-- a list's packets up to its first end mark do as well -/
theorem run_cut (h : SetOk lc lp pb dict) (hq : ∀ i, i < n → PqLit (qs i)) (hn : n ≤ 3000) : ∃ m, m ≤ n ∧ (∀ i, i + 1 < m → (qs i).k ≠ 7) ∧ runG qs (freshS lc lp pb dict) n = runG qs (freshS lc lp pb dict) m := by
  by_cases hex : ∃ i, i < n ∧ (qs i).k = 7
  · obtain ⟨i, hi, hk⟩ := hex
    have key : ∀ i, i < n → (qs i).k = 7 → ∃ i0, i0 ≤ i ∧ (qs i0).k = 7 ∧ ∀ j, j < i0 → (qs j).k ≠ 7 := by
      intro i
      induction i using Nat.strongRecOn with
      | ind i ih =>
        intro hi hk
        by_cases hb : ∃ j, j < i ∧ (qs j).k = 7
        · obtain ⟨j, hj, hkj⟩ := hb
          obtain ⟨i0, h0, h1, h2⟩ := ih j hj (by omega) hkj
          exact ⟨i0, by omega, h1, h2⟩
        · exact ⟨i, Nat.le_refl _, hk, fun j hj hkj => hb ⟨j, hj, hkj⟩⟩
    obtain ⟨i0, h0, h1, h2⟩ := key i hi hk
    have hb := run_bad h hq hn i0 (by omega)
    obtain ⟨z1, z2⟩ := run_ok h hq (by omega) i0 (by omega)
    have hend : (runG qs (freshS lc lp pb dict) (i0 + 1)).1.ended = true := by
      rw [run_succ]
      by_cases hf : fitsP (runG qs (freshS lc lp pb dict) i0).1 (qs i0).pk.kind (qs i0).pk.dist (qs i0).pk.len = true
      · rw [if_pos hf]
        exact ((pack_enc (k := 0) z1 (z2.mono encM_ok (by omega)) (hq i0 (by omega)) hf hb).2 h1).2.1
      · rw [if_neg hf]
        cases he : (runG qs (freshS lc lp pb dict) i0).1.ended with
        | true => rfl
        | false =>
          exfalso
          apply hf
          show fitsP _ (qs i0).k _ _ = true
          rw [h1]
          unfold fitsP lateP hasP
          rw [he]
          simp
    refine ⟨i0 + 1, by omega, fun j hj => h2 j (by omega), ?_⟩
    have := run_ended (qs := qs) (freshS lc lp pb dict) hend (n - (i0 + 1))
    rw [show i0 + 1 + (n - (i0 + 1)) = n by omega] at this
    exact this
  · exact ⟨n, Nat.le_refl _, fun i hi hk => hex ⟨i, by omega, hk⟩, rfl⟩
end
end Go.Proofs.YtjgdjobhhdhfjaaGreat



/-
  An own row stays.
-/
namespace Go.Proofs.YtjgdjobhhdhfjaaGreat
open Go.RowKit

theorem own_only' {S : Nat → Prop} {w w' : World} {base : Nat} {e : TypeId} {v : Value} {n : Nat} {xs : List Value} (h : w.ownsRow base e 1 v n xs) (hb : Only S w w') (hg : ∀ i, v.ownBlock = some i → ¬ S i) : w'.ownsRow base e 1 v n xs := by
  refine ⟨h.1, ?_⟩
  rcases h.2 with hv | ⟨g', cap, cur, hv, hb', hh, r⟩
  · exact .inl hv
  · refine .inr ⟨g', cap, cur, hv, hb', ?_, r⟩
    subst hv
    have hlt : g' < w.heap.size := by
      rcases Nat.lt_or_ge g' w.heap.size with hlt | hge
      · exact hlt
      · rw [Array.getElem?_eq_none hge] at hh; cases hh
    exact (hb.block g' hlt (hg g' rfl)).trans hh
theorem own_old {w : World} {base : Nat} {e : TypeId} {v : Value} {n i : Nat} {xs : List Value} (h : w.ownsRow base e 1 v n xs) (hi : v.ownBlock = some i) : i < w.heap.size := (World.ownsRow.lt h i hi).2
end Go.Proofs.YtjgdjobhhdhfjaaGreat

/-
  The program's coder as numbers: the bytes that it gave, the byte that waits, the bytes FF behind it, low; and the one great number that it stands for.
-/
namespace Go.Proofs.YtjgdjobhhdhfjaaGreat

structure Co where
  gs : List UInt8
  wt : Nat
  fu : Nat
  lo : Nat

def Co.new : Co := ⟨[], 0, 0, 0⟩
/-- what waited is given, more by m -/
def Co.gave (c : Co) (m : Nat) : List UInt8 := c.gs ++ (UInt8.ofNat (c.wt + m) :: List.replicate c.fu (UInt8.ofNat (255 + m)))
/-- a byte is given -/
def Co.give (c : Co) : Co :=
  if 4294967296 ≤ c.lo then ⟨c.gave 1, c.lo / 16777216 % 256, 0, c.lo % 16777216 * 256⟩
  else if c.lo < 4278190080 then ⟨c.gave 0, c.lo / 16777216, 0, c.lo % 16777216 * 256⟩
  else ⟨c.gs, c.wt, c.fu + 1, c.lo % 16777216 * 256⟩

/-- the coder c stands for n, as long as l; what is added stays below r -/
structure CoN (c : Co) (n l r : Nat) : Prop where
  num : n + 4294967296 = (be c.gs * 256 + c.wt + 1) * 256 ^ c.fu * 4294967296 + c.lo
  len : l = c.gs.length + c.fu + 5
  wt : c.wt < 256
  top : c.lo + r ≤ 8589934592
  full : c.wt = 255 → c.lo + r ≤ 4294967296
  pos : 1 ≤ r

theorem coN_new : CoN Co.new 0 5 4294967295 := ⟨by decide, rfl, by decide, by decide, by decide, by decide⟩
theorem CoN.mono {c : Co} {n l r r' : Nat} (h : CoN c n l r) (hr : r' ≤ r) (h1 : 1 ≤ r') : CoN c n l r' :=
  ⟨h.num, h.len, h.wt, by have := h.top; omega, fun e => by have := h.full e; omega, h1⟩
theorem CoN.low {c : Co} {n l r : Nat} (h : CoN c n l r) : c.lo < 8589934592 := by have := h.top; have := h.pos; omega

/-- what is added -/
def Co.plus (c : Co) (z : Nat) : Co := ⟨c.gs, c.wt, c.fu, c.lo + z⟩
theorem CoN.plus {c : Co} {n l r r' z : Nat} (h : CoN c n l r) (hz : z + r' ≤ r) (h1 : 1 ≤ r') : CoN (c.plus z) (n + z) l r' :=
  ⟨by have := h.num; show n + z + 4294967296 = (be c.gs * 256 + c.wt + 1) * 256 ^ c.fu * 4294967296 + (c.lo + z); omega, h.len, h.wt, by have := h.top; show c.lo + z + r' ≤ _; omega, fun e => by have := h.full e; show c.lo + z + r' ≤ _; omega, h1⟩

theorem be_fulls : ∀ k : Nat, be (List.replicate k (UInt8.ofNat 255)) + 1 = 256 ^ k
  | 0 => rfl
  | k + 1 => by
    have := be_fulls k
    rw [List.replicate_succ', be_snoc, Nat.pow_succ]
    have e : (UInt8.ofNat 255).toNat = 255 := rfl
    rw [e]
    omega
theorem gave_len (c : Co) (m : Nat) : (c.gave m).length = c.gs.length + 1 + c.fu := by unfold Co.gave; simp; omega
theorem be_gave_zero (c : Co) (h : c.wt < 256) : be (c.gave 0) + 1 = (be c.gs * 256 + c.wt + 1) * 256 ^ c.fu := by
  have e : (UInt8.ofNat (c.wt + 0)).toNat = c.wt := by simp; omega
  have k := be_fulls c.fu
  have hc : UInt8.ofNat (c.wt + 0) :: List.replicate c.fu (UInt8.ofNat (255 + 0)) = [UInt8.ofNat (c.wt + 0)] ++ List.replicate c.fu (UInt8.ofNat 255) := rfl
  unfold Co.gave
  rw [hc, ← List.append_assoc, be_append, be_snoc, e, List.length_replicate, Nat.add_mul (be c.gs * 256 + c.wt) 1]
  omega
theorem be_gave_one (c : Co) (h : c.wt < 255) : be (c.gave 1) = (be c.gs * 256 + c.wt + 1) * 256 ^ c.fu := by
  have e : (UInt8.ofNat (c.wt + 1)).toNat = c.wt + 1 := by simp; omega
  have hc : UInt8.ofNat (c.wt + 1) :: List.replicate c.fu (UInt8.ofNat (255 + 1)) = [UInt8.ofNat (c.wt + 1)] ++ List.replicate c.fu 0 := rfl
  unfold Co.gave
  rw [hc, ← List.append_assoc, be_append, be_snoc, e, List.length_replicate, be_zeros, Nat.add_zero, Nat.add_assoc]

theorem give_carry {n X lo h m : Nat} (hn : n + 4294967296 = X * 4294967296 + lo) (hlo : lo = 4294967296 + h * 16777216 + m) : n * 256 + 4294967296 = (X * 256 + h + 1) * 4294967296 + m * 256 := by omega
theorem give_low {n X Y lo h m : Nat} (hn : n + 4294967296 = X * 4294967296 + lo) (hY : Y + 1 = X) (hlo : lo = h * 16777216 + m) : n * 256 + 4294967296 = (Y * 256 + h + 1) * 4294967296 + m * 256 := by omega
theorem give_full {n X lo m : Nat} (hn : n + 4294967296 = X * 4294967296 + lo) (hlo : lo = 255 * 16777216 + m) : n * 256 + 4294967296 = X * 256 * 4294967296 + m * 256 := by omega

theorem CoN.give {c : Co} {n l r : Nat} (h : CoN c n l r) (hr : r < 16777216) : CoN c.give (n * 256) (l + 1) (r * 256) := by
  obtain ⟨h1, h2, h3, h4, h5, h6⟩ := h
  unfold Co.give
  by_cases hc : 4294967296 ≤ c.lo
  · rw [if_pos hc]
    have hw : c.wt < 255 := by
      rcases Nat.lt_or_ge c.wt 255 with h | h
      · exact h
      · have := h5 (by omega)
        omega
    have hX := be_gave_one c hw
    rw [← hX] at h1
    refine ⟨?_, ?_, Nat.mod_lt _ (by decide), ?_, ?_, by omega⟩
    · show n * 256 + 4294967296 = (be (c.gave 1) * 256 + c.lo / 16777216 % 256 + 1) * 256 ^ 0 * 4294967296 + c.lo % 16777216 * 256
      rw [Nat.pow_zero, Nat.mul_one]
      exact give_carry h1 (by omega)
    · show l + 1 = (c.gave 1).length + 0 + 5
      rw [gave_len]
      omega
    · show c.lo % 16777216 * 256 + r * 256 ≤ _
      omega
    · show c.lo / 16777216 % 256 = 255 → c.lo % 16777216 * 256 + r * 256 ≤ _
      intro e
      omega
  · rw [if_neg hc]
    by_cases hl : c.lo < 4278190080
    · rw [if_pos hl]
      have hX := be_gave_zero c h3
      refine ⟨?_, ?_, ?_, ?_, ?_, by omega⟩
      · show n * 256 + 4294967296 = (be (c.gave 0) * 256 + c.lo / 16777216 + 1) * 256 ^ 0 * 4294967296 + c.lo % 16777216 * 256
        rw [Nat.pow_zero, Nat.mul_one]
        exact give_low h1 hX (by omega)
      · show l + 1 = (c.gave 0).length + 0 + 5
        rw [gave_len]
        omega
      · show c.lo / 16777216 < 256
        omega
      · show c.lo % 16777216 * 256 + r * 256 ≤ _
        omega
      · show c.lo / 16777216 = 255 → c.lo % 16777216 * 256 + r * 256 ≤ _
        intro e
        omega
    · rw [if_neg hl]
      refine ⟨?_, ?_, h3, ?_, ?_, by omega⟩
      · show n * 256 + 4294967296 = (be c.gs * 256 + c.wt + 1) * 256 ^ (c.fu + 1) * 4294967296 + c.lo % 16777216 * 256
        rw [Nat.pow_succ, ← Nat.mul_assoc]
        exact give_full h1 (by omega)
      · show l + 1 = c.gs.length + (c.fu + 1) + 5
        omega
      · show c.lo % 16777216 * 256 + r * 256 ≤ _
        omega
      · show c.wt = 255 → c.lo % 16777216 * 256 + r * 256 ≤ _
        intro e
        have := h5 e
        omega

/-- k bytes are given -/
def Co.gives (c : Co) : Nat → Co
  | 0 => c
  | k + 1 => (c.gives k).give
theorem give_lo (c : Co) : c.give.lo = c.lo % 16777216 * 256 := by
  unfold Co.give
  split
  · rfl
  · split <;> rfl
theorem give_zero {c : Co} (h : c.lo = 0) : c.give.fu = 0 ∧ c.give.wt = 0 ∧ c.give.lo = 0 := by
  unfold Co.give
  rw [if_neg (by omega), if_pos (by omega)]
  exact ⟨rfl, by show c.lo / 16777216 = 0; omega, by show c.lo % 16777216 * 256 = 0; omega⟩
theorem CoN.gives {c : Co} {n l : Nat} (h : CoN c n l 1) : ∀ k, CoN (c.gives k) (n * 256 ^ k) (l + k) 1
  | 0 => by rw [Nat.pow_zero, Nat.mul_one]; exact h
  | k + 1 => by
    have := (CoN.gives h k).give (by decide)
    rw [Nat.pow_succ, ← Nat.mul_assoc]
    exact this.mono (by decide) (by decide)
/-- In the end all is given. -/
theorem CoN.finish {c : Co} {n l r : Nat} (h : CoN c n l r) : be (c.gives 5).gs = n ∧ (c.gives 5).gs.length = l := by
  have h0 := h.low
  have h5 := (h.mono h.pos (Nat.le_refl 1)).gives 5
  have l1 : (c.gives 1).lo = c.lo % 16777216 * 256 := give_lo _
  have l2 : (c.gives 2).lo = (c.gives 1).lo % 16777216 * 256 := give_lo _
  have l3 : (c.gives 3).lo = (c.gives 2).lo % 16777216 * 256 := give_lo _
  have l4 : (c.gives 4).lo = (c.gives 3).lo % 16777216 * 256 := give_lo _
  obtain ⟨z1, z2, z3⟩ : (c.gives 5).fu = 0 ∧ (c.gives 5).wt = 0 ∧ (c.gives 5).lo = 0 := give_zero (c := c.gives 4) (by omega)
  obtain ⟨k1, k2, _⟩ := h5
  rw [z1, z2, z3, Nat.pow_zero] at k1
  rw [z1] at k2
  exact ⟨by omega, by omega⟩

theorem gives_succ (c : Co) (k : Nat) : c.gives (k + 1) = (c.gives k).give := rfl
theorem give_fu (c : Co) : c.give.gs.length + c.give.fu = c.gs.length + c.fu + 1 := by
  unfold Co.give
  split
  · show (c.gave 1).length + 0 = _; rw [gave_len]; omega
  · split
    · show (c.gave 0).length + 0 = _; rw [gave_len]; omega
    · show c.gs.length + (c.fu + 1) = _; omega
theorem gives_len (c : Co) : ∀ k, (c.gives k).gs.length + (c.gives k).fu = c.gs.length + c.fu + k
  | 0 => rfl
  | k + 1 => by have := give_fu (c.gives k); have := gives_len c k; rw [gives_succ]; omega
end Go.Proofs.YtjgdjobhhdhfjaaGreat

/-
  The program's coder in memory; what waited is given.
-/
namespace Go.Proofs.YtjgdjobhhdhfjaaGreat
open Go.RowKit

def pcCells (lo r : Nat) (v : Value) (wt fu : Nat) : Array Value := #[.int .u64 (lo : Int), .int .u32 (r : Int), v, .int .u8 (wt : Int), .int .i64 (fu : Int)]

/-- Block g is the program's coder, c, its range r; G is its bytes' block, if there is one. -/
def Pw (w : World) (g : Nat) (G : Option Nat) (c : Co) (r : Nat) : Prop :=
  ∃ A m, Blk w g 142 (pcCells c.lo r (.slice A c.gs.length m) c.wt c.fu) ∧ w.ownsRow 0 5 1 (.slice A c.gs.length m) c.gs.length (bv c.gs) ∧ (Value.slice A c.gs.length m).ownBlock = G ∧ G ≠ some g

def pset (g : Nat) (G : Option Nat) : Nat → Prop := fun i => i = g ∨ G = some i
/-- G' is no old block but G -/
def Nwr (w : World) (G G' : Option Nat) : Prop := ∀ i, G' = some i → G = some i ∨ w.heap.size ≤ i
theorem Nwr.refl (w : World) (G : Option Nat) : Nwr w G G := fun _ h => .inl h
theorem Nwr.trans {w w' : World} {G G' G'' : Option Nat} (h : Nwr w G G') (k : Nwr w' G' G'') (hs : w.heap.size ≤ w'.heap.size) : Nwr w G G'' := fun i hi => by
  rcases k i hi with h1 | h1
  · exact h i h1
  · exact .inr (Nat.le_trans hs h1)
theorem pset_trans {w w1 w2 : World} {g : Nat} {G G1 : Option Nat} (h : Only (pset g G) w w1) (hn : Nwr w G G1) (k : Only (pset g G1) w1 w2) : Only (pset g G) w w2 :=
  h.trans' k fun i hi => by
    rcases hi with hi | hi
    · exact .inl (.inl hi)
    · rcases hn i hi with h1 | h1
      · exact .inl (.inr h1)
      · exact .inr h1

section
variable {w w' : World} {g : Nat} {G : Option Nat} {c : Co} {r : Nat}
theorem Pw.lt (h : Pw w g G c r) : g < w.heap.size := by obtain ⟨A, m, hB, _⟩ := h; exact hB.lt
theorem Pw.old (h : Pw w g G c r) {i : Nat} (hi : G = some i) : i < w.heap.size := by obtain ⟨A, m, hB, hO, hG, _⟩ := h; exact own_old hO (hG.trans hi)
theorem Pw.only {S : Nat → Prop} (h : Pw w g G c r) (hb : Only S w w') (hg : ¬ S g) (hG : ∀ i, G = some i → ¬ S i) : Pw w' g G c r := by
  obtain ⟨A, m, hB, hO, hE, hn⟩ := h
  exact ⟨A, m, hB.only hb hg, own_only' hO hb (fun i hi => hG i (hE.symm.trans hi)), hE, hn⟩
theorem Pw.drewN (h : Pw w g G c r) (n : Nat) : Pw (w.drewN n) g G c r := h
end

/-- What a call of the program's coder leaves. -/
def PwPost (w : World) (g : Nat) (G : Option Nat) (v : Value) (c : Co) (r : Nat) (e : Ending) (w' : World) : Prop :=
  e = .returned v ∧ ∃ G', Pw w' g G' c r ∧ Nwr w G G' ∧ Only (pset g G) w w'

/-- One byte more, and the cell that leads to the bytes is stored. -/
theorem pushed {w w1 w3 : World} {g : Nat} {G : Option Nat} {A : Option Addr} {gs : List UInt8} {m q' c' lo r wt fu : Nat} {x : UInt8} {u : Value} (hu : u = .int .u8 (x.toNat : Int))
    (hB : Blk w g 142 (pcCells lo r (.slice A gs.length m) wt fu)) (hO : w.ownsRow 0 5 1 (.slice A gs.length m) gs.length (bv gs)) (hG : (Value.slice A gs.length m).ownBlock = G) (hne : G ≠ some g)
    (h1 : Only (fun _ => False) w w1) (ho : w3.ownsRow 0 5 1 (.slice (some ⟨q', 0, none⟩) (gs.length + 1) c') (gs.length + 1) (bv gs ++ [u])) (hg : w1.grownBy w3 (Value.slice A gs.length m).ownBlock)
    (hq : (Value.slice A gs.length m).ownBlock = some q' ∨ q' = w1.heap.size) :
    Pw (w3.setCell ⟨g, 2, none⟩ (.slice (some ⟨q', 0, none⟩) (gs.length + 1) c')) g (some q') ⟨gs ++ [x], wt, fu, lo⟩ r ∧ Nwr w G (some q') ∧ Only (pset g G) w (w3.setCell ⟨g, 2, none⟩ (.slice (some ⟨q', 0, none⟩) (gs.length + 1) c')) := by
  subst hu
  have hgl := hB.lt
  have hs1 := h1.size
  have hqg : q' ≠ g := by
    rcases hq with h | h
    · intro e; subst e; exact hne (hG.symm.trans h)
    · omega
  have hB1 : Blk w1 g 142 _ := hB.only h1 (fun h => h)
  have hB3 : Blk w3 g 142 _ := hB1.grown hg (by intro e; exact hne (hG.symm.trans e.symm))
  have h3 : Only (pset g G) w w3 := by
    refine (h1.mono (S' := pset g G) (fun _ h => h.elim)).trans ⟨hg.os, hg.tape, hg.output, hg.size, fun i hi hn => hg.block i hi fun e => hn (.inr (hG.symm.trans e.symm))⟩
  refine ⟨⟨some ⟨q', 0, none⟩, c', ?_, ?_, rfl, fun e => hqg (by injection e)⟩, ?_, h3.setCell (p := ⟨g, 2, none⟩) (.inl (.inl rfl)) _⟩
  · have := hB3.put 2 (.slice (some ⟨q', 0, none⟩) (gs.length + 1) c')
    show Blk _ g _ (pcCells lo r (.slice (some ⟨q', 0, none⟩) (gs ++ [x]).length c') wt fu)
    rw [List.length_append]
    exact this
  · show World.ownsRow _ 0 5 1 (.slice (some ⟨q', 0, none⟩) (gs ++ [x]).length c') (gs ++ [x]).length (bv (gs ++ [x]))
    rw [List.length_append, bv_append]
    exact own_only (S := fun i => i = g) ho ((Only.refl (fun i => i = g) w3).setCell (p := ⟨g, 2, none⟩) (.inl rfl) _) hqg
  · intro i hi
    injection hi with hi
    subst hi
    rcases hq with h | h
    · exact .inl (hG.symm.trans h)
    · exact .inr (by omega)

theorem u8_more (wt k : Nat) (h : wt + k < 512) : IntKind.u8.wrap ((wt : Int) + (k : Int)) = ((UInt8.ofNat (wt + k)).toNat : Int) := by
  simp [IntKind.wrap, IntKind.bits, IntKind.signed]

theorem rep_snoc (base : List UInt8) (j : Nat) (y : UInt8) : base ++ List.replicate j y ++ [y] = base ++ List.replicate (j + 1) y := by
  rw [List.append_assoc, List.replicate_succ']

/-- behind the first byte: those that waited with it -/
def WaitRel (w : World) (g : Nat) (G : Option Nat) (base : List UInt8) (y : UInt8) (wt fu lo r : Nat) (i : Value) (wr : World) : Prop :=
  ∃ j G', j ≤ fu ∧ i = .int .i64 (j : Int) ∧ Pw wr g G' ⟨base ++ List.replicate j y, wt, fu, lo⟩ r ∧ Nwr w G G' ∧ Only (pset g G) w wr

set_option maxHeartbeats 4000000 in
theorem giveWaiting_any {w : World} {g : Nat} {G : Option Nat} {c : Co} {r : Nat} (b : Bool) (h : Pw w g G c r) (hw : c.wt < 256) (hlen : c.gs.length + c.fu ≤ 1000000000) :
    Calls Tryz.prog 134 #[.pointer (some ⟨g, 0, none⟩), .bool b] w (PwPost w g G (.tuple #[]) ⟨c.gave (if b = true then 1 else 0), c.wt, 0, c.lo⟩ r) := by
  obtain ⟨i, hi, hz0, hz1, hz2⟩ := info_parts info_u8
  obtain ⟨gs, wt, fu, lo⟩ := c
  obtain ⟨A, m, hB, hO, hG, hne⟩ := h
  simp only [] at hB hO hG hw hlen
  obtain ⟨k, hk⟩ : ∃ k, k = if b = true then 1 else 0 := ⟨_, rfl⟩
  have hk1 : k ≤ 1 := by cases b <;> simp at hk <;> omega
  rw [← hk]
  have c2 : w.cell? ⟨g, 2, none⟩ = some (.slice A gs.length m) := hB.cell 2
  have c3 : w.cell? ⟨g, 3, none⟩ = some (.int .u8 (wt : Int)) := hB.cell 3
  have e1 := u8_more wt k (by omega)
  obtain ⟨x, hx⟩ : ∃ x, x = UInt8.ofNat (wt + k) := ⟨_, rfl⟩
  rw [← hx] at e1
  have c2a : (w.alloc (.cells #[.int .u8 (x.toNat : Int)] 5)).cell? ⟨g, 2, none⟩ = some (.slice A gs.length m) := (hB.alloc _).cell 2
  have HNW := Lib.hid (fun (n : Nat) (u : Value) => (sl_one (w.drewN n) 5 u).news)
  have HOA := Lib.hid (fun (n : Nat) (o : Obj) => World.ownsRow.alloc (show (w.drewN n).ownsRow 0 5 1 (.slice A gs.length m) gs.length (bv gs) from hO) o)
  have HX := Lib.hid hx
  have HK := Lib.hid hk
  have HB := Lib.hid hB
  have HO := Lib.hid hO
  have HG := Lib.hid hG
  have HNE := Lib.hid hne
  have HK1 := Lib.hid hk1
  clear hx hB hO hG hne hk1 hk
  have hn3 : ∀ n o, ∀ q' c' (w3 : World), w3.ownsRow 0 5 1 (.slice (some ⟨q', 0, none⟩) (gs.length + 1) c') (gs.length + 1) (bv gs ++ [.int .u8 (x.toNat : Int)]) → ((w.drewN n).alloc o).grownBy w3 (Value.slice A gs.length m).ownBlock → ((Value.slice A gs.length m).ownBlock = some q' ∨ q' = ((w.drewN n).alloc o).heap.size) →
      w3.cell? ⟨g, 2, none⟩ = some (.slice A gs.length m) ∧ w3.frozen? ⟨g, 2, none⟩ = false ∧ Pw (w3.setCell ⟨g, 2, none⟩ (.slice (some ⟨q', 0, none⟩) (gs.length + 1) c')) g (some q') ⟨gs ++ [x], wt, fu, lo⟩ r ∧ Nwr w G (some q') ∧ Only (pset g G) w (w3.setCell ⟨g, 2, none⟩ (.slice (some ⟨q', 0, none⟩) (gs.length + 1) c')) := by
    intro n o q' c' w3 ho hg hq
    have h1 : Only (fun _ => False) w ((w.drewN n).alloc o) := ((Only.refl _ w).drewN n).alloc o
    refine ⟨?_, ?_, pushed rfl HB.out HO.out HG.out HNE.out h1 ho hg hq⟩
    · have hB1 : Blk _ g 142 _ := HB.out.only h1 (fun h => h)
      have hB3 : Blk w3 g 142 _ := hB1.grown hg (by intro e; exact HNE.out (HG.out.symm.trans e.symm))
      exact hB3.cell 2
    · have hB1 : Blk _ g 142 _ := HB.out.only h1 (fun h => h)
      have hB3 : Blk w3 g 142 _ := hB1.grown hg (by intro e; exact HNE.out (HG.out.symm.trans e.symm))
      exact hB3.free 2
  have HN3 := Lib.hid hn3
  have HL := Lib.hid hlen
  clear hn3 hlen hw
  cases b
  · have hk0 : k = 0 := HK.out
    subst hk0
    have e1' : IntKind.u8.wrap (wt : Int) = (x.toNat : Int) := by simpa using e1
    clear e1
    go_enter Tryz.func134, Tryz.ntmps134
    go_wp2_with fail
    go_region_law (first | (refine step_append_lies _ rfl (.tmp 10) (.tmp 17) 22 rfl 0 5 i _ 1 1 Tryz.underlying22 hi hz0 hz1 hz2 rfl (by omega) _ gs.length (bv gs) rfl (HOA.out 1 _) _ 1 1 [.int .u8 (x.toNat : Int)] rfl rfl (HNW.out 1 _) (one_one _ _) (by omega) (by have := HL.out; unfold maxLen; omega) (by have := HL.out; omega) (Nat.zero_le _) _ rfl ?_; intro q' c' w3 ho hg hq hql3; obtain ⟨j2, z2, hP⟩ := HN3.out 1 _ q' c' w3 ho hg hq; have HP := Lib.hid hP; clear ho hg hq hP))
    all_goals
      clear c2 c3 c2a HNW HOA HN3 HO HB j2 z2
      obtain ⟨hP1, hN1, hO1⟩ := HP.out
      clear HP
      generalize w3.setCell ⟨g, 2, none⟩ (.slice (some ⟨q', 0, none⟩) (gs.length + 1) c') = w4 at *
      have c4 : w4.cell? ⟨g, 4, none⟩ = some (.int .i64 (fu : Int)) := by obtain ⟨A1, m1, hB1, _⟩ := hP1; exact hB1.cell 4
      have HP1 := Lib.hid hP1
      have HN1 := Lib.hid hN1
      have HO1 := Lib.hid hO1
      clear hP1 hN1 hO1 HG HNE
      go_wp2_with fail
      go_loopw [25] (fun i wr => WaitRel w g G (gs ++ [x]) 255 wt fu lo r i wr) (fun i _ => fu - (intOf i).toNat)
      case atStart => exact ⟨0, some q', Nat.zero_le _, rfl, by rw [List.replicate_zero, List.append_nil]; exact HP1.out, HN1.out, HO1.out⟩
      case round =>
        clear HP1 HN1 HO1 c4
        obtain ⟨j, G', hj, rfl, hP, hN, hO⟩ := hrel
        obtain ⟨B, hBB⟩ : ∃ B, B = gs ++ [x] ++ List.replicate j 255 := ⟨_, rfl⟩
        have hBl : B.length = gs.length + 1 + j := by rw [hBB]; simp; omega
        have HBB := Lib.hid hBB
        rw [← hBB] at hP
        have HP := Lib.hid hP
        obtain ⟨A', m', hB', hO', hG', hne'⟩ := hP
        simp only [] at hB' hO' hG'
        have hnx : B ++ [255] = gs ++ [x] ++ List.replicate (j + 1) 255 := by rw [hBB, rep_snoc]
        have HNX := Lib.hid hnx
        have HBL := Lib.hid hBl
        have c2 : wr.cell? ⟨g, 2, none⟩ = some (.slice A' B.length m') := hB'.cell 2
        have HB' := Lib.hid hB'
        have HO' := Lib.hid hO'
        have HG' := Lib.hid hG'
        have HNE' := Lib.hid hne'
        have HN := Lib.hid hN
        have HO := Lib.hid hO
        have HNW := Lib.hid (sl_one wr 5 (.int .u8 255)).news
        clear hBB hBl hnx hB' hO' hG' hne' hN hO
        by_cases hlt : j < fu
        · have hlt' : (j : Int) < (fu : Int) := by omega
          have ej : IntKind.i64.wrap ((j : Int) + 1) = (j : Int) + 1 := IntWalk.i64_in _ (by have := HL.out; omega)
          go_wp2_with (at_builtin; refine wpList_append_lies _ rfl (.tmp 31) (.tmp 34) 22 rfl 0 5 i _ 1 1 Tryz.underlying22 hi hz0 hz1 hz2 rfl (by omega) _ B.length (bv B) rfl (HO'.out.alloc _) _ 1 1 [.int .u8 255] rfl rfl HNW.out (one_one _ _) (by omega) (by have := HL.out; have := HBL.out; unfold maxLen; omega) (by have := HL.out; have := HBL.out; omega) (Nat.zero_le _) _ rfl ?_)
          intro q2 c2' w3 ho hg hq hql3
          have h1 : Only (fun _ => False) wr (wr.alloc (.cells #[.int .u8 255] 5)) := (Only.refl _ wr).alloc _
          have hB1 : Blk _ g 142 _ := HB'.out.only h1 (fun h => h)
          have hB3 : Blk w3 g 142 _ := hB1.grown hg (by intro e; exact HNE'.out (HG'.out.symm.trans e.symm))
          have j2 : w3.cell? ⟨g, 2, none⟩ = some (.slice A' B.length m') := hB3.cell 2
          have z2 : w3.frozen? ⟨g, 2, none⟩ = false := hB3.free 2
          obtain ⟨hP2, hN2, hO2⟩ := pushed (x := 255) (by rfl) HB'.out HO'.out HG'.out HNE'.out h1 ho hg (hq.imp id (fun h => by rw [h]; simp))
          have HP2 := Lib.hid hP2
          have HN2 := Lib.hid (HN.out.trans hN2 HO.out.size)
          have HO2 := Lib.hid (pset_trans HO.out HN.out hO2)
          clear ho hg hq h1 hB1 hB3 hP2 hN2 hO2 HN HO HNW HB' HO' HG' HNE' HP c2
          go_wp2_with fail
          go_roundw
          case rel =>
            have hj9 : j < 1000000000 := by have := HL.out; omega
            exact ⟨j + 1, some q2, by omega, by go_num, by rw [← HNX.out]; exact HP2.out, HN2.out, HO2.out⟩
          case measure =>
            have hj9 : j < 1000000000 := by have := HL.out; omega
            simp [intOf]; omega
        · obtain rfl : j = fu := by omega
          have z4 : wr.frozen? ⟨g, 4, none⟩ = false := HB'.out.free 4
          have c4 : wr.cell? ⟨g, 4, none⟩ = some (.int .i64 (j : Int)) := HB'.out.cell 4
          have hirr : ¬ (j : Int) < (j : Int) := by omega
          clear hlt
          go_wp2_with fail
          first | go_end0 | refine bodyPost_ret (results_none rfl _ _ _) rfl ?_
          have e : (Co.gave ⟨gs, wt, j, lo⟩ 0) = B := by
            rw [HBB.out, HX.out, List.append_assoc]
            rfl
          rw [e]
          refine ⟨rfl, G', ⟨A', m', HB'.out.put 4 (.int .i64 0), ?_, HG'.out, HNE'.out⟩, HN.out, HO.out.setCell (p := ⟨g, 4, none⟩) (.inl (.inl rfl)) _⟩
          exact own_only' (S := fun i => i = g) HO'.out ((Only.refl (fun i => i = g) wr).setCell (p := ⟨g, 4, none⟩) (.inl rfl) _) (fun i hi e => HNE'.out (HG'.out.symm.trans (e ▸ hi)))
  · have hk0 : k = 1 := HK.out
    subst hk0
    have e1' : IntKind.u8.wrap ((wt : Int) + 1) = (x.toNat : Int) := by simpa using e1
    clear e1
    go_enter Tryz.func134, Tryz.ntmps134
    go_wp2_with fail
    go_region_law (first | (refine step_append_lies _ rfl (.tmp 10) (.tmp 17) 22 rfl 0 5 i _ 1 1 Tryz.underlying22 hi hz0 hz1 hz2 rfl (by omega) _ gs.length (bv gs) rfl (HOA.out 1 _) _ 1 1 [.int .u8 (x.toNat : Int)] rfl rfl (HNW.out 1 _) (one_one _ _) (by omega) (by have := HL.out; unfold maxLen; omega) (by have := HL.out; omega) (Nat.zero_le _) _ rfl ?_; intro q' c' w3 ho hg hq hql3; obtain ⟨j2, z2, hP⟩ := HN3.out 1 _ q' c' w3 ho hg hq; have HP := Lib.hid hP; clear ho hg hq hP))
    all_goals
      clear c2 c3 c2a HNW HOA HN3 HO HB j2 z2
      obtain ⟨hP1, hN1, hO1⟩ := HP.out
      clear HP
      generalize w3.setCell ⟨g, 2, none⟩ (.slice (some ⟨q', 0, none⟩) (gs.length + 1) c') = w4 at *
      have c4 : w4.cell? ⟨g, 4, none⟩ = some (.int .i64 (fu : Int)) := by obtain ⟨A1, m1, hB1, _⟩ := hP1; exact hB1.cell 4
      have HP1 := Lib.hid hP1
      have HN1 := Lib.hid hN1
      have HO1 := Lib.hid hO1
      clear hP1 hN1 hO1 HG HNE
      go_wp2_with fail
      go_loopw [25] (fun i wr => WaitRel w g G (gs ++ [x]) 0 wt fu lo r i wr) (fun i _ => fu - (intOf i).toNat)
      case atStart => exact ⟨0, some q', Nat.zero_le _, rfl, by rw [List.replicate_zero, List.append_nil]; exact HP1.out, HN1.out, HO1.out⟩
      case round =>
        clear HP1 HN1 HO1 c4
        obtain ⟨j, G', hj, rfl, hP, hN, hO⟩ := hrel
        obtain ⟨B, hBB⟩ : ∃ B, B = gs ++ [x] ++ List.replicate j 0 := ⟨_, rfl⟩
        have hBl : B.length = gs.length + 1 + j := by rw [hBB]; simp; omega
        have HBB := Lib.hid hBB
        rw [← hBB] at hP
        have HP := Lib.hid hP
        obtain ⟨A', m', hB', hO', hG', hne'⟩ := hP
        simp only [] at hB' hO' hG'
        have hnx : B ++ [0] = gs ++ [x] ++ List.replicate (j + 1) 0 := by rw [hBB, rep_snoc]
        have HNX := Lib.hid hnx
        have HBL := Lib.hid hBl
        have c2 : wr.cell? ⟨g, 2, none⟩ = some (.slice A' B.length m') := hB'.cell 2
        have HB' := Lib.hid hB'
        have HO' := Lib.hid hO'
        have HG' := Lib.hid hG'
        have HNE' := Lib.hid hne'
        have HN := Lib.hid hN
        have HO := Lib.hid hO
        have HNW := Lib.hid (sl_one wr 5 (.int .u8 0)).news
        clear hBB hBl hnx hB' hO' hG' hne' hN hO
        by_cases hlt : j < fu
        · have hlt' : (j : Int) < (fu : Int) := by omega
          have ej : IntKind.i64.wrap ((j : Int) + 1) = (j : Int) + 1 := IntWalk.i64_in _ (by have := HL.out; omega)
          go_wp2_with (at_builtin; refine wpList_append_lies _ rfl (.tmp 31) (.tmp 34) 22 rfl 0 5 i _ 1 1 Tryz.underlying22 hi hz0 hz1 hz2 rfl (by omega) _ B.length (bv B) rfl (HO'.out.alloc _) _ 1 1 [.int .u8 0] rfl rfl HNW.out (one_one _ _) (by omega) (by have := HL.out; have := HBL.out; unfold maxLen; omega) (by have := HL.out; have := HBL.out; omega) (Nat.zero_le _) _ rfl ?_)
          intro q2 c2' w3 ho hg hq hql3
          have h1 : Only (fun _ => False) wr (wr.alloc (.cells #[.int .u8 0] 5)) := (Only.refl _ wr).alloc _
          have hB1 : Blk _ g 142 _ := HB'.out.only h1 (fun h => h)
          have hB3 : Blk w3 g 142 _ := hB1.grown hg (by intro e; exact HNE'.out (HG'.out.symm.trans e.symm))
          have j2 : w3.cell? ⟨g, 2, none⟩ = some (.slice A' B.length m') := hB3.cell 2
          have z2 : w3.frozen? ⟨g, 2, none⟩ = false := hB3.free 2
          obtain ⟨hP2, hN2, hO2⟩ := pushed (x := 0) (by rfl) HB'.out HO'.out HG'.out HNE'.out h1 ho hg (hq.imp id (fun h => by rw [h]; simp))
          have HP2 := Lib.hid hP2
          have HN2 := Lib.hid (HN.out.trans hN2 HO.out.size)
          have HO2 := Lib.hid (pset_trans HO.out HN.out hO2)
          clear ho hg hq h1 hB1 hB3 hP2 hN2 hO2 HN HO HNW HB' HO' HG' HNE' HP c2
          go_wp2_with fail
          go_roundw
          case rel =>
            have hj9 : j < 1000000000 := by have := HL.out; omega
            exact ⟨j + 1, some q2, by omega, by go_num, by rw [← HNX.out]; exact HP2.out, HN2.out, HO2.out⟩
          case measure =>
            have hj9 : j < 1000000000 := by have := HL.out; omega
            simp [intOf]; omega
        · obtain rfl : j = fu := by omega
          have z4 : wr.frozen? ⟨g, 4, none⟩ = false := HB'.out.free 4
          have c4 : wr.cell? ⟨g, 4, none⟩ = some (.int .i64 (j : Int)) := HB'.out.cell 4
          have hirr : ¬ (j : Int) < (j : Int) := by omega
          clear hlt
          go_wp2_with fail
          first | go_end0 | refine bodyPost_ret (results_none rfl _ _ _) rfl ?_
          have e : (Co.gave ⟨gs, wt, j, lo⟩ 1) = B := by
            rw [HBB.out, HX.out, List.append_assoc]
            rfl
          rw [e]
          refine ⟨rfl, G', ⟨A', m', HB'.out.put 4 (.int .i64 0), ?_, HG'.out, HNE'.out⟩, HN.out, HO.out.setCell (p := ⟨g, 4, none⟩) (.inl (.inl rfl)) _⟩
          exact own_only' (S := fun i => i = g) HO'.out ((Only.refl (fun i => i = g) wr).setCell (p := ⟨g, 4, none⟩) (.inl rfl) _) (fun i hi e => HNE'.out (HG'.out.symm.trans (e ▸ hi)))
end Go.Proofs.YtjgdjobhhdhfjaaGreat

/-
  The program's coder gives a byte.
-/
namespace Go.Proofs.YtjgdjobhhdhfjaaGreat
open Go.RowKit

theorem low_and (lo : Nat) (h : lo < 8589934592) : bits .and .u64 (IntKind.u64.wrap ((lo : Int) * 256)) 4294967295 = ((lo % 16777216 * 256 : Nat) : Int) := by
  have e : IntKind.u64.wrap ((lo : Int) * 256) = ((lo * 256 : Nat) : Int) := by rw [show (lo : Int) * 256 = ((lo * 256 : Nat) : Int) by omega]; exact u64_in _ (by omega)
  rw [e]
  show IntKind.u64.wrap ((BitVec.ofInt 64 ((lo * 256 : Nat) : Int) &&& BitVec.ofInt 64 ((4294967295 : Nat) : Int)).toNat : Int) = _
  rw [BitVec.toNat_and, ofInt_u64' _ (by omega), ofInt_u64' _ (by omega), show (4294967295 : Nat) = 2 ^ 32 - 1 from rfl, Nat.and_two_pow_sub_one_eq_mod, show lo * 256 % 2 ^ 32 = lo % 16777216 * 256 by omega]
  exact u64_in _ (by omega)

section
variable {w : World} {g : Nat} {G : Option Nat} {c : Co} {r : Nat}

theorem giveWaiting_one (h : Pw w g G c r) (hw : c.wt < 256) (hlen : c.gs.length + c.fu ≤ 1000000000) :
    Calls Tryz.prog 134 #[.pointer (some ⟨g, 0, none⟩), .bool true] w (PwPost w g G (.tuple #[]) ⟨c.gave 1, c.wt, 0, c.lo⟩ r) := giveWaiting_any true h hw hlen
theorem giveWaiting_zero (h : Pw w g G c r) (hw : c.wt < 256) (hlen : c.gs.length + c.fu ≤ 1000000000) :
    Calls Tryz.prog 134 #[.pointer (some ⟨g, 0, none⟩), .bool false] w (PwPost w g G (.tuple #[]) ⟨c.gave 0, c.wt, 0, c.lo⟩ r) := giveWaiting_any false h hw hlen

/-- behind what waited: a byte waits now, and low -/
theorem gave_end {w w1 : World} {G1 : Option Nat} {t lo lo' wt : Nat} {gs : List UInt8} (h : Pw w1 g G1 ⟨gs, wt, 0, lo⟩ r) (hN : Nwr w G G1) (hO : Only (pset g G) w w1) :
    PwPost w g G (.tuple #[]) ⟨gs, t, 0, lo'⟩ r (.returned (.tuple #[])) ((w1.setCell ⟨g, 3, none⟩ (.int .u8 (t : Int))).setCell ⟨g, 0, none⟩ (.int .u64 (lo' : Int))) := by
  obtain ⟨A, m, hB, hOw, hG, hne⟩ := h
  refine ⟨rfl, G1, ⟨A, m, (hB.put 3 (.int .u8 (t : Int))).put 0 (.int .u64 (lo' : Int)), ?_, hG, hne⟩, hN, (hO.setCell (p := ⟨g, 3, none⟩) (.inl (.inl rfl)) _).setCell (p := ⟨g, 0, none⟩) (.inl (.inl rfl)) _⟩
  exact own_only' (S := fun i => i = g) hOw (((Only.refl (fun i => i = g) w1).setCell (p := ⟨g, 3, none⟩) (.inl rfl) _).setCell (p := ⟨g, 0, none⟩) (.inl rfl) _) (fun i hi e => hne (hG.symm.trans (e ▸ hi)))

set_option maxHeartbeats 4000000 in
theorem give_any (h : Pw w g G c r) (hw : c.wt < 256) (hlo : c.lo < 8589934592) (hlen : c.gs.length + c.fu ≤ 999999999) :
    Calls Tryz.prog 101 #[.pointer (some ⟨g, 0, none⟩)] w (PwPost w g G (.tuple #[]) c.give r) := by
  have ea := low_and c.lo hlo
  have ea2 : bits .and .u64 ((c.lo : Int) * 256) 4294967295 = ((c.lo % 16777216 * 256 : Nat) : Int) := by
    have := low_and c.lo hlo
    have e : IntKind.u64.wrap ((c.lo : Int) * 256) = (c.lo : Int) * 256 := by rw [show (c.lo : Int) * 256 = ((c.lo * 256 : Nat) : Int) by omega]; exact u64_in _ (by omega)
    rwa [e] at this
  have c0 : w.cell? ⟨g, 0, none⟩ = some (.int .u64 (c.lo : Int)) := by obtain ⟨A1, m1, hB1, _⟩ := h; exact hB1.cell 0
  by_cases hc : 4294967296 ≤ c.lo
  · have hgive : c.give = ⟨c.gave 1, c.lo / 16777216 % 256, 0, c.lo % 16777216 * 256⟩ := by unfold Co.give; rw [if_pos hc]
    rw [hgive]
    have K := Lib.hid (giveWaiting_one h hw (by omega))
    have hgt : (c.lo : Int) > 4294967295 := by omega
    obtain ⟨t, ht⟩ : ∃ t : Nat, t = c.lo / 16777216 % 256 := ⟨_, rfl⟩
    have et1 : (c.lo : Int) / 16777216 % 256 = (t : Int) := by omega
    have et2 : IntKind.u8.wrap ((c.lo : Int) / 16777216) = (t : Int) := by simp [IntKind.wrap, IntKind.bits, IntKind.signed]; exact et1
    rw [← ht]
    clear hgive hc hlo hw hlen h ht
    generalize c.lo % 16777216 * 256 = lo' at *
    generalize c.lo = lo at *
    go_enter Tryz.func101, Tryz.ntmps101
    go_wp2_with fail
    refine K.out.mono ?_
    rintro e w1 ⟨rfl, G1, hP, hN, hO⟩
    obtain ⟨j0, j3, z0, z3⟩ : w1.cell? ⟨g, 0, none⟩ = some (.int .u64 (lo : Int)) ∧ w1.cell? ⟨g, 3, none⟩ = some (.int .u8 (c.wt : Int)) ∧ w1.frozen? ⟨g, 0, none⟩ = false ∧ w1.frozen? ⟨g, 3, none⟩ = false := by
      obtain ⟨A1, m1, hB1, _⟩ := hP; exact ⟨hB1.cell 0, hB1.cell 3, hB1.free 0, hB1.free 3⟩
    have HP := Lib.hid hP
    have HN := Lib.hid hN
    have HO := Lib.hid hO
    clear hP hN hO K c0
    go_wp2_with fail
    first | go_end0 | refine bodyPost_ret (results_none rfl _ _ _) rfl ?_
    exact gave_end HP.out HN.out HO.out
  · have hgt : ¬ (c.lo : Int) > 4294967295 := by omega
    by_cases hl : c.lo < 4278190080
    · have hgive : c.give = ⟨c.gave 0, c.lo / 16777216, 0, c.lo % 16777216 * 256⟩ := by unfold Co.give; rw [if_neg hc, if_pos hl]
      rw [hgive]
      have K := Lib.hid (giveWaiting_zero h hw (by omega))
      have hll : (c.lo : Int) < 4278190080 := by omega
      obtain ⟨t, ht⟩ : ∃ t : Nat, t = c.lo / 16777216 := ⟨_, rfl⟩
      have et1 : (c.lo : Int) / 16777216 % 256 = (t : Int) := by omega
      have et2 : IntKind.u8.wrap ((c.lo : Int) / 16777216) = (t : Int) := by simp [IntKind.wrap, IntKind.bits, IntKind.signed]; exact et1
      rw [← ht]
      clear hgive hc hlo hw hlen h ht hl
      generalize c.lo % 16777216 * 256 = lo' at *
      generalize c.lo = lo at *
      go_enter Tryz.func101, Tryz.ntmps101
      go_wp2_with fail
      refine K.out.mono ?_
      rintro e w1 ⟨rfl, G1, hP, hN, hO⟩
      obtain ⟨j0, j3, z0, z3⟩ : w1.cell? ⟨g, 0, none⟩ = some (.int .u64 (lo : Int)) ∧ w1.cell? ⟨g, 3, none⟩ = some (.int .u8 (c.wt : Int)) ∧ w1.frozen? ⟨g, 0, none⟩ = false ∧ w1.frozen? ⟨g, 3, none⟩ = false := by
        obtain ⟨A1, m1, hB1, _⟩ := hP; exact ⟨hB1.cell 0, hB1.cell 3, hB1.free 0, hB1.free 3⟩
      have HP := Lib.hid hP
      have HN := Lib.hid hN
      have HO := Lib.hid hO
      clear hP hN hO K c0
      go_wp2_with fail
      first | go_end0 | refine bodyPost_ret (results_none rfl _ _ _) rfl ?_
      exact gave_end HP.out HN.out HO.out
    · have hgive : c.give = ⟨c.gs, c.wt, c.fu + 1, c.lo % 16777216 * 256⟩ := by unfold Co.give; rw [if_neg hc, if_neg hl]
      rw [hgive]
      have hll : ¬ (c.lo : Int) < 4278190080 := by omega
      have ef : IntKind.i64.wrap ((c.fu : Int) + 1) = ((c.fu + 1 : Nat) : Int) := by rw [show (c.fu : Int) + 1 = ((c.fu + 1 : Nat) : Int) by omega]; exact IntWalk.i64_in _ (by omega)
      obtain ⟨A, m, hB, hOw, hG, hne⟩ := h
      have c4 : w.cell? ⟨g, 4, none⟩ = some (.int .i64 (c.fu : Int)) := hB.cell 4
      have z0 : w.frozen? ⟨g, 0, none⟩ = false := hB.free 0
      have z4 : w.frozen? ⟨g, 4, none⟩ = false := hB.free 4
      have HB := Lib.hid hB
      have HOw := Lib.hid hOw
      have HG := Lib.hid hG
      have HNE := Lib.hid hne
      clear hgive hc hlo hw hlen hl hB hOw hG hne
      generalize c.lo % 16777216 * 256 = lo' at *
      generalize c.lo = lo at *
      generalize c.fu + 1 = fu' at *
      go_enter Tryz.func101, Tryz.ntmps101
      go_wp2_with fail
      first | go_end0 | refine bodyPost_ret (results_none rfl _ _ _) rfl ?_
      refine ⟨rfl, G, ⟨A, m, (HB.out.put 4 (.int .i64 (fu' : Int))).put 0 (.int .u64 (lo' : Int)), ?_, HG.out, HNE.out⟩, Nwr.refl _ _, ((Only.refl (pset g G) w).setCell (p := ⟨g, 4, none⟩) (.inl (.inl rfl)) _).setCell (p := ⟨g, 0, none⟩) (.inl (.inl rfl)) _⟩
      exact own_only' (S := fun i => i = g) HOw.out (((Only.refl (fun i => i = g) w).setCell (p := ⟨g, 4, none⟩) (.inl rfl) _).setCell (p := ⟨g, 0, none⟩) (.inl rfl) _) (fun i hi e => HNE.out (HG.out.symm.trans (e ▸ hi)))
end
end Go.Proofs.YtjgdjobhhdhfjaaGreat

/-
  The program's coder: evened out; made; how many bytes; finished.
-/
namespace Go.Proofs.YtjgdjobhhdhfjaaGreat
open Go.RowKit

/-- Block g is the program's coder; its state is e. -/
def Pn (w : World) (g : Nat) (G : Option Nat) (e : En) : Prop := ∃ c, Pw w g G c e.r ∧ CoN c e.n e.l e.r
def PnPost (w : World) (g : Nat) (G : Option Nat) (v : Value) (e' : En) (e : Ending) (w' : World) : Prop :=
  e = .returned v ∧ ∃ G', Pn w' g G' e' ∧ Nwr w G G' ∧ Only (pset g G) w w'

section
variable {w w' : World} {g : Nat} {G : Option Nat} {c : Co} {r : Nat} {e : En}
theorem Pn.lt (h : Pn w g G e) : g < w.heap.size := by obtain ⟨c, hP, _⟩ := h; exact hP.lt
theorem Pn.old (h : Pn w g G e) {i : Nat} (hi : G = some i) : i < w.heap.size := by obtain ⟨c, hP, _⟩ := h; exact hP.old hi
theorem Pn.only {S : Nat → Prop} (h : Pn w g G e) (hb : Only S w w') (hg : ¬ S g) (hG : ∀ i, G = some i → ¬ S i) : Pn w' g G e := by
  obtain ⟨c, hP, hc⟩ := h
  exact ⟨c, hP.only hb hg hG, hc⟩
theorem Pn.drewN (h : Pn w g G e) (n : Nat) : Pn (w.drewN n) g G e := h
theorem Pw.span {w : World} {g : Nat} {G : Option Nat} {c : Co} {r R : Nat} (h : Pw w g G c r) : Pw (w.setCell ⟨g, 1, none⟩ (.int .u32 (R : Int))) g G c R := by
  obtain ⟨A, m, hB, hOw, hG, hne⟩ := h
  exact ⟨A, m, hB.put 1 (.int .u32 (R : Int)), own_only' (S := fun i => i = g) hOw ((Only.refl (fun i => i = g) w).setCell (p := ⟨g, 1, none⟩) (.inl rfl) _) (fun i hi e => hne (hG.symm.trans (e ▸ hi))), hG, hne⟩
theorem Pw.cell1 {w : World} {g : Nat} {G : Option Nat} {c : Co} {r : Nat} (h : Pw w g G c r) : w.cell? ⟨g, 1, none⟩ = some (.int .u32 (r : Int)) ∧ w.frozen? ⟨g, 1, none⟩ = false := by
  obtain ⟨A, m, hB, _⟩ := h
  exact ⟨hB.cell 1, hB.free 1⟩

set_option maxHeartbeats 1000000 in
theorem evenOut_high (h : Pw w g G c r) (hr : ¬ r < 16777216) :
    Calls Tryz.prog 129 #[.pointer (some ⟨g, 0, none⟩)] w fun e w' => e = .returned (.tuple #[]) ∧ w = w' := by
  have c1 := h.cell1.1
  have hri : (r : Int) > 0 ∧ ¬ (r : Int) < 16777216 := by omega
  clear h hr
  generalize (r : Int) = ri at *
  have HR := Lib.hid hri
  clear hri
  go_enter Tryz.func129, Tryz.ntmps129
  go_wp2_with fail
  go_loopw [] (fun wr => wr = w) (fun _ => 0)
  case atStart => rfl
  case round =>
    subst hrel
    obtain ⟨h02, hr2⟩ := HR.out
    go_wp2_with fail
    first | go_end0 | refine bodyPost_ret (results_none rfl _ _ _) rfl ?_
    exact ⟨rfl, rfl⟩

/-- the range has been multiplied, and a byte given -/
def EvenDone (w wr : World) (g : Nat) (G : Option Nat) (c : Co) (R : Nat) : Prop := ∃ G', Pw wr g G' c.give R ∧ Nwr w G G' ∧ Only (pset g G) w wr
open Classical in
/-- whether the range is still the one that was -/
noncomputable def evenLeft (wr : World) (g : Nat) (ri : Int) : Nat := if wr.cell? ⟨g, 1, none⟩ = some (.int .u32 ri) then 1 else 0

set_option maxHeartbeats 4000000 in
theorem evenOut_low (h : Pw w g G c r) (hw : c.wt < 256) (hlo : c.lo < 8589934592) (hr : r < 16777216) (hr0 : 65536 ≤ r) (hlen : c.gs.length + c.fu ≤ 999999999) :
    Calls Tryz.prog 129 #[.pointer (some ⟨g, 0, none⟩)] w (PwPost w g G (.tuple #[]) c.give (r * 256)) := by
  obtain ⟨c1, f1⟩ := h.cell1
  have e1 : IntKind.u32.wrap ((r : Int) * 256) = ((r * 256 : Nat) : Int) := by rw [show (r : Int) * 256 = ((r * 256 : Nat) : Int) by omega]; exact u32_of _ (by omega) (by omega)
  have hrR : r ≠ r * 256 := by omega
  have hR2 : ¬ r * 256 < 16777216 := by omega
  have hR0 : 0 < r * 256 := by omega
  obtain ⟨R, hR⟩ : ∃ R, R = r * 256 := ⟨_, rfl⟩
  rw [← hR] at e1 hrR hR2 hR0
  rw [← hR]
  have K := Lib.hid (give_any (h.span (R := R)) hw hlo hlen)
  have HO := Lib.hid ((Only.refl (pset g G) w).setCell (p := ⟨g, 1, none⟩) (.inl (.inl rfl)) (.int .u32 (R : Int)))
  have HSZ := Lib.hid (show (w.setCell ⟨g, 1, none⟩ (.int .u32 (R : Int))).heap.size = w.heap.size by simp [World.setCell])
  obtain ⟨ri, hri⟩ : ∃ ri : Int, ri = (r : Int) := ⟨_, rfl⟩
  obtain ⟨Ri, hRi⟩ : ∃ Ri : Int, Ri = (R : Int) := ⟨_, rfl⟩
  have HF := Lib.hid (show ri > 0 ∧ ri < 16777216 ∧ Ri > 0 ∧ ¬ Ri < 16777216 ∧ Ri ≠ ri by omega)
  have HRI := Lib.hid hRi
  rw [← hri] at c1 e1
  rw [← hRi] at e1 K HO HSZ
  clear h hR hlen hw hlo hr hr0 hR2 hR0 hrR hri hRi
  go_enter Tryz.func129, Tryz.ntmps129
  go_wp2_with fail
  go_loopw [] (fun wr => wr = w ∨ EvenDone w wr g G c R) (fun wr => evenLeft wr g ri)
  case atStart => exact .inl rfl
  case round =>
    have HREL := Lib.hid hrel
    clear hrel
    rcases HREL.out with hw | hd
    · clear HREL
      obtain rfl : w = wr := hw.symm
      obtain ⟨h0, hr', _⟩ := HF.out
      go_wp2_with fail
      refine K.out.mono ?_
      rintro e w3 ⟨rfl, G', hP, hN, hO⟩
      have k1 := hP.cell1.1
      rw [← HRI.out] at k1
      have HD := Lib.hid (show EvenDone w w3 g G c R from ⟨G', hP, fun i hi => (hN i hi).imp id (fun h => by rw [HSZ.out] at h; exact h), HO.out.trans hO⟩)
      clear hP hN hO f1 K
      go_wp2_with fail
      go_roundw
      case rel => exact .inr HD.out
      case measure =>
        unfold evenLeft
        rw [if_neg (by rw [k1]; intro e; injection e with e; injection e with _ e; exact HF.out.2.2.2.2 e), if_pos c1]
        omega
    · clear HREL
      have HD := Lib.hid hd
      obtain ⟨G', hP, hN, hO⟩ := hd
      have k1 := hP.cell1.1
      rw [← HRI.out] at k1
      clear hP hN hO c1 f1
      obtain ⟨_, _, h0, hr2, _⟩ := HF.out
      go_wp2_with fail
      first | go_end0 | refine bodyPost_ret (results_none rfl _ _ _) rfl ?_
      exact ⟨rfl, HD.out⟩

theorem evenOut_any {n l : Nat} (h : Pw w g G c r) (hc : CoN c n l r) (hr0 : 65536 ≤ r) (hlen : l ≤ 1000000000) :
    Calls Tryz.prog 129 #[.pointer (some ⟨g, 0, none⟩)] w (PnPost w g G (.tuple #[]) (En.even ⟨n, l, r⟩)) := by
  unfold En.even
  have hl := hc.len
  by_cases hr : r < 16777216
  · rw [if_pos hr]
    refine (evenOut_low h hc.wt hc.low hr hr0 (by omega)).mono ?_
    rintro e w' ⟨rfl, G', hP, hN, hO⟩
    exact ⟨rfl, G', ⟨c.give, hP, hc.give hr⟩, hN, hO⟩
  · rw [if_neg hr]
    refine (evenOut_high h hr).mono ?_
    rintro e w' ⟨rfl, rfl⟩
    exact ⟨rfl, G, ⟨c, h, hc⟩, Nwr.refl _ _, Only.refl _ _⟩

set_option maxHeartbeats 1000000 in
theorem cnew_any (w : World) : Calls Tryz.prog 42 #[] w fun e w' => e = .returned (.pointer (some ⟨w.heap.size, 0, none⟩)) ∧ w' = w.alloc (.cells (pcCells 0 4294967295 (.slice none 0 0) 0 0) 142) := by
  go_enter Tryz.func42, Tryz.ntmps42
  go_wp2_with fail
  go_ret
  exact ⟨rfl, rfl⟩
theorem pn_fresh (w : World) : Pn (w.alloc (.cells (pcCells 0 4294967295 (.slice none 0 0) 0 0) 142)) w.heap.size none En.new :=
  ⟨Co.new, ⟨none, 0, Blk.fresh w _ _, ⟨rfl, .inl ⟨rfl, rfl⟩⟩, rfl, by simp⟩, coN_new⟩
end
end Go.Proofs.YtjgdjobhhdhfjaaGreat

/-
  The program's coder codes a bit with a probability.
-/
namespace Go.Proofs.YtjgdjobhhdhfjaaGreat
open Go.RowKit

def qset (g : Nat) (G : Option Nat) (b : Nat) : Nat → Prop := fun i => i = g ∨ G = some i ∨ i = b
/-- What is coded leaves: behind a definition, so that no walk looks into it. -/
def CodPost (w : World) (g : Nat) (G : Option Nat) (b pc : Nat) (ps : List Nat) (e' : En) (x : Ending) (w' : World) : Prop :=
  x = .returned (.tuple #[]) ∧ ∃ G', Pn w' g G' e' ∧ Nwr w G G' ∧ Row w' b ps pc ∧ Only (qset g G b) w w'

section
variable {w : World} {g b i p pc : Nat} {G : Option Nat} {c : Co} {r : Nat} {e : En} {ps : List Nat}

end
end Go.Proofs.YtjgdjobhhdhfjaaGreat

/-
  The program's coder codes numbers straight.
-/
namespace Go.Proofs.YtjgdjobhhdhfjaaGreat
open Go.RowKit

theorem ofInt_u32' (a : Nat) (h : a < 4294967296) : (BitVec.ofInt 32 (a : Int)).toNat = a := by simp; omega
/-- the bit that the coder reckons -/
theorem bit_and (V k : Nat) (hV : V < 4294967296) : bits .and .u32 ((V : Int) / 2 ^ k) 1 = ((bitOf V k : Nat) : Int) := by
  unfold bitOf
  obtain ⟨y, hy⟩ : ∃ y, y = V / 2 ^ k := ⟨_, rfl⟩
  have h : (V : Int) / ((2 ^ k : Nat) : Int) = (y : Int) := by rw [hy]; exact (Int.natCast_ediv V (2 ^ k)).symm
  have hyl : y ≤ V := by rw [hy]; exact Nat.div_le_self _ _
  rw [cast_pow2, h, ← hy]
  show IntKind.u32.wrap ((BitVec.ofInt 32 (y : Int) &&& BitVec.ofInt 32 ((1 : Nat) : Int)).toNat : Int) = _
  rw [BitVec.toNat_and, ofInt_u32' _ (by omega), ofInt_u32' _ (by omega), Nat.and_one_is_mod]
  exact u32_of _ (by omega) (by omega)

/-- low is more, the range less, of a bit told straight -/
theorem Pw.half {w : World} {g : Nat} {G : Option Nat} {c : Co} {r lo' s n : Nat} (h : Pw w g G c r) :
    Pw ((w.setCell ⟨g, 1, none⟩ (.int .u32 (s : Int))).drewN n |>.setCell ⟨g, 0, none⟩ (.int .u64 (lo' : Int))) g G ⟨c.gs, c.wt, c.fu, lo'⟩ s := by
  obtain ⟨A, m, hB, hOw, hG, hne⟩ := h
  have h1 : Only (fun j => j = g) w ((w.setCell ⟨g, 1, none⟩ (.int .u32 (s : Int))).drewN n |>.setCell ⟨g, 0, none⟩ (.int .u64 (lo' : Int))) :=
    ((((Only.refl (fun j => j = g) w).setCell (p := ⟨g, 1, none⟩) (.inl rfl) _).drewN n).setCell (p := ⟨g, 0, none⟩) (.inl rfl) _)
  exact ⟨A, m, ((hB.put 1 _).drewN n).put 0 _, own_only' hOw h1 (fun i hi e => hne (hG.symm.trans (e ▸ hi))), hG, hne⟩

section
variable {w : World} {g b i p pc : Nat} {G : Option Nat} {c : Co} {r : Nat} {e : En} {ps : List Nat}

set_option maxHeartbeats 4000000 in
theorem pstraight_any {n V : Nat} (h : Pn w g G e) (he : EnOk e) (hn : n ≤ 32) (hV : V < 4294967296) (hlen : e.l ≤ 999999900) :
    Calls Tryz.prog 133 #[.pointer (some ⟨g, 0, none⟩), .int .i64 (n : Int), .int .u32 (V : Int)] w (PnPost w g G (.tuple #[]) (strE e V n n)) := by
  have HP := Lib.hid h
  have HE := Lib.hid he
  have HLEN := Lib.hid hlen
  have HV := Lib.hid hV
  have en1 : IntKind.i64.wrap ((n : Int) - 1) = (n : Int) - 1 := IntWalk.i64_in _ (by omega)
  clear h he hlen hV
  go_enter Tryz.func133, Tryz.ntmps133
  go_wp2_with fail
  go_loopw [6, 8] (fun _ i wr => ∃ (j : Nat) (G' : Option Nat), j ≤ n ∧ i = .int .i64 (j : Int) ∧ Pn wr g G' (strE e V n j) ∧ Nwr w G G' ∧ Only (pset g G) w wr) (fun _ i _ => n - (intOf i).toNat)
  case atStart => exact ⟨0, G, Nat.zero_le _, rfl, HP.out, Nwr.refl _ _, Only.refl _ _⟩
  case round =>
    clear HP
    obtain ⟨j, G', hj, rfl, hP, hN, hO⟩ := hrel
    have HN := Lib.hid hN
    have HO := Lib.hid hO
    clear hN hO
    by_cases hlt : j < n
    · have hok := strE_ok HE.out V n j
      have hll := strE_len e V n j
      obtain ⟨k, hk⟩ : ∃ k, k = n - 1 - j := ⟨_, rfl⟩
      have hnext : strE e V n (j + 1) = (strE e V n j).one (bitOf V k) := by rw [hk]; rfl
      have hL := HLEN.out
      have hEl : (strE e V n j).l ≤ 999999950 := by omega
      generalize strE e V n j = E at *
      obtain ⟨c, hPw, hc⟩ := hP
      obtain ⟨c1, z1⟩ := hPw.cell1
      have hr0 := hok.1
      have hr1 := hok.2.1
      obtain ⟨s, hs⟩ : ∃ s, s = E.r / 2 := ⟨_, rfl⟩
      have e1 : (E.r : Int) / 2 = (s : Int) := by omega
      have e2 : IntKind.u32.wrap ((E.r : Int) / 2) = (s : Int) := by rw [e1]; exact u32_of _ (by omega) (by omega)
      have e3 : IntKind.i64.wrap ((n : Int) - 1 - (j : Int)) = (k : Int) := by rw [show (n : Int) - 1 - (j : Int) = (k : Int) by omega]; exact IntWalk.i64_in _ (by omega)
      have hk0 : (0 : Int) ≤ (k : Int) := by omega
      have ej : IntKind.i64.wrap ((j : Int) + 1) = (j : Int) + 1 := IntWalk.i64_in _ (by omega)
      have hmin : min k 32 = k := by omega
      have hlt' : (j : Int) < (n : Int) := by omega
      have HS := Lib.hid hs.symm
      have HF := Lib.hid (show 65536 ≤ s ∧ s + s ≤ E.r ∧ E.l ≤ 999999950 by omega)
      clear hs hk hr0 hr1 hEl hL hll
      have eb := bit_and V k HV.out
      have e5 : (s : Int) % 4294967296 = (s : Int) := by have := HF.out; have := hok.2.1; omega
      have hbit := bitOf_le V k
      by_cases hb : bitOf V k = 0
      · rw [hb] at eb hnext
        have eb0 : bits .and .u32 ((V : Int) / 2 ^ k) 1 = 0 := eb
        have K := Lib.hid (evenOut_any (hPw.span (R := s)) (hc.mono (r' := s) (by have := HF.out; omega) (by have := HF.out; omega)) HF.out.1 (by have := HF.out; omega))
        have HNX := Lib.hid (show strE e V n (j + 1) = En.even ⟨E.n, E.l, s⟩ by rw [hnext]; unfold En.one; rw [if_pos rfl, HS.out])
        have HO1 := Lib.hid ((Only.refl (pset g G') wr).setCell (p := ⟨g, 1, none⟩) (.inl (.inl rfl)) (.int .u32 (s : Int)))
        have HSZ := Lib.hid (show (wr.setCell ⟨g, 1, none⟩ (.int .u32 (s : Int))).heap.size = wr.heap.size by simp [World.setCell])
        clear hPw hc hok hb eb hbit hnext
        go_wp2_with fail
        refine K.out.mono ?_
        rintro x w3 ⟨rfl, G2, hP2, hN2, hO2⟩
        have HP2 := Lib.hid hP2
        have HN2 := Lib.hid (HN.out.trans (fun i hi => (hN2 i hi).imp id (fun h => by rw [HSZ.out] at h; exact h)) HO.out.size)
        have HO2 := Lib.hid (pset_trans HO.out HN.out (HO1.out.trans hO2))
        clear hP2 hN2 hO2 HN HO K HO1 HSZ
        go_wp2_with fail
        go_roundw
        case rel => exact ⟨j + 1, G2, by omega, by go_num, by rw [HNX.out]; exact HP2.out, HN2.out, HO2.out⟩
        case measure => simp [intOf]; omega
      · have hb1 : bitOf V k = 1 := by omega
        rw [hb1] at eb hnext
        have eb0 : bits .and .u32 ((V : Int) / 2 ^ k) 1 = 1 := eb
        obtain ⟨c0, z0⟩ : wr.cell? ⟨g, 0, none⟩ = some (.int .u64 (c.lo : Int)) ∧ wr.frozen? ⟨g, 0, none⟩ = false := by obtain ⟨A, m, hB, _⟩ := hPw; exact ⟨hB.cell 0, hB.free 0⟩
        have hlo := hc.low
        have hsl : s < 4294967296 := by have := HF.out; have := hok.2.1; omega
        have e7 : IntKind.u64.wrap (s : Int) = (s : Int) := u64_in _ (by omega)
        have e8 : IntKind.u64.wrap ((c.lo : Int) + (s : Int)) = ((c.lo + s : Nat) : Int) := by rw [← Int.natCast_add]; exact u64_in _ (by omega)
        have K := Lib.hid (fun m => evenOut_any (Pw.half (lo' := c.lo + s) (s := s) (n := m) hPw) (hc.plus (z := s) (r' := s) (by have := HF.out; omega) (by have := HF.out; omega)) HF.out.1 (by have := HF.out; omega))
        have HNX := Lib.hid (show strE e V n (j + 1) = En.even ⟨E.n + s, E.l, s⟩ by rw [hnext]; unfold En.one; rw [if_neg (by omega), HS.out])
        have HO1 := Lib.hid (fun m => (((Only.refl (pset g G') wr).setCell (p := ⟨g, 1, none⟩) (.inl (.inl rfl)) (.int .u32 (s : Int))).drewN m).setCell (p := ⟨g, 0, none⟩) (.inl (.inl rfl)) (.int .u64 ((c.lo + s : Nat) : Int)))
        have HSZ := Lib.hid (fun m => show ((wr.setCell ⟨g, 1, none⟩ (.int .u32 (s : Int))).drewN m |>.setCell ⟨g, 0, none⟩ (.int .u64 ((c.lo + s : Nat) : Int))).heap.size = wr.heap.size by simp [World.setCell, World.drewN])
        clear hPw hc hok hb hb1 eb hbit hnext hlo hsl
        generalize c.lo + s = lo1 at *
        go_wp2_with fail
        go_region
        all_goals go_wp2_with fail
        refine (K.out 1).mono ?_
        rintro x w3 ⟨rfl, G2, hP2, hN2, hO2⟩
        have HP2 := Lib.hid hP2
        have HN2 := Lib.hid (HN.out.trans (fun i hi => (hN2 i hi).imp id (fun h => by rw [HSZ.out] at h; exact h)) HO.out.size)
        have HO2 := Lib.hid (pset_trans HO.out HN.out ((HO1.out 1).trans hO2))
        clear hP2 hN2 hO2 HN HO K HO1 HSZ
        go_wp2_with fail
        go_roundw
        case rel => exact ⟨j + 1, G2, by omega, by go_num, by rw [HNX.out]; exact HP2.out, HN2.out, HO2.out⟩
        case measure => simp [intOf]; omega
    · obtain rfl : j = n := by omega
      have HP := Lib.hid hP
      clear hP
      go_wp2_with fail
      first | go_end0 | refine bodyPost_ret (results_none rfl _ _ _) rfl ?_
      exact ⟨rfl, G', HP.out, HN.out, HO.out⟩
end
end Go.Proofs.YtjgdjobhhdhfjaaGreat
