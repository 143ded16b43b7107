/-
  CwMem, PkRow, PkSt, CwMid, CwAt: put together.
-/
import Derived.Test.YtjganponepafpaaQ08
import Derived.Test.YtjganponepafpaaQ03
import Derived.Test.YtjganponepafpaaQ06
import Derived.Deep.Cut
import Derived.Deep.RegionHeld3
set_option linter.unusedVariables false
set_option linter.unusedSimpArgs false
/-
  The program's coder of LZMA in memory: its numbers, its probabilities, its coder of ranges, the bytes that were told.
-/
namespace Go.Proofs.Ytjganponepafpaa
open Go.RowKit

/-- where the number k of its fields lies, all probabilities left out -/
def cfat (k : Nat) : Nat := if k < 11 then k else k + 1847
theorem cfat_sg {a k : Nat} (h : a < 1847) : cfat k ≠ 11 + sg a := by
  have := sg_lt h
  unfold cfat
  split <;> omega
theorem cfat_inj {j k : Nat} (h : cfat j = cfat k) : j = k := by
  unfold cfat at h
  repeat' split at h
  all_goals omega

/-- Block g is a coder: its fields, and the probabilities in it. -/
def LcAt (w : World) (g : Nat) (fs : List Value) (ps : List Nat) : Prop :=
  ∃ cs : Array Value, Blk w g 91 cs ∧ cs.size = 1860 ∧ fs.length = 13 ∧ (∀ k, k < 13 → cs[cfat k]? = fs[k]?) ∧ ∀ a, a < 1847 → cs[11 + sg a]? = some (.int .u16 ((ps.getD a 0 : Nat) : Int))

section
variable {w w' : World} {g : Nat} {fs : List Value} {ps : List Nat}
theorem LcAt.lt (h : LcAt w g fs ps) : g < w.heap.size := by
  obtain ⟨cs, hB, _⟩ := h
  exact hB.lt
theorem LcAt.only {S : Nat → Prop} (h : LcAt w g fs ps) (hO : Only S w w') (hg : ¬ S g) : LcAt w' g fs ps := by
  obtain ⟨cs, hB, r⟩ := h
  exact ⟨cs, hB.only hO hg, r⟩
theorem LcAt.cell (h : LcAt w g fs ps) (k : Nat) (hk : k < 13) : w.cell? ⟨g, cfat k, none⟩ = fs[k]? := by
  obtain ⟨cs, hB, _, _, h1, _⟩ := h
  rw [hB.cell, h1 k hk]
theorem LcAt.free (h : LcAt w g fs ps) (i : Nat) : w.frozen? ⟨g, i, none⟩ = false := by
  obtain ⟨cs, hB, _⟩ := h
  exact hB.free i
theorem LcAt.chance (h : LcAt w g fs ps) {a : Nat} (ha : a < 1847) : w.cell? ⟨g, 11 + sg a, none⟩ = some (.int .u16 ((ps.getD a 0 : Nat) : Int)) := by
  obtain ⟨cs, hB, _, _, _, h2⟩ := h
  rw [hB.cell, h2 a ha]
theorem LcAt.put (h : LcAt w g fs ps) (k : Nat) (hk : k < 13) (v : Value) : LcAt (w.setCell ⟨g, cfat k, none⟩ v) g (fs.set k v) ps := by
  obtain ⟨cs, hB, hs, hl, h1, h2⟩ := h
  have hf : cfat k < 1860 := by unfold cfat; split <;> omega
  refine ⟨_, hB.put (cfat k) v, by simp [hs], by simp [hl], fun j hj => ?_, fun a ha => ?_⟩
  · by_cases hjk : j = k
    · subst hjk
      rw [Array.getElem?_setIfInBounds, List.getElem?_set]
      simp [hs, hf, hl, hj]
    · rw [Array.getElem?_setIfInBounds_ne (fun e => hjk (cfat_inj e.symm)), List.getElem?_set_ne (fun e => hjk e.symm)]
      exact h1 j hj
  · rw [Array.getElem?_setIfInBounds_ne (cfat_sg ha)]
    exact h2 a ha
theorem LcAt.prob (h : LcAt w g fs ps) {a : Nat} (ha : a < 1847) (hl : 1847 ≤ ps.length) (q : Nat) : LcAt (w.setCell ⟨g, 11 + sg a, none⟩ (.int .u16 (q : Int))) g fs (ps.set a q) := by
  obtain ⟨cs, hB, hs, hfl, h1, h2⟩ := h
  have hf := sg_lt ha
  refine ⟨_, hB.put (11 + sg a) _, by simp [hs], hfl, fun j hj => ?_, fun b hb => ?_⟩
  · rw [Array.getElem?_setIfInBounds_ne (cfat_sg ha).symm]
    exact h1 j hj
  · by_cases hab : a = b
    · subst hab
      rw [Array.getElem?_setIfInBounds]
      simp only [List.getD, List.getElem?_set]
      simp [hs, show 11 + sg a < 1860 by omega, show a < ps.length by omega]
    · rw [Array.getElem?_setIfInBounds_ne (fun e => hab (sg_inj ha hb (by omega))), h2 b hb]
      simp only [List.getD, List.getElem?_set_ne hab]
theorem LcAt.same {ps' : List Nat} (h : LcAt w g fs ps) (he : ∀ a, a < 1847 → ps'.getD a 0 = ps.getD a 0) : LcAt w g fs ps' := by
  obtain ⟨cs, hB, hs, hfl, h1, h2⟩ := h
  exact ⟨cs, hB, hs, hfl, h1, fun a ha => by rw [he a ha]; exact h2 a ha⟩
end

/-- what stays where it is: the coder, the literals' probabilities (so many), the coder of ranges -/
structure Koc where
  g : Nat
  lb : Nat
  nl : Nat
  eg : Nat
def Koc.Bk (K : Koc) : Nat → Prop := fun i => i = K.g ∨ i = K.lb
def Koc.ad (K : Koc) (a : Nat) : Nat × Nat := if a < 1847 then (K.g, 11 + sg a) else (K.lb, a - 1847)
def Ck (K : Koc) (fs : List Value) (w : World) (ps : List Nat) : Prop := LcAt w K.g fs ps ∧ Row w K.lb (ps.drop 1847) K.nl ∧ ps.length = 1847 + K.nl

theorem Koc.prb (K : Koc) (fs : List Value) (hn : K.g ≠ K.lb) : Prb (Ck K fs) K.Bk K.ad (1847 + K.nl) where
  blk {a} _ := by unfold Koc.ad Koc.Bk; split <;> simp
  cell {w ps a} h ha := by
    unfold Koc.ad
    split
    · rename_i h1
      exact h.1.chance h1
    · rename_i h1
      have hlen := h.2.2
      have hi : a - 1847 < (ps.drop 1847).length := by rw [List.length_drop]; omega
      have := h.2.1.cell hi
      dsimp only
      rw [this]
      simp only [List.getD, List.getElem?_drop]
      rw [show 1847 + (a - 1847) = a by omega]
  free {w ps a} h ha := by
    unfold Koc.ad
    split
    · exact h.1.free _
    · exact h.2.1.free _
  put {w ps a} h ha q := by
    have hlen := h.2.2
    unfold Koc.ad
    split
    · rename_i h1
      dsimp only
      refine ⟨h.1.prob h1 (by omega) q, ?_, by rw [List.length_set]; exact hlen⟩
      rw [List.drop_set_of_lt h1]
      exact h.2.1.only ((Only.refl (fun j => j = K.g) w).setCell (p := ⟨K.g, _, none⟩) (.inl rfl) _) (fun e => hn e.symm)
    · rename_i h1
      dsimp only
      refine ⟨(h.1.only ((Only.refl (fun j => j = K.lb) w).setCell (p := ⟨K.lb, _, none⟩) (.inl rfl) _) hn).same (fun b hb => ?_), ?_, by rw [List.length_set]; exact hlen⟩
      · simp only [List.getD]
        rw [List.getElem?_set_ne (by omega)]
      · have := h.2.1.put (a - 1847) q
        have e : (ps.set a q).drop 1847 = (ps.drop 1847).set (a - 1847) q := by
          rw [List.drop_set, if_neg (by omega)]
        rw [e]
        exact this
  only {w w' ps S} h hO hS := ⟨h.1.only hO (hS _ (.inl rfl)), h.2.1.only hO (hS _ (.inr rfl)), h.2.2⟩
  len h := h.2.2
  old {w ps i} h hi := by
    rcases hi with rfl | rfl
    · exact h.1.lt
    · exact h.2.1.lt

/-- its fields -/
def cwFs (K : Koc) (z : Lzs) (A : Option Addr) (c : Nat) : List Value :=
  [.int .i64 (z.lc : Int), .int .i64 (z.lp : Int), .int .i64 (z.pb : Int), .int .i64 (z.dict : Int), .pointer (some ⟨K.eg, 0, none⟩), .slice A z.out.length c,
    .int .i64 (z.st : Int), .int .u32 (z.r0 : Int), .int .u32 (z.r1 : Int), .int .u32 (z.r2 : Int), .int .u32 (z.r3 : Int), .slice (some ⟨K.lb, 0, none⟩) K.nl K.nl, .bool z.ended]
/-- the block of what was told -/
def tb (A : Option Addr) (n c : Nat) : Option Nat := (Value.slice A n c).ownBlock

/-- what lies apart: Ge the bytes of the coder of ranges, Gt what was told -/
structure Cap (K : Koc) (Ge Gt : Option Nat) : Prop where
  gl : K.g ≠ K.lb
  ge : K.g ≠ K.eg
  le : K.lb ≠ K.eg
  eo : ∀ i, Ge = some i → i ≠ K.g ∧ i ≠ K.lb ∧ i ≠ K.eg
  ta : ∀ i, Gt = some i → i ≠ K.g ∧ i ≠ K.lb ∧ i ≠ K.eg ∧ Ge ≠ some i
theorem Cap.off {K : Koc} {Ge Gt : Option Nat} (h : Cap K Ge Gt) : Off K.eg Ge K.Bk := by
  rintro i (rfl | rfl)
  · exact ⟨h.ge, fun e => (h.eo _ e).1 rfl⟩
  · exact ⟨h.le, fun e => (h.eo _ e).2.1 rfl⟩

/-- The coder, whole: state z as numbers, machine t; it may be asked for k bits more. -/
structure Cw (K : Koc) (w : World) (Ge : Option Nat) (A : Option Addr) (c : Nat) (z : Lzs) (k : Nat) (t : Pm En) : Prop where
  mch : Cmch (Ck K (cwFs K z A c)) K.eg Ge (1847 + K.nl) k w t
  told : w.ownsRow 0 5 1 (.slice A z.out.length c) z.out.length (bv z.out)
  ap : Cap K Ge (tb A z.out.length c)
/-- what a call turns that tells nothing -/
def Koc.own (K : Koc) (Ge : Option Nat) : Nat → Prop := cset K.eg Ge K.Bk
def CMid (K : Koc) (w : World) (Ge : Option Nat) (v : Value) (A : Option Addr) (c : Nat) (z : Lzs) (k : Nat) (t : Pm En) (e : Ending) (w' : World) : Prop :=
  e = .returned v ∧ ∃ Ge', Cw K w' Ge' A c z k t ∧ Nwr w Ge Ge' ∧ Only (K.own Ge) w w'
/-- what a call turns that tells bytes -/
def Koc.all (K : Koc) (Ge Gt : Option Nat) : Nat → Prop := fun i => K.own Ge i ∨ Gt = some i
def CPut (K : Koc) (w : World) (Ge Gt : Option Nat) (v : Value) (z : Lzs) (k : Nat) (t : Pm En) (e : Ending) (w' : World) : Prop :=
  e = .returned v ∧ ∃ Ge' A c, Cw K w' Ge' A c z k t ∧ Nwr w Ge Ge' ∧ Nwr w Gt (tb A z.out.length c) ∧ Only (K.all Ge Gt) w w'

section
variable {K : Koc} {w w' : World} {Ge Ge' : Option Nat} {A : Option Addr} {c : Nat} {z : Lzs} {k : Nat} {t : Pm En}
theorem Cw.dec (h : Cw K w Ge A c z k t) : LcAt w K.g (cwFs K z A c) t.ps := h.mch.row.1
theorem Cw.old (h : Cw K w Ge A c z k t) : K.g < w.heap.size ∧ K.lb < w.heap.size ∧ K.eg < w.heap.size ∧ (∀ i, Ge = some i → i < w.heap.size) ∧ ∀ i, tb A z.out.length c = some i → i < w.heap.size :=
  ⟨h.mch.row.1.lt, h.mch.row.2.1.lt, h.mch.pn.lt, fun _ hi => h.mch.pn.old hi, fun _ hi => own_old h.told hi⟩
theorem Cap.grow {Gt : Option Nat} (ha : Cap K Ge Gt) (hn : Nwr w Ge Ge') (h1 : K.g < w.heap.size) (h2 : K.lb < w.heap.size) (h3 : K.eg < w.heap.size) (h4 : ∀ i, Gt = some i → i < w.heap.size) : Cap K Ge' Gt := by
  refine ⟨ha.gl, ha.ge, ha.le, fun i hi => ?_, fun i hi => ?_⟩
  · rcases hn i hi with e | e
    · exact ha.eo i e
    · omega
  · obtain ⟨a1, a2, a3, a4⟩ := ha.ta i hi
    refine ⟨a1, a2, a3, fun e => ?_⟩
    rcases hn i e with e | e
    · exact a4 e
    · have := h4 i hi
      omega
theorem Cap.own {Gt : Option Nat} (h : Cap K Ge Gt) {i : Nat} (hi : Gt = some i) : ¬ K.own Ge i := by
  obtain ⟨a1, a2, a3, a4⟩ := h.ta i hi
  rintro (e | e | e | e)
  · exact a3 e
  · exact a4 e
  · exact a1 e
  · exact a2 e
theorem Cw.only {S : Nat → Prop} (h : Cw K w Ge A c z k t) (hO : Only S w w') (hg : ¬ S K.g) (hl : ¬ S K.lb) (he : ¬ S K.eg) (hG : ∀ i, Ge = some i → ¬ S i) (hT : ∀ i, tb A z.out.length c = some i → ¬ S i) : Cw K w' Ge A c z k t :=
  ⟨⟨h.mch.pn.only hO he hG, (K.prb _ h.ap.gl).only h.mch.row hO (fun i hi => by rcases hi with rfl | rfl; exact hg; exact hl), h.mch.ok⟩, own_only' h.told hO hT, h.ap⟩
theorem Cw.quiet (h : Cw K w Ge A c z k t) (hO : Only (fun _ => False) w w') : Cw K w' Ge A c z k t := h.only hO (fun h => h) (fun h => h) (fun h => h) (fun _ _ h => h) (fun _ _ h => h)
theorem Cw.drewN (h : Cw K w Ge A c z k t) (n : Nat) : Cw K (w.drewN n) Ge A c z k t := h.quiet ((Only.refl _ w).drewN n)
theorem Cw.less (h : Cw K w Ge A c z k t) {k' : Nat} (hk : k' ≤ k) : Cw K w Ge A c z k' t := ⟨⟨h.mch.pn, h.mch.row, h.mch.ok.mono encM_ok hk⟩, h.told, h.ap⟩
/-- a call of the coder of ranges -/
theorem Cw.bits {t' : Pm En} {k' : Nat} {e : Ending} (h : Cw K w Ge A c z k t) (hp : CPost (Ck K (cwFs K z A c)) K.Bk K.eg Ge (1847 + K.nl) k' w t' e w') : CMid K w Ge (.tuple #[]) A c z k' t' e w' := by
  obtain ⟨rfl, G', hm, hn, ho⟩ := hp
  obtain ⟨o1, o2, o3, o4, o5⟩ := h.old
  exact ⟨rfl, G', ⟨hm, own_only' h.told ho (fun i hi => h.ap.own hi), h.ap.grow hn o1 o2 o3 o5⟩, hn, ho⟩
/-- a field is stored -/
theorem Cw.put (h : Cw K w Ge A c z k t) (i : Nat) (hi : i < 13) (v : Value) {z' : Lzs} (hz : (cwFs K z A c).set i v = cwFs K z' A c) (ho : z'.out = z.out) : Cw K (w.setCell ⟨K.g, cfat i, none⟩ v) Ge A c z' k t := by
  have hO := (Only.refl (fun j => j = K.g) w).setCell (p := ⟨K.g, cfat i, none⟩) (.inl rfl) v
  refine ⟨⟨h.mch.pn.only hO (fun e => h.ap.ge e.symm) (fun j hj => (h.ap.eo j hj).1), ⟨?_, h.mch.row.2.1.only hO (fun e => h.ap.gl e.symm), h.mch.row.2.2⟩, h.mch.ok⟩, ?_, ?_⟩
  · have := h.dec.put i hi v
    rw [hz] at this
    exact this
  · rw [ho]
    exact own_only' h.told hO (fun j hj => (h.ap.ta j hj).1)
  · rw [ho]
    exact h.ap
theorem Only.cwn_put (h : Only (K.own Ge) w w') (i : Nat) (v : Value) : Only (K.own Ge) w (w'.setCell ⟨K.g, cfat i, none⟩ v) := h.setCell (p := ⟨K.g, cfat i, none⟩) (.inl (.inr (.inr (.inl rfl)))) v
theorem CMid.trans {w1 : World} {Ge1 : Option Nat} {v : Value} {z' : Lzs} {t' : Pm En} {k' : Nat} {e : Ending} (hn : Nwr w Ge Ge1) (h : Only (K.own Ge) w w1) (hp : CMid K w1 Ge1 v A c z' k' t' e w') : CMid K w Ge v A c z' k' t' e w' := by
  obtain ⟨rfl, G2, hz, hn2, ho2⟩ := hp
  exact ⟨rfl, G2, hz, hn.trans hn2 h.size, cset_trans h hn ho2⟩
end
end Go.Proofs.Ytjganponepafpaa

/-
  The program's probabilities of packets: those of a literal, and of a distance's slot.
-/
namespace Go.Proofs.Ytjganponepafpaa
open Go.RowKit

theorem ofInt_w64 (a : Nat) (h : a < 18446744073709551616) : (BitVec.ofInt 64 (a : Int)).toNat = a := by simp; omega
theorem i64_and_low (n k : Nat) (hn : n < 9223372036854775808) (hk : k ≤ 62) : bits .and .i64 (n : Int) (wrap64 (wrap64 (2 ^ k) - 1)) = ((n % 2 ^ k : Nat) : Int) := by
  have hp : 2 ^ k ≤ 2 ^ 62 := Nat.pow_le_pow_right (by omega) hk
  have h1 : 1 ≤ 2 ^ k := Nat.one_le_two_pow
  have hw : wrap64 (2 ^ k) = ((2 ^ k : Nat) : Int) := by
    rw [cast_pow2]
    generalize 2 ^ k = y at *
    unfold wrap64
    omega
  have hw2 : wrap64 (((2 ^ k : Nat) : Int) - 1) = ((2 ^ k - 1 : Nat) : Int) := by
    generalize 2 ^ k = y at *
    unfold wrap64
    omega
  rw [hw, hw2]
  show IntKind.i64.wrap ((BitVec.ofInt 64 (n : Int) &&& BitVec.ofInt 64 ((2 ^ k - 1 : Nat) : Int)).toNat : Int) = _
  rw [BitVec.toNat_and, ofInt_w64 n (by omega), ofInt_w64 (2 ^ k - 1) (by omega), Nat.and_two_pow_sub_one_eq_mod]
  have := Nat.mod_le n (2 ^ k)
  exact IntWalk.i64_in _ (by omega)

theorem pow_pb {k : Nat} (h : k ≤ 4) : 2 ^ k ≤ 16 := Nat.le_trans (Nat.pow_le_pow_right (by omega) h) (by decide)
theorem mod_pb {n k : Nat} (h : k ≤ 4) : n % 2 ^ k ≤ 15 := by
  have h1 := pow_pb h
  have h2 := Nat.mod_lt n (Nat.two_pow_pos k)
  omega

theorem wrap_id (x : Nat) (h : x < 9223372036854775808) : wrap64 (x : Int) = (x : Int) := by unfold wrap64; omega
theorem shr_nat (x k : Nat) (h : x < 9223372036854775808) : wrap64 (x : Int) / 2 ^ k = ((x / 2 ^ k : Nat) : Int) := by
  rw [wrap_id x h, cast_pow2]
  exact (Int.natCast_ediv x (2 ^ k)).symm
theorem shl_nat (x k y : Nat) (hy : y = x * 2 ^ k) (h : y < 9223372036854775808) : wrap64 ((x : Int) * 2 ^ k) = (y : Int) := by
  rw [cast_pow2, ← Int.natCast_mul, ← hy]
  exact wrap_id y h

theorem row_small {a x nl : Nat} (h : a = 768 * x) (h1 : a + 768 ≤ nl) (h2 : nl ≤ 100000000) : x ≤ 200000 ∧ a ≤ 100000000 := by omega
theorem row_facts {a S b nl P2 last : Nat} (h : a = 768 * (P2 + last)) (h1 : a + 768 ≤ nl) (h2 : nl ≤ 100000000) (hS : S = P2 + last) (hb : b = a + 768) :
    wrap64 ((P2 : Int) + (last : Int)) = (S : Int) ∧ wrap64 (768 * (S : Int)) = (a : Int) ∧ wrap64 ((a : Int) + 768) = (b : Int) ∧ (0 : Int) ≤ (a : Int) ∧ (a : Int) ≤ (b : Int) ∧ (b : Int) ≤ (nl : Int) ∧ ¬ nl = a := by
  have hs := row_small h h1 h2
  refine ⟨?_, ?_, ?_, by omega, by omega, by omega, by omega⟩
  · rw [← Int.natCast_add, ← hS]
    exact wrap_id _ (by omega)
  · rw [show 768 * (S : Int) = (a : Int) by omega]
    exact wrap_id _ (by omega)
  · rw [show (a : Int) + 768 = (b : Int) by omega]
    exact wrap_id _ (by omega)


set_option maxRecDepth 100000 in
set_option maxHeartbeats 2000000 in
theorem pslot_any {g o0 l ml : Nat} (hm : ml = min l 3) (w : World) :
    Calls Try.prog 83 #[.pointer (some ⟨g, o0, none⟩), .int .i64 (l : Int)] w fun e w' => e = .returned (.slice (some ⟨g, o0 + 1591 + ml * 64, none⟩) 64 64) ∧ w = w' := by
  by_cases h3 : l ≤ 3
  · obtain rfl : ml = l := by omega
    have g3 : (ml : Int) ≤ 3 := by omega
    have g3' : (ml : Int) < 4 := by omega
    have g0 : (0 : Int) ≤ (ml : Int) := by omega
    have gm : min (ml : Int) 3 = (ml : Int) := by omega
    clear hm h3
    go_enter Try.func83, Try.ntmps83
    go_wp2_with fail
    go_ret
    exact ⟨rfl, rfl⟩
  · obtain rfl : ml = 3 := by omega
    have g3 : ¬ (l : Int) ≤ 3 := by omega
    have gm : min (l : Int) 3 = 3 := by omega
    clear hm h3
    go_enter Try.func83, Try.ntmps83
    go_wp2_with fail
    go_ret
    exact ⟨rfl, rfl⟩

set_option maxRecDepth 100000 in
set_option maxHeartbeats 4000000 in
theorem prow_any {b nl lc lp n last a : Nat} {pb d : Int} (hlc : lc ≤ 8) (hlp : lp ≤ 4) (hn : n ≤ 1000000) (hla : last < 256) (ha : a = 768 * (n % 2 ^ lp * 2 ^ lc + last / 2 ^ (8 - lc))) (h1 : a + 768 ≤ nl) (h2 : nl ≤ 100000000) (w : World) :
    Calls Try.prog 66 #[.slice (some ⟨b, 0, none⟩) nl nl, .agg #[.int .i64 (lc : Int), .int .i64 (lp : Int), .int .i64 pb, .int .i64 d], .int .i64 (n : Int), .int .u8 (last : Int)] w fun e w' => e = .returned (.slice (some ⟨b, a, none⟩) 768 (nl - a)) ∧ Only (fun _ => False) w w' := by
  have hl4 : min lp 64 = lp := by omega
  have hl8 : min lc 64 = lc := by omega
  have hl88 : min (8 - lc) 64 = 8 - lc := by omega
  obtain ⟨w1, hw1⟩ : ∃ w1, w1 = w.alloc (.cells #[.int .i64 (lc : Int), .int .i64 (lp : Int), .int .i64 pb, .int .i64 d] 39) := ⟨_, rfl⟩
  have hb1 : Only (fun _ => False) w w1 := by rw [hw1]; exact (Only.refl _ w).alloc _
  have HBk : Blk w1 w.heap.size 39 #[.int .i64 (lc : Int), .int .i64 (lp : Int), .int .i64 pb, .int .i64 d] := by rw [hw1]; exact Blk.fresh w _ _
  have c0 : w1.cell? ⟨w.heap.size, 0, none⟩ = some (.int .i64 (lc : Int)) := HBk.cell 0
  have c1 : w1.cell? ⟨w.heap.size, 1, none⟩ = some (.int .i64 (lp : Int)) := HBk.cell 1
  have e0 : IntKind.i64.wrap (8 - (lc : Int)) = ((8 - lc : Nat) : Int) := by rw [show 8 - (lc : Int) = ((8 - lc : Nat) : Int) by omega]; exact IntWalk.i64_in _ (by omega)
  have E1 := Lib.hid (i64_and_low n lp (by omega) (by omega))
  obtain ⟨P, hP⟩ : ∃ P, P = n % 2 ^ lp := ⟨_, rfl⟩
  rw [← hP] at E1 ha
  have E2 := Lib.hid (shr_nat last (8 - lc) (by omega))
  obtain ⟨la, hla2⟩ : ∃ x, x = last / 2 ^ (8 - lc) := ⟨_, rfl⟩
  rw [← hla2] at E2 ha
  obtain ⟨P2, hP2⟩ : ∃ x, x = P * 2 ^ lc := ⟨_, rfl⟩
  rw [← hP2] at ha
  have hsm := row_small ha h1 h2
  have f1 := shl_nat P lc P2 hP2 (Nat.lt_of_le_of_lt (Nat.le_trans (Nat.le_add_right _ _) hsm.1) (by decide))
  obtain ⟨S, hS⟩ : ∃ S, S = P2 + la := ⟨_, rfl⟩
  obtain ⟨b2, hb⟩ : ∃ b, b = a + 768 := ⟨_, rfl⟩
  obtain ⟨f2, f3, f4, g1, g2, g3, g4⟩ := row_facts ha h1 h2 hS hb
  have HB := Lib.hid hb
  have HF := Lib.hid (And.intro f1 (And.intro f2 (And.intro f3 (And.intro f4 (And.intro g1 (And.intro g2 (And.intro g3 g4)))))))
  have HW1 := Lib.hid hw1
  have HB1 := Lib.hid hb1
  clear hb ha hP hla2 hP2 hsm f1 f2 f3 f4 g1 g2 g3 g4 hS hn h1 h2 hla hw1 hb1 HBk
  go_enter Try.func66, Try.ntmps66
  go_upto_region 1 with fail
  rw [← HW1.out]
  clear HW1
  go_upto_region 2 with fail
  rw [E1.out]
  go_quiet (fail)
  rw [E2.out]
  have HB2 := Lib.hid (HB1.out.drewN nq)
  obtain ⟨f1, f2, f3, f4, g1, g2, g3, g4⟩ := HF.out
  clear e0 E1 E2 HF c0 c1 HB1
  generalize w1.drewN nq = w2 at *
  go_wp2_with fail
  go_ret
  have e768 : b2 - a = 768 := by have := HB.out; omega
  exact ⟨congrArg (fun n => Ending.returned (.slice (some ⟨b, a, none⟩) n (nl - a))) e768, HB2.out⟩
end Go.Proofs.Ytjganponepafpaa

/-
  The program's states: behind each packet.
-/
namespace Go.Proofs.Ytjganponepafpaa
open Go.RowKit

set_option maxRecDepth 100000 in
set_option maxHeartbeats 1000000 in
theorem papart_any (st : Nat) (w : World) :
    Calls Try.prog 68 #[.int .i64 (st : Int)] w fun e w' => e = .returned (.bool (decide (7 ≤ st))) ∧ w = w' := by
  have hu : decide ((st : Int) ≥ 7) = decide (7 ≤ st) := by rw [Bool.eq_iff_iff]; simp; omega
  have HU := Lib.hid hu
  clear hu
  go_enter Try.func68, Try.ntmps68
  go_wp2_with fail
  go_ret
  exact ⟨congrArg (fun x => Ending.returned (.bool x)) HU.out, rfl⟩

set_option maxRecDepth 100000 in
set_option maxHeartbeats 1000000 in
theorem pbehind_any (st a b : Nat) (w : World) :
    Calls Try.prog 75 #[.int .i64 (st : Int), .int .i64 (a : Int), .int .i64 (b : Int)] w fun e w' => e = .returned (.int .i64 ((aft a b st : Nat) : Int)) ∧ w = w' := by
  have KA := Lib.hid (papart_any st w)
  unfold aft
  by_cases h7 : st < 7
  · have g7 : decide (7 ≤ st) = false := decide_eq_false (by omega)
    rw [g7] at KA
    rw [if_pos h7]
    clear h7 g7
    go_enter Try.func75, Try.ntmps75
    go_wp2_with fail
    refine KA.out.mono ?_
    rintro e w1 ⟨rfl, rfl⟩
    go_wp2_with fail
    go_ret
    exact ⟨rfl, rfl⟩
  · have g7 : decide (7 ≤ st) = true := decide_eq_true (by omega)
    rw [g7] at KA
    rw [if_neg h7]
    clear h7 g7
    go_enter Try.func75, Try.ntmps75
    go_wp2_with fail
    refine KA.out.mono ?_
    rintro e w1 ⟨rfl, rfl⟩
    go_wp2_with fail
    go_ret
    exact ⟨rfl, rfl⟩

set_option maxRecDepth 100000 in
set_option maxHeartbeats 1000000 in
theorem pmat_any (st : Nat) (w : World) :
    Calls Try.prog 73 #[.int .i64 (st : Int)] w fun e w' => e = .returned (.int .i64 ((aft 7 10 st : Nat) : Int)) ∧ w = w' := by
  have KA := Lib.hid (pbehind_any st 7 10 w)
  go_enter Try.func73, Try.ntmps73
  go_wp2_with fail
  refine KA.out.mono ?_
  rintro e w1 ⟨rfl, rfl⟩
  go_wp2_with fail
  go_ret
  exact ⟨rfl, rfl⟩

set_option maxRecDepth 100000 in
set_option maxHeartbeats 1000000 in
theorem pag_any (st : Nat) (w : World) :
    Calls Try.prog 76 #[.int .i64 (st : Int)] w fun e w' => e = .returned (.int .i64 ((aft 8 11 st : Nat) : Int)) ∧ w = w' := by
  have KA := Lib.hid (pbehind_any st 8 11 w)
  go_enter Try.func76, Try.ntmps76
  go_wp2_with fail
  refine KA.out.mono ?_
  rintro e w1 ⟨rfl, rfl⟩
  go_wp2_with fail
  go_ret
  exact ⟨rfl, rfl⟩

set_option maxRecDepth 100000 in
set_option maxHeartbeats 1000000 in
theorem psing_any (st : Nat) (w : World) :
    Calls Try.prog 55 #[.int .i64 (st : Int)] w fun e w' => e = .returned (.int .i64 ((aft 9 11 st : Nat) : Int)) ∧ w = w' := by
  have KA := Lib.hid (pbehind_any st 9 11 w)
  go_enter Try.func55, Try.ntmps55
  go_wp2_with fail
  refine KA.out.mono ?_
  rintro e w1 ⟨rfl, rfl⟩
  go_wp2_with fail
  go_ret
  exact ⟨rfl, rfl⟩

set_option maxRecDepth 100000 in
set_option maxHeartbeats 1000000 in
theorem llit7_any (st : Nat) (hs : st ≤ 11) (w : World) :
    Calls Try.prog 71 #[.int .i64 (st : Int)] w fun e w' => e = .returned (.int .i64 ((litSt st : Nat) : Int)) ∧ w = w' := by
  unfold litSt
  by_cases h4 : st < 4
  · have g4 : (st : Int) < 4 := by omega
    rw [if_pos h4]
    clear h4 hs
    go_enter Try.func71, Try.ntmps71
    go_wp2_with fail
    go_ret
    exact ⟨rfl, rfl⟩
  · have g4 : ¬ (st : Int) < 4 := by omega
    rw [if_neg h4]
    by_cases h10 : st < 10
    · have g10 : (st : Int) < 10 := by omega
      rw [if_pos h10]
      have e1 : IntKind.i64.wrap ((st : Int) - 3) = ((st - 3 : Nat) : Int) := by rw [show (st : Int) - 3 = ((st - 3 : Nat) : Int) by omega]; exact IntWalk.i64_in _ (by omega)
      clear h4 h10 hs
      go_enter Try.func71, Try.ntmps71
      go_wp2_with fail
      go_ret
      exact ⟨rfl, rfl⟩
    · have g10 : ¬ (st : Int) < 10 := by omega
      rw [if_neg h10]
      have e1 : IntKind.i64.wrap ((st : Int) - 6) = ((st - 6 : Nat) : Int) := by rw [show (st : Int) - 6 = ((st - 6 : Nat) : Int) by omega]; exact IntWalk.i64_in _ (by omega)
      clear h4 h10 hs
      go_enter Try.func71, Try.ntmps71
      go_wp2_with fail
      go_ret
      exact ⟨rfl, rfl⟩
end Go.Proofs.Ytjganponepafpaa

/-
  The program's coder of LZMA: its small calls: bits, the place's bits, which bytes are there.
-/
namespace Go.Proofs.Ytjganponepafpaa
open Go.RowKit

section
variable {K : Koc} {w w' : World} {Ge Ge' : Option Nat} {A : Option Addr} {c : Nat} {z : Lzs} {k : Nat} {t : Pm En}

theorem Koc.lay (K : Koc) : Lay K.ad K.g 11 := fun a ha => by unfold Koc.ad; rw [if_pos ha]
theorem Koc.ad_lit {K : Koc} {a i : Nat} (h : 1847 ≤ a) (hi : i = a - 1847) : K.ad a = (K.lb, i) := by
  unfold Koc.ad
  rw [if_neg (by omega), hi]

theorem Cw.bit (h : Cw K w Ge A c z (k + 1) t) {a b i bit : Nat} (hab : K.ad a = (b, i)) (ha : a < 1847 + K.nl) (hb : bit ≤ 1) :
    Calls Try.prog 64 #[.pointer (some ⟨K.eg, 0, none⟩), .pointer (some ⟨b, i, none⟩), .int .i64 (bit : Int)] w (CMid K w Ge (.tuple #[]) A c z k (bitP encM t a (bit : Int)).2) :=
  (cw_bit (K.prb _ h.ap.gl) h.ap.off hab ha h.mch hb).mono fun _ _ hp => h.bits hp
theorem Cw.bit0 (h : Cw K w Ge A c z (k + 1) t) {a b i : Nat} (hab : K.ad a = (b, i)) (ha : a < 1847 + K.nl) :
    Calls Try.prog 64 #[.pointer (some ⟨K.eg, 0, none⟩), .pointer (some ⟨b, i, none⟩), .int .i64 0] w (CMid K w Ge (.tuple #[]) A c z k (bitP encM t a 0).2) := h.bit (bit := 0) hab ha (by decide)
theorem Cw.bit1 (h : Cw K w Ge A c z (k + 1) t) {a b i : Nat} (hab : K.ad a = (b, i)) (ha : a < 1847 + K.nl) :
    Calls Try.prog 64 #[.pointer (some ⟨K.eg, 0, none⟩), .pointer (some ⟨b, i, none⟩), .int .i64 1] w (CMid K w Ge (.tuple #[]) A c z k (bitP encM t a 1).2) := h.bit (bit := 1) hab ha (by decide)
theorem Cw.tree {n b o len cap V a : Nat} (h : Cw K w Ge A c z (k + n) t) (had : ∀ m, m < 2 ^ n → K.ad (a + m) = (b, o + m)) (haL : a + 2 ^ n ≤ 1847 + K.nl) (hn : 2 ^ n ≤ len) (hn8 : n ≤ 8) (hV : V < 4294967296) :
    Calls Try.prog 70 #[.pointer (some ⟨K.eg, 0, none⟩), .slice (some ⟨b, o, none⟩) len cap, .int .i64 (n : Int), .int .u32 (V : Int)] w (CMid K w Ge (.tuple #[]) A c z k (treeP encM t a n (V : Int)).2) :=
  (cw_tree (K.prb _ h.ap.gl) h.ap.off had haL h.mch hn hn8 hV).mono fun _ _ hp => h.bits hp
theorem Cw.rev {n b o len cap V a : Nat} (h : Cw K w Ge A c z (k + n) t) (had : ∀ m, m < 2 ^ n → K.ad (a + m) = (b, o + m)) (haL : a + 2 ^ n ≤ 1847 + K.nl) (hn : 2 ^ n ≤ len) (hn8 : n ≤ 8) (hV : V < 4294967296) :
    Calls Try.prog 84 #[.pointer (some ⟨K.eg, 0, none⟩), .slice (some ⟨b, o, none⟩) len cap, .int .i64 (n : Int), .int .u32 (V : Int)] w (CMid K w Ge (.tuple #[]) A c z k (revP encM t a n (V : Int)).2) :=
  (cw_rev (K.prb _ h.ap.gl) h.ap.off had haL h.mch hn hn8 hV).mono fun _ _ hp => h.bits hp
theorem Cw.straight (h : Cw K w Ge A c z (k + 1) t) {n V : Nat} (hn : n ≤ 32) (hV : V < 4294967296) (hok : okE k (strE t.x V n n)) :
    Calls Try.prog 85 #[.pointer (some ⟨K.eg, 0, none⟩), .int .i64 (n : Int), .int .u32 (V : Int)] w (CMid K w Ge (.tuple #[]) A c z k ⟨t.ps, strE t.x V n n⟩) :=
  (cw_straight (K.prb _ h.ap.gl) h.ap.off h.mch hn hV hok).mono fun _ _ hp => h.bits hp

/-- what its fields hold -/
structure Cf (K : Koc) (w : World) (A : Option Addr) (c : Nat) (z : Lzs) : Prop where
  c0 : w.cell? ⟨K.g, 0, none⟩ = some (.int .i64 (z.lc : Int))
  c1 : w.cell? ⟨K.g, 1, none⟩ = some (.int .i64 (z.lp : Int))
  c2 : w.cell? ⟨K.g, 2, none⟩ = some (.int .i64 (z.pb : Int))
  c3 : w.cell? ⟨K.g, 3, none⟩ = some (.int .i64 (z.dict : Int))
  c4 : w.cell? ⟨K.g, 4, none⟩ = some (.pointer (some ⟨K.eg, 0, none⟩))
  c5 : w.cell? ⟨K.g, 5, none⟩ = some (.slice A z.out.length c)
  c6 : w.cell? ⟨K.g, 6, none⟩ = some (.int .i64 (z.st : Int))
  c7 : w.cell? ⟨K.g, 7, none⟩ = some (.int .u32 (z.r0 : Int))
  c8 : w.cell? ⟨K.g, 8, none⟩ = some (.int .u32 (z.r1 : Int))
  c9 : w.cell? ⟨K.g, 9, none⟩ = some (.int .u32 (z.r2 : Int))
  c10 : w.cell? ⟨K.g, 10, none⟩ = some (.int .u32 (z.r3 : Int))
  lits : w.cell? ⟨K.g, 1858, none⟩ = some (.slice (some ⟨K.lb, 0, none⟩) K.nl K.nl)
  ended : w.cell? ⟨K.g, 1859, none⟩ = some (.bool z.ended)
  fz : ∀ i, w.frozen? ⟨K.g, i, none⟩ = false
theorem Cw.f (h : Cw K w Ge A c z k t) : Cf K w A c z :=
  ⟨h.dec.cell 0 (by decide), h.dec.cell 1 (by decide), h.dec.cell 2 (by decide), h.dec.cell 3 (by decide), h.dec.cell 4 (by decide), h.dec.cell 5 (by decide), h.dec.cell 6 (by decide), h.dec.cell 7 (by decide), h.dec.cell 8 (by decide), h.dec.cell 9 (by decide), h.dec.cell 10 (by decide),
    h.dec.cell 11 (by decide), h.dec.cell 12 (by decide), fun i => h.dec.free i⟩

set_option maxRecDepth 100000 in
set_option maxHeartbeats 1000000 in
theorem cplace_any (h : Cw K w Ge A c z k t) (hp : z.pb ≤ 4) (ho : z.out.length ≤ 1000000) :
    Calls Try.prog 63 #[.pointer (some ⟨K.g, 0, none⟩)] w fun e w' => e = .returned (.int .i64 ((z.out.length % 2 ^ z.pb : Nat) : Int)) ∧ ∃ n, w.drewN n = w' := by
  have c5 := h.f.c5
  have c2 := h.f.c2
  have e0 := i64_and_low z.out.length z.pb (by omega) (by omega)
  have HE0 := Lib.hid e0
  clear h e0
  generalize z.out.length = n at *
  generalize z.pb = k at *
  go_enter Try.func63, Try.ntmps63
  go_wp2_with fail
  go_quiet (fail)
  go_wp2_with fail
  go_ret
  exact ⟨congrArg (fun x => Ending.returned (.int .i64 x)) HE0.out, _, rfl⟩

set_option maxRecDepth 100000 in
set_option maxHeartbeats 1000000 in
theorem chas_any (h : Cw K w Ge A c z k t) {d : Nat} (hd : d < 4294967296) :
    Calls Try.prog 62 #[.pointer (some ⟨K.g, 0, none⟩), .int .u32 (d : Int)] w fun e w' => e = .returned (.bool (z.has d)) ∧ ∃ n, w.drewN n = w' := by
  have c5 := h.f.c5
  have c3 := h.f.c3
  have e0 : IntKind.i64.wrap (d : Int) = (d : Int) := IntWalk.i64_in _ (by omega)
  have hh : z.has d = decide (d < z.out.length ∧ d < z.dict) := rfl
  rw [hh]
  clear hh h
  generalize z.out.length = n at *
  generalize z.dict = m at *
  obtain ⟨v, hv⟩ : ∃ v, v = decide (d < n ∧ d < m) := ⟨_, rfl⟩
  rw [← hv]
  have HV := Lib.hid hv
  clear hv
  go_enter Try.func62, Try.ntmps62
  go_wp2_with fail
  go_quiet (fail)
  all_goals go_wp2_with fail
  all_goals go_ret
  all_goals
    refine ⟨congrArg (fun x => Ending.returned (.bool x)) ?_, _, rfl⟩
    rw [HV.out, Bool.eq_iff_iff]
    simp only [decide_eq_true_eq]
    omega

set_option maxRecDepth 100000 in
set_option maxHeartbeats 1000000 in
theorem clen_any (n : Int) (w : World) : Calls Try.prog 61 #[.int .i64 n] w fun e w' => e = .returned (.bool (decide (2 ≤ n ∧ n ≤ 273))) ∧ w = w' := by
  by_cases h0 : 2 ≤ n
  · have g0 : n ≥ 2 := h0
    by_cases h1 : n ≤ 273
    · have e : decide (2 ≤ n ∧ n ≤ 273) = true := decide_eq_true ⟨h0, h1⟩
      rw [e]
      clear e h0
      go_enter Try.func61, Try.ntmps61
      go_wp2_with fail
      go_ret
      exact ⟨rfl, rfl⟩
    · have e : decide (2 ≤ n ∧ n ≤ 273) = false := decide_eq_false (fun h => h1 h.2)
      rw [e]
      clear e h0
      go_enter Try.func61, Try.ntmps61
      go_wp2_with fail
      go_ret
      exact ⟨rfl, rfl⟩
  · have g0 : ¬ n ≥ 2 := h0
    have e : decide (2 ≤ n ∧ n ≤ 273) = false := decide_eq_false (fun h => h0 h.1)
    rw [e]
    clear e h0
    go_enter Try.func61, Try.ntmps61
    go_wp2_with fail
    go_ret
    exact ⟨rfl, rfl⟩
end
end Go.Proofs.Ytjganponepafpaa

/-
  The program's coder of LZMA: the byte at a distance; bits 1 one behind the other; a byte more was told.
-/
namespace Go.Proofs.Ytjganponepafpaa
open Go.RowKit

section
variable {K : Koc} {w w' : World} {Ge Ge' : Option Nat} {A : Option Addr} {c : Nat} {z : Lzs} {k : Nat} {t : Pm En}

theorem back_not {d : Nat} (h : z.has d = false) : z.back d = 0 := by unfold Lzs.back; rw [if_neg (by rw [h]; simp)]

set_option maxRecDepth 100000 in
set_option maxHeartbeats 2000000 in
theorem cat_any (h : Cw K w Ge A c z k t) {d : Nat} (hd : d < 4294967296) (hl : z.out.length ≤ 1000000000) :
    Calls Try.prog 67 #[.pointer (some ⟨K.g, 0, none⟩), .int .u32 (d : Int)] w fun e w' => e = .returned (.int .u8 ((z.back d).toNat : Int)) ∧ ∃ n, w.drewN n = w' := by
  have KH := chas_any h hd
  have c5 := h.f.c5
  have hS : Sl w A z.out.length (bv z.out) := Sl.of_own h.told
  cases hh : z.has d with
  | false =>
    rw [hh] at KH
    have KH := Lib.hid KH
    rw [back_not hh]
    clear h hS c5 hh
    go_enter Try.func67, Try.ntmps67
    go_wp2_with fail
    refine KH.out.mono ?_
    rintro e w1 ⟨rfl, n, rfl⟩
    go_wp2_with fail
    go_ret
    exact ⟨rfl, n, rfl⟩
  | true =>
    rw [hh] at KH
    have KH := Lib.hid KH
    obtain ⟨h1, h2⟩ := of_decide_eq_true hh
    have hb : z.back d = z.out.getD (z.out.length - 1 - d) 0 := by unfold Lzs.back; rw [if_pos hh]
    obtain ⟨i, hi⟩ : ∃ i, i = z.out.length - 1 - d := ⟨_, rfl⟩
    obtain ⟨b, o, rfl, _, hc⟩ := hS.2 (by omega)
    have cx : w.cell? ⟨b, o + i, none⟩ = some (.int .u8 ((z.back d).toNat : Int)) := by rw [hc i (by omega), bv_get _ _ (by omega), hb, hi]
    have ed : IntKind.i64.wrap (d : Int) = (d : Int) := IntWalk.i64_in _ (by omega)
    have e1 : IntKind.i64.wrap ((z.out.length : Int) - 1) = (z.out.length : Int) - 1 := IntWalk.i64_in _ (by omega)
    have e2 : IntKind.i64.wrap ((z.out.length : Int) - 1 - (d : Int)) = (i : Int) := by rw [show (z.out.length : Int) - 1 - (d : Int) = (i : Int) by omega]; exact IntWalk.i64_in _ (by omega)
    have i0 : (0 : Int) ≤ (i : Int) := by omega
    have i1 : (i : Int) < (z.out.length : Int) := by omega
    clear hS hc hi hb h1 h2 hd hl h hh
    generalize z.back d = x at *
    generalize z.out.length = n at *
    go_enter Try.func67, Try.ntmps67
    go_wp2_with fail
    refine KH.out.mono ?_
    rintro e w1 ⟨rfl, n1, rfl⟩
    go_wp2_with fail
    go_quiet (fail)
    go_wp2_with fail
    go_ret
    exact ⟨rfl, n1 + nq, by rw [World.drewN_drewN]⟩

/-- bits 1, one behind the other -/
def onesP (t : Pm En) (al : List Nat) : Pm En := al.foldl (fun t a => (bitP encM t a 1).2) t
theorem ones_succ (t : Pm En) {al : List Nat} {j : Nat} (h : j < al.length) : onesP t (al.take (j + 1)) = (bitP encM (onesP t (al.take j)) al[j] 1).2 := by
  unfold onesP
  rw [List.take_add_one, List.getElem?_eq_getElem h, List.foldl_append]
  rfl

set_option maxRecDepth 100000 in
set_option maxHeartbeats 4000000 in
theorem cones_any {q n cap : Nat} {al : List Nat} (h : Cw K w Ge A c z (k + n) t) (hn : al.length = n) (hn5 : n ≤ 100) (hq : q < w.heap.size) (hqo : ¬ K.own Ge q) (ha : ∀ a ∈ al, a < 1847 + K.nl)
    (hc : ∀ j, (hj : j < al.length) → w.cell? ⟨q, j, none⟩ = some (.pointer (some ⟨(K.ad al[j]).1, (K.ad al[j]).2, none⟩))) :
    Calls Try.prog 65 #[.pointer (some ⟨K.g, 0, none⟩), .slice (some ⟨q, 0, none⟩) n cap] w (CMid K w Ge (.tuple #[]) A c z k (onesP t al)) := by
  have HZ := Lib.hid h
  have HH := Lib.hid (And.intro hn (And.intro hn5 (And.intro hq hqo)))
  have HA := Lib.hid ha
  have HC := Lib.hid hc
  clear h hn hn5 hq hqo ha hc
  go_enter Try.func65, Try.ntmps65
  go_wp2_with fail
  go_loopw [5, 8] (fun _ i wr => ∃ (j : Nat) (G' : Option Nat), j ≤ n ∧ i = .int .i64 (j : Int) ∧ Cw K wr G' A c z (k + n - j) (onesP t (al.take j)) ∧ Nwr w Ge G' ∧ Only (K.own Ge) w wr) (fun _ i _ => n - (intOf i).toNat)
  case atStart => exact ⟨0, Ge, Nat.zero_le _, rfl, HZ.out, Nwr.refl _ _, Only.refl _ _⟩
  case round =>
    clear HZ
    obtain ⟨j, G', hj, rfl, hz, hN, hO⟩ := hrel
    have hlen := HH.out.1
    have hn5 := HH.out.2.1
    by_cases hlt : j < n
    · have hjl : j < al.length := by omega
      obtain ⟨a, haj⟩ : ∃ a, a = al[j] := ⟨_, rfl⟩
      have hst := ones_succ t hjl
      rw [← haj] at hst
      have hal : a < 1847 + K.nl := by rw [haj]; exact HA.out _ (List.getElem_mem hjl)
      have hcj := HC.out j hjl
      rw [← haj] at hcj
      obtain ⟨b, i, hab⟩ : ∃ b i, K.ad a = (b, i) := ⟨_, _, rfl⟩
      rw [hab] at hcj
      have cx : wr.cell? ⟨q, j, none⟩ = some (.pointer (some ⟨b, i, none⟩)) := by
        have hk := hO.block q HH.out.2.2.1 HH.out.2.2.2
        rw [← hcj]
        simp only [World.cell?, hk]
      have K1 := Cw.bit1 (k := k + n - (j + 1)) (by rw [show k + n - (j + 1) + 1 = k + n - j by omega]; exact hz) hab hal
      rw [← hst] at K1
      have K1 := Lib.hid K1
      have c4 := hz.f.c4
      have i1 : (j : Int) < (n : Int) := by omega
      have i0 : (0 : Int) ≤ (j : Int) := by omega
      have HN := Lib.hid hN
      have HO := Lib.hid hO
      clear hz hN hO hst hal hcj hab haj hjl hlen
      go_wp2_with fail
      refine K1.out.mono ?_
      rintro e w1 ⟨rfl, G2, hz1, hn1, ho1⟩
      have HZ1 := Lib.hid hz1
      have HN1 := Lib.hid (HN.out.trans hn1 HO.out.size)
      have HO1 := Lib.hid (cset_trans HO.out HN.out ho1)
      clear hz1 hn1 ho1 HN HO K1
      go_wp2_with fail
      go_roundw
      case rel => exact ⟨j + 1, G2, by omega, by go_num, HZ1.out, HN1.out, HO1.out⟩
      case measure => simp [intOf]; omega
    · obtain rfl : j = n := by omega
      rw [show k + j - j = k by omega, List.take_of_length_le (by omega)] at hz
      have HZ := Lib.hid hz
      have HN := Lib.hid hN
      have HO := Lib.hid hO
      clear hz hN hO hlen
      go_wp2_with fail
      first | go_end0 | refine bodyPost_ret (results_none rfl _ _ _) rfl ?_
      exact ⟨rfl, G', HZ.out, HN.out, HO.out⟩

/-- One byte more was told, and the cell that leads to them is stored. -/
theorem Cw.pushed {w1 w3 : World} {A2 : Option Addr} {c2 : Nat} {x : UInt8} (h : Cw K w Ge A c z k t) (h1 : Only (fun _ => False) w w1)
    (ho : w3.ownsRow 0 5 1 (.slice A2 (z.out.length + 1) c2) (z.out.length + 1) (bv z.out ++ [.int .u8 (x.toNat : Int)])) (hg : w1.grownBy w3 (Value.slice A z.out.length c).ownBlock)
    (hq : (Value.slice A2 (z.out.length + 1) c2).ownBlock = (Value.slice A z.out.length c).ownBlock ∨ (Value.slice A2 (z.out.length + 1) c2).ownBlock = some w1.heap.size) :
    w3.cell? ⟨K.g, 5, none⟩ = some (.slice A z.out.length c) ∧ w3.frozen? ⟨K.g, 5, none⟩ = false ∧ w3.cell? ⟨K.g, 7, none⟩ = some (.int .u32 (z.r0 : Int)) ∧
    Cw K (w3.setCell ⟨K.g, 5, none⟩ (.slice A2 (z.out.length + 1) c2)) Ge A2 c2 (z.push x) k t ∧ Nwr w (tb A z.out.length c) (tb A2 (z.push x).out.length c2) ∧
    Only (K.all Ge (tb A z.out.length c)) w (w3.setCell ⟨K.g, 5, none⟩ (.slice A2 (z.out.length + 1) c2)) := by
  obtain ⟨o1, o2, o3, o4, o5⟩ := h.old
  have hs1 := h1.size
  have hta := h.ap.ta
  have hO3 : Only (fun i => tb A z.out.length c = some i) w w3 :=
    (h1.mono (fun _ h => h.elim)).trans ⟨hg.os, hg.tape, hg.output, hg.size, fun i hi hn => hg.block i hi fun e => hn e.symm⟩
  have hq' : ∀ i, tb A2 (z.out.length + 1) c2 = some i → tb A z.out.length c = some i ∨ i = w1.heap.size := by
    intro i hi
    rcases hq with e | e
    · exact .inl (e.symm.trans hi)
    · unfold tb at hi; rw [e] at hi; injection hi with hi; exact .inr hi.symm
  have hap : ∀ i, tb A2 (z.out.length + 1) c2 = some i → i ≠ K.g ∧ i ≠ K.lb ∧ i ≠ K.eg ∧ Ge ≠ some i := by
    intro i hi
    rcases hq' i hi with e | e
    · exact hta i e
    · refine ⟨by omega, by omega, by omega, fun e2 => ?_⟩
      have := o4 i e2
      omega
  have hOf := (Only.refl (fun j => j = K.g) w3).setCell (p := ⟨K.g, 5, none⟩) (.inl rfl) (.slice A2 (z.out.length + 1) c2)
  have hlen : (z.push x).out.length = z.out.length + 1 := by show (z.out ++ [x]).length = _; simp
  have hpn := h.mch.pn.only hO3 (fun e => (hta _ e).2.2.1 rfl) (fun i hi e => (hta _ e).2.2.2 hi)
  have hrow := (K.prb _ h.ap.gl).only h.mch.row hO3 (fun i hi e => by rcases hi with rfl | rfl; exact (hta _ e).1 rfl; exact (hta _ e).2.1 rfl)
  refine ⟨hrow.1.cell 5 (by decide), hrow.1.free _, hrow.1.cell 7 (by decide), ⟨⟨hpn.only hOf (fun e => h.ap.ge e.symm) (fun j hj => (h.ap.eo j hj).1), ⟨?_, hrow.2.1.only hOf (fun e => h.ap.gl e.symm), hrow.2.2⟩, h.mch.ok⟩, ?_, ?_⟩, ?_, ?_⟩
  · have := hrow.1.put 5 (by decide) (.slice A2 (z.out.length + 1) c2)
    have e : (cwFs K z A c).set 5 (.slice A2 (z.out.length + 1) c2) = cwFs K (z.push x) A2 c2 := by
      unfold cwFs
      rw [hlen]
      rfl
    rw [e] at this
    exact this
  · rw [hlen]
    have e : bv (z.push x).out = bv z.out ++ [.int .u8 (x.toNat : Int)] := by show bv (z.out ++ [x]) = _; rw [bv_append]; rfl
    rw [e]
    exact own_only' ho hOf (fun i hi e2 => (hap i hi).1 e2)
  · rw [hlen]
    exact ⟨h.ap.gl, h.ap.ge, h.ap.le, h.ap.eo, hap⟩
  · rw [hlen]
    intro i hi
    rcases hq' i hi with e | e
    · exact .inl e
    · exact .inr (by omega)
  · exact (hO3.mono (fun i hi => .inr hi)).setCell (p := ⟨K.g, 5, none⟩) (.inl (.inl (.inr (.inr (.inl rfl))))) _
end
end Go.Proofs.Ytjganponepafpaa
