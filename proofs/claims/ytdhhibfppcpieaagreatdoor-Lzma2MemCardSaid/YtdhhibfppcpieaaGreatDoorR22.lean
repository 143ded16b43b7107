/-
  LwCopies, LwRw, PkBes, LwBes, LwLit, LwNext, LzSim, LzSim2, LzSim3, LwNx, LwNxt, LwBegin: put together.
-/
import Derived.Test.YtdhhibfppcpieaaGreatDoorR21
import Derived.BigQuiet
import Derived.Test.YtdhhibfppcpieaaGreatDoorR14
import Derived.Deep.RegionHeld3
import Derived.Test.YtdhhibfppcpieaaGreatDoorR08
import Derived.Lib.SliceRun
set_option linter.unusedVariables false
set_option linter.unusedSimpArgs false
/-
  The program's decoder of LZMA: a packet that is no literal, behind its first bit.
-/
namespace Go.Proofs.YtdhhibfppcpieaaGreatDoor
open Go.RowKit

/-- the window is as long as it need be -/
def Fit (K : Kon) (z : Lzs) : Prop := 1 ≤ K.sz ∧ K.sz ≤ 1048576 ∧ (z.dict = K.sz ∨ (z.out.length ≤ K.sz ∧ K.sz ≤ z.dict))
theorem fit_has {K : Kon} {z : Lzs} (h : Fit K z) (d : Nat) : (⟨K.sz, z.out, false⟩ : Ws).has (d : Int) = z.has d := by
  obtain ⟨h1, _, h2⟩ := h
  unfold Ws.has Lzs.has
  rw [Bool.eq_iff_iff]
  simp
  omega
theorem fit_at {K : Kon} {z : Lzs} (h : Fit K z) (d : Nat) : (⟨K.sz, z.out, false⟩ : Ws).at_ (d : Int) = z.back d := by
  unfold Ws.at_ Lzs.back
  rw [fit_has h, Int.toNat_natCast]
/-- how such a packet may end: r is what the document says of it -/
def Outcome (z1 : Lzs) (t1 : Pm Dc) (left1 : Nat) (r : Nat × Lzs × Pm Dc) : Prop :=
  t1 = r.2.2 ∧ ((t1.x = none ∧ left1 = 0) ∨
    (t1.x ≠ none ∧ r.2.1.bad = true ∧ z1.bad = true ∧ z1.ended = false ∧ left1 = 0) ∨
    (t1.x ≠ none ∧ z1.bad = false ∧ z1.ended = true ∧ r = (0, z1, t1) ∧ left1 = 0) ∨
    (t1.x ≠ none ∧ z1.bad = false ∧ z1.ended = false ∧ z1.has z1.r0 = true ∧ 1 ≤ left1 ∧ left1 ≤ 273 ∧ r = ((copyG left1 0 z1).1, (copyG left1 0 z1).2, t1)))
def CopiesPost (K : Kon) (w : World) (Gw : Nat → Prop) (z : Lzs) (N : Nat) (r : Nat × Lzs × Pm Dc) (e : Ending) (w' : World) : Prop :=
  ∃ z1 t1 left1, MidPost K w Gw (.tuple #[]) z1 t1 left1 e w' ∧ z1.out = z.out ∧ z1.dict = z.dict ∧ ZNear z1 (1847 + K.nl) N ∧ Outcome z1 t1 left1 r

section
variable {K : Kon} {w w' : World} {Gw : Nat → Prop} {z : Lzs} {t : Pm Dc} {left : Nat}

theorem Lw.has (h : Lw K w Gw z t left) (hf : Fit K z) (d : Nat) : Calls Tryz.prog 139 #[.pointer (some ⟨K.wg, 0, none⟩), .int .i64 (d : Int)] w fun x w' => x = .returned (.bool (z.has d)) ∧ w = w' := by
  have := whas_any (d := (d : Int)) h.win
  rw [fit_has hf] at this
  exact this
/-! what the document says of the three kinds -/
end
end Go.Proofs.YtdhhibfppcpieaaGreatDoor

/-
  The program's decoder of LZMA: a literal's row of probabilities.
-/
namespace Go.Proofs.YtdhhibfppcpieaaGreatDoor
open Go.RowKit

section
variable {K : Kon} {w w' : World} {Gw : Nat → Prop} {z : Lzs} {t : Pm Dc} {left : Nat}
theorem Lw.at_ (h : Lw K w Gw z t left) (hf : Fit K z) (d : Nat) (n : Nat) : Calls Tryz.prog 131 #[.pointer (some ⟨K.wg, 0, none⟩), .int .i64 (d : Int)] (w.drewN n) fun x w' => x = .returned (.int .u8 ((z.back d).toNat : Int)) ∧ ∃ k, (w.drewN n).drewN k = w' := by
  have := wat_any (d := (d : Int)) (h.drewN n).win hf.2.1
  rw [fit_at hf] at this
  exact this

theorem Lw.quiet (h : Lw K w Gw z t left) (hO : Only (fun _ => False) w w') : Lw K w' Gw z t left :=
  ⟨⟨h.mch.pd.only hO (fun _ h => h.elim), (K.prb _ h.ap.gn).only h.mch.row hO (fun _ _ h => h), h.mch.ok⟩, h.win.only hO (fun _ _ h => h), h.ap⟩
end
end Go.Proofs.YtdhhibfppcpieaaGreatDoor

/-
  A literal behind a copy: its numbers.
-/
namespace Go.Proofs.YtdhhibfppcpieaaGreatDoor
open Go.RowKit

end Go.Proofs.YtdhhibfppcpieaaGreatDoor

/-
  The program's decoder of LZMA: a literal behind a copy.
-/
namespace Go.Proofs.YtdhhibfppcpieaaGreatDoor
open Go.RowKit

section
variable {K : Kon} {w w' : World} {Gw : Nat → Prop} {z : Lzs} {t : Pm Dc} {left : Nat}

theorem lg_other {A j : Nat} {o v : UInt8} {G : Lg Dc} (h : G.same = false) : lgStep decM A (want (o.toNat : Int) j) (want (v.toNat : Int) j) G =
    ⟨2 * G.m + (bitP decM G.t (A + G.m) 0).1, false, (bitP decM G.t (A + G.m) 0).2⟩ := by
  unfold lgStep
  rw [if_neg (by rw [h]; simp)]
  rfl

def BesPost (K : Kon) (w : World) (Gw : Nat → Prop) (z : Lzs) (r : Lg Dc) (left : Nat) (e : Ending) (w' : World) : Prop := MidPost K w Gw (.int .u8 (((UInt8.ofNat r.m).toNat : Nat) : Int)) z r.t left e w'

end
end Go.Proofs.YtdhhibfppcpieaaGreatDoor

/-
  The program's decoder of LZMA: a byte is put; a literal.
-/
namespace Go.Proofs.YtdhhibfppcpieaaGreatDoor
open Go.RowKit

section
variable {K : Kon} {w w' : World} {Gw Gw' : Nat → Prop} {z : Lzs} {t : Pm Dc} {left : Nat} {fs : List Value}

theorem Mch.field (h : Mch (Rk K fs) K.dg K.f K.lo K.bs (1847 + K.nl) w t) (ha : Apart K Gw) (k : Nat) (hk : k < 19) (v : Value) : Mch (Rk K (fs.set k v)) K.dg K.f K.lo K.bs (1847 + K.nl) (w.setCell ⟨K.g, fat k, none⟩ v) t := by
  have hO := (Only.refl (fun j => j = K.g) w).setCell (p := ⟨K.g, fat k, none⟩) (.inl rfl) v
  exact ⟨h.pd.only hO (fun i hi => .inl (hi ▸ ha.gl)), ⟨h.row.1.put k hk v, h.row.2.1.only hO (fun e => ha.gn e.symm), h.row.2.2⟩, h.ok⟩
theorem Apart.grow (ha : Apart K Gw) (h : Mch (Rk K fs) K.dg K.f K.lo K.bs (1847 + K.nl) w t) (hN : ∀ i, Gw' i → Gw i ∨ w.heap.size ≤ i) : Apart K Gw' := by
  refine ⟨ha.gl, ha.ll, ha.ml, ha.gn, ha.mg, ha.mb, fun i hi => ?_⟩
  rcases hN i hi with h1 | h1
  · exact ha.wd i h1
  · have h2 := h.pd.lt
    have h3 := h.pd.lo
    have h4 := ha.gl
    have h5 := ha.ll
    have h6 := ha.ml
    omega

/-- by a tree, a literal's bits are as by the two -/
theorem lit_tree {A : Nat} {o v : UInt8} : ∀ j, (litG decM t A o v false j).m = (treeG decM t A 8 0 j).m ∧ (litG decM t A o v false j).t = (treeG decM t A 8 0 j).t ∧ (litG decM t A o v false j).same = false
  | 0 => ⟨rfl, rfl, rfl⟩
  | j + 1 => by
    obtain ⟨h1, h2, h3⟩ := lit_tree (A := A) (o := o) (v := v) j
    have e := lg_other (A := A) (j := 7 - j) (o := o) (v := v) h3
    have e2 : litG decM t A o v false (j + 1) = lgStep decM A (want (o.toNat : Int) (7 - j)) (want (v.toNat : Int) (7 - j)) (litG decM t A o v false j) := rfl
    rw [e2, e, h1, h2]
    exact ⟨rfl, rfl, rfl⟩

/-- what a literal leaves, behind its first bit -/
def LitEnd (K : Kon) (w : World) (Gw : Nat → Prop) (z : Lzs) (r : Nat × Pm Dc) (left : Nat) (e : Ending) (w' : World) : Prop :=
  (r.2.x = none ∧ MidPost K w Gw (.tuple #[.int .u8 0, .bool false]) { z with st := litSt z.st } r.2 left e w') ∨
  (r.2.x ≠ none ∧ PutPost K w Gw (.tuple #[.int .u8 ((UInt8.ofNat r.1).toNat : Int), .bool true]) (({ z with st := litSt z.st } : Lzs).push (UInt8.ofNat r.1)) r.2 left e w')

end
end Go.Proofs.YtdhhibfppcpieaaGreatDoor

/-
  The program's decoder of LZMA: the next byte.
-/
namespace Go.Proofs.YtdhhibfppcpieaaGreatDoor
open Go.RowKit

section
variable {K : Kon} {w w' : World} {Gw Gw' : Nat → Prop} {z : Lzs} {t : Pm Dc} {left : Nat} {fs : List Value}

end
end Go.Proofs.YtdhhibfppcpieaaGreatDoor

/-
  Two machines go one way: packets as numbers, side by side; the second one may fall dead on the way.
-/
namespace Go.Proofs.YtdhhibfppcpieaaGreatDoor

section
variable {σ τ : Type} {M1 : Mach σ} {M2 : Mach τ} {ok : Nat → σ → Prop} {Rel : σ → τ → Prop} {Fut : σ → Prop} {Dead : τ → Prop}

/-- The second machine does what the first one does, or falls dead; Fut: what the first one does on the way to its end. -/
structure Simu (M1 : Mach σ) (ok : Nat → σ → Prop) (M2 : Mach τ) (Rel : σ → τ → Prop) (Fut : σ → Prop) (Dead : τ → Prop) : Prop where
  okm : MachOk M1 ok
  bit : ∀ {x y k p w w'}, ok (k + 1) x → POk p → M1.may w → Rel x y → Fut (M1.bit x p w).2.2 →
    Dead (M2.bit y p w').2.2 ∨ ((M2.bit y p w').1 = (M1.bit x p w).1 ∧ (M2.bit y p w').2.1 = (M1.bit x p w).2.1 ∧ Rel (M1.bit x p w).2.2 (M2.bit y p w').2.2)
  str : ∀ {x y k n v v'}, ok (k + 1) x → n ≤ 32 → (M1.enc = true → v < 2 ^ n) → Rel x y → Fut (M1.str x n v).2 →
    Dead (M2.str y n v').2 ∨ ((M2.str y n v').1 = (M1.str x n v).1 ∧ Rel (M1.str x n v).2 (M2.str y n v').2)
  fbit : ∀ {x k p w}, ok (k + 1) x → POk p → M1.may w → Fut (M1.bit x p w).2.2 → Fut x
  fstr : ∀ {x k n v}, ok (k + 1) x → Fut (M1.str x n v).2 → Fut x
  dbit : ∀ {y p w}, Dead y → Dead (M2.bit y p w).2.2
  dstr : ∀ {y n v}, Dead y → Dead (M2.str y n v).2
  same : ∀ {x y}, Rel x y → M2.bad y = M1.bad x

def Sm (Rel : σ → τ → Prop) (t : Pm σ) (u : Pm τ) : Prop := u.ps = t.ps ∧ Rel t.x u.x
def Lk (Rel : σ → τ → Prop) (Dead : τ → Prop) (t : Pm σ) (u : Pm τ) : Prop := Dead u.x ∨ Sm Rel t u
def Eqv (Rel : σ → τ → Prop) (Dead : τ → Prop) (r : Nat × Pm σ) (q : Nat × Pm τ) : Prop := Dead q.2.x ∨ (q.1 = r.1 ∧ Sm Rel r.2 q.2)
def EqG (Rel : σ → τ → Prop) (Dead : τ → Prop) (r : Tg σ) (q : Tg τ) : Prop := Dead q.t.x ∨ (q.m = r.m ∧ q.o = r.o ∧ Sm Rel r.t q.t)

/-! ### once dead, dead -/
section
variable (hb : ∀ {y p w}, Dead y → Dead (M2.bit y p w).2.2) (hs : ∀ {y n v}, Dead y → Dead (M2.str y n v).2)
include hb
theorem bit_dead {u : Pm τ} {a : Nat} {w : Int} (h : Dead u.x) : Dead (bitP M2 u a w).2.x := hb h
theorem treeG_dead {u : Pm τ} {a n : Nat} {v : Int} (h : Dead u.x) : ∀ j, Dead (treeG M2 u a n v j).t.x
  | 0 => h
  | j + 1 => hb (treeG_dead h j)
theorem revG_dead {u : Pm τ} {a : Nat} {v : Int} (h : Dead u.x) : ∀ j, Dead (revG M2 u a v j).t.x
  | 0 => h
  | j + 1 => hb (revG_dead h j)
theorem litG_dead {u : Pm τ} {a : Nat} {o v : UInt8} {s : Bool} (h : Dead u.x) : ∀ j, Dead (litG M2 u a o v s j).t.x
  | 0 => h
  | j + 1 => by
    show Dead (lgStep M2 a _ _ (litG M2 u a o v s j)).t.x
    unfold lgStep
    split
    · exact hb (litG_dead h j)
    · exact hb (litG_dead h j)
include hs
omit hs
omit hb in
end

/-! ### side by side -/
theorem bitP_fut (S : Simu M1 ok M2 Rel Fut Dead) {L k a : Nat} {w : Int} {t : Pm σ} (ht : PmOk ok L (k + 1) t) (ha : a < L) (hw : M1.may w) (hf : Fut (bitP M1 t a w).2.x) : Fut t.x :=
  S.fbit ht.x (getD_ok ht.ps (show a < t.ps.length by rw [ht.len]; exact ha)) hw hf
theorem bitP_sim (S : Simu M1 ok M2 Rel Fut Dead) {L k a : Nat} {w w' : Int} {t : Pm σ} {u : Pm τ} (ht : PmOk ok L (k + 1) t) (ha : a < L) (hw : M1.may w) (hf : Fut (bitP M1 t a w).2.x) (hq : Lk Rel Dead t u) :
    Eqv Rel Dead (bitP M1 t a w) (bitP M2 u a w') := by
  rcases hq with hd | ⟨h1, h2⟩
  · exact .inl (S.dbit hd)
  · rcases S.bit (w' := w') ht.x (getD_ok ht.ps (show a < t.ps.length by rw [ht.len]; exact ha)) hw h2 hf with h | ⟨e1, e2, e3⟩
    · left
      show Dead (M2.bit u.x (u.ps.getD a 0) w').2.2
      rw [h1]
      exact h
    · right
      refine ⟨?_, ?_, ?_⟩
      · show (M2.bit u.x (u.ps.getD a 0) w').1 = _
        rw [h1, e1]
        rfl
      · show u.ps.set a (M2.bit u.x (u.ps.getD a 0) w').2.1 = t.ps.set a _
        rw [h1, e2]
      · show Rel _ (M2.bit u.x (u.ps.getD a 0) w').2.2
        rw [h1]
        exact e3

theorem tgStep_sim (S : Simu M1 ok M2 Rel Fut Dead) {L k a i : Nat} {w w' : Int} {s : Tg σ} {q : Tg τ} (ht : PmOk ok L (k + 1) s.t) (ha : a + s.m < L) (hw : M1.may w) (hf : Fut (tgStep M1 a i w s).t.x) (hq : EqG Rel Dead s q) :
    EqG Rel Dead (tgStep M1 a i w s) (tgStep M2 a i w' q) := by
  rcases hq with hd | ⟨e1, e2, e3⟩
  · exact .inl (S.dbit hd)
  · rcases bitP_sim S (w' := w') ht ha hw hf (.inr e3) with h | ⟨h1, h2⟩
    · left
      show Dead (bitP M2 q.t (a + q.m) w').2.x
      rw [e1]
      exact h
    · right
      refine ⟨?_, ?_, ?_⟩
      · show 2 * q.m + (bitP M2 q.t (a + q.m) w').1 = 2 * s.m + (bitP M1 s.t (a + s.m) w).1
        rw [e1, h1]
      · show q.o + (bitP M2 q.t (a + q.m) w').1 * 2 ^ i = s.o + (bitP M1 s.t (a + s.m) w).1 * 2 ^ i
        rw [e1, e2, h1]
      · show Sm Rel (bitP M1 s.t (a + s.m) w).2 (bitP M2 q.t (a + q.m) w').2
        rw [e1]
        exact h2
theorem tgStep_fut (S : Simu M1 ok M2 Rel Fut Dead) {L k a i : Nat} {w : Int} {s : Tg σ} (ht : PmOk ok L (k + 1) s.t) (ha : a + s.m < L) (hw : M1.may w) (hf : Fut (tgStep M1 a i w s).t.x) : Fut s.t.x := bitP_fut S ht ha hw hf

theorem treeG_sim (S : Simu M1 ok M2 Rel Fut Dead) {L k a n : Nat} {v v' : Int} {t : Pm σ} {u : Pm τ} (ht : PmOk ok L (k + n) t) (ha : a + 2 ^ n ≤ L) (hv : M1.mayN v) :
    ∀ j, j ≤ n → Fut (treeG M1 t a n v j).t.x → Fut t.x ∧ (Lk Rel Dead t u → EqG Rel Dead (treeG M1 t a n v j) (treeG M2 u a n v' j))
  | 0, _ => fun hf => ⟨hf, fun hq => by
    rcases hq with h | h
    · exact .inl h
    · exact .inr ⟨rfl, rfl, h⟩⟩
  | j + 1, hj => fun hf => by
    obtain ⟨h1, h2, h3⟩ := treeG_ok S.okm ht ha hv j (by omega)
    have hp : 2 ^ (j + 1) ≤ 2 ^ n := Nat.pow_le_pow_right (by omega) hj
    have h1' : PmOk ok L (k + n - (j + 1) + 1) (treeG M1 t a n v j).t := by rw [show k + n - (j + 1) + 1 = k + n - j by omega]; exact h1
    have hm := want_may hv (n - 1 - j)
    have hf' := tgStep_fut S h1' (by omega) hm hf
    obtain ⟨g1, g2⟩ := treeG_sim S ht ha hv j (by omega) hf'
    exact ⟨g1, fun hq => tgStep_sim S h1' (by omega) hm hf (g2 hq)⟩
theorem revG_sim (S : Simu M1 ok M2 Rel Fut Dead) {L k a n : Nat} {v v' : Int} {t : Pm σ} {u : Pm τ} (ht : PmOk ok L (k + n) t) (ha : a + 2 ^ n ≤ L) (hv : M1.mayN v) :
    ∀ j, j ≤ n → Fut (revG M1 t a v j).t.x → Fut t.x ∧ (Lk Rel Dead t u → EqG Rel Dead (revG M1 t a v j) (revG M2 u a v' j))
  | 0, _ => fun hf => ⟨hf, fun hq => by
    rcases hq with h | h
    · exact .inl h
    · exact .inr ⟨rfl, rfl, h⟩⟩
  | j + 1, hj => fun hf => by
    obtain ⟨h1, h2, h3, _⟩ := revG_ok S.okm ht ha hv j (by omega)
    have hp : 2 ^ (j + 1) ≤ 2 ^ n := Nat.pow_le_pow_right (by omega) hj
    have h1' : PmOk ok L (k + n - (j + 1) + 1) (revG M1 t a v j).t := by rw [show k + n - (j + 1) + 1 = k + n - j by omega]; exact h1
    have hm := want_may hv j
    have hf' := tgStep_fut S h1' (by omega) hm hf
    obtain ⟨g1, g2⟩ := revG_sim S ht ha hv j (by omega) hf'
    exact ⟨g1, fun hq => tgStep_sim S h1' (by omega) hm hf (g2 hq)⟩
end
end Go.Proofs.YtdhhibfppcpieaaGreatDoor

/-
  Two machines go one way: literals, distances, kinds.
-/
namespace Go.Proofs.YtdhhibfppcpieaaGreatDoor

section
variable {σ τ : Type} {M1 : Mach σ} {M2 : Mach τ} {ok : Nat → σ → Prop} {Rel : σ → τ → Prop} {Fut : σ → Prop} {Dead : τ → Prop}

def EqL (Rel : σ → τ → Prop) (Dead : τ → Prop) (r : Lg σ) (q : Lg τ) : Prop := Dead q.t.x ∨ (q.m = r.m ∧ q.same = r.same ∧ Sm Rel r.t q.t)
theorem lgStep_sim (S : Simu M1 ok M2 Rel Fut Dead) {L k a j y b : Nat} {b' : Int} {s : Lg σ} {q : Lg τ} (ht : PmOk ok L (k + 1) s.t) (ha : a + 768 ≤ L) (h0 : s.m < 2 ^ (j + 1)) (hj : j < 8) (hy : y ≤ 1) (hb : b ≤ 1) (hf : Fut (lgStep M1 a (y : Int) (b : Int) s).t.x) :
    Fut s.t.x ∧ (EqL Rel Dead s q → EqL Rel Dead (lgStep M1 a (y : Int) (b : Int) s) (lgStep M2 a (y : Int) b' q)) := by
  have hp : 2 ^ (j + 1) ≤ 256 := Nat.le_trans (Nat.pow_le_pow_right (by omega) (show j + 1 ≤ 8 by omega)) (by decide)
  have hm : M1.may (b : Int) := fun _ => by omega
  have hdead : Dead q.t.x → Dead (lgStep M2 a (y : Int) b' q).t.x := fun hd => by
    unfold lgStep
    split
    · exact bit_dead S.dbit hd
    · exact bit_dead S.dbit hd
  unfold lgStep at hf
  by_cases hs : s.same = true
  · rw [if_pos hs] at hf
    have hl : a + 256 * (1 + (y : Int).toNat) + s.m < L := by rw [Int.toNat_natCast]; omega
    have hf' := bitP_fut S ht hl hm hf
    refine ⟨hf', fun hq => ?_⟩
    rcases hq with hd | ⟨e1, e2, e3⟩
    · exact .inl (hdead hd)
    · unfold lgStep
      rw [if_pos hs, if_pos (by rw [e2]; exact hs), e1]
      rcases bitP_sim S (w' := b') ht hl hm hf (.inr e3) with hd | ⟨h1, h2⟩
      · exact .inl hd
      · exact .inr ⟨by dsimp only; rw [h1], by dsimp only; rw [h1], h2⟩
  · rw [if_neg hs] at hf
    have hf' := bitP_fut S ht (show a + s.m < L by omega) hm hf
    refine ⟨hf', fun hq => ?_⟩
    rcases hq with hd | ⟨e1, e2, e3⟩
    · exact .inl (hdead hd)
    · unfold lgStep
      rw [if_neg hs, if_neg (by rw [e2]; exact hs), e1]
      rcases bitP_sim S (w' := b') ht (show a + s.m < L by omega) hm hf (.inr e3) with hd | ⟨h1, h2⟩
      · exact .inl hd
      · exact .inr ⟨by dsimp only; rw [h1], rfl, h2⟩
theorem litG_sim (S : Simu M1 ok M2 Rel Fut Dead) {L k a : Nat} {o v v' : UInt8} {same : Bool} {t : Pm σ} {u : Pm τ} (ht : PmOk ok L (k + 8) t) (ha : a + 768 ≤ L) :
    ∀ j, j ≤ 8 → Fut (litG M1 t a o v same j).t.x → Fut t.x ∧ (Lk Rel Dead t u → EqL Rel Dead (litG M1 t a o v same j) (litG M2 u a o v' same j))
  | 0, _ => fun hf => ⟨hf, fun hq => by
    rcases hq with h | h
    · exact .inl h
    · exact .inr ⟨rfl, rfl, h⟩⟩
  | j + 1, hj => fun hf => by
    obtain ⟨h1, h2, h3⟩ := litG_ok S.okm (o := o) (v := v) (same := same) ht ha j (by omega)
    obtain ⟨y, hy, hy1⟩ := want_byte o (7 - j)
    obtain ⟨b, hb, hb1⟩ := want_byte v (7 - j)
    have hf : Fut (lgStep M1 a (want (o.toNat : Int) (7 - j)) (want (v.toNat : Int) (7 - j)) (litG M1 t a o v same j)).t.x := hf
    show Fut t.x ∧ (Lk Rel Dead t u → EqL Rel Dead (lgStep M1 a (want (o.toNat : Int) (7 - j)) (want (v.toNat : Int) (7 - j)) (litG M1 t a o v same j)) (lgStep M2 a (want (o.toNat : Int) (7 - j)) (want (v'.toNat : Int) (7 - j)) (litG M2 u a o v' same j)))
    rw [hy, hb] at hf ⊢
    obtain ⟨g1, g2⟩ := lgStep_sim S (q := litG M2 u a o v' same j) (b' := want (v'.toNat : Int) (7 - j)) (k := k + 8 - (j + 1)) (j := j) (by rw [show k + 8 - (j + 1) + 1 = k + 8 - j by omega]; exact h1) ha h3 (by omega) hy1 hb1 hf
    obtain ⟨i1, i2⟩ := litG_sim S (u := u) (v' := v') ht ha j (by omega) g1
    exact ⟨i1, fun hq => g2 (i2 hq)⟩
/-! ### kinds -/
def EqK (Rel : σ → τ → Prop) (Dead : τ → Prop) (r : Nat × Bool × Pm σ) (q : Nat × Bool × Pm τ) : Prop := Dead q.2.2.x ∨ (q.1 = r.1 ∧ q.2.1 = r.2.1 ∧ Sm Rel r.2.2 q.2.2)
def CK (ok : Nat → σ → Prop) (Rel : σ → τ → Prop) (Fut : σ → Prop) (Dead : τ → Prop) (L k : Nat) (C1 : Nat × Pm σ → Nat × Bool × Pm σ) (C2 : Nat × Pm τ → Nat × Bool × Pm τ) : Prop :=
  ∀ b q, PmOk ok L k b.2 → Fut (C1 b).2.2.x → Fut b.2.x ∧ (Eqv Rel Dead b q → EqK Rel Dead (C1 b) (C2 q))
end
end Go.Proofs.YtdhhibfppcpieaaGreatDoor

/-
  Two machines go one way: packets; what a coder codes a decoder tells; with a byte fewer it tells the same, or falls dead.
-/
namespace Go.Proofs.YtdhhibfppcpieaaGreatDoor

section
variable {σ τ : Type} {M1 : Mach σ} {M2 : Mach τ} {ok : Nat → σ → Prop} {Rel : σ → τ → Prop} {Fut : σ → Prop} {Dead : τ → Prop}

def EqP (Rel : σ → τ → Prop) (Dead : τ → Prop) (r : Nat × Lzs × Pm σ) (q : Nat × Lzs × Pm τ) : Prop := Dead q.2.2.x ∨ (q.1 = r.1 ∧ q.2.1 = r.2.1 ∧ Sm Rel r.2.2 q.2.2)

end

end Go.Proofs.YtdhhibfppcpieaaGreatDoor

/-
  The program's decoder of LZMA: the next byte, in the document's packets.
-/
namespace Go.Proofs.YtdhhibfppcpieaaGreatDoor
open Go.RowKit

def Lzs.cut (z : Lzs) (n : Nat) : Lzs := { z with out := z.out.take n }
theorem has_push {z : Lzs} {d : Nat} {b : UInt8} (h : z.has d = true) : (z.push b).has d = true := by
  unfold Lzs.has at *
  have hl : (z.push b).out.length = z.out.length + 1 := by show (z.out ++ [b]).length = _; simp
  have hd : (z.push b).dict = z.dict := rfl
  rw [hl, hd]
  have := of_decide_eq_true h
  exact decide_eq_true (by omega)
theorem take_snoc8 (l : List UInt8) (n : Nat) (h : n < l.length) : l.take (n + 1) = l.take n ++ [l.getD n 0] := by
  rw [List.take_succ_eq_append_getElem h]
  simp [List.getD, h]
/-- what is copied is there, byte by byte -/
theorem copy_cut : ∀ (f m : Nat) {z : Lzs}, z.has z.r0 = true →
    (copyG f m z).2 = { z with out := (copyG f m z).2.out } ∧ (copyG f m z).2.out.length = z.out.length + f ∧ (copyG f m z).2.out.take z.out.length = z.out ∧
    ∀ j, z.out.length ≤ j → j < z.out.length + f → ((copyG f m z).2.cut j).has (copyG f m z).2.r0 = true ∧ ((copyG f m z).2.cut j).back (copyG f m z).2.r0 = (copyG f m z).2.out.getD j 0
  | 0, m, z, h => ⟨rfl, rfl, List.take_length, fun j h1 h2 => by omega⟩
  | f + 1, m, z, h => by
    rw [copyG_go h]
    obtain ⟨b, hb⟩ : ∃ b, b = z.back z.r0 := ⟨_, rfl⟩
    rw [← hb]
    have hp : (z.push b).has (z.push b).r0 = true := has_push h
    obtain ⟨h1, h2, h3, h4⟩ := copy_cut f (m + 1) hp
    have hl : (z.push b).out.length = z.out.length + 1 := by show (z.out ++ [b]).length = _; simp
    rw [hl] at h2 h3 h4
    have ho : (z.push b).out = z.out ++ [b] := rfl
    rw [ho] at h3
    obtain ⟨q, hq⟩ : ∃ q, q = (copyG f (m + 1) (z.push b)).2 := ⟨_, rfl⟩
    rw [← hq] at h1 h2 h3 h4 ⊢
    have e1 : q = { z with out := q.out } := by
      have : ({ z.push b with out := q.out } : Lzs) = { z with out := q.out } := rfl
      rw [← this]
      exact h1
    have e3 : q.out.take z.out.length = z.out := by
      have h := congrArg (List.take z.out.length) h3
      rw [List.take_take, Nat.min_eq_left (by omega), List.take_left'] at h
      · exact h
      · rfl
    refine ⟨e1, by omega, e3, fun j j1 j2 => ?_⟩
    by_cases hj : j = z.out.length
    · subst hj
      have ec : q.cut z.out.length = z := by
        unfold Lzs.cut
        rw [e3, e1]
      have er : q.r0 = z.r0 := by rw [e1]
      rw [ec, er]
      refine ⟨h, ?_⟩
      rw [← hb]
      have h := take_snoc8 q.out z.out.length (by omega)
      rw [h3, e3] at h
      have h := List.append_cancel_left h
      injection h
    · exact h4 j (by omega) (by omega)

/-- Of zf all is decided, n bytes are told. -/
structure Nx (K : Kon) (w : World) (Gw : Nat → Prop) (zf : Lzs) (tf : Pm Dc) (n : Nat) : Prop where
  lw : Lw K w Gw (zf.cut n) tf (zf.out.length - n)
  le : n ≤ zf.out.length
  far : zf.out.length ≤ n + 273
  near : ZNear zf (1847 + K.nl) zf.out.length
  live : n < zf.out.length → tf.x ≠ none
  bad : zf.bad = false
  ended : zf.ended = false
  tell : ∀ j, n ≤ j → j < zf.out.length → (zf.cut j).has zf.r0 = true ∧ (zf.cut j).back zf.r0 = zf.out.getD j 0

def stopP (r : Nat × Lzs × Pm Dc) : Prop := r.2.2.x = none ∨ r.2.1.bad = true ∨ r.2.1.ended = true
def NextPost (K : Kon) (w : World) (Gw : Nat → Prop) (zf : Lzs) (tf : Pm Dc) (n : Nat) (e : Ending) (w' : World) : Prop :=
  (∃ zf' tf' Gw', e = .returned (.tuple #[.int .u8 ((zf'.out.getD n 0).toNat : Int), .bool true]) ∧ Nx K w' Gw' zf' tf' (n + 1) ∧ zf'.dict = zf.dict ∧ zf'.out.take n = zf.out.take n ∧
    ((n < zf.out.length ∧ zf' = zf ∧ tf' = tf) ∨ (n = zf.out.length ∧ ¬ stopP (packP decM zf tf pk0) ∧ zf' = (packP decM zf tf pk0).2.1 ∧ tf' = (packP decM zf tf pk0).2.2)) ∧
    (∀ i, Gw' i → Gw i ∨ w.heap.size ≤ i) ∧ Only (K.all Gw) w w') ∨
  (e = .returned (.tuple #[.int .u8 0, .bool false]) ∧ n = zf.out.length ∧ stopP (packP decM zf tf pk0) ∧ ∃ z1 t1 l1 Gw', Lw K w' Gw' z1 t1 l1 ∧ (∀ i, Gw' i → Gw i ∨ w.heap.size ≤ i) ∧ Only (K.all Gw) w w')

section
variable {K : Kon} {w w' : World} {Gw Gw' : Nat → Prop} {zf : Lzs} {tf : Pm Dc} {n : Nat}

end
end Go.Proofs.YtdhhibfppcpieaaGreatDoor

/-
  The program's decoder of LZMA: the next byte, walked.
-/
namespace Go.Proofs.YtdhhibfppcpieaaGreatDoor
open Go.RowKit

section
variable {K : Kon} {w w' : World} {Gw Gw' : Nat → Prop} {zf : Lzs} {tf : Pm Dc} {n : Nat}

end
end Go.Proofs.YtdhhibfppcpieaaGreatDoor

/-
  The program's decoder of LZMA begins.
-/
namespace Go.Proofs.YtdhhibfppcpieaaGreatDoor
open Go.RowKit

/-- what a decoder is that has a decoder of ranges -/
def Kon.on (K : Kon) (dg f lo : Nat) (bs : List UInt8) : Kon := { K with dg := dg, f := f, lo := lo, bs := bs }

section
variable {K : Kon} {w w' : World} {Gw : Nat → Prop} {lc lp pb dict : Nat}

end
end Go.Proofs.YtdhhibfppcpieaaGreatDoor
