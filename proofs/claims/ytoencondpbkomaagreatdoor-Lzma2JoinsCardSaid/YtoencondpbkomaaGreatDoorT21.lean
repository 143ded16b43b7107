/-
  LzSim, LzSim2, LzSim3, LwNx: put together.
-/
import Derived.Test.YtoencondpbkomaaGreatDoorT08
import Derived.Test.YtoencondpbkomaaGreatDoorT20
set_option linter.unusedVariables false
set_option linter.unusedSimpArgs false
/-
  Two machines go one way: packets as numbers, side by side; the second one may fall dead on the way.
-/
namespace Go.Proofs.YtoencondpbkomaaGreatDoor

section
variable {σ τ : Type} {M1 : Mach σ} {M2 : Mach τ} {ok : Nat → σ → Prop} {Rel : σ → τ → Prop} {Fut : σ → Prop} {Dead : τ → Prop}

/-- The second machine does what the first one does, or falls dead; Fut: what the first one does on the way to its end. -/
structure Simu (M1 : Mach σ) (ok : Nat → σ → Prop) (M2 : Mach τ) (Rel : σ → τ → Prop) (Fut : σ → Prop) (Dead : τ → Prop) : Prop where
  okm : MachOk M1 ok
  bit : ∀ {x y k p w w'}, ok (k + 1) x → POk p → M1.may w → Rel x y → Fut (M1.bit x p w).2.2 →
    Dead (M2.bit y p w').2.2 ∨ ((M2.bit y p w').1 = (M1.bit x p w).1 ∧ (M2.bit y p w').2.1 = (M1.bit x p w).2.1 ∧ Rel (M1.bit x p w).2.2 (M2.bit y p w').2.2)
  str : ∀ {x y k n v v'}, ok (k + 1) x → n ≤ 32 → (M1.enc = true → v < 2 ^ n) → Rel x y → Fut (M1.str x n v).2 →
    Dead (M2.str y n v').2 ∨ ((M2.str y n v').1 = (M1.str x n v).1 ∧ Rel (M1.str x n v).2 (M2.str y n v').2)
  fbit : ∀ {x k p w}, ok (k + 1) x → POk p → M1.may w → Fut (M1.bit x p w).2.2 → Fut x
  fstr : ∀ {x k n v}, ok (k + 1) x → Fut (M1.str x n v).2 → Fut x
  dbit : ∀ {y p w}, Dead y → Dead (M2.bit y p w).2.2
  dstr : ∀ {y n v}, Dead y → Dead (M2.str y n v).2
  same : ∀ {x y}, Rel x y → M2.bad y = M1.bad x

def Sm (Rel : σ → τ → Prop) (t : Pm σ) (u : Pm τ) : Prop := u.ps = t.ps ∧ Rel t.x u.x
def Lk (Rel : σ → τ → Prop) (Dead : τ → Prop) (t : Pm σ) (u : Pm τ) : Prop := Dead u.x ∨ Sm Rel t u
def Eqv (Rel : σ → τ → Prop) (Dead : τ → Prop) (r : Nat × Pm σ) (q : Nat × Pm τ) : Prop := Dead q.2.x ∨ (q.1 = r.1 ∧ Sm Rel r.2 q.2)
def EqG (Rel : σ → τ → Prop) (Dead : τ → Prop) (r : Tg σ) (q : Tg τ) : Prop := Dead q.t.x ∨ (q.m = r.m ∧ q.o = r.o ∧ Sm Rel r.t q.t)

/-! ### once dead, dead -/
section
variable (hb : ∀ {y p w}, Dead y → Dead (M2.bit y p w).2.2) (hs : ∀ {y n v}, Dead y → Dead (M2.str y n v).2)
include hb
theorem bit_dead {u : Pm τ} {a : Nat} {w : Int} (h : Dead u.x) : Dead (bitP M2 u a w).2.x := hb h
theorem treeG_dead {u : Pm τ} {a n : Nat} {v : Int} (h : Dead u.x) : ∀ j, Dead (treeG M2 u a n v j).t.x
  | 0 => h
  | j + 1 => hb (treeG_dead h j)
theorem treeP_dead {u : Pm τ} {a n : Nat} {v : Int} (h : Dead u.x) : Dead (treeP M2 u a n v).2.x := treeG_dead hb h n
theorem revG_dead {u : Pm τ} {a : Nat} {v : Int} (h : Dead u.x) : ∀ j, Dead (revG M2 u a v j).t.x
  | 0 => h
  | j + 1 => hb (revG_dead h j)
theorem revP_dead {u : Pm τ} {a n : Nat} {v : Int} (h : Dead u.x) : Dead (revP M2 u a n v).2.x := revG_dead hb h n
theorem litG_dead {u : Pm τ} {a : Nat} {o v : UInt8} {s : Bool} (h : Dead u.x) : ∀ j, Dead (litG M2 u a o v s j).t.x
  | 0 => h
  | j + 1 => by
    show Dead (lgStep M2 a _ _ (litG M2 u a o v s j)).t.x
    unfold lgStep
    split
    · exact hb (litG_dead h j)
    · exact hb (litG_dead h j)
theorem litP_dead {u : Pm τ} {z : Lzs} {v : UInt8} (h : Dead u.x) : Dead (litP M2 z u v).2.x := litG_dead hb h 8
theorem lenA_dead {b : Nat × Pm τ} {a s : Nat} {v : Int} (h : Dead b.2.x) : Dead (lenA M2 b a s v).2.x := by
  unfold lenA
  split
  · exact treeP_dead hb h
  · unfold lenB
    split
    · exact treeG_dead (M2 := M2) (Dead := Dead) hb (u := (bitP M2 b.2 (a + 1) (min (v.tdiv 16) 1)).2) (hb h) _
    · exact treeG_dead (M2 := M2) (Dead := Dead) hb (u := (bitP M2 b.2 (a + 1) (min (v.tdiv 16) 1)).2) (hb h) _
theorem lenP_dead {u : Pm τ} {a s : Nat} {v : Int} (h : Dead u.x) : Dead (lenP M2 u a s v).2.x := lenA_dead hb (bit_dead hb h)
include hs
theorem distB_dead {b : Nat × Pm τ} {v : Nat} (h : Dead b.2.x) : Dead (distB M2 b v).2.x := by
  unfold distB
  split
  · exact h
  split
  · exact revP_dead hb h
  · unfold distC
    exact revP_dead hb (hs h)
theorem distP_dead {u : Pm τ} {l v : Nat} (h : Dead u.x) : Dead (distP M2 u l v).2.x := distB_dead hb hs (treeP_dead hb h)
omit hs
theorem kd1_dead {b : Nat × Pm τ} {em : Bool} {st s : Nat} {k : Int} (h : Dead b.2.x) : Dead (kd1 M2 b em st s k).2.2.x := by
  unfold kd1
  split
  · exact h
  unfold kd2
  split
  · exact hb h
  split
  · exact hb h
  unfold kd3
  split
  · exact hb (hb (hb h))
  unfold kd4
  split
  · exact hb (hb (hb h))
  · exact hb (hb (hb (hb h)))
theorem kindP_dead {u : Pm τ} {em : Bool} {st s : Nat} {k : Int} (h : Dead u.x) : Dead (kindP M2 u em st s k).2.2.x := kd1_dead hb (bit_dead hb h)
omit hb in
theorem tailP_x {many : Nat} {z : Lzs} {t : Pm τ} : (tailP M2 many z t).2.2 = t := by
  unfold tailP
  split <;> rfl
end

/-! ### side by side -/
theorem bitP_fut (S : Simu M1 ok M2 Rel Fut Dead) {L k a : Nat} {w : Int} {t : Pm σ} (ht : PmOk ok L (k + 1) t) (ha : a < L) (hw : M1.may w) (hf : Fut (bitP M1 t a w).2.x) : Fut t.x :=
  S.fbit ht.x (getD_ok ht.ps (show a < t.ps.length by rw [ht.len]; exact ha)) hw hf
theorem bitP_sim (S : Simu M1 ok M2 Rel Fut Dead) {L k a : Nat} {w w' : Int} {t : Pm σ} {u : Pm τ} (ht : PmOk ok L (k + 1) t) (ha : a < L) (hw : M1.may w) (hf : Fut (bitP M1 t a w).2.x) (hq : Lk Rel Dead t u) :
    Eqv Rel Dead (bitP M1 t a w) (bitP M2 u a w') := by
  rcases hq with hd | ⟨h1, h2⟩
  · exact .inl (S.dbit hd)
  · rcases S.bit (w' := w') ht.x (getD_ok ht.ps (show a < t.ps.length by rw [ht.len]; exact ha)) hw h2 hf with h | ⟨e1, e2, e3⟩
    · left
      show Dead (M2.bit u.x (u.ps.getD a 0) w').2.2
      rw [h1]
      exact h
    · right
      refine ⟨?_, ?_, ?_⟩
      · show (M2.bit u.x (u.ps.getD a 0) w').1 = _
        rw [h1, e1]
        rfl
      · show u.ps.set a (M2.bit u.x (u.ps.getD a 0) w').2.1 = t.ps.set a _
        rw [h1, e2]
      · show Rel _ (M2.bit u.x (u.ps.getD a 0) w').2.2
        rw [h1]
        exact e3

theorem tgStep_sim (S : Simu M1 ok M2 Rel Fut Dead) {L k a i : Nat} {w w' : Int} {s : Tg σ} {q : Tg τ} (ht : PmOk ok L (k + 1) s.t) (ha : a + s.m < L) (hw : M1.may w) (hf : Fut (tgStep M1 a i w s).t.x) (hq : EqG Rel Dead s q) :
    EqG Rel Dead (tgStep M1 a i w s) (tgStep M2 a i w' q) := by
  rcases hq with hd | ⟨e1, e2, e3⟩
  · exact .inl (S.dbit hd)
  · rcases bitP_sim S (w' := w') ht ha hw hf (.inr e3) with h | ⟨h1, h2⟩
    · left
      show Dead (bitP M2 q.t (a + q.m) w').2.x
      rw [e1]
      exact h
    · right
      refine ⟨?_, ?_, ?_⟩
      · show 2 * q.m + (bitP M2 q.t (a + q.m) w').1 = 2 * s.m + (bitP M1 s.t (a + s.m) w).1
        rw [e1, h1]
      · show q.o + (bitP M2 q.t (a + q.m) w').1 * 2 ^ i = s.o + (bitP M1 s.t (a + s.m) w).1 * 2 ^ i
        rw [e1, e2, h1]
      · show Sm Rel (bitP M1 s.t (a + s.m) w).2 (bitP M2 q.t (a + q.m) w').2
        rw [e1]
        exact h2
theorem tgStep_fut (S : Simu M1 ok M2 Rel Fut Dead) {L k a i : Nat} {w : Int} {s : Tg σ} (ht : PmOk ok L (k + 1) s.t) (ha : a + s.m < L) (hw : M1.may w) (hf : Fut (tgStep M1 a i w s).t.x) : Fut s.t.x := bitP_fut S ht ha hw hf

theorem treeG_sim (S : Simu M1 ok M2 Rel Fut Dead) {L k a n : Nat} {v v' : Int} {t : Pm σ} {u : Pm τ} (ht : PmOk ok L (k + n) t) (ha : a + 2 ^ n ≤ L) (hv : M1.mayN v) :
    ∀ j, j ≤ n → Fut (treeG M1 t a n v j).t.x → Fut t.x ∧ (Lk Rel Dead t u → EqG Rel Dead (treeG M1 t a n v j) (treeG M2 u a n v' j))
  | 0, _ => fun hf => ⟨hf, fun hq => by
    rcases hq with h | h
    · exact .inl h
    · exact .inr ⟨rfl, rfl, h⟩⟩
  | j + 1, hj => fun hf => by
    obtain ⟨h1, h2, h3⟩ := treeG_ok S.okm ht ha hv j (by omega)
    have hp : 2 ^ (j + 1) ≤ 2 ^ n := Nat.pow_le_pow_right (by omega) hj
    have h1' : PmOk ok L (k + n - (j + 1) + 1) (treeG M1 t a n v j).t := by rw [show k + n - (j + 1) + 1 = k + n - j by omega]; exact h1
    have hm := want_may hv (n - 1 - j)
    have hf' := tgStep_fut S h1' (by omega) hm hf
    obtain ⟨g1, g2⟩ := treeG_sim S ht ha hv j (by omega) hf'
    exact ⟨g1, fun hq => tgStep_sim S h1' (by omega) hm hf (g2 hq)⟩
theorem revG_sim (S : Simu M1 ok M2 Rel Fut Dead) {L k a n : Nat} {v v' : Int} {t : Pm σ} {u : Pm τ} (ht : PmOk ok L (k + n) t) (ha : a + 2 ^ n ≤ L) (hv : M1.mayN v) :
    ∀ j, j ≤ n → Fut (revG M1 t a v j).t.x → Fut t.x ∧ (Lk Rel Dead t u → EqG Rel Dead (revG M1 t a v j) (revG M2 u a v' j))
  | 0, _ => fun hf => ⟨hf, fun hq => by
    rcases hq with h | h
    · exact .inl h
    · exact .inr ⟨rfl, rfl, h⟩⟩
  | j + 1, hj => fun hf => by
    obtain ⟨h1, h2, h3, _⟩ := revG_ok S.okm ht ha hv j (by omega)
    have hp : 2 ^ (j + 1) ≤ 2 ^ n := Nat.pow_le_pow_right (by omega) hj
    have h1' : PmOk ok L (k + n - (j + 1) + 1) (revG M1 t a v j).t := by rw [show k + n - (j + 1) + 1 = k + n - j by omega]; exact h1
    have hm := want_may hv j
    have hf' := tgStep_fut S h1' (by omega) hm hf
    obtain ⟨g1, g2⟩ := revG_sim S ht ha hv j (by omega) hf'
    exact ⟨g1, fun hq => tgStep_sim S h1' (by omega) hm hf (g2 hq)⟩
end
end Go.Proofs.YtoencondpbkomaaGreatDoor

/-
  Two machines go one way: literals, distances, kinds.
-/
namespace Go.Proofs.YtoencondpbkomaaGreatDoor

section
variable {σ τ : Type} {M1 : Mach σ} {M2 : Mach τ} {ok : Nat → σ → Prop} {Rel : σ → τ → Prop} {Fut : σ → Prop} {Dead : τ → Prop}

def EqL (Rel : σ → τ → Prop) (Dead : τ → Prop) (r : Lg σ) (q : Lg τ) : Prop := Dead q.t.x ∨ (q.m = r.m ∧ q.same = r.same ∧ Sm Rel r.t q.t)
theorem lgStep_sim (S : Simu M1 ok M2 Rel Fut Dead) {L k a j y b : Nat} {b' : Int} {s : Lg σ} {q : Lg τ} (ht : PmOk ok L (k + 1) s.t) (ha : a + 768 ≤ L) (h0 : s.m < 2 ^ (j + 1)) (hj : j < 8) (hy : y ≤ 1) (hb : b ≤ 1) (hf : Fut (lgStep M1 a (y : Int) (b : Int) s).t.x) :
    Fut s.t.x ∧ (EqL Rel Dead s q → EqL Rel Dead (lgStep M1 a (y : Int) (b : Int) s) (lgStep M2 a (y : Int) b' q)) := by
  have hp : 2 ^ (j + 1) ≤ 256 := Nat.le_trans (Nat.pow_le_pow_right (by omega) (show j + 1 ≤ 8 by omega)) (by decide)
  have hm : M1.may (b : Int) := fun _ => by omega
  have hdead : Dead q.t.x → Dead (lgStep M2 a (y : Int) b' q).t.x := fun hd => by
    unfold lgStep
    split
    · exact bit_dead S.dbit hd
    · exact bit_dead S.dbit hd
  unfold lgStep at hf
  by_cases hs : s.same = true
  · rw [if_pos hs] at hf
    have hl : a + 256 * (1 + (y : Int).toNat) + s.m < L := by rw [Int.toNat_natCast]; omega
    have hf' := bitP_fut S ht hl hm hf
    refine ⟨hf', fun hq => ?_⟩
    rcases hq with hd | ⟨e1, e2, e3⟩
    · exact .inl (hdead hd)
    · unfold lgStep
      rw [if_pos hs, if_pos (by rw [e2]; exact hs), e1]
      rcases bitP_sim S (w' := b') ht hl hm hf (.inr e3) with hd | ⟨h1, h2⟩
      · exact .inl hd
      · exact .inr ⟨by dsimp only; rw [h1], by dsimp only; rw [h1], h2⟩
  · rw [if_neg hs] at hf
    have hf' := bitP_fut S ht (show a + s.m < L by omega) hm hf
    refine ⟨hf', fun hq => ?_⟩
    rcases hq with hd | ⟨e1, e2, e3⟩
    · exact .inl (hdead hd)
    · unfold lgStep
      rw [if_neg hs, if_neg (by rw [e2]; exact hs), e1]
      rcases bitP_sim S (w' := b') ht (show a + s.m < L by omega) hm hf (.inr e3) with hd | ⟨h1, h2⟩
      · exact .inl hd
      · exact .inr ⟨by dsimp only; rw [h1], rfl, h2⟩
theorem litG_sim (S : Simu M1 ok M2 Rel Fut Dead) {L k a : Nat} {o v v' : UInt8} {same : Bool} {t : Pm σ} {u : Pm τ} (ht : PmOk ok L (k + 8) t) (ha : a + 768 ≤ L) :
    ∀ j, j ≤ 8 → Fut (litG M1 t a o v same j).t.x → Fut t.x ∧ (Lk Rel Dead t u → EqL Rel Dead (litG M1 t a o v same j) (litG M2 u a o v' same j))
  | 0, _ => fun hf => ⟨hf, fun hq => by
    rcases hq with h | h
    · exact .inl h
    · exact .inr ⟨rfl, rfl, h⟩⟩
  | j + 1, hj => fun hf => by
    obtain ⟨h1, h2, h3⟩ := litG_ok S.okm (o := o) (v := v) (same := same) ht ha j (by omega)
    obtain ⟨y, hy, hy1⟩ := want_byte o (7 - j)
    obtain ⟨b, hb, hb1⟩ := want_byte v (7 - j)
    have hf : Fut (lgStep M1 a (want (o.toNat : Int) (7 - j)) (want (v.toNat : Int) (7 - j)) (litG M1 t a o v same j)).t.x := hf
    show Fut t.x ∧ (Lk Rel Dead t u → EqL Rel Dead (lgStep M1 a (want (o.toNat : Int) (7 - j)) (want (v.toNat : Int) (7 - j)) (litG M1 t a o v same j)) (lgStep M2 a (want (o.toNat : Int) (7 - j)) (want (v'.toNat : Int) (7 - j)) (litG M2 u a o v' same j)))
    rw [hy, hb] at hf ⊢
    obtain ⟨g1, g2⟩ := lgStep_sim S (q := litG M2 u a o v' same j) (b' := want (v'.toNat : Int) (7 - j)) (k := k + 8 - (j + 1)) (j := j) (by rw [show k + 8 - (j + 1) + 1 = k + 8 - j by omega]; exact h1) ha h3 (by omega) hy1 hb1 hf
    obtain ⟨i1, i2⟩ := litG_sim S (u := u) (v' := v') ht ha j (by omega) g1
    exact ⟨i1, fun hq => g2 (i2 hq)⟩
/-! ### kinds -/
def EqK (Rel : σ → τ → Prop) (Dead : τ → Prop) (r : Nat × Bool × Pm σ) (q : Nat × Bool × Pm τ) : Prop := Dead q.2.2.x ∨ (q.1 = r.1 ∧ q.2.1 = r.2.1 ∧ Sm Rel r.2.2 q.2.2)
def CK (ok : Nat → σ → Prop) (Rel : σ → τ → Prop) (Fut : σ → Prop) (Dead : τ → Prop) (L k : Nat) (C1 : Nat × Pm σ → Nat × Bool × Pm σ) (C2 : Nat × Pm τ → Nat × Bool × Pm τ) : Prop :=
  ∀ b q, PmOk ok L k b.2 → Fut (C1 b).2.2.x → Fut b.2.x ∧ (Eqv Rel Dead b q → EqK Rel Dead (C1 b) (C2 q))
end
end Go.Proofs.YtoencondpbkomaaGreatDoor

/-
  Two machines go one way: packets; what a coder codes a decoder tells; with a byte fewer it tells the same, or falls dead.
-/
namespace Go.Proofs.YtoencondpbkomaaGreatDoor

section
variable {σ τ : Type} {M1 : Mach σ} {M2 : Mach τ} {ok : Nat → σ → Prop} {Rel : σ → τ → Prop} {Fut : σ → Prop} {Dead : τ → Prop}

def EqP (Rel : σ → τ → Prop) (Dead : τ → Prop) (r : Nat × Lzs × Pm σ) (q : Nat × Lzs × Pm τ) : Prop := Dead q.2.2.x ∨ (q.1 = r.1 ∧ q.2.1 = r.2.1 ∧ Sm Rel r.2.2 q.2.2)

theorem packK_dead (S : Simu M1 ok M2 Rel Fut Dead) {kb : Nat × Bool × Pm τ} {z : Lzs} {s : Nat} {p : Pk} (h : Dead kb.2.2.x) : Dead (packK M2 kb z s p).2.2.x := by
  unfold packK
  split
  · unfold packL
    split
    · exact litP_dead (M2 := M2) (Dead := Dead) S.dbit (u := kb.2.2) h
    · exact litP_dead (M2 := M2) (Dead := Dead) S.dbit (u := kb.2.2) h
  split
  · unfold packM packD
    rw [tailP_x]
    exact distP_dead (M2 := M2) (Dead := Dead) S.dbit S.dstr (lenP_dead (M2 := M2) (Dead := Dead) S.dbit h)
  split
  · rw [tailP_x]
    exact h
  · unfold packR
    rw [tailP_x]
    exact lenP_dead (M2 := M2) (Dead := Dead) S.dbit h

end

end Go.Proofs.YtoencondpbkomaaGreatDoor

/-
  The program's decoder of LZMA: the next byte, in the document's packets.
-/
namespace Go.Proofs.YtoencondpbkomaaGreatDoor
open Go.RowKit

def Lzs.cut (z : Lzs) (n : Nat) : Lzs := { z with out := z.out.take n }
theorem cut_all (z : Lzs) : z.cut z.out.length = z := by unfold Lzs.cut; rw [List.take_length]
theorem has_push {z : Lzs} {d : Nat} {b : UInt8} (h : z.has d = true) : (z.push b).has d = true := by
  unfold Lzs.has at *
  have hl : (z.push b).out.length = z.out.length + 1 := by show (z.out ++ [b]).length = _; simp
  have hd : (z.push b).dict = z.dict := rfl
  rw [hl, hd]
  have := of_decide_eq_true h
  exact decide_eq_true (by omega)
theorem take_snoc8 (l : List UInt8) (n : Nat) (h : n < l.length) : l.take (n + 1) = l.take n ++ [l.getD n 0] := by
  rw [List.take_succ_eq_append_getElem h]
  simp [List.getD, h]
theorem cut_next {z : Lzs} {n : Nat} {b : UInt8} (h : n < z.out.length) (hb : b = z.out.getD n 0) : (z.cut n).push b = z.cut (n + 1) := by
  unfold Lzs.cut Lzs.push
  dsimp only
  rw [take_snoc8 _ _ h, hb]

/-- what is copied is there, byte by byte -/
theorem copy_cut : ∀ (f m : Nat) {z : Lzs}, z.has z.r0 = true →
    (copyG f m z).2 = { z with out := (copyG f m z).2.out } ∧ (copyG f m z).2.out.length = z.out.length + f ∧ (copyG f m z).2.out.take z.out.length = z.out ∧
    ∀ j, z.out.length ≤ j → j < z.out.length + f → ((copyG f m z).2.cut j).has (copyG f m z).2.r0 = true ∧ ((copyG f m z).2.cut j).back (copyG f m z).2.r0 = (copyG f m z).2.out.getD j 0
  | 0, m, z, h => ⟨rfl, rfl, List.take_length, fun j h1 h2 => by omega⟩
  | f + 1, m, z, h => by
    rw [copyG_go h]
    obtain ⟨b, hb⟩ : ∃ b, b = z.back z.r0 := ⟨_, rfl⟩
    rw [← hb]
    have hp : (z.push b).has (z.push b).r0 = true := has_push h
    obtain ⟨h1, h2, h3, h4⟩ := copy_cut f (m + 1) hp
    have hl : (z.push b).out.length = z.out.length + 1 := by show (z.out ++ [b]).length = _; simp
    rw [hl] at h2 h3 h4
    have ho : (z.push b).out = z.out ++ [b] := rfl
    rw [ho] at h3
    obtain ⟨q, hq⟩ : ∃ q, q = (copyG f (m + 1) (z.push b)).2 := ⟨_, rfl⟩
    rw [← hq] at h1 h2 h3 h4 ⊢
    have e1 : q = { z with out := q.out } := by
      have : ({ z.push b with out := q.out } : Lzs) = { z with out := q.out } := rfl
      rw [← this]
      exact h1
    have e3 : q.out.take z.out.length = z.out := by
      have h := congrArg (List.take z.out.length) h3
      rw [List.take_take, Nat.min_eq_left (by omega), List.take_left'] at h
      · exact h
      · rfl
    refine ⟨e1, by omega, e3, fun j j1 j2 => ?_⟩
    by_cases hj : j = z.out.length
    · subst hj
      have ec : q.cut z.out.length = z := by
        unfold Lzs.cut
        rw [e3, e1]
      have er : q.r0 = z.r0 := by rw [e1]
      rw [ec, er]
      refine ⟨h, ?_⟩
      rw [← hb]
      have h := take_snoc8 q.out z.out.length (by omega)
      rw [h3, e3] at h
      have h := List.append_cancel_left h
      injection h
    · exact h4 j (by omega) (by omega)

/-- a decoder that is dead tells no packet -/
theorem none_simu : Simu decM okD decM (fun _ _ => False) (fun _ => True) (fun d => d = none) where
  okm := decM_ok
  bit _ _ _ h _ := h.elim
  str _ _ _ h _ := h.elim
  fbit _ _ _ _ := trivial
  fstr _ _ := trivial
  dbit {y p w} h := by show (bitD y p).2.2 = none; rw [h]; rfl
  dstr {y n v} h := by show (straightD n y).2 = none; rw [h, straightD_none]
  same h := h.elim
theorem packP_none {z : Lzs} {t : Pm Dc} {p : Pk} (h : t.x = none) : (packP decM z t p).2.2.x = none :=
  packK_dead none_simu (kindP_dead (M2 := decM) (Dead := fun d => d = none) none_simu.dbit h)

/-- Of zf all is decided, n bytes are told. -/
structure Nx (K : Kon) (w : World) (Gw : Nat → Prop) (zf : Lzs) (tf : Pm Dc) (n : Nat) : Prop where
  lw : Lw K w Gw (zf.cut n) tf (zf.out.length - n)
  le : n ≤ zf.out.length
  far : zf.out.length ≤ n + 273
  near : ZNear zf (1847 + K.nl) zf.out.length
  live : n < zf.out.length → tf.x ≠ none
  bad : zf.bad = false
  ended : zf.ended = false
  tell : ∀ j, n ≤ j → j < zf.out.length → (zf.cut j).has zf.r0 = true ∧ (zf.cut j).back zf.r0 = zf.out.getD j 0

def stopP (r : Nat × Lzs × Pm Dc) : Prop := r.2.2.x = none ∨ r.2.1.bad = true ∨ r.2.1.ended = true
def NextPost (K : Kon) (w : World) (Gw : Nat → Prop) (zf : Lzs) (tf : Pm Dc) (n : Nat) (e : Ending) (w' : World) : Prop :=
  (∃ zf' tf' Gw', e = .returned (.tuple #[.int .u8 ((zf'.out.getD n 0).toNat : Int), .bool true]) ∧ Nx K w' Gw' zf' tf' (n + 1) ∧ zf'.dict = zf.dict ∧ zf'.out.take n = zf.out.take n ∧
    ((n < zf.out.length ∧ zf' = zf ∧ tf' = tf) ∨ (n = zf.out.length ∧ ¬ stopP (packP decM zf tf pk0) ∧ zf' = (packP decM zf tf pk0).2.1 ∧ tf' = (packP decM zf tf pk0).2.2)) ∧
    (∀ i, Gw' i → Gw i ∨ w.heap.size ≤ i) ∧ Only (K.all Gw) w w') ∨
  (e = .returned (.tuple #[.int .u8 0, .bool false]) ∧ n = zf.out.length ∧ stopP (packP decM zf tf pk0) ∧ ∃ z1 t1 l1 Gw', Lw K w' Gw' z1 t1 l1 ∧ (∀ i, Gw' i → Gw i ∨ w.heap.size ≤ i) ∧ Only (K.all Gw) w w')

/-- a packet, by its first bit -/
theorem pk_first {z : Lzs} {t : Pm Dc} (hb : z.bad = false) :
    ((bitP decM t (16 * z.st + z.out.length % 2 ^ z.pb) 0).1 = 0 → packP decM z t pk0 = packL decM (litP decM z (bitP decM t (16 * z.st + z.out.length % 2 ^ z.pb) 0).2 0) z) ∧
    ((bitP decM t (16 * z.st + z.out.length % 2 ^ z.pb) 0).1 ≠ 0 → packP decM z t pk0 = packK decM (kd2 decM (bitP decM (bitP decM t (16 * z.st + z.out.length % 2 ^ z.pb) 0).2 (192 + z.st) 0) (decide (z.out.length = 0)) z.st (z.out.length % 2 ^ z.pb) 0) z (z.out.length % 2 ^ z.pb) pk0) := by
  have hdef : packP decM z t pk0 = packK decM (kd1 decM (bitP decM t (16 * z.st + z.out.length % 2 ^ z.pb) 0) (decide (z.out.length = 0)) z.st (z.out.length % 2 ^ z.pb) 0) z (z.out.length % 2 ^ z.pb) pk0 := rfl
  rw [hdef]
  generalize bitP decM t (16 * z.st + z.out.length % 2 ^ z.pb) 0 = B at *
  constructor
  · intro h0
    have hk : kd1 decM B (decide (z.out.length = 0)) z.st (z.out.length % 2 ^ z.pb) 0 = (0, false, B.2) := by unfold kd1; rw [if_pos h0]
    rw [hk]
    unfold packK
    rw [if_pos rfl]
    have : ({ z with bad := z.bad || false } : Lzs) = z := by cases z; simp at hb; simp [hb]
    show packL decM (litP decM { z with bad := z.bad || false } B.2 0) { z with bad := z.bad || false } = _
    rw [this]
  · intro h0
    have hk : kd1 decM B (decide (z.out.length = 0)) z.st (z.out.length % 2 ^ z.pb) 0 = kd2 decM (bitP decM B.2 (192 + z.st) 0) (decide (z.out.length = 0)) z.st (z.out.length % 2 ^ z.pb) 0 := by unfold kd1; rw [if_neg h0]; rfl
    rw [hk]

section
variable {K : Kon} {w w' : World} {Gw Gw' : Nat → Prop} {zf : Lzs} {tf : Pm Dc} {n : Nat}

/-- a byte of a packet is told -/
theorem nx_copied (h : Nx K w Gw zf tf n) (hn : n < zf.out.length) {x : Ending}
    (hp : PutPost K w Gw (.tuple #[.int .u8 (((zf.cut n).back zf.r0).toNat : Int), .bool true]) ((zf.cut n).push ((zf.cut n).back zf.r0)) tf (zf.out.length - n - 1) x w') : NextPost K w Gw zf tf n x w' := by
  obtain ⟨rfl, G1, hl, hg, ho⟩ := hp
  obtain ⟨t1, t2⟩ := h.tell n (Nat.le_refl _) hn
  rw [t2] at hl ⊢
  rw [cut_next hn rfl] at hl
  refine .inl ⟨zf, tf, G1, rfl, ⟨?_, hn, by have := h.far; omega, h.near, fun h2 => h.live (by omega), h.bad, h.ended, fun j j1 j2 => h.tell j (by omega) j2⟩, rfl, rfl, .inl ⟨hn, rfl, rfl⟩, hg, ho⟩
  rw [show zf.out.length - (n + 1) = zf.out.length - n - 1 by omega]
  exact hl

theorem nx_lit {w1 : World} {B : Nat × Pm Dc} {x : Ending} (h : Nx K w Gw zf tf zf.out.length) (hB : B = bitP decM tf (16 * zf.st + zf.out.length % 2 ^ zf.pb) 0) (h0 : B.1 = 0) (hO1 : Only K.own w w1)
    (hp : LitEnd K w1 Gw zf (litP decM zf B.2 0) 0 x w') : NextPost K w Gw zf tf zf.out.length x w' := by
  have hpk := (pk_first (t := tf) h.bad).1
  rw [← hB] at hpk
  have hpk := hpk h0
  obtain ⟨r, hr⟩ : ∃ r, r = litP decM zf B.2 0 := ⟨_, rfl⟩
  rw [← hr] at hp hpk
  rcases hp with ⟨hd, rfl, hz, ho⟩ | ⟨hd, rfl, G1, hl, hg, ho⟩
  · refine .inr ⟨rfl, rfl, ?_, _, _, _, Gw, hz, fun i hi => .inl hi, (hO1.trans ho).mono fun i hi => .inl hi⟩
    rw [hpk]
    unfold packL
    rw [if_pos (dead_bad hd)]
    exact .inl hd
  · have hpk2 : packP decM zf tf pk0 = (1, ({ zf with st := litSt zf.st } : Lzs).push (UInt8.ofNat r.1), r.2) := by
      rw [hpk]
      unfold packL
      rw [if_neg (by rw [live_bad hd]; simp)]
    have hlen : (({ zf with st := litSt zf.st } : Lzs).push (UInt8.ofNat r.1)).out.length = zf.out.length + 1 := by show (zf.out ++ [_]).length = _; simp
    have hget : (({ zf with st := litSt zf.st } : Lzs).push (UInt8.ofNat r.1)).out.getD zf.out.length 0 = UInt8.ofNat r.1 := by
      show (zf.out ++ [_]).getD zf.out.length 0 = _
      simp [List.getD]
    obtain ⟨q, hq⟩ : ∃ q, q = ({ zf with st := litSt zf.st } : Lzs).push (UInt8.ofNat r.1) := ⟨_, rfl⟩
    have hz := h.near
    have hnear : ZNear q (1847 + K.nl) q.out.length := by
      rw [hq]
      exact ⟨hz.lc, hz.lp, hz.pb, hz.dict, Nat.le_refl _, litSt_le hz.st, hz.r0, hz.r1, hz.r2, hz.r3, hz.len⟩
    have hqb : q.bad = false := by rw [hq]; exact h.bad
    have hqe : q.ended = false := by rw [hq]; exact h.ended
    have hqd : q.dict = zf.dict := by rw [hq]; rfl
    have hqt : q.out.take zf.out.length = zf.out.take zf.out.length := by
      rw [hq]
      show (zf.out ++ [_]).take zf.out.length = _
      rw [List.take_left', List.take_length]
      rfl
    rw [← hq] at hpk2 hlen hget hl
    refine .inl ⟨q, r.2, G1, by rw [hget], ⟨?_, by omega, by omega, hnear, fun h2 => by omega, hqb, hqe, fun j j1 j2 => by omega⟩, hqd, hqt, .inr ⟨rfl, ?_, by rw [hpk2], by rw [hpk2]⟩, fun i hi => ?_, (hO1.mono fun i hi => .inl hi).trans ho⟩
    · have e1 := cut_all q
      rw [hlen] at e1
      rw [e1, hlen, Nat.sub_self]
      exact hl
    · rw [hpk2]
      rintro (h1 | h1 | h1)
      · exact hd h1
      · have h1 : q.bad = true := h1
        rw [hqb] at h1
        cases h1
      · have h1 : q.ended = true := h1
        rw [hqe] at h1
        cases h1
    · rcases hg i hi with h1 | h1
      · exact .inl h1
      · exact .inr (Nat.le_trans hO1.size h1)

/-- a packet that copies begins -/
theorem nx_begin {w1 w2 : World} {z1 : Lzs} {t1 : Pm Dc} {l : Nat} {x : Ending} (hO1 : Only K.own w w1) (ho1 : z1.out = zf.out) (hd1 : z1.dict = zf.dict) (hz1 : ZNear z1 (1847 + K.nl) zf.out.length)
    (hd : t1.x ≠ none) (hb : z1.bad = false) (he : z1.ended = false) (hh : z1.has z1.r0 = true) (h2 : l + 1 ≤ 273) (hr : packP decM zf tf pk0 = ((copyG (l + 1) 0 z1).1, (copyG (l + 1) 0 z1).2, t1))
    (hp : PutPost K w1 Gw (.tuple #[.int .u8 ((z1.back z1.r0).toNat : Int), .bool true]) (z1.push (z1.back z1.r0)) t1 l x w2) : NextPost K w Gw zf tf zf.out.length x w2 := by
  obtain ⟨rfl, G1, hl, hg, ho⟩ := hp
  obtain ⟨q1, q2, q3, q4⟩ := copy_cut (l + 1) 0 hh
  obtain ⟨q, hq⟩ : ∃ q, q = (copyG (l + 1) 0 z1).2 := ⟨_, rfl⟩
  rw [← hq] at q1 q2 q3 q4 hr
  rw [ho1] at q2 q3 q4
  have e0 : q.cut zf.out.length = z1 := by
    unfold Lzs.cut
    rw [q3, q1, ← ho1]
  have er : q.r0 = z1.r0 := by rw [q1]
  obtain ⟨t2, t3⟩ := q4 zf.out.length (Nat.le_refl _) (by omega)
  rw [e0, er] at t3
  rw [t3] at hl ⊢
  rw [← e0, cut_next (by omega) rfl] at hl
  refine .inl ⟨q, t1, G1, rfl, ⟨?_, by omega, by omega, ?_, fun _ => hd, ?_, ?_, fun j j1 j2 => q4 j (by omega) (by omega)⟩, ?_, ?_, .inr ⟨rfl, ?_, by rw [hr], by rw [hr]⟩, fun i hi => ?_, (hO1.mono fun i hi => .inl hi).trans ho⟩
  · rw [show q.out.length - (zf.out.length + 1) = l by omega]
    exact hl
  · rw [q1]
    exact ⟨hz1.lc, hz1.lp, hz1.pb, hz1.dict, Nat.le_refl _, hz1.st, hz1.r0, hz1.r1, hz1.r2, hz1.r3, hz1.len⟩
  · rw [q1]; exact hb
  · rw [q1]; exact he
  · rw [q1]; exact hd1
  · rw [q3, List.take_length]
  · rw [hr]
    rintro (h1 | h1 | h1)
    · exact hd h1
    · rw [show ((copyG (l + 1) 0 z1).1, q, t1).2.1 = q from rfl, q1] at h1
      have h1 : z1.bad = true := h1
      rw [hb] at h1
      cases h1
    · rw [show ((copyG (l + 1) 0 z1).1, q, t1).2.1 = q from rfl, q1] at h1
      have h1 : z1.ended = true := h1
      rw [he] at h1
      cases h1
  · rcases hg i hi with h1 | h1
    · exact .inl h1
    · exact .inr (Nat.le_trans hO1.size h1)
end
end Go.Proofs.YtoencondpbkomaaGreatDoor
