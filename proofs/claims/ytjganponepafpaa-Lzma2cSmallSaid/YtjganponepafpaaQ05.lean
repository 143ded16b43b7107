/-
  LzSim, LzSim2, LzSim3, LzShort, LzFitN, LzCodeN: put together.
-/
import Derived.Test.YtjganponepafpaaQ03
import Derived.Test.YtjganponepafpaaQ04
set_option linter.unusedVariables false
set_option linter.unusedSimpArgs false
/-
  Two machines go one way: packets as numbers, side by side; the second one may fall dead on the way.
-/
namespace Go.Proofs.Ytjganponepafpaa

section
variable {σ τ : Type} {M1 : Mach σ} {M2 : Mach τ} {ok : Nat → σ → Prop} {Rel : σ → τ → Prop} {Fut : σ → Prop} {Dead : τ → Prop}

/-- The second machine does what the first one does, or falls dead; Fut: what the first one does on the way to its end. -/
structure Simu (M1 : Mach σ) (ok : Nat → σ → Prop) (M2 : Mach τ) (Rel : σ → τ → Prop) (Fut : σ → Prop) (Dead : τ → Prop) : Prop where
  okm : MachOk M1 ok
  bit : ∀ {x y k p w w'}, ok (k + 1) x → POk p → M1.may w → Rel x y → Fut (M1.bit x p w).2.2 →
    Dead (M2.bit y p w').2.2 ∨ ((M2.bit y p w').1 = (M1.bit x p w).1 ∧ (M2.bit y p w').2.1 = (M1.bit x p w).2.1 ∧ Rel (M1.bit x p w).2.2 (M2.bit y p w').2.2)
  str : ∀ {x y k n v v'}, ok (k + 1) x → n ≤ 32 → (M1.enc = true → v < 2 ^ n) → Rel x y → Fut (M1.str x n v).2 →
    Dead (M2.str y n v').2 ∨ ((M2.str y n v').1 = (M1.str x n v).1 ∧ Rel (M1.str x n v).2 (M2.str y n v').2)
  fbit : ∀ {x k p w}, ok (k + 1) x → POk p → M1.may w → Fut (M1.bit x p w).2.2 → Fut x
  fstr : ∀ {x k n v}, ok (k + 1) x → Fut (M1.str x n v).2 → Fut x
  dbit : ∀ {y p w}, Dead y → Dead (M2.bit y p w).2.2
  dstr : ∀ {y n v}, Dead y → Dead (M2.str y n v).2
  same : ∀ {x y}, Rel x y → M2.bad y = M1.bad x

def Sm (Rel : σ → τ → Prop) (t : Pm σ) (u : Pm τ) : Prop := u.ps = t.ps ∧ Rel t.x u.x
def Lk (Rel : σ → τ → Prop) (Dead : τ → Prop) (t : Pm σ) (u : Pm τ) : Prop := Dead u.x ∨ Sm Rel t u
def Eqv (Rel : σ → τ → Prop) (Dead : τ → Prop) (r : Nat × Pm σ) (q : Nat × Pm τ) : Prop := Dead q.2.x ∨ (q.1 = r.1 ∧ Sm Rel r.2 q.2)
def EqG (Rel : σ → τ → Prop) (Dead : τ → Prop) (r : Tg σ) (q : Tg τ) : Prop := Dead q.t.x ∨ (q.m = r.m ∧ q.o = r.o ∧ Sm Rel r.t q.t)

/-! ### once dead, dead -/
section
variable (hb : ∀ {y p w}, Dead y → Dead (M2.bit y p w).2.2) (hs : ∀ {y n v}, Dead y → Dead (M2.str y n v).2)
include hb
theorem bit_dead {u : Pm τ} {a : Nat} {w : Int} (h : Dead u.x) : Dead (bitP M2 u a w).2.x := hb h
theorem treeG_dead {u : Pm τ} {a n : Nat} {v : Int} (h : Dead u.x) : ∀ j, Dead (treeG M2 u a n v j).t.x
  | 0 => h
  | j + 1 => hb (treeG_dead h j)
theorem treeP_dead {u : Pm τ} {a n : Nat} {v : Int} (h : Dead u.x) : Dead (treeP M2 u a n v).2.x := treeG_dead hb h n
theorem revG_dead {u : Pm τ} {a : Nat} {v : Int} (h : Dead u.x) : ∀ j, Dead (revG M2 u a v j).t.x
  | 0 => h
  | j + 1 => hb (revG_dead h j)
theorem litG_dead {u : Pm τ} {a : Nat} {o v : UInt8} {s : Bool} (h : Dead u.x) : ∀ j, Dead (litG M2 u a o v s j).t.x
  | 0 => h
  | j + 1 => by
    show Dead (lgStep M2 a _ _ (litG M2 u a o v s j)).t.x
    unfold lgStep
    split
    · exact hb (litG_dead h j)
    · exact hb (litG_dead h j)
theorem lenA_dead {b : Nat × Pm τ} {a s : Nat} {v : Int} (h : Dead b.2.x) : Dead (lenA M2 b a s v).2.x := by
  unfold lenA
  split
  · exact treeP_dead hb h
  · unfold lenB
    split
    · exact treeG_dead (M2 := M2) (Dead := Dead) hb (u := (bitP M2 b.2 (a + 1) (min (v.tdiv 16) 1)).2) (hb h) _
    · exact treeG_dead (M2 := M2) (Dead := Dead) hb (u := (bitP M2 b.2 (a + 1) (min (v.tdiv 16) 1)).2) (hb h) _
include hs
omit hs
omit hb in
end

/-! ### side by side -/
theorem bitP_fut (S : Simu M1 ok M2 Rel Fut Dead) {L k a : Nat} {w : Int} {t : Pm σ} (ht : PmOk ok L (k + 1) t) (ha : a < L) (hw : M1.may w) (hf : Fut (bitP M1 t a w).2.x) : Fut t.x :=
  S.fbit ht.x (getD_ok ht.ps (show a < t.ps.length by rw [ht.len]; exact ha)) hw hf
theorem bitP_sim (S : Simu M1 ok M2 Rel Fut Dead) {L k a : Nat} {w w' : Int} {t : Pm σ} {u : Pm τ} (ht : PmOk ok L (k + 1) t) (ha : a < L) (hw : M1.may w) (hf : Fut (bitP M1 t a w).2.x) (hq : Lk Rel Dead t u) :
    Eqv Rel Dead (bitP M1 t a w) (bitP M2 u a w') := by
  rcases hq with hd | ⟨h1, h2⟩
  · exact .inl (S.dbit hd)
  · rcases S.bit (w' := w') ht.x (getD_ok ht.ps (show a < t.ps.length by rw [ht.len]; exact ha)) hw h2 hf with h | ⟨e1, e2, e3⟩
    · left
      show Dead (M2.bit u.x (u.ps.getD a 0) w').2.2
      rw [h1]
      exact h
    · right
      refine ⟨?_, ?_, ?_⟩
      · show (M2.bit u.x (u.ps.getD a 0) w').1 = _
        rw [h1, e1]
        rfl
      · show u.ps.set a (M2.bit u.x (u.ps.getD a 0) w').2.1 = t.ps.set a _
        rw [h1, e2]
      · show Rel _ (M2.bit u.x (u.ps.getD a 0) w').2.2
        rw [h1]
        exact e3

theorem tgStep_sim (S : Simu M1 ok M2 Rel Fut Dead) {L k a i : Nat} {w w' : Int} {s : Tg σ} {q : Tg τ} (ht : PmOk ok L (k + 1) s.t) (ha : a + s.m < L) (hw : M1.may w) (hf : Fut (tgStep M1 a i w s).t.x) (hq : EqG Rel Dead s q) :
    EqG Rel Dead (tgStep M1 a i w s) (tgStep M2 a i w' q) := by
  rcases hq with hd | ⟨e1, e2, e3⟩
  · exact .inl (S.dbit hd)
  · rcases bitP_sim S (w' := w') ht ha hw hf (.inr e3) with h | ⟨h1, h2⟩
    · left
      show Dead (bitP M2 q.t (a + q.m) w').2.x
      rw [e1]
      exact h
    · right
      refine ⟨?_, ?_, ?_⟩
      · show 2 * q.m + (bitP M2 q.t (a + q.m) w').1 = 2 * s.m + (bitP M1 s.t (a + s.m) w).1
        rw [e1, h1]
      · show q.o + (bitP M2 q.t (a + q.m) w').1 * 2 ^ i = s.o + (bitP M1 s.t (a + s.m) w).1 * 2 ^ i
        rw [e1, e2, h1]
      · show Sm Rel (bitP M1 s.t (a + s.m) w).2 (bitP M2 q.t (a + q.m) w').2
        rw [e1]
        exact h2
theorem tgStep_fut (S : Simu M1 ok M2 Rel Fut Dead) {L k a i : Nat} {w : Int} {s : Tg σ} (ht : PmOk ok L (k + 1) s.t) (ha : a + s.m < L) (hw : M1.may w) (hf : Fut (tgStep M1 a i w s).t.x) : Fut s.t.x := bitP_fut S ht ha hw hf

theorem treeG_sim (S : Simu M1 ok M2 Rel Fut Dead) {L k a n : Nat} {v v' : Int} {t : Pm σ} {u : Pm τ} (ht : PmOk ok L (k + n) t) (ha : a + 2 ^ n ≤ L) (hv : M1.mayN v) :
    ∀ j, j ≤ n → Fut (treeG M1 t a n v j).t.x → Fut t.x ∧ (Lk Rel Dead t u → EqG Rel Dead (treeG M1 t a n v j) (treeG M2 u a n v' j))
  | 0, _ => fun hf => ⟨hf, fun hq => by
    rcases hq with h | h
    · exact .inl h
    · exact .inr ⟨rfl, rfl, h⟩⟩
  | j + 1, hj => fun hf => by
    obtain ⟨h1, h2, h3⟩ := treeG_ok S.okm ht ha hv j (by omega)
    have hp : 2 ^ (j + 1) ≤ 2 ^ n := Nat.pow_le_pow_right (by omega) hj
    have h1' : PmOk ok L (k + n - (j + 1) + 1) (treeG M1 t a n v j).t := by rw [show k + n - (j + 1) + 1 = k + n - j by omega]; exact h1
    have hm := want_may hv (n - 1 - j)
    have hf' := tgStep_fut S h1' (by omega) hm hf
    obtain ⟨g1, g2⟩ := treeG_sim S ht ha hv j (by omega) hf'
    exact ⟨g1, fun hq => tgStep_sim S h1' (by omega) hm hf (g2 hq)⟩
theorem treeP_sim (S : Simu M1 ok M2 Rel Fut Dead) {L k a n : Nat} {v v' : Int} {t : Pm σ} {u : Pm τ} (ht : PmOk ok L (k + n) t) (ha : a + 2 ^ n ≤ L) (hv : M1.mayN v) (hf : Fut (treeP M1 t a n v).2.x) :
    Fut t.x ∧ (Lk Rel Dead t u → Eqv Rel Dead (treeP M1 t a n v) (treeP M2 u a n v')) := by
  obtain ⟨g1, g2⟩ := treeG_sim S (u := u) (v' := v') ht ha hv n (Nat.le_refl _) hf
  refine ⟨g1, fun hq => ?_⟩
  rcases g2 hq with h | ⟨e1, _, e3⟩
  · exact .inl h
  · right
    refine ⟨?_, e3⟩
    show (treeG M2 u a n v' n).m - 2 ^ n = (treeG M1 t a n v n).m - 2 ^ n
    rw [e1]
theorem revG_sim (S : Simu M1 ok M2 Rel Fut Dead) {L k a n : Nat} {v v' : Int} {t : Pm σ} {u : Pm τ} (ht : PmOk ok L (k + n) t) (ha : a + 2 ^ n ≤ L) (hv : M1.mayN v) :
    ∀ j, j ≤ n → Fut (revG M1 t a v j).t.x → Fut t.x ∧ (Lk Rel Dead t u → EqG Rel Dead (revG M1 t a v j) (revG M2 u a v' j))
  | 0, _ => fun hf => ⟨hf, fun hq => by
    rcases hq with h | h
    · exact .inl h
    · exact .inr ⟨rfl, rfl, h⟩⟩
  | j + 1, hj => fun hf => by
    obtain ⟨h1, h2, h3, _⟩ := revG_ok S.okm ht ha hv j (by omega)
    have hp : 2 ^ (j + 1) ≤ 2 ^ n := Nat.pow_le_pow_right (by omega) hj
    have h1' : PmOk ok L (k + n - (j + 1) + 1) (revG M1 t a v j).t := by rw [show k + n - (j + 1) + 1 = k + n - j by omega]; exact h1
    have hm := want_may hv j
    have hf' := tgStep_fut S h1' (by omega) hm hf
    obtain ⟨g1, g2⟩ := revG_sim S ht ha hv j (by omega) hf'
    exact ⟨g1, fun hq => tgStep_sim S h1' (by omega) hm hf (g2 hq)⟩
theorem revP_sim (S : Simu M1 ok M2 Rel Fut Dead) {L k a n : Nat} {v v' : Int} {t : Pm σ} {u : Pm τ} (ht : PmOk ok L (k + n) t) (ha : a + 2 ^ n ≤ L) (hv : M1.mayN v) (hf : Fut (revP M1 t a n v).2.x) :
    Fut t.x ∧ (Lk Rel Dead t u → Eqv Rel Dead (revP M1 t a n v) (revP M2 u a n v')) := by
  obtain ⟨g1, g2⟩ := revG_sim S (u := u) (v' := v') ht ha hv n (Nat.le_refl _) hf
  refine ⟨g1, fun hq => ?_⟩
  rcases g2 hq with h | ⟨_, e2, e3⟩
  · exact .inl h
  · exact .inr ⟨e2, e3⟩

theorem lenP_sim (S : Simu M1 ok M2 Rel Fut Dead) {L k a s : Nat} {v v' : Int} {t : Pm σ} {u : Pm τ} (ht : PmOk ok L (k + 10) t) (ha : a + 514 ≤ L) (hs : s ≤ 15) (hv : M1.mayN v) (hf : Fut (lenP M1 t a s v).2.x) :
    Fut t.x ∧ (Lk Rel Dead t u → Eqv Rel Dead (lenP M1 t a s v) (lenP M2 u a s v')) := by
  have m8 : M1.may (min (v.tdiv 8) 1) := may_min (c := 8) (by decide) hv
  have m16 : M1.may (min (v.tdiv 16) 1) := may_min (c := 16) (by decide) hv
  obtain ⟨b1, p1⟩ := bitP_ok S.okm (k := k + 9) ht (show a < L by omega) m8
  have key : ∀ w : Int, Fut (bitP M1 t a (min (v.tdiv 8) 1)).2.x ∧ (Lk Rel Dead t u → Eqv Rel Dead (bitP M1 t a (min (v.tdiv 8) 1)) (bitP M2 u a w) → Eqv Rel Dead (lenP M1 t a s v) (lenA M2 (bitP M2 u a w) a s v')) := by
    intro w
    unfold lenP lenA at hf
    unfold lenP
    by_cases h0 : (bitP M1 t a (min (v.tdiv 8) 1)).1 = 0
    · rw [if_pos h0] at hf
      obtain ⟨g1, g2⟩ := treeP_sim S (u := (bitP M2 u a w).2) (v' := v') (k := k) (p1.mono S.okm (show k + 3 ≤ k + 9 by omega)) (show a + 2 + 8 * s + 2 ^ 3 ≤ L by omega) hv hf
      refine ⟨g1, fun _ he => ?_⟩
      rcases he with hd | ⟨e1, e2⟩
      · exact .inl (lenA_dead S.dbit hd)
      · unfold lenA
        rw [if_pos h0, if_pos (by rw [e1]; exact h0)]
        exact g2 (.inr e2)
    · rw [if_neg h0] at hf
      have hv8 := may_less S.okm (by decide) hv h0
      obtain ⟨b2, p2⟩ := bitP_ok S.okm (k := k + 8) p1 (show a + 1 < L by omega) m16
      unfold lenB at hf
      by_cases h2 : (bitP M1 (bitP M1 t a (min (v.tdiv 8) 1)).2 (a + 1) (min (v.tdiv 16) 1)).1 = 0
      · rw [if_pos h2] at hf
        obtain ⟨g1, g2⟩ := treeP_sim S (u := (bitP M2 (bitP M2 u a w).2 (a + 1) (min (v'.tdiv 16) 1)).2) (v' := v' - 8) (k := k) (p2.mono S.okm (show k + 3 ≤ k + 8 by omega)) (show a + 130 + 8 * s + 2 ^ 3 ≤ L by omega) hv8 hf
        refine ⟨bitP_fut S p1 (by omega) m16 g1, fun _ he => ?_⟩
        rcases he with hd | ⟨e1, e2⟩
        · exact .inl (lenA_dead S.dbit hd)
        · have e3 := bitP_sim S (w' := min (v'.tdiv 16) 1) p1 (show a + 1 < L by omega) m16 g1 (.inr e2)
          unfold lenA
          rw [if_neg h0, if_neg (by rw [e1]; exact h0)]
          unfold lenB
          rcases e3 with hd | ⟨e4, e5⟩
          · left
            split
            · exact treeG_dead (M2 := M2) (Dead := Dead) S.dbit (u := (bitP M2 (bitP M2 u a w).2 (a + 1) (min (v'.tdiv 16) 1)).2) hd _
            · exact treeG_dead (M2 := M2) (Dead := Dead) S.dbit (u := (bitP M2 (bitP M2 u a w).2 (a + 1) (min (v'.tdiv 16) 1)).2) hd _
          · rw [if_pos h2, if_pos (by rw [e4]; exact h2)]
            rcases g2 (.inr e5) with hd | ⟨e6, e7⟩
            · exact .inl hd
            · exact .inr ⟨by dsimp only; rw [e6], e7⟩
      · rw [if_neg h2] at hf
        have hv16 := may_less S.okm (by decide) hv h2
        obtain ⟨g1, g2⟩ := treeP_sim S (u := (bitP M2 (bitP M2 u a w).2 (a + 1) (min (v'.tdiv 16) 1)).2) (v' := v' - 16) (k := k) p2 (show a + 258 + 2 ^ 8 ≤ L by omega) hv16 hf
        refine ⟨bitP_fut S p1 (by omega) m16 g1, fun _ he => ?_⟩
        rcases he with hd | ⟨e1, e2⟩
        · exact .inl (lenA_dead S.dbit hd)
        · have e3 := bitP_sim S (w' := min (v'.tdiv 16) 1) p1 (show a + 1 < L by omega) m16 g1 (.inr e2)
          unfold lenA
          rw [if_neg h0, if_neg (by rw [e1]; exact h0)]
          unfold lenB
          rcases e3 with hd | ⟨e4, e5⟩
          · left
            split
            · exact treeG_dead (M2 := M2) (Dead := Dead) S.dbit (u := (bitP M2 (bitP M2 u a w).2 (a + 1) (min (v'.tdiv 16) 1)).2) hd _
            · exact treeG_dead (M2 := M2) (Dead := Dead) S.dbit (u := (bitP M2 (bitP M2 u a w).2 (a + 1) (min (v'.tdiv 16) 1)).2) hd _
          · rw [if_neg h2, if_neg (by rw [e4]; exact h2)]
            rcases g2 (.inr e5) with hd | ⟨e6, e7⟩
            · exact .inl hd
            · exact .inr ⟨by dsimp only; rw [e6], e7⟩
  have hb := (key (min (v'.tdiv 8) 1)).1
  exact ⟨bitP_fut S (k := k + 9) ht (by omega) m8 hb, fun hq => (key (min (v'.tdiv 8) 1)).2 hq (bitP_sim S (k := k + 9) ht (by omega) m8 hb hq)⟩
end
end Go.Proofs.Ytjganponepafpaa

/-
  Two machines go one way: literals, distances, kinds.
-/
namespace Go.Proofs.Ytjganponepafpaa

section
variable {σ τ : Type} {M1 : Mach σ} {M2 : Mach τ} {ok : Nat → σ → Prop} {Rel : σ → τ → Prop} {Fut : σ → Prop} {Dead : τ → Prop}

def EqL (Rel : σ → τ → Prop) (Dead : τ → Prop) (r : Lg σ) (q : Lg τ) : Prop := Dead q.t.x ∨ (q.m = r.m ∧ q.same = r.same ∧ Sm Rel r.t q.t)
theorem lgStep_sim (S : Simu M1 ok M2 Rel Fut Dead) {L k a j y b : Nat} {b' : Int} {s : Lg σ} {q : Lg τ} (ht : PmOk ok L (k + 1) s.t) (ha : a + 768 ≤ L) (h0 : s.m < 2 ^ (j + 1)) (hj : j < 8) (hy : y ≤ 1) (hb : b ≤ 1) (hf : Fut (lgStep M1 a (y : Int) (b : Int) s).t.x) :
    Fut s.t.x ∧ (EqL Rel Dead s q → EqL Rel Dead (lgStep M1 a (y : Int) (b : Int) s) (lgStep M2 a (y : Int) b' q)) := by
  have hp : 2 ^ (j + 1) ≤ 256 := Nat.le_trans (Nat.pow_le_pow_right (by omega) (show j + 1 ≤ 8 by omega)) (by decide)
  have hm : M1.may (b : Int) := fun _ => by omega
  have hdead : Dead q.t.x → Dead (lgStep M2 a (y : Int) b' q).t.x := fun hd => by
    unfold lgStep
    split
    · exact bit_dead S.dbit hd
    · exact bit_dead S.dbit hd
  unfold lgStep at hf
  by_cases hs : s.same = true
  · rw [if_pos hs] at hf
    have hl : a + 256 * (1 + (y : Int).toNat) + s.m < L := by rw [Int.toNat_natCast]; omega
    have hf' := bitP_fut S ht hl hm hf
    refine ⟨hf', fun hq => ?_⟩
    rcases hq with hd | ⟨e1, e2, e3⟩
    · exact .inl (hdead hd)
    · unfold lgStep
      rw [if_pos hs, if_pos (by rw [e2]; exact hs), e1]
      rcases bitP_sim S (w' := b') ht hl hm hf (.inr e3) with hd | ⟨h1, h2⟩
      · exact .inl hd
      · exact .inr ⟨by dsimp only; rw [h1], by dsimp only; rw [h1], h2⟩
  · rw [if_neg hs] at hf
    have hf' := bitP_fut S ht (show a + s.m < L by omega) hm hf
    refine ⟨hf', fun hq => ?_⟩
    rcases hq with hd | ⟨e1, e2, e3⟩
    · exact .inl (hdead hd)
    · unfold lgStep
      rw [if_neg hs, if_neg (by rw [e2]; exact hs), e1]
      rcases bitP_sim S (w' := b') ht (show a + s.m < L by omega) hm hf (.inr e3) with hd | ⟨h1, h2⟩
      · exact .inl hd
      · exact .inr ⟨by dsimp only; rw [h1], rfl, h2⟩
theorem litG_sim (S : Simu M1 ok M2 Rel Fut Dead) {L k a : Nat} {o v v' : UInt8} {same : Bool} {t : Pm σ} {u : Pm τ} (ht : PmOk ok L (k + 8) t) (ha : a + 768 ≤ L) :
    ∀ j, j ≤ 8 → Fut (litG M1 t a o v same j).t.x → Fut t.x ∧ (Lk Rel Dead t u → EqL Rel Dead (litG M1 t a o v same j) (litG M2 u a o v' same j))
  | 0, _ => fun hf => ⟨hf, fun hq => by
    rcases hq with h | h
    · exact .inl h
    · exact .inr ⟨rfl, rfl, h⟩⟩
  | j + 1, hj => fun hf => by
    obtain ⟨h1, h2, h3⟩ := litG_ok S.okm (o := o) (v := v) (same := same) ht ha j (by omega)
    obtain ⟨y, hy, hy1⟩ := want_byte o (7 - j)
    obtain ⟨b, hb, hb1⟩ := want_byte v (7 - j)
    have hf : Fut (lgStep M1 a (want (o.toNat : Int) (7 - j)) (want (v.toNat : Int) (7 - j)) (litG M1 t a o v same j)).t.x := hf
    show Fut t.x ∧ (Lk Rel Dead t u → EqL Rel Dead (lgStep M1 a (want (o.toNat : Int) (7 - j)) (want (v.toNat : Int) (7 - j)) (litG M1 t a o v same j)) (lgStep M2 a (want (o.toNat : Int) (7 - j)) (want (v'.toNat : Int) (7 - j)) (litG M2 u a o v' same j)))
    rw [hy, hb] at hf ⊢
    obtain ⟨g1, g2⟩ := lgStep_sim S (q := litG M2 u a o v' same j) (b' := want (v'.toNat : Int) (7 - j)) (k := k + 8 - (j + 1)) (j := j) (by rw [show k + 8 - (j + 1) + 1 = k + 8 - j by omega]; exact h1) ha h3 (by omega) hy1 hb1 hf
    obtain ⟨i1, i2⟩ := litG_sim S (u := u) (v' := v') ht ha j (by omega) g1
    exact ⟨i1, fun hq => g2 (i2 hq)⟩
/-! ### kinds -/
def EqK (Rel : σ → τ → Prop) (Dead : τ → Prop) (r : Nat × Bool × Pm σ) (q : Nat × Bool × Pm τ) : Prop := Dead q.2.2.x ∨ (q.1 = r.1 ∧ q.2.1 = r.2.1 ∧ Sm Rel r.2.2 q.2.2)
def CK (ok : Nat → σ → Prop) (Rel : σ → τ → Prop) (Fut : σ → Prop) (Dead : τ → Prop) (L k : Nat) (C1 : Nat × Pm σ → Nat × Bool × Pm σ) (C2 : Nat × Pm τ → Nat × Bool × Pm τ) : Prop :=
  ∀ b q, PmOk ok L k b.2 → Fut (C1 b).2.2.x → Fut b.2.x ∧ (Eqv Rel Dead b q → EqK Rel Dead (C1 b) (C2 q))
theorem ck_bit (S : Simu M1 ok M2 Rel Fut Dead) {L k a : Nat} {w w' : Int} {C1 : Nat × Pm σ → Nat × Bool × Pm σ} {C2 : Nat × Pm τ → Nat × Bool × Pm τ} (hC : CK ok Rel Fut Dead L k C1 C2) {t : Pm σ} {u : Pm τ} (ht : PmOk ok L (k + 1) t) (ha : a < L) (hw : M1.may w)
    (hf : Fut (C1 (bitP M1 t a w)).2.2.x) : Fut t.x ∧ (Lk Rel Dead t u → EqK Rel Dead (C1 (bitP M1 t a w)) (C2 (bitP M2 u a w'))) := by
  have hb := (bitP_ok S.okm ht ha hw).2
  have g1 := (hC _ (bitP M2 u a w') hb hf).1
  exact ⟨bitP_fut S ht ha hw g1, fun hq => (hC _ _ hb hf).2 (bitP_sim S ht ha hw g1 hq)⟩
theorem ck_kd5 {L k : Nat} : CK ok Rel Fut Dead L k kd5 kd5 := fun b q _ hf => ⟨hf, fun he => by
  rcases he with hd | ⟨e1, e2⟩
  · exact .inl hd
  · refine .inr ⟨?_, rfl, e2⟩
    show (if q.1 = 0 then 4 else 5) = (if b.1 = 0 then 4 else 5)
    rw [e1]⟩
theorem ck_kdL {L k : Nat} : CK ok Rel Fut Dead L k kdL kdL := fun b q _ hf => ⟨hf, fun he => by
  rcases he with hd | ⟨e1, e2⟩
  · exact .inl hd
  · refine .inr ⟨?_, rfl, e2⟩
    show (if q.1 = 0 then 6 else 2) = (if b.1 = 0 then 6 else 2)
    rw [e1]⟩
theorem ck_kd4 (S : Simu M1 ok M2 Rel Fut Dead) {L k st : Nat} {kd kd' : Int} (hL : 1847 ≤ L) (hst : st ≤ 11) : CK ok Rel Fut Dead L (k + 1) (fun b => kd4 M1 b st kd) (fun q => kd4 M2 q st kd') := fun b q hb hf => by
  dsimp only at hf ⊢
  by_cases h0 : b.1 = 0
  · have e : kd4 M1 b st kd = (3, false, b.2) := if_pos h0
    rw [e] at hf ⊢
    refine ⟨hf, fun he => ?_⟩
    rcases he with hd | ⟨e1, e2⟩
    · left
      unfold kd4
      split
      · exact hd
      · exact bit_dead (M2 := M2) S.dbit (u := q.2) (a := 228 + st) (w := chI (kd' = 4)) hd
    · have e' : kd4 M2 q st kd' = (3, false, q.2) := if_pos (by rw [e1]; exact h0)
      rw [e']
      exact .inr ⟨rfl, rfl, e2⟩
  · have e : kd4 M1 b st kd = kd5 (bitP M1 b.2 (228 + st) (chI (kd = 4))) := if_neg h0
    rw [e] at hf ⊢
    obtain ⟨g1, g2⟩ := ck_bit S (w' := chI (kd' = 4)) (u := q.2) (ck_kd5 (L := L) (k := k)) hb (show 228 + st < L by omega) (chI_may _) hf
    refine ⟨g1, fun he => ?_⟩
    rcases he with hd | ⟨e1, e2⟩
    · left
      unfold kd4
      split
      · exact hd
      · exact bit_dead (M2 := M2) S.dbit (u := q.2) (a := 228 + st) (w := chI (kd' = 4)) hd
    · have e' : kd4 M2 q st kd' = kd5 (bitP M2 q.2 (228 + st) (chI (kd' = 4))) := if_neg (by rw [e1]; exact h0)
      rw [e']
      exact g2 (.inr e2)
theorem kd3_dead (S : Simu M1 ok M2 Rel Fut Dead) {q : Nat × Pm τ} {st s : Nat} {kd : Int} (hd : Dead q.2.x) : Dead (kd3 M2 q st s kd).2.2.x := by
  unfold kd3
  split
  · exact bit_dead (M2 := M2) S.dbit (u := q.2) (a := 240 + 16 * st + s) (w := chI (kd = 6)) hd
  · unfold kd4
    split
    · exact bit_dead (M2 := M2) S.dbit (u := q.2) (a := 216 + st) (w := chI (kd = 3)) hd
    · exact bit_dead (M2 := M2) S.dbit (u := (bitP M2 q.2 (216 + st) (chI (kd = 3))).2) (a := 228 + st) (w := chI (kd = 4)) (bit_dead (M2 := M2) S.dbit (u := q.2) (a := 216 + st) (w := chI (kd = 3)) hd)
theorem ck_kd3 (S : Simu M1 ok M2 Rel Fut Dead) {L k st s : Nat} {kd kd' : Int} (hL : 1847 ≤ L) (hst : st ≤ 11) (hs : s ≤ 15) : CK ok Rel Fut Dead L (k + 2) (fun b => kd3 M1 b st s kd) (fun q => kd3 M2 q st s kd') := fun b q hb hf => by
  dsimp only at hf ⊢
  by_cases h0 : b.1 = 0
  · have e : kd3 M1 b st s kd = kdL (bitP M1 b.2 (240 + 16 * st + s) (chI (kd = 6))) := if_pos h0
    rw [e] at hf ⊢
    obtain ⟨g1, g2⟩ := ck_bit S (w' := chI (kd' = 6)) (u := q.2) (ck_kdL (L := L) (k := k + 1)) hb (show 240 + 16 * st + s < L by omega) (chI_may _) hf
    refine ⟨g1, fun he => ?_⟩
    rcases he with hd | ⟨e1, e2⟩
    · exact .inl (kd3_dead S hd)
    · have e' : kd3 M2 q st s kd' = kdL (bitP M2 q.2 (240 + 16 * st + s) (chI (kd' = 6))) := if_pos (by rw [e1]; exact h0)
      rw [e']
      exact g2 (.inr e2)
  · have e : kd3 M1 b st s kd = kd4 M1 (bitP M1 b.2 (216 + st) (chI (kd = 3))) st kd := if_neg h0
    rw [e] at hf ⊢
    obtain ⟨g1, g2⟩ := ck_bit S (w' := chI (kd' = 3)) (u := q.2) (ck_kd4 S (L := L) (k := k) (st := st) (kd := kd) (kd' := kd') hL hst) hb (show 216 + st < L by omega) (chI_may _) hf
    refine ⟨g1, fun he => ?_⟩
    rcases he with hd | ⟨e1, e2⟩
    · exact .inl (kd3_dead S hd)
    · have e' : kd3 M2 q st s kd' = kd4 M2 (bitP M2 q.2 (216 + st) (chI (kd' = 3))) st kd' := if_neg (by rw [e1]; exact h0)
      rw [e']
      exact g2 (.inr e2)
theorem kd2_dead (S : Simu M1 ok M2 Rel Fut Dead) {q : Nat × Pm τ} {em : Bool} {st s : Nat} {kd : Int} (hd : Dead q.2.x) : Dead (kd2 M2 q em st s kd).2.2.x := by
  unfold kd2
  split
  · exact hd
  split
  · exact hd
  · exact kd3_dead S (bit_dead (M2 := M2) S.dbit (u := q.2) (a := 204 + st) (w := chI (kd = 2 ∨ kd = 6)) hd)
theorem ck_kd2 (S : Simu M1 ok M2 Rel Fut Dead) {L k st s : Nat} {em : Bool} {kd kd' : Int} (hL : 1847 ≤ L) (hst : st ≤ 11) (hs : s ≤ 15) : CK ok Rel Fut Dead L (k + 3) (fun b => kd2 M1 b em st s kd) (fun q => kd2 M2 q em st s kd') := fun b q hb hf => by
  dsimp only at hf ⊢
  by_cases h0 : b.1 = 0
  · have e : kd2 M1 b em st s kd = (1, false, b.2) := if_pos h0
    rw [e] at hf ⊢
    refine ⟨hf, fun he => ?_⟩
    rcases he with hd | ⟨e1, e2⟩
    · exact .inl (kd2_dead S hd)
    · have e' : kd2 M2 q em st s kd' = (1, false, q.2) := if_pos (by rw [e1]; exact h0)
      rw [e']
      exact .inr ⟨rfl, rfl, e2⟩
  · by_cases hem : em = true
    · have e : kd2 M1 b em st s kd = (6, true, b.2) := by unfold kd2; rw [if_neg h0, if_pos hem]
      rw [e] at hf ⊢
      refine ⟨hf, fun he => ?_⟩
      rcases he with hd | ⟨e1, e2⟩
      · exact .inl (kd2_dead S hd)
      · have e' : kd2 M2 q em st s kd' = (6, true, q.2) := by unfold kd2; rw [if_neg (by rw [e1]; exact h0), if_pos hem]
        rw [e']
        exact .inr ⟨rfl, rfl, e2⟩
    · have e : kd2 M1 b em st s kd = kd3 M1 (bitP M1 b.2 (204 + st) (chI (kd = 2 ∨ kd = 6))) st s kd := by unfold kd2; rw [if_neg h0, if_neg hem]
      rw [e] at hf ⊢
      obtain ⟨g1, g2⟩ := ck_bit S (w' := chI (kd' = 2 ∨ kd' = 6)) (u := q.2) (ck_kd3 S (L := L) (k := k) (st := st) (s := s) (kd := kd) (kd' := kd') hL hst hs) hb (show 204 + st < L by omega) (chI_may _) hf
      refine ⟨g1, fun he => ?_⟩
      rcases he with hd | ⟨e1, e2⟩
      · exact .inl (kd2_dead S hd)
      · have e' : kd2 M2 q em st s kd' = kd3 M2 (bitP M2 q.2 (204 + st) (chI (kd' = 2 ∨ kd' = 6))) st s kd' := by unfold kd2; rw [if_neg (by rw [e1]; exact h0), if_neg hem]
        rw [e']
        exact g2 (.inr e2)
theorem ck_kd1 (S : Simu M1 ok M2 Rel Fut Dead) {L k st s : Nat} {em : Bool} {kd kd' : Int} (hL : 1847 ≤ L) (hst : st ≤ 11) (hs : s ≤ 15) : CK ok Rel Fut Dead L (k + 4) (fun b => kd1 M1 b em st s kd) (fun q => kd1 M2 q em st s kd') := fun b q hb hf => by
  dsimp only at hf ⊢
  have hdd : Dead q.2.x → Dead (kd1 M2 q em st s kd').2.2.x := fun hd => by
    unfold kd1
    split
    · exact hd
    · exact kd2_dead S (bit_dead (M2 := M2) S.dbit (u := q.2) (a := 192 + st) (w := chI (kd' = 1 ∨ kd' = 7)) hd)
  by_cases h0 : b.1 = 0
  · have e : kd1 M1 b em st s kd = (0, false, b.2) := if_pos h0
    rw [e] at hf ⊢
    refine ⟨hf, fun he => ?_⟩
    rcases he with hd | ⟨e1, e2⟩
    · exact .inl (hdd hd)
    · have e' : kd1 M2 q em st s kd' = (0, false, q.2) := if_pos (by rw [e1]; exact h0)
      rw [e']
      exact .inr ⟨rfl, rfl, e2⟩
  · have e : kd1 M1 b em st s kd = kd2 M1 (bitP M1 b.2 (192 + st) (chI (kd = 1 ∨ kd = 7))) em st s kd := if_neg h0
    rw [e] at hf ⊢
    obtain ⟨g1, g2⟩ := ck_bit S (w' := chI (kd' = 1 ∨ kd' = 7)) (u := q.2) (ck_kd2 S (L := L) (k := k) (st := st) (s := s) (em := em) (kd := kd) (kd' := kd') hL hst hs) hb (show 192 + st < L by omega) (chI_may _) hf
    refine ⟨g1, fun he => ?_⟩
    rcases he with hd | ⟨e1, e2⟩
    · exact .inl (hdd hd)
    · have e' : kd1 M2 q em st s kd' = kd2 M2 (bitP M2 q.2 (192 + st) (chI (kd' = 1 ∨ kd' = 7))) em st s kd' := if_neg (by rw [e1]; exact h0)
      rw [e']
      exact g2 (.inr e2)
theorem kindP_sim (S : Simu M1 ok M2 Rel Fut Dead) {L k st s : Nat} {em : Bool} {kd kd' : Int} {t : Pm σ} {u : Pm τ} (ht : PmOk ok L (k + 5) t) (hL : 1847 ≤ L) (hst : st ≤ 11) (hs : s ≤ 15) (hk : M1.mayN kd) (hf : Fut (kindP M1 t em st s kd).2.2.x) :
    Fut t.x ∧ (Lk Rel Dead t u → EqK Rel Dead (kindP M1 t em st s kd) (kindP M2 u em st s kd')) := by
  have hmay : M1.may (min kd 1) := fun he => by have := hk he; omega
  exact ck_bit S (w' := min kd' 1) (u := u) (ck_kd1 S (L := L) (k := k) (st := st) (s := s) (em := em) (kd := kd) (kd' := kd') hL hst hs) ht (show 16 * st + s < L by omega) hmay hf
end
end Go.Proofs.Ytjganponepafpaa

/-
  Two machines go one way: packets; what a coder codes a decoder tells; with a byte fewer it tells the same, or falls dead.
-/
namespace Go.Proofs.Ytjganponepafpaa

section
variable {σ τ : Type} {M1 : Mach σ} {M2 : Mach τ} {ok : Nat → σ → Prop} {Rel : σ → τ → Prop} {Fut : σ → Prop} {Dead : τ → Prop}

def EqP (Rel : σ → τ → Prop) (Dead : τ → Prop) (r : Nat × Lzs × Pm σ) (q : Nat × Lzs × Pm τ) : Prop := Dead q.2.2.x ∨ (q.1 = r.1 ∧ q.2.1 = r.2.1 ∧ Sm Rel r.2.2 q.2.2)

end

end Go.Proofs.Ytjganponepafpaa

/-
  A decoder with a byte fewer tells the same, or falls bad; what a coder tells is what is wanted.
-/
namespace Go.Proofs.Ytjganponepafpaa

/-- the one has a byte more behind it -/
def OneMore (y : UInt8) (d d' : Dc) : Prop := ∃ r c s, d = some (r, c, s ++ [y]) ∧ d' = some (r, c, s)
theorem lvl_short (y : UInt8) (r c : Nat) (s : List UInt8) : lvl r c s = none ∨ OneMore y (lvl r c (s ++ [y])) (lvl r c s) := by
  unfold lvl
  by_cases h : r < 16777216
  · rw [if_pos h, if_pos h]
    cases s with
    | nil => exact .inl rfl
    | cons x t => exact .inr ⟨r * 256, c * 256 + x.toNat, t, rfl, rfl⟩
  · rw [if_neg h, if_neg h]
    exact .inr ⟨r, c, s, rfl, rfl⟩
theorem one_short {y : UInt8} {d d' : Dc} (h : OneMore y d d') : (oneD d').2 = none ∨ ((oneD d').1 = (oneD d).1 ∧ OneMore y (oneD d).2 (oneD d').2) := by
  obtain ⟨r, c, s, rfl, rfl⟩ := h
  by_cases hc : c < r / 2
  · have e1 : oneD (some (r, c, s)) = (0, lvl (r / 2) c s) := by show (if _ then _ else _) = _; rw [if_pos hc]
    have e2 : oneD (some (r, c, s ++ [y])) = (0, lvl (r / 2) c (s ++ [y])) := by show (if _ then _ else _) = _; rw [if_pos hc]
    rw [e1, e2]
    rcases lvl_short y (r / 2) c s with h | h
    · exact .inl h
    · exact .inr ⟨rfl, h⟩
  · by_cases h2 : c - r / 2 < r / 2
    · have e1 : oneD (some (r, c, s)) = (1, lvl (r / 2) (c - r / 2) s) := by show (if _ then _ else _) = _; rw [if_neg hc, if_pos h2]
      have e2 : oneD (some (r, c, s ++ [y])) = (1, lvl (r / 2) (c - r / 2) (s ++ [y])) := by show (if _ then _ else _) = _; rw [if_neg hc, if_pos h2]
      rw [e1, e2]
      rcases lvl_short y (r / 2) (c - r / 2) s with h | h
      · exact .inl h
      · exact .inr ⟨rfl, h⟩
    · left
      show (if _ then _ else _ : Nat × Dc).2 = none
      rw [if_neg hc, if_neg h2]
theorem go_short {y : UInt8} {d d' : Dc} (h : OneMore y d d') : ∀ n, (straightGo d' n).2 = none ∨ ((straightGo d' n).1 = (straightGo d n).1 ∧ OneMore y (straightGo d n).2 (straightGo d' n).2)
  | 0 => .inr ⟨rfl, h⟩
  | n + 1 => by
    rcases go_short h n with h1 | ⟨h1, h2⟩
    · left
      show (oneD (straightGo d' n).2).2 = none
      rw [h1]; rfl
    · rcases one_short h2 with h3 | ⟨h3, h4⟩
      · exact .inl h3
      · right
        refine ⟨?_, h4⟩
        show 2 * (straightGo d' n).1 + (oneD (straightGo d' n).2).1 = 2 * (straightGo d n).1 + (oneD (straightGo d n).2).1
        rw [h1, h3]
section
variable {σ : Type} {M : Mach σ} {ok : Nat → σ → Prop}
/-- the least first: what is told is what is wanted -/
theorem revG_tell (h : MachOk M ok) (he : M.enc = true) {t : Pm σ} {a v : Nat} : ∀ j, (revG M t a (v : Int) j).o = v % 2 ^ j
  | 0 => by show 0 = v % 1; omega
  | j + 1 => by
    have hb : (bitP M (revG M t a (v : Int) j).t (a + (revG M t a (v : Int) j).m) (want (v : Int) j)).1 = bitOf v j := by
      have := h.tell (x := (revG M t a (v : Int) j).t.x) (p := (revG M t a (v : Int) j).t.ps.getD (a + (revG M t a (v : Int) j).m) 0) (w := want (v : Int) j) he
      rw [want_nat, Int.toNat_natCast] at this
      rw [want_nat]
      exact this
    show (revG M t a (v : Int) j).o + (bitP M (revG M t a (v : Int) j).t (a + (revG M t a (v : Int) j).m) (want (v : Int) j)).1 * 2 ^ j = _
    rw [hb, revG_tell h he j, low_bits]
theorem revP_tell (h : MachOk M ok) (he : M.enc = true) {t : Pm σ} {a n v : Nat} (hv : v < 2 ^ n) : (revP M t a n (v : Int)).1 = v := by
  show (revG M t a (v : Int) n).o = v
  rw [revG_tell h he n, Nat.mod_eq_of_lt hv]
end
theorem str_tell {e : En} {n v : Nat} : (encM.str e n v).1 = v := rfl

theorem distP_tell {L k l v : Nat} {t : Pm En} (ht : PmOk okE L (k + 12) t) (hL0 : 1847 ≤ L) (hv : v < 4294967296) : (distP encM t l v).1 = v := by
  obtain ⟨s1, s2, s3⟩ := slot_spec hv
  have htell : (treeP encM t (432 + 64 * min l 3) 6 ((slotOf v : Nat) : Int)).1 = slotOf v := treeP_tell encM_ok rfl s1
  have hdef : distP encM t l v = distB encM (treeP encM t (432 + 64 * min l 3) 6 ((slotOf v : Nat) : Int)) v := rfl
  rw [hdef]
  generalize treeP encM t (432 + 64 * min l 3) 6 ((slotOf v : Nat) : Int) = sl at *
  unfold distB
  by_cases h4 : sl.1 < 4
  · rw [if_pos h4, htell]
    exact (s2 (by omega)).symm
  rw [if_neg h4]
  obtain ⟨n, hn⟩ : ∃ n, n = sl.1 / 2 - 1 := ⟨_, rfl⟩
  obtain ⟨r, hr⟩ : ∃ r, r = sl.1 % 2 := ⟨_, rfl⟩
  obtain ⟨P, hP⟩ : ∃ P, P = 2 ^ n := ⟨_, rfl⟩
  obtain ⟨base, hb⟩ : ∃ b, b = (2 + r) * P := ⟨_, rfl⟩
  have hspec : base ≤ v ∧ v < base + P := by
    have h2 := s3 (by omega)
    rw [← htell, ← hn, ← hr, ← hP, ← hb] at h2
    exact h2
  by_cases h14 : sl.1 < 14
  · rw [if_pos h14, ← hn, ← hr, ← hP, ← hb]
    dsimp only
    rw [show (v : Int) - (base : Int) = ((v - base : Nat) : Int) by omega, revP_tell encM_ok rfl (by rw [← hP]; omega)]
    omega
  · rw [if_neg h14, ← hn, ← hr, ← hP, ← hb]
    have hn5 : 6 ≤ n := by omega
    obtain ⟨P4, hP4⟩ : ∃ P, P = 2 ^ (n - 4) := ⟨_, rfl⟩
    have hPP : P = 16 * P4 := by rw [hP, hP4, show (16 : Nat) = 2 ^ 4 from rfl, ← Nat.pow_add, show 4 + (n - 4) = n by omega]
    unfold distC
    dsimp only
    rw [str_tell, revP_tell encM_ok rfl (show v % 16 < 2 ^ 4 by omega)]
    have hbm : base % 16 = 0 := by rw [hb, hPP, show (2 + r) * (16 * P4) = 16 * ((2 + r) * P4) by rw [Nat.mul_left_comm], Nat.mul_mod_right]
    have hsl : slotOf v < 64 := s1
    have hn30 : n ≤ 30 := by omega
    have hP30 : P ≤ 2 ^ 30 := by rw [hP]; exact pow_le_of hn30
    omega
end Go.Proofs.Ytjganponepafpaa

/-
  Whether a packet may be coded, as numbers.
-/
namespace Go.Proofs.Ytjganponepafpaa

/-- whether it can't be, whatever is there -/
def lateP (ended : Bool) (kd len : Int) : Bool := ended || decide (kd ≠ 0 ∧ kd ≠ 6 ∧ kd ≠ 7 ∧ (len < 2 ∨ 273 < len))
/-- whether it can -/
def hasP (z : Lzs) (kd : Int) (d : Nat) : Bool :=
  if kd = 0 ∨ kd = 7 then true else if kd = 1 then z.has d else if kd = 2 then z.has z.r0 else if kd = 3 then z.has z.r1 else if kd = 4 then z.has z.r2 else if kd = 5 then z.has z.r3 else if kd = 6 then z.has z.r0 else false
def fitsP (z : Lzs) (kd : Int) (d : Nat) (len : Int) : Bool := if lateP z.ended kd len = true then false else hasP z kd d

theorem fits_may {z : Lzs} {kd len : Int} {d : Nat} (h : fitsP z kd d len = true) : z.ended = false ∧ 0 ≤ kd ∧ kd ≤ 7 ∧ (z.out.length = 0 → kd = 0 ∨ kd = 7) ∧ (1 ≤ kd ∧ kd ≤ 5 → 2 ≤ len ∧ len ≤ 273) ∧
    (kd = 1 → z.has d = true) ∧ (kd = 2 → z.has z.r0 = true) ∧ (kd = 3 → z.has z.r1 = true) ∧ (kd = 4 → z.has z.r2 = true) ∧ (kd = 5 → z.has z.r3 = true) ∧ (kd = 6 → z.has z.r0 = true) := by
  have hl : lateP z.ended kd len = false := by
    cases hl : lateP z.ended kd len with
    | false => rfl
    | true => unfold fitsP at h; rw [hl] at h; cases h
  unfold fitsP at h
  rw [hl] at h
  have h : hasP z kd d = true := h
  unfold lateP at hl
  have he : z.ended = false := by
    cases he : z.ended with
    | false => rfl
    | true => rw [he] at hl; cases hl
  rw [he] at hl
  have hl2 := of_decide_eq_false (show decide (kd ≠ 0 ∧ kd ≠ 6 ∧ kd ≠ 7 ∧ (len < 2 ∨ 273 < len)) = false from hl)
  have hno : ∀ e, z.has e = true → z.out.length ≠ 0 := by
    intro e he h0
    unfold Lzs.has at he
    have := of_decide_eq_true he
    omega
  unfold hasP at h
  split at h
  · rename_i hk
    exact ⟨he, by omega, by omega, fun _ => hk, by omega, by omega, by omega, by omega, by omega, by omega, by omega⟩
  split at h
  · rename_i hk
    exact ⟨he, by omega, by omega, fun h0 => absurd h0 (hno _ h), by omega, fun _ => h, by omega, by omega, by omega, by omega, by omega⟩
  split at h
  · rename_i hk
    exact ⟨he, by omega, by omega, fun h0 => absurd h0 (hno _ h), by omega, by omega, fun _ => h, by omega, by omega, by omega, by omega⟩
  split at h
  · rename_i hk
    exact ⟨he, by omega, by omega, fun h0 => absurd h0 (hno _ h), by omega, by omega, by omega, fun _ => h, by omega, by omega, by omega⟩
  split at h
  · rename_i hk
    exact ⟨he, by omega, by omega, fun h0 => absurd h0 (hno _ h), by omega, by omega, by omega, by omega, fun _ => h, by omega, by omega⟩
  split at h
  · rename_i hk
    exact ⟨he, by omega, by omega, fun h0 => absurd h0 (hno _ h), by omega, by omega, by omega, by omega, by omega, fun _ => h, by omega⟩
  split at h
  · rename_i hk
    exact ⟨he, by omega, by omega, fun h0 => absurd h0 (hno _ h), by omega, by omega, by omega, by omega, by omega, by omega, fun _ => h⟩
  · cases h
end Go.Proofs.Ytjganponepafpaa

/-
  Packets are coded, as numbers.
-/
namespace Go.Proofs.Ytjganponepafpaa
open Go.RowKit

def Pq.pk (q : Pq) : Pk := ⟨q.k, q.v.toNat, q.n, UInt8.ofNat q.a.toNat⟩
/-- whether it is coded -/
def takesP (most : Int) (z : Lzs) (q : Pq) : Bool := fitsP z q.k q.v.toNat q.n && decide (IntKind.i64.wrap ((z.out.length : Int) + max 1 q.n) ≤ most)
def codeS (most : Int) (s : Lzs × Pm En) (q : Pq) : Lzs × Pm En := if takesP most s.1 q = true then (packP encM s.1 s.2 q.pk).2 else s
def codeG (most : Int) (qs : Nat → Pq) (s : Lzs × Pm En) : Nat → Lzs × Pm En
  | 0 => s
  | j + 1 => codeS most (codeG most qs s j) (qs j)

theorem fits_pk {z : Lzs} {q : Pq} (hq : PqLit q) (h : fitsP z q.k q.v.toNat q.n = true) : PkFine q.pk ∧ PkMay encM z q.pk ∧ PkLen encM q.pk := by
  obtain ⟨_, h1, h2, h3, h4, _⟩ := fits_may h
  refine ⟨⟨by show -1000000 ≤ q.k; omega, by show q.k ≤ 1000000; omega, by show q.v.toNat < 4294967296; have := hq.v; omega⟩, fun _ => ⟨h1, h2, fun h0 => ?_, fun h => (h4 h).1⟩, ?_⟩
  · rcases h3 h0 with h | h
    · exact .inl h
    · exact .inr (.inr h)
  · by_cases hk : 1 ≤ q.k ∧ q.k ≤ 5
    · have := h4 hk
      exact .inl ⟨by show -900000 ≤ q.n; omega, by show q.n ≤ 900000; omega⟩
    · exact .inr ⟨rfl, by show q.k = 0 ∨ q.k = 6 ∨ q.k = 7; omega⟩

/-- the bounds, behind j packets -/
theorem codeG_ok {most : Int} {qs : Nat → Pq} {s : Lzs × Pm En} {L N k m : Nat} (hq : ∀ i, i < m → PqLit (qs i)) (hz : ZNear s.1 L N) (ht : PmOk okE L (k + 27 * m) s.2) :
    ∀ j, j ≤ m → ZNear (codeG most qs s j).1 L (N + 273 * j) ∧ PmOk okE L (k + 27 * (m - j)) (codeG most qs s j).2
  | 0, _ => ⟨hz, ht⟩
  | j + 1, hj => by
    obtain ⟨h1, h2⟩ := codeG_ok hq hz ht j (by omega)
    show ZNear (codeS most (codeG most qs s j) (qs j)).1 L _ ∧ PmOk okE L _ (codeS most (codeG most qs s j) (qs j)).2
    unfold codeS
    split
    · rename_i hc
      unfold takesP at hc
      have hf : fitsP (codeG most qs s j).1 (qs j).k (qs j).v.toNat (qs j).n = true := by
        revert hc
        cases fitsP (codeG most qs s j).1 (qs j).k (qs j).v.toNat (qs j).n <;> simp
      obtain ⟨f1, f2, f3⟩ := fits_pk (hq j (by omega)) hf
      obtain ⟨p1, p2, _⟩ := packP_near encM_ok (k := k + 27 * (m - (j + 1))) h1 (by rw [show k + 27 * (m - (j + 1)) + 27 = k + 27 * (m - j) by omega]; exact h2) f1 f2
      exact ⟨p1.more (by omega), p2⟩
    · exact ⟨h1.more (by omega), h2.mono encM_ok (by omega)⟩
end Go.Proofs.Ytjganponepafpaa
