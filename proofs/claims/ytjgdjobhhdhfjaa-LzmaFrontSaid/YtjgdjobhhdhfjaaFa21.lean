/-
  LzSim: put together.
-/
import Derived.Test.YtjgdjobhhdhfjaaFa08
set_option linter.unusedVariables false
set_option linter.unusedSimpArgs false
/-
  Two machines go one way: packets as numbers, side by side; the second one may fall dead on the way.
-/
namespace Go.Proofs.Ytjgdjobhhdhfjaa

section
variable {σ τ : Type} {M1 : Mach σ} {M2 : Mach τ} {ok : Nat → σ → Prop} {Rel : σ → τ → Prop} {Fut : σ → Prop} {Dead : τ → Prop}

/-- The second machine does what the first one does, or falls dead; Fut: what the first one does on the way to its end. -/
structure Simu (M1 : Mach σ) (ok : Nat → σ → Prop) (M2 : Mach τ) (Rel : σ → τ → Prop) (Fut : σ → Prop) (Dead : τ → Prop) : Prop where
  okm : MachOk M1 ok
  bit : ∀ {x y k p w w'}, ok (k + 1) x → POk p → M1.may w → Rel x y → Fut (M1.bit x p w).2.2 →
    Dead (M2.bit y p w').2.2 ∨ ((M2.bit y p w').1 = (M1.bit x p w).1 ∧ (M2.bit y p w').2.1 = (M1.bit x p w).2.1 ∧ Rel (M1.bit x p w).2.2 (M2.bit y p w').2.2)
  str : ∀ {x y k n v v'}, ok (k + 1) x → n ≤ 32 → (M1.enc = true → v < 2 ^ n) → Rel x y → Fut (M1.str x n v).2 →
    Dead (M2.str y n v').2 ∨ ((M2.str y n v').1 = (M1.str x n v).1 ∧ Rel (M1.str x n v).2 (M2.str y n v').2)
  fbit : ∀ {x k p w}, ok (k + 1) x → POk p → M1.may w → Fut (M1.bit x p w).2.2 → Fut x
  fstr : ∀ {x k n v}, ok (k + 1) x → Fut (M1.str x n v).2 → Fut x
  dbit : ∀ {y p w}, Dead y → Dead (M2.bit y p w).2.2
  dstr : ∀ {y n v}, Dead y → Dead (M2.str y n v).2
  same : ∀ {x y}, Rel x y → M2.bad y = M1.bad x

def Sm (Rel : σ → τ → Prop) (t : Pm σ) (u : Pm τ) : Prop := u.ps = t.ps ∧ Rel t.x u.x
def Lk (Rel : σ → τ → Prop) (Dead : τ → Prop) (t : Pm σ) (u : Pm τ) : Prop := Dead u.x ∨ Sm Rel t u
def Eqv (Rel : σ → τ → Prop) (Dead : τ → Prop) (r : Nat × Pm σ) (q : Nat × Pm τ) : Prop := Dead q.2.x ∨ (q.1 = r.1 ∧ Sm Rel r.2 q.2)
def EqG (Rel : σ → τ → Prop) (Dead : τ → Prop) (r : Tg σ) (q : Tg τ) : Prop := Dead q.t.x ∨ (q.m = r.m ∧ q.o = r.o ∧ Sm Rel r.t q.t)

/-! ### once dead, dead -/
section
variable (hb : ∀ {y p w}, Dead y → Dead (M2.bit y p w).2.2) (hs : ∀ {y n v}, Dead y → Dead (M2.str y n v).2)
include hb
theorem bit_dead {u : Pm τ} {a : Nat} {w : Int} (h : Dead u.x) : Dead (bitP M2 u a w).2.x := hb h
theorem treeG_dead {u : Pm τ} {a n : Nat} {v : Int} (h : Dead u.x) : ∀ j, Dead (treeG M2 u a n v j).t.x
  | 0 => h
  | j + 1 => hb (treeG_dead h j)
theorem treeP_dead {u : Pm τ} {a n : Nat} {v : Int} (h : Dead u.x) : Dead (treeP M2 u a n v).2.x := treeG_dead hb h n
theorem revG_dead {u : Pm τ} {a : Nat} {v : Int} (h : Dead u.x) : ∀ j, Dead (revG M2 u a v j).t.x
  | 0 => h
  | j + 1 => hb (revG_dead h j)
theorem revP_dead {u : Pm τ} {a n : Nat} {v : Int} (h : Dead u.x) : Dead (revP M2 u a n v).2.x := revG_dead hb h n
theorem litG_dead {u : Pm τ} {a : Nat} {o v : UInt8} {s : Bool} (h : Dead u.x) : ∀ j, Dead (litG M2 u a o v s j).t.x
  | 0 => h
  | j + 1 => by
    show Dead (lgStep M2 a _ _ (litG M2 u a o v s j)).t.x
    unfold lgStep
    split
    · exact hb (litG_dead h j)
    · exact hb (litG_dead h j)
theorem litP_dead {u : Pm τ} {z : Lzs} {v : UInt8} (h : Dead u.x) : Dead (litP M2 z u v).2.x := litG_dead hb h 8
theorem lenA_dead {b : Nat × Pm τ} {a s : Nat} {v : Int} (h : Dead b.2.x) : Dead (lenA M2 b a s v).2.x := by
  unfold lenA
  split
  · exact treeP_dead hb h
  · unfold lenB
    split
    · exact treeG_dead (M2 := M2) (Dead := Dead) hb (u := (bitP M2 b.2 (a + 1) (min (v.tdiv 16) 1)).2) (hb h) _
    · exact treeG_dead (M2 := M2) (Dead := Dead) hb (u := (bitP M2 b.2 (a + 1) (min (v.tdiv 16) 1)).2) (hb h) _
theorem lenP_dead {u : Pm τ} {a s : Nat} {v : Int} (h : Dead u.x) : Dead (lenP M2 u a s v).2.x := lenA_dead hb (bit_dead hb h)
include hs
theorem distB_dead {b : Nat × Pm τ} {v : Nat} (h : Dead b.2.x) : Dead (distB M2 b v).2.x := by
  unfold distB
  split
  · exact h
  split
  · exact revP_dead hb h
  · unfold distC
    exact revP_dead hb (hs h)
theorem distP_dead {u : Pm τ} {l v : Nat} (h : Dead u.x) : Dead (distP M2 u l v).2.x := distB_dead hb hs (treeP_dead hb h)
omit hs
theorem kd1_dead {b : Nat × Pm τ} {em : Bool} {st s : Nat} {k : Int} (h : Dead b.2.x) : Dead (kd1 M2 b em st s k).2.2.x := by
  unfold kd1
  split
  · exact h
  unfold kd2
  split
  · exact hb h
  split
  · exact hb h
  unfold kd3
  split
  · exact hb (hb (hb h))
  unfold kd4
  split
  · exact hb (hb (hb h))
  · exact hb (hb (hb (hb h)))
theorem kindP_dead {u : Pm τ} {em : Bool} {st s : Nat} {k : Int} (h : Dead u.x) : Dead (kindP M2 u em st s k).2.2.x := kd1_dead hb (bit_dead hb h)
omit hb in
theorem tailP_x {many : Nat} {z : Lzs} {t : Pm τ} : (tailP M2 many z t).2.2 = t := by
  unfold tailP
  split <;> rfl
end

/-! ### side by side -/
theorem bitP_fut (S : Simu M1 ok M2 Rel Fut Dead) {L k a : Nat} {w : Int} {t : Pm σ} (ht : PmOk ok L (k + 1) t) (ha : a < L) (hw : M1.may w) (hf : Fut (bitP M1 t a w).2.x) : Fut t.x :=
  S.fbit ht.x (getD_ok ht.ps (show a < t.ps.length by rw [ht.len]; exact ha)) hw hf
theorem bitP_sim (S : Simu M1 ok M2 Rel Fut Dead) {L k a : Nat} {w w' : Int} {t : Pm σ} {u : Pm τ} (ht : PmOk ok L (k + 1) t) (ha : a < L) (hw : M1.may w) (hf : Fut (bitP M1 t a w).2.x) (hq : Lk Rel Dead t u) :
    Eqv Rel Dead (bitP M1 t a w) (bitP M2 u a w') := by
  rcases hq with hd | ⟨h1, h2⟩
  · exact .inl (S.dbit hd)
  · rcases S.bit (w' := w') ht.x (getD_ok ht.ps (show a < t.ps.length by rw [ht.len]; exact ha)) hw h2 hf with h | ⟨e1, e2, e3⟩
    · left
      show Dead (M2.bit u.x (u.ps.getD a 0) w').2.2
      rw [h1]
      exact h
    · right
      refine ⟨?_, ?_, ?_⟩
      · show (M2.bit u.x (u.ps.getD a 0) w').1 = _
        rw [h1, e1]
        rfl
      · show u.ps.set a (M2.bit u.x (u.ps.getD a 0) w').2.1 = t.ps.set a _
        rw [h1, e2]
      · show Rel _ (M2.bit u.x (u.ps.getD a 0) w').2.2
        rw [h1]
        exact e3

theorem tgStep_sim (S : Simu M1 ok M2 Rel Fut Dead) {L k a i : Nat} {w w' : Int} {s : Tg σ} {q : Tg τ} (ht : PmOk ok L (k + 1) s.t) (ha : a + s.m < L) (hw : M1.may w) (hf : Fut (tgStep M1 a i w s).t.x) (hq : EqG Rel Dead s q) :
    EqG Rel Dead (tgStep M1 a i w s) (tgStep M2 a i w' q) := by
  rcases hq with hd | ⟨e1, e2, e3⟩
  · exact .inl (S.dbit hd)
  · rcases bitP_sim S (w' := w') ht ha hw hf (.inr e3) with h | ⟨h1, h2⟩
    · left
      show Dead (bitP M2 q.t (a + q.m) w').2.x
      rw [e1]
      exact h
    · right
      refine ⟨?_, ?_, ?_⟩
      · show 2 * q.m + (bitP M2 q.t (a + q.m) w').1 = 2 * s.m + (bitP M1 s.t (a + s.m) w).1
        rw [e1, h1]
      · show q.o + (bitP M2 q.t (a + q.m) w').1 * 2 ^ i = s.o + (bitP M1 s.t (a + s.m) w).1 * 2 ^ i
        rw [e1, e2, h1]
      · show Sm Rel (bitP M1 s.t (a + s.m) w).2 (bitP M2 q.t (a + q.m) w').2
        rw [e1]
        exact h2
theorem tgStep_fut (S : Simu M1 ok M2 Rel Fut Dead) {L k a i : Nat} {w : Int} {s : Tg σ} (ht : PmOk ok L (k + 1) s.t) (ha : a + s.m < L) (hw : M1.may w) (hf : Fut (tgStep M1 a i w s).t.x) : Fut s.t.x := bitP_fut S ht ha hw hf

theorem treeG_sim (S : Simu M1 ok M2 Rel Fut Dead) {L k a n : Nat} {v v' : Int} {t : Pm σ} {u : Pm τ} (ht : PmOk ok L (k + n) t) (ha : a + 2 ^ n ≤ L) (hv : M1.mayN v) :
    ∀ j, j ≤ n → Fut (treeG M1 t a n v j).t.x → Fut t.x ∧ (Lk Rel Dead t u → EqG Rel Dead (treeG M1 t a n v j) (treeG M2 u a n v' j))
  | 0, _ => fun hf => ⟨hf, fun hq => by
    rcases hq with h | h
    · exact .inl h
    · exact .inr ⟨rfl, rfl, h⟩⟩
  | j + 1, hj => fun hf => by
    obtain ⟨h1, h2, h3⟩ := treeG_ok S.okm ht ha hv j (by omega)
    have hp : 2 ^ (j + 1) ≤ 2 ^ n := Nat.pow_le_pow_right (by omega) hj
    have h1' : PmOk ok L (k + n - (j + 1) + 1) (treeG M1 t a n v j).t := by rw [show k + n - (j + 1) + 1 = k + n - j by omega]; exact h1
    have hm := want_may hv (n - 1 - j)
    have hf' := tgStep_fut S h1' (by omega) hm hf
    obtain ⟨g1, g2⟩ := treeG_sim S ht ha hv j (by omega) hf'
    exact ⟨g1, fun hq => tgStep_sim S h1' (by omega) hm hf (g2 hq)⟩
theorem treeP_sim (S : Simu M1 ok M2 Rel Fut Dead) {L k a n : Nat} {v v' : Int} {t : Pm σ} {u : Pm τ} (ht : PmOk ok L (k + n) t) (ha : a + 2 ^ n ≤ L) (hv : M1.mayN v) (hf : Fut (treeP M1 t a n v).2.x) :
    Fut t.x ∧ (Lk Rel Dead t u → Eqv Rel Dead (treeP M1 t a n v) (treeP M2 u a n v')) := by
  obtain ⟨g1, g2⟩ := treeG_sim S (u := u) (v' := v') ht ha hv n (Nat.le_refl _) hf
  refine ⟨g1, fun hq => ?_⟩
  rcases g2 hq with h | ⟨e1, _, e3⟩
  · exact .inl h
  · right
    refine ⟨?_, e3⟩
    show (treeG M2 u a n v' n).m - 2 ^ n = (treeG M1 t a n v n).m - 2 ^ n
    rw [e1]
theorem revG_sim (S : Simu M1 ok M2 Rel Fut Dead) {L k a n : Nat} {v v' : Int} {t : Pm σ} {u : Pm τ} (ht : PmOk ok L (k + n) t) (ha : a + 2 ^ n ≤ L) (hv : M1.mayN v) :
    ∀ j, j ≤ n → Fut (revG M1 t a v j).t.x → Fut t.x ∧ (Lk Rel Dead t u → EqG Rel Dead (revG M1 t a v j) (revG M2 u a v' j))
  | 0, _ => fun hf => ⟨hf, fun hq => by
    rcases hq with h | h
    · exact .inl h
    · exact .inr ⟨rfl, rfl, h⟩⟩
  | j + 1, hj => fun hf => by
    obtain ⟨h1, h2, h3, _⟩ := revG_ok S.okm ht ha hv j (by omega)
    have hp : 2 ^ (j + 1) ≤ 2 ^ n := Nat.pow_le_pow_right (by omega) hj
    have h1' : PmOk ok L (k + n - (j + 1) + 1) (revG M1 t a v j).t := by rw [show k + n - (j + 1) + 1 = k + n - j by omega]; exact h1
    have hm := want_may hv j
    have hf' := tgStep_fut S h1' (by omega) hm hf
    obtain ⟨g1, g2⟩ := revG_sim S ht ha hv j (by omega) hf'
    exact ⟨g1, fun hq => tgStep_sim S h1' (by omega) hm hf (g2 hq)⟩
theorem revP_sim (S : Simu M1 ok M2 Rel Fut Dead) {L k a n : Nat} {v v' : Int} {t : Pm σ} {u : Pm τ} (ht : PmOk ok L (k + n) t) (ha : a + 2 ^ n ≤ L) (hv : M1.mayN v) (hf : Fut (revP M1 t a n v).2.x) :
    Fut t.x ∧ (Lk Rel Dead t u → Eqv Rel Dead (revP M1 t a n v) (revP M2 u a n v')) := by
  obtain ⟨g1, g2⟩ := revG_sim S (u := u) (v' := v') ht ha hv n (Nat.le_refl _) hf
  refine ⟨g1, fun hq => ?_⟩
  rcases g2 hq with h | ⟨_, e2, e3⟩
  · exact .inl h
  · exact .inr ⟨e2, e3⟩

theorem lenP_sim (S : Simu M1 ok M2 Rel Fut Dead) {L k a s : Nat} {v v' : Int} {t : Pm σ} {u : Pm τ} (ht : PmOk ok L (k + 10) t) (ha : a + 514 ≤ L) (hs : s ≤ 15) (hv : M1.mayN v) (hf : Fut (lenP M1 t a s v).2.x) :
    Fut t.x ∧ (Lk Rel Dead t u → Eqv Rel Dead (lenP M1 t a s v) (lenP M2 u a s v')) := by
  have m8 : M1.may (min (v.tdiv 8) 1) := may_min (c := 8) (by decide) hv
  have m16 : M1.may (min (v.tdiv 16) 1) := may_min (c := 16) (by decide) hv
  obtain ⟨b1, p1⟩ := bitP_ok S.okm (k := k + 9) ht (show a < L by omega) m8
  have key : ∀ w : Int, Fut (bitP M1 t a (min (v.tdiv 8) 1)).2.x ∧ (Lk Rel Dead t u → Eqv Rel Dead (bitP M1 t a (min (v.tdiv 8) 1)) (bitP M2 u a w) → Eqv Rel Dead (lenP M1 t a s v) (lenA M2 (bitP M2 u a w) a s v')) := by
    intro w
    unfold lenP lenA at hf
    unfold lenP
    by_cases h0 : (bitP M1 t a (min (v.tdiv 8) 1)).1 = 0
    · rw [if_pos h0] at hf
      obtain ⟨g1, g2⟩ := treeP_sim S (u := (bitP M2 u a w).2) (v' := v') (k := k) (p1.mono S.okm (show k + 3 ≤ k + 9 by omega)) (show a + 2 + 8 * s + 2 ^ 3 ≤ L by omega) hv hf
      refine ⟨g1, fun _ he => ?_⟩
      rcases he with hd | ⟨e1, e2⟩
      · exact .inl (lenA_dead S.dbit hd)
      · unfold lenA
        rw [if_pos h0, if_pos (by rw [e1]; exact h0)]
        exact g2 (.inr e2)
    · rw [if_neg h0] at hf
      have hv8 := may_less S.okm (by decide) hv h0
      obtain ⟨b2, p2⟩ := bitP_ok S.okm (k := k + 8) p1 (show a + 1 < L by omega) m16
      unfold lenB at hf
      by_cases h2 : (bitP M1 (bitP M1 t a (min (v.tdiv 8) 1)).2 (a + 1) (min (v.tdiv 16) 1)).1 = 0
      · rw [if_pos h2] at hf
        obtain ⟨g1, g2⟩ := treeP_sim S (u := (bitP M2 (bitP M2 u a w).2 (a + 1) (min (v'.tdiv 16) 1)).2) (v' := v' - 8) (k := k) (p2.mono S.okm (show k + 3 ≤ k + 8 by omega)) (show a + 130 + 8 * s + 2 ^ 3 ≤ L by omega) hv8 hf
        refine ⟨bitP_fut S p1 (by omega) m16 g1, fun _ he => ?_⟩
        rcases he with hd | ⟨e1, e2⟩
        · exact .inl (lenA_dead S.dbit hd)
        · have e3 := bitP_sim S (w' := min (v'.tdiv 16) 1) p1 (show a + 1 < L by omega) m16 g1 (.inr e2)
          unfold lenA
          rw [if_neg h0, if_neg (by rw [e1]; exact h0)]
          unfold lenB
          rcases e3 with hd | ⟨e4, e5⟩
          · left
            split
            · exact treeG_dead (M2 := M2) (Dead := Dead) S.dbit (u := (bitP M2 (bitP M2 u a w).2 (a + 1) (min (v'.tdiv 16) 1)).2) hd _
            · exact treeG_dead (M2 := M2) (Dead := Dead) S.dbit (u := (bitP M2 (bitP M2 u a w).2 (a + 1) (min (v'.tdiv 16) 1)).2) hd _
          · rw [if_pos h2, if_pos (by rw [e4]; exact h2)]
            rcases g2 (.inr e5) with hd | ⟨e6, e7⟩
            · exact .inl hd
            · exact .inr ⟨by dsimp only; rw [e6], e7⟩
      · rw [if_neg h2] at hf
        have hv16 := may_less S.okm (by decide) hv h2
        obtain ⟨g1, g2⟩ := treeP_sim S (u := (bitP M2 (bitP M2 u a w).2 (a + 1) (min (v'.tdiv 16) 1)).2) (v' := v' - 16) (k := k) p2 (show a + 258 + 2 ^ 8 ≤ L by omega) hv16 hf
        refine ⟨bitP_fut S p1 (by omega) m16 g1, fun _ he => ?_⟩
        rcases he with hd | ⟨e1, e2⟩
        · exact .inl (lenA_dead S.dbit hd)
        · have e3 := bitP_sim S (w' := min (v'.tdiv 16) 1) p1 (show a + 1 < L by omega) m16 g1 (.inr e2)
          unfold lenA
          rw [if_neg h0, if_neg (by rw [e1]; exact h0)]
          unfold lenB
          rcases e3 with hd | ⟨e4, e5⟩
          · left
            split
            · exact treeG_dead (M2 := M2) (Dead := Dead) S.dbit (u := (bitP M2 (bitP M2 u a w).2 (a + 1) (min (v'.tdiv 16) 1)).2) hd _
            · exact treeG_dead (M2 := M2) (Dead := Dead) S.dbit (u := (bitP M2 (bitP M2 u a w).2 (a + 1) (min (v'.tdiv 16) 1)).2) hd _
          · rw [if_neg h2, if_neg (by rw [e4]; exact h2)]
            rcases g2 (.inr e5) with hd | ⟨e6, e7⟩
            · exact .inl hd
            · exact .inr ⟨by dsimp only; rw [e6], e7⟩
  have hb := (key (min (v'.tdiv 8) 1)).1
  exact ⟨bitP_fut S (k := k + 9) ht (by omega) m8 hb, fun hq => (key (min (v'.tdiv 8) 1)).2 hq (bitP_sim S (k := k + 9) ht (by omega) m8 hb hq)⟩
end
end Go.Proofs.Ytjgdjobhhdhfjaa
