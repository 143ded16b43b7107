/-
  LzSim2, LzSim3: put together.
-/
import Derived.Test.YtjgdjobhhdhfjaaFa21
set_option linter.unusedVariables false
set_option linter.unusedSimpArgs false
/-
  Two machines go one way: literals, distances, kinds.
-/
namespace Go.Proofs.Ytjgdjobhhdhfjaa

section
variable {σ τ : Type} {M1 : Mach σ} {M2 : Mach τ} {ok : Nat → σ → Prop} {Rel : σ → τ → Prop} {Fut : σ → Prop} {Dead : τ → Prop}

def EqL (Rel : σ → τ → Prop) (Dead : τ → Prop) (r : Lg σ) (q : Lg τ) : Prop := Dead q.t.x ∨ (q.m = r.m ∧ q.same = r.same ∧ Sm Rel r.t q.t)
theorem lgStep_sim (S : Simu M1 ok M2 Rel Fut Dead) {L k a j y b : Nat} {b' : Int} {s : Lg σ} {q : Lg τ} (ht : PmOk ok L (k + 1) s.t) (ha : a + 768 ≤ L) (h0 : s.m < 2 ^ (j + 1)) (hj : j < 8) (hy : y ≤ 1) (hb : b ≤ 1) (hf : Fut (lgStep M1 a (y : Int) (b : Int) s).t.x) :
    Fut s.t.x ∧ (EqL Rel Dead s q → EqL Rel Dead (lgStep M1 a (y : Int) (b : Int) s) (lgStep M2 a (y : Int) b' q)) := by
  have hp : 2 ^ (j + 1) ≤ 256 := Nat.le_trans (Nat.pow_le_pow_right (by omega) (show j + 1 ≤ 8 by omega)) (by decide)
  have hm : M1.may (b : Int) := fun _ => by omega
  have hdead : Dead q.t.x → Dead (lgStep M2 a (y : Int) b' q).t.x := fun hd => by
    unfold lgStep
    split
    · exact bit_dead S.dbit hd
    · exact bit_dead S.dbit hd
  unfold lgStep at hf
  by_cases hs : s.same = true
  · rw [if_pos hs] at hf
    have hl : a + 256 * (1 + (y : Int).toNat) + s.m < L := by rw [Int.toNat_natCast]; omega
    have hf' := bitP_fut S ht hl hm hf
    refine ⟨hf', fun hq => ?_⟩
    rcases hq with hd | ⟨e1, e2, e3⟩
    · exact .inl (hdead hd)
    · unfold lgStep
      rw [if_pos hs, if_pos (by rw [e2]; exact hs), e1]
      rcases bitP_sim S (w' := b') ht hl hm hf (.inr e3) with hd | ⟨h1, h2⟩
      · exact .inl hd
      · exact .inr ⟨by dsimp only; rw [h1], by dsimp only; rw [h1], h2⟩
  · rw [if_neg hs] at hf
    have hf' := bitP_fut S ht (show a + s.m < L by omega) hm hf
    refine ⟨hf', fun hq => ?_⟩
    rcases hq with hd | ⟨e1, e2, e3⟩
    · exact .inl (hdead hd)
    · unfold lgStep
      rw [if_neg hs, if_neg (by rw [e2]; exact hs), e1]
      rcases bitP_sim S (w' := b') ht (show a + s.m < L by omega) hm hf (.inr e3) with hd | ⟨h1, h2⟩
      · exact .inl hd
      · exact .inr ⟨by dsimp only; rw [h1], rfl, h2⟩
theorem litG_sim (S : Simu M1 ok M2 Rel Fut Dead) {L k a : Nat} {o v v' : UInt8} {same : Bool} {t : Pm σ} {u : Pm τ} (ht : PmOk ok L (k + 8) t) (ha : a + 768 ≤ L) :
    ∀ j, j ≤ 8 → Fut (litG M1 t a o v same j).t.x → Fut t.x ∧ (Lk Rel Dead t u → EqL Rel Dead (litG M1 t a o v same j) (litG M2 u a o v' same j))
  | 0, _ => fun hf => ⟨hf, fun hq => by
    rcases hq with h | h
    · exact .inl h
    · exact .inr ⟨rfl, rfl, h⟩⟩
  | j + 1, hj => fun hf => by
    obtain ⟨h1, h2, h3⟩ := litG_ok S.okm (o := o) (v := v) (same := same) ht ha j (by omega)
    obtain ⟨y, hy, hy1⟩ := want_byte o (7 - j)
    obtain ⟨b, hb, hb1⟩ := want_byte v (7 - j)
    have hf : Fut (lgStep M1 a (want (o.toNat : Int) (7 - j)) (want (v.toNat : Int) (7 - j)) (litG M1 t a o v same j)).t.x := hf
    show Fut t.x ∧ (Lk Rel Dead t u → EqL Rel Dead (lgStep M1 a (want (o.toNat : Int) (7 - j)) (want (v.toNat : Int) (7 - j)) (litG M1 t a o v same j)) (lgStep M2 a (want (o.toNat : Int) (7 - j)) (want (v'.toNat : Int) (7 - j)) (litG M2 u a o v' same j)))
    rw [hy, hb] at hf ⊢
    obtain ⟨g1, g2⟩ := lgStep_sim S (q := litG M2 u a o v' same j) (b' := want (v'.toNat : Int) (7 - j)) (k := k + 8 - (j + 1)) (j := j) (by rw [show k + 8 - (j + 1) + 1 = k + 8 - j by omega]; exact h1) ha h3 (by omega) hy1 hb1 hf
    obtain ⟨i1, i2⟩ := litG_sim S (u := u) (v' := v') ht ha j (by omega) g1
    exact ⟨i1, fun hq => g2 (i2 hq)⟩
theorem litP_sim (S : Simu M1 ok M2 Rel Fut Dead) {L k : Nat} {z : Lzs} {v v' : UInt8} {t : Pm σ} {u : Pm τ} (ht : PmOk ok L (k + 8) t) (ha : litAt z + 768 ≤ L) (hf : Fut (litP M1 z t v).2.x) :
    Fut t.x ∧ (Lk Rel Dead t u → Eqv Rel Dead (litP M1 z t v) (litP M2 z u v')) := by
  obtain ⟨g1, g2⟩ := litG_sim S (u := u) (v' := v') (o := z.back z.r0) (v := v) (same := decide (7 ≤ z.st)) ht ha 8 (Nat.le_refl _) hf
  refine ⟨g1, fun hq => ?_⟩
  rcases g2 hq with h | ⟨e1, _, e3⟩
  · exact .inl h
  · exact .inr ⟨e1, e3⟩

theorem distP_sim (S : Simu M1 ok M2 Rel Fut Dead) {L k l v v' : Nat} {t : Pm σ} {u : Pm τ} (ht : PmOk ok L (k + 12) t) (hL0 : 1847 ≤ L) (hv : v < 4294967296) (hf : Fut (distP M1 t l v).2.x) :
    Fut t.x ∧ (Lk Rel Dead t u → Eqv Rel Dead (distP M1 t l v) (distP M2 u l v')) := by
  obtain ⟨s1, s2, s3⟩ := slot_spec hv
  obtain ⟨a, ha⟩ : ∃ a, a = 432 + 64 * min l 3 := ⟨_, rfl⟩
  have hmv : M1.mayN ((slotOf v : Nat) : Int) := fun _ => by omega
  have hT := treeP_ok S.okm (k := k + 6) (n := 6) (a := a) (v := ((slotOf v : Nat) : Int)) (t := t) ht (by show a + 64 ≤ L; omega) hmv
  have htell : M1.enc = true → (treeP M1 t a 6 ((slotOf v : Nat) : Int)).1 = slotOf v := fun he => treeP_tell S.okm he s1
  have hdef : distP M1 t l v = distB M1 (treeP M1 t a 6 ((slotOf v : Nat) : Int)) v := by rw [ha]; rfl
  have hdef2 : distP M2 u l v' = distB M2 (treeP M2 u a 6 ((slotOf v' : Nat) : Int)) v' := by rw [ha]; rfl
  have hTS := fun hf => treeP_sim S (u := u) (v' := ((slotOf v' : Nat) : Int)) (k := k + 6) (n := 6) (a := a) (v := ((slotOf v : Nat) : Int)) (t := t) ht (by show a + 64 ≤ L; omega) hmv hf
  rw [hdef] at hf
  rw [hdef, hdef2]
  generalize treeP M1 t a 6 ((slotOf v : Nat) : Int) = sl at *
  generalize treeP M2 u a 6 ((slotOf v' : Nat) : Int) = sq at *
  have hs64 : sl.1 < 64 := hT.1
  have hp1 := hT.2
  have key : Fut sl.2.x ∧ (Eqv Rel Dead sl sq → Eqv Rel Dead (distB M1 sl v) (distB M2 sq v')) := by
    have hdead : Dead sq.2.x → Dead (distB M2 sq v').2.x := fun hd => distB_dead S.dbit S.dstr hd
    unfold distB at hf
    by_cases h4 : sl.1 < 4
    · rw [if_pos h4] at hf
      refine ⟨hf, fun he => ?_⟩
      rcases he with hd | ⟨e1, e2⟩
      · exact .inl (hdead hd)
      · unfold distB
        rw [if_pos h4, if_pos (by rw [e1]; exact h4)]
        exact .inr ⟨e1, e2⟩
    rw [if_neg h4] at hf
    obtain ⟨n, hn⟩ : ∃ n, n = sl.1 / 2 - 1 := ⟨_, rfl⟩
    obtain ⟨r, hr⟩ : ∃ r, r = sl.1 % 2 := ⟨_, rfl⟩
    obtain ⟨P, hP⟩ : ∃ P, P = 2 ^ n := ⟨_, rfl⟩
    obtain ⟨base, hb⟩ : ∃ b, b = (2 + r) * P := ⟨_, rfl⟩
    have hn30 : n ≤ 30 := by omega
    have hP30 : P ≤ 2 ^ 30 := by rw [hP]; exact pow_le_of hn30
    have hb3 : base ≤ 3 * P := by rw [hb]; exact Nat.mul_le_mul_right P (by omega)
    have hspec : M1.enc = true → base ≤ v ∧ v < base + P := fun he => by
      have h1 := htell he
      have h2 := s3 (by omega)
      rw [← h1, ← hn, ← hr, ← hP, ← hb] at h2
      exact h2
    by_cases h14 : sl.1 < 14
    · rw [if_pos h14, ← hn, ← hr, ← hP, ← hb] at hf
      obtain ⟨c1, c2, c3⟩ := special_in ⟨sl.1, h14⟩ (by show 4 ≤ sl.1; omega)
      dsimp only at c1 c2 c3
      rw [← hn, ← hr, ← hP, ← hb] at c1
      rw [← hn] at c3
      have hmu : M1.mayN ((v : Int) - (base : Int)) := fun he => by have := (hspec he).1; omega
      obtain ⟨g1, g2⟩ := revP_sim S (u := sq.2) (v' := (v' : Int) - (base : Int)) (k := k) (n := n) (a := 688 + base - sl.1) (v := (v : Int) - (base : Int)) (hp1.mono S.okm (show k + n ≤ k + 6 by omega)) (by rw [← hP]; omega) hmu hf
      refine ⟨g1, fun he => ?_⟩
      rcases he with hd | ⟨e1, e2⟩
      · exact .inl (hdead hd)
      · have eA : distB M1 sl v = (base + (revP M1 sl.2 (688 + base - sl.1) n ((v : Int) - (base : Int))).1, (revP M1 sl.2 (688 + base - sl.1) n ((v : Int) - (base : Int))).2) := by unfold distB; rw [if_neg h4, if_pos h14, ← hn, ← hr, ← hP, ← hb]
        have eB : distB M2 sq v' = (base + (revP M2 sq.2 (688 + base - sl.1) n ((v' : Int) - (base : Int))).1, (revP M2 sq.2 (688 + base - sl.1) n ((v' : Int) - (base : Int))).2) := by unfold distB; rw [e1, if_neg h4, if_pos h14, ← hn, ← hr, ← hP, ← hb]
        rw [eA, eB]
        rcases g2 (.inr e2) with hd | ⟨e3, e4⟩
        · exact .inl hd
        · exact .inr ⟨by dsimp only; rw [e3], e4⟩
    · rw [if_neg h14, ← hn, ← hr, ← hP, ← hb] at hf
      have hn5 : 6 ≤ n := by omega
      obtain ⟨rest, hrest⟩ : ∃ x, x = (v + 4294967296 - base) % 4294967296 / 16 := ⟨_, rfl⟩
      obtain ⟨P4, hP4⟩ : ∃ P, P = 2 ^ (n - 4) := ⟨_, rfl⟩
      have hPP : P = 16 * P4 := by rw [hP, hP4, show (16 : Nat) = 2 ^ 4 from rfl, ← Nat.pow_add, show 4 + (n - 4) = n by omega]
      have hst : M1.enc = true → rest < 2 ^ (n - 4) := fun he => by
        have := hspec he
        rw [← hP4]
        omega
      rw [← hrest] at hf
      have hS := S.okm.str (k := k + 5) (n := n - 4) (v := rest) hp1.x (by omega) hst
      unfold distC at hf
      have hmr : M1.mayN ((v % 16 : Nat) : Int) := fun _ => by omega
      have hp2 : PmOk ok L (k + 5) (⟨sl.2.ps, (M1.str sl.2.x (n - 4) rest).2⟩ : Pm σ) := ⟨hp1.ps, hp1.len, hS.2⟩
      obtain ⟨rest', hrest'⟩ : ∃ x, x = (v' + 4294967296 - base) % 4294967296 / 16 := ⟨_, rfl⟩
      obtain ⟨g1, g2⟩ := revP_sim S (u := ⟨sq.2.ps, (M2.str sq.2.x (n - 4) rest').2⟩) (v' := ((v' % 16 : Nat) : Int)) (k := k) (n := 4) (a := 803) (v := ((v % 16 : Nat) : Int)) (hp2.mono S.okm (show k + 4 ≤ k + 5 by omega)) (by show 803 + 16 ≤ L; omega) hmr hf
      have hf0 := S.fstr (k := k + 5) hp1.x g1
      refine ⟨hf0, fun he => ?_⟩
      rcases he with hd | ⟨e1, e2⟩
      · exact .inl (hdead hd)
      · have eA : distB M1 sl v = distC M1 (M1.str sl.2.x (n - 4) rest) sl.2.ps base v := by unfold distB; rw [if_neg h4, if_neg h14, ← hn, ← hr, ← hP, ← hb, ← hrest]
        have eB : distB M2 sq v' = distC M2 (M2.str sq.2.x (n - 4) rest') sq.2.ps base v' := by unfold distB; rw [e1, if_neg h4, if_neg h14, ← hn, ← hr, ← hP, ← hb, ← hrest']
        rw [eA, eB]
        unfold distC
        rcases S.str (v' := rest') (k := k + 5) hp1.x (by omega) hst e2.2 g1 with hd | ⟨e3, e4⟩
        · exact .inl (revP_dead (M2 := M2) (Dead := Dead) S.dbit (u := ⟨sq.2.ps, (M2.str sq.2.x (n - 4) rest').2⟩) hd)
        · rcases g2 (.inr ⟨e2.1, e4⟩) with hd | ⟨e5, e6⟩
          · exact .inl hd
          · exact .inr ⟨by dsimp only; rw [e5, e3], e6⟩
  have hf2 := hTS key.1
  exact ⟨hf2.1, fun hq => key.2 (hf2.2 hq)⟩

/-! ### kinds -/
def EqK (Rel : σ → τ → Prop) (Dead : τ → Prop) (r : Nat × Bool × Pm σ) (q : Nat × Bool × Pm τ) : Prop := Dead q.2.2.x ∨ (q.1 = r.1 ∧ q.2.1 = r.2.1 ∧ Sm Rel r.2.2 q.2.2)
def CK (ok : Nat → σ → Prop) (Rel : σ → τ → Prop) (Fut : σ → Prop) (Dead : τ → Prop) (L k : Nat) (C1 : Nat × Pm σ → Nat × Bool × Pm σ) (C2 : Nat × Pm τ → Nat × Bool × Pm τ) : Prop :=
  ∀ b q, PmOk ok L k b.2 → Fut (C1 b).2.2.x → Fut b.2.x ∧ (Eqv Rel Dead b q → EqK Rel Dead (C1 b) (C2 q))
theorem ck_bit (S : Simu M1 ok M2 Rel Fut Dead) {L k a : Nat} {w w' : Int} {C1 : Nat × Pm σ → Nat × Bool × Pm σ} {C2 : Nat × Pm τ → Nat × Bool × Pm τ} (hC : CK ok Rel Fut Dead L k C1 C2) {t : Pm σ} {u : Pm τ} (ht : PmOk ok L (k + 1) t) (ha : a < L) (hw : M1.may w)
    (hf : Fut (C1 (bitP M1 t a w)).2.2.x) : Fut t.x ∧ (Lk Rel Dead t u → EqK Rel Dead (C1 (bitP M1 t a w)) (C2 (bitP M2 u a w'))) := by
  have hb := (bitP_ok S.okm ht ha hw).2
  have g1 := (hC _ (bitP M2 u a w') hb hf).1
  exact ⟨bitP_fut S ht ha hw g1, fun hq => (hC _ _ hb hf).2 (bitP_sim S ht ha hw g1 hq)⟩
theorem ck_kd5 {L k : Nat} : CK ok Rel Fut Dead L k kd5 kd5 := fun b q _ hf => ⟨hf, fun he => by
  rcases he with hd | ⟨e1, e2⟩
  · exact .inl hd
  · refine .inr ⟨?_, rfl, e2⟩
    show (if q.1 = 0 then 4 else 5) = (if b.1 = 0 then 4 else 5)
    rw [e1]⟩
theorem ck_kdL {L k : Nat} : CK ok Rel Fut Dead L k kdL kdL := fun b q _ hf => ⟨hf, fun he => by
  rcases he with hd | ⟨e1, e2⟩
  · exact .inl hd
  · refine .inr ⟨?_, rfl, e2⟩
    show (if q.1 = 0 then 6 else 2) = (if b.1 = 0 then 6 else 2)
    rw [e1]⟩
theorem ck_kd4 (S : Simu M1 ok M2 Rel Fut Dead) {L k st : Nat} {kd kd' : Int} (hL : 1847 ≤ L) (hst : st ≤ 11) : CK ok Rel Fut Dead L (k + 1) (fun b => kd4 M1 b st kd) (fun q => kd4 M2 q st kd') := fun b q hb hf => by
  dsimp only at hf ⊢
  by_cases h0 : b.1 = 0
  · have e : kd4 M1 b st kd = (3, false, b.2) := if_pos h0
    rw [e] at hf ⊢
    refine ⟨hf, fun he => ?_⟩
    rcases he with hd | ⟨e1, e2⟩
    · left
      unfold kd4
      split
      · exact hd
      · exact bit_dead (M2 := M2) S.dbit (u := q.2) (a := 228 + st) (w := chI (kd' = 4)) hd
    · have e' : kd4 M2 q st kd' = (3, false, q.2) := if_pos (by rw [e1]; exact h0)
      rw [e']
      exact .inr ⟨rfl, rfl, e2⟩
  · have e : kd4 M1 b st kd = kd5 (bitP M1 b.2 (228 + st) (chI (kd = 4))) := if_neg h0
    rw [e] at hf ⊢
    obtain ⟨g1, g2⟩ := ck_bit S (w' := chI (kd' = 4)) (u := q.2) (ck_kd5 (L := L) (k := k)) hb (show 228 + st < L by omega) (chI_may _) hf
    refine ⟨g1, fun he => ?_⟩
    rcases he with hd | ⟨e1, e2⟩
    · left
      unfold kd4
      split
      · exact hd
      · exact bit_dead (M2 := M2) S.dbit (u := q.2) (a := 228 + st) (w := chI (kd' = 4)) hd
    · have e' : kd4 M2 q st kd' = kd5 (bitP M2 q.2 (228 + st) (chI (kd' = 4))) := if_neg (by rw [e1]; exact h0)
      rw [e']
      exact g2 (.inr e2)
theorem kd3_dead (S : Simu M1 ok M2 Rel Fut Dead) {q : Nat × Pm τ} {st s : Nat} {kd : Int} (hd : Dead q.2.x) : Dead (kd3 M2 q st s kd).2.2.x := by
  unfold kd3
  split
  · exact bit_dead (M2 := M2) S.dbit (u := q.2) (a := 240 + 16 * st + s) (w := chI (kd = 6)) hd
  · unfold kd4
    split
    · exact bit_dead (M2 := M2) S.dbit (u := q.2) (a := 216 + st) (w := chI (kd = 3)) hd
    · exact bit_dead (M2 := M2) S.dbit (u := (bitP M2 q.2 (216 + st) (chI (kd = 3))).2) (a := 228 + st) (w := chI (kd = 4)) (bit_dead (M2 := M2) S.dbit (u := q.2) (a := 216 + st) (w := chI (kd = 3)) hd)
theorem ck_kd3 (S : Simu M1 ok M2 Rel Fut Dead) {L k st s : Nat} {kd kd' : Int} (hL : 1847 ≤ L) (hst : st ≤ 11) (hs : s ≤ 15) : CK ok Rel Fut Dead L (k + 2) (fun b => kd3 M1 b st s kd) (fun q => kd3 M2 q st s kd') := fun b q hb hf => by
  dsimp only at hf ⊢
  by_cases h0 : b.1 = 0
  · have e : kd3 M1 b st s kd = kdL (bitP M1 b.2 (240 + 16 * st + s) (chI (kd = 6))) := if_pos h0
    rw [e] at hf ⊢
    obtain ⟨g1, g2⟩ := ck_bit S (w' := chI (kd' = 6)) (u := q.2) (ck_kdL (L := L) (k := k + 1)) hb (show 240 + 16 * st + s < L by omega) (chI_may _) hf
    refine ⟨g1, fun he => ?_⟩
    rcases he with hd | ⟨e1, e2⟩
    · exact .inl (kd3_dead S hd)
    · have e' : kd3 M2 q st s kd' = kdL (bitP M2 q.2 (240 + 16 * st + s) (chI (kd' = 6))) := if_pos (by rw [e1]; exact h0)
      rw [e']
      exact g2 (.inr e2)
  · have e : kd3 M1 b st s kd = kd4 M1 (bitP M1 b.2 (216 + st) (chI (kd = 3))) st kd := if_neg h0
    rw [e] at hf ⊢
    obtain ⟨g1, g2⟩ := ck_bit S (w' := chI (kd' = 3)) (u := q.2) (ck_kd4 S (L := L) (k := k) (st := st) (kd := kd) (kd' := kd') hL hst) hb (show 216 + st < L by omega) (chI_may _) hf
    refine ⟨g1, fun he => ?_⟩
    rcases he with hd | ⟨e1, e2⟩
    · exact .inl (kd3_dead S hd)
    · have e' : kd3 M2 q st s kd' = kd4 M2 (bitP M2 q.2 (216 + st) (chI (kd' = 3))) st kd' := if_neg (by rw [e1]; exact h0)
      rw [e']
      exact g2 (.inr e2)
theorem kd2_dead (S : Simu M1 ok M2 Rel Fut Dead) {q : Nat × Pm τ} {em : Bool} {st s : Nat} {kd : Int} (hd : Dead q.2.x) : Dead (kd2 M2 q em st s kd).2.2.x := by
  unfold kd2
  split
  · exact hd
  split
  · exact hd
  · exact kd3_dead S (bit_dead (M2 := M2) S.dbit (u := q.2) (a := 204 + st) (w := chI (kd = 2 ∨ kd = 6)) hd)
theorem ck_kd2 (S : Simu M1 ok M2 Rel Fut Dead) {L k st s : Nat} {em : Bool} {kd kd' : Int} (hL : 1847 ≤ L) (hst : st ≤ 11) (hs : s ≤ 15) : CK ok Rel Fut Dead L (k + 3) (fun b => kd2 M1 b em st s kd) (fun q => kd2 M2 q em st s kd') := fun b q hb hf => by
  dsimp only at hf ⊢
  by_cases h0 : b.1 = 0
  · have e : kd2 M1 b em st s kd = (1, false, b.2) := if_pos h0
    rw [e] at hf ⊢
    refine ⟨hf, fun he => ?_⟩
    rcases he with hd | ⟨e1, e2⟩
    · exact .inl (kd2_dead S hd)
    · have e' : kd2 M2 q em st s kd' = (1, false, q.2) := if_pos (by rw [e1]; exact h0)
      rw [e']
      exact .inr ⟨rfl, rfl, e2⟩
  · by_cases hem : em = true
    · have e : kd2 M1 b em st s kd = (6, true, b.2) := by unfold kd2; rw [if_neg h0, if_pos hem]
      rw [e] at hf ⊢
      refine ⟨hf, fun he => ?_⟩
      rcases he with hd | ⟨e1, e2⟩
      · exact .inl (kd2_dead S hd)
      · have e' : kd2 M2 q em st s kd' = (6, true, q.2) := by unfold kd2; rw [if_neg (by rw [e1]; exact h0), if_pos hem]
        rw [e']
        exact .inr ⟨rfl, rfl, e2⟩
    · have e : kd2 M1 b em st s kd = kd3 M1 (bitP M1 b.2 (204 + st) (chI (kd = 2 ∨ kd = 6))) st s kd := by unfold kd2; rw [if_neg h0, if_neg hem]
      rw [e] at hf ⊢
      obtain ⟨g1, g2⟩ := ck_bit S (w' := chI (kd' = 2 ∨ kd' = 6)) (u := q.2) (ck_kd3 S (L := L) (k := k) (st := st) (s := s) (kd := kd) (kd' := kd') hL hst hs) hb (show 204 + st < L by omega) (chI_may _) hf
      refine ⟨g1, fun he => ?_⟩
      rcases he with hd | ⟨e1, e2⟩
      · exact .inl (kd2_dead S hd)
      · have e' : kd2 M2 q em st s kd' = kd3 M2 (bitP M2 q.2 (204 + st) (chI (kd' = 2 ∨ kd' = 6))) st s kd' := by unfold kd2; rw [if_neg (by rw [e1]; exact h0), if_neg hem]
        rw [e']
        exact g2 (.inr e2)
theorem ck_kd1 (S : Simu M1 ok M2 Rel Fut Dead) {L k st s : Nat} {em : Bool} {kd kd' : Int} (hL : 1847 ≤ L) (hst : st ≤ 11) (hs : s ≤ 15) : CK ok Rel Fut Dead L (k + 4) (fun b => kd1 M1 b em st s kd) (fun q => kd1 M2 q em st s kd') := fun b q hb hf => by
  dsimp only at hf ⊢
  have hdd : Dead q.2.x → Dead (kd1 M2 q em st s kd').2.2.x := fun hd => by
    unfold kd1
    split
    · exact hd
    · exact kd2_dead S (bit_dead (M2 := M2) S.dbit (u := q.2) (a := 192 + st) (w := chI (kd' = 1 ∨ kd' = 7)) hd)
  by_cases h0 : b.1 = 0
  · have e : kd1 M1 b em st s kd = (0, false, b.2) := if_pos h0
    rw [e] at hf ⊢
    refine ⟨hf, fun he => ?_⟩
    rcases he with hd | ⟨e1, e2⟩
    · exact .inl (hdd hd)
    · have e' : kd1 M2 q em st s kd' = (0, false, q.2) := if_pos (by rw [e1]; exact h0)
      rw [e']
      exact .inr ⟨rfl, rfl, e2⟩
  · have e : kd1 M1 b em st s kd = kd2 M1 (bitP M1 b.2 (192 + st) (chI (kd = 1 ∨ kd = 7))) em st s kd := if_neg h0
    rw [e] at hf ⊢
    obtain ⟨g1, g2⟩ := ck_bit S (w' := chI (kd' = 1 ∨ kd' = 7)) (u := q.2) (ck_kd2 S (L := L) (k := k) (st := st) (s := s) (em := em) (kd := kd) (kd' := kd') hL hst hs) hb (show 192 + st < L by omega) (chI_may _) hf
    refine ⟨g1, fun he => ?_⟩
    rcases he with hd | ⟨e1, e2⟩
    · exact .inl (hdd hd)
    · have e' : kd1 M2 q em st s kd' = kd2 M2 (bitP M2 q.2 (192 + st) (chI (kd' = 1 ∨ kd' = 7))) em st s kd' := if_neg (by rw [e1]; exact h0)
      rw [e']
      exact g2 (.inr e2)
theorem kindP_sim (S : Simu M1 ok M2 Rel Fut Dead) {L k st s : Nat} {em : Bool} {kd kd' : Int} {t : Pm σ} {u : Pm τ} (ht : PmOk ok L (k + 5) t) (hL : 1847 ≤ L) (hst : st ≤ 11) (hs : s ≤ 15) (hk : M1.mayN kd) (hf : Fut (kindP M1 t em st s kd).2.2.x) :
    Fut t.x ∧ (Lk Rel Dead t u → EqK Rel Dead (kindP M1 t em st s kd) (kindP M2 u em st s kd')) := by
  have hmay : M1.may (min kd 1) := fun he => by have := hk he; omega
  exact ck_bit S (w' := min kd' 1) (u := u) (ck_kd1 S (L := L) (k := k) (st := st) (s := s) (em := em) (kd := kd) (kd' := kd') hL hst hs) ht (show 16 * st + s < L by omega) hmay hf
end
end Go.Proofs.Ytjgdjobhhdhfjaa

/-
  Two machines go one way: packets; what a coder codes a decoder tells; with a byte fewer it tells the same, or falls dead.
-/
namespace Go.Proofs.Ytjgdjobhhdhfjaa

section
variable {σ τ : Type} {M1 : Mach σ} {M2 : Mach τ} {ok : Nat → σ → Prop} {Rel : σ → τ → Prop} {Fut : σ → Prop} {Dead : τ → Prop}

def EqP (Rel : σ → τ → Prop) (Dead : τ → Prop) (r : Nat × Lzs × Pm σ) (q : Nat × Lzs × Pm τ) : Prop := Dead q.2.2.x ∨ (q.1 = r.1 ∧ q.2.1 = r.2.1 ∧ Sm Rel r.2.2 q.2.2)

theorem tailP_sim (S : Simu M1 ok M2 Rel Fut Dead) {many : Nat} {z : Lzs} {t : Pm σ} {u : Pm τ} (hq : Sm Rel t u) : EqP Rel Dead (tailP M1 many z t) (tailP M2 many z u) := by
  have hb := S.same hq.2
  unfold tailP
  rw [hb]
  split
  · exact .inr ⟨rfl, rfl, hq⟩
  · exact .inr ⟨rfl, rfl, hq⟩
theorem packK_dead (S : Simu M1 ok M2 Rel Fut Dead) {kb : Nat × Bool × Pm τ} {z : Lzs} {s : Nat} {p : Pk} (h : Dead kb.2.2.x) : Dead (packK M2 kb z s p).2.2.x := by
  unfold packK
  split
  · unfold packL
    split
    · exact litP_dead (M2 := M2) (Dead := Dead) S.dbit (u := kb.2.2) h
    · exact litP_dead (M2 := M2) (Dead := Dead) S.dbit (u := kb.2.2) h
  split
  · unfold packM packD
    rw [tailP_x]
    exact distP_dead (M2 := M2) (Dead := Dead) S.dbit S.dstr (lenP_dead (M2 := M2) (Dead := Dead) S.dbit h)
  split
  · rw [tailP_x]
    exact h
  · unfold packR
    rw [tailP_x]
    exact lenP_dead (M2 := M2) (Dead := Dead) S.dbit h

theorem packP_sim (S : Simu M1 ok M2 Rel Fut Dead) {L k N : Nat} {z : Lzs} {t : Pm σ} {u : Pm τ} {p p' : Pk} (hz : ZNear z L N) (ht : PmOk ok L (k + 27) t) (hp : PkFine p) (hm : PkMay M1 z p) (hf : Fut (packP M1 z t p).2.2.x) :
    Fut t.x ∧ (Lk Rel Dead t u → EqP Rel Dead (packP M1 z t p) (packP M2 z u p')) := by
  have hL0 : 1847 ≤ L := by have := hz.len; omega
  obtain ⟨s, hs⟩ : ∃ s, s = z.out.length % 2 ^ z.pb := ⟨_, rfl⟩
  have hs15 : s ≤ 15 := by
    have h1 : z.out.length % 2 ^ z.pb < 2 ^ z.pb := Nat.mod_lt _ (Nat.two_pow_pos _)
    have h2 : 2 ^ z.pb ≤ 2 ^ 4 := pow_le_of hz.pb
    omega
  have hkm : M1.mayN p.kind := fun he => (hm he).1
  obtain ⟨k1, k2⟩ := kindP_ok S.okm (k := k + 22) (em := decide (z.out.length = 0)) (kd := p.kind) (t := t) ht hL0 hs15 hz.st hkm
  have ktell : M1.enc = true → (((kindP M1 t (decide (z.out.length = 0)) z.st s p.kind).1 : Nat) : Int) = (if p.kind = 7 then 1 else p.kind) := fun he => by
    obtain ⟨a, b, c, _⟩ := hm he
    exact (kindP_tell S.okm he a b (fun e => c (of_decide_eq_true e))).1
  have KS := fun hf => kindP_sim S (u := u) (kd' := p'.kind) (k := k + 22) (em := decide (z.out.length = 0)) (kd := p.kind) (t := t) ht hL0 hz.st hs15 hkm hf
  unfold packP at hf ⊢
  rw [← hs] at hf ⊢
  generalize kindP M1 t (decide (z.out.length = 0)) z.st s p.kind = kb at *
  generalize kindP M2 u (decide (z.out.length = 0)) z.st s p'.kind = kq at *
  have key : Fut kb.2.2.x ∧ (EqK Rel Dead kb kq → EqP Rel Dead (packK M1 kb z s p) (packK M2 kq z s p')) := by
    obtain ⟨kv, kd, tk⟩ := kb
    obtain ⟨qv, qd, tq⟩ := kq
    dsimp only at k1 k2 ktell hf ⊢
    by_cases h0 : kv = 0
    · have eA : packK M1 (kv, kd, tk) z s p = packL M1 (litP M1 { z with bad := z.bad || kd } tk p.byte) { z with bad := z.bad || kd } := by unfold packK; rw [if_pos h0]
      rw [eA] at hf ⊢
      have hf' : Fut (litP M1 { z with bad := z.bad || kd } tk p.byte).2.x := by
        unfold packL at hf
        split at hf
        · exact hf
        · exact hf
      obtain ⟨g1, g2⟩ := litP_sim S (u := tq) (v' := p'.byte) (k := k) (z := { z with bad := z.bad || kd }) (v := p.byte) (k2.mono S.okm (show k + 8 ≤ k + 22 by omega)) (lit_in (b := z.bad || kd) hz) hf'
      refine ⟨g1, fun he => ?_⟩
      rcases he with hd | ⟨e1, e2, e3⟩
      · exact .inl (packK_dead S hd)
      · dsimp only at e1 e2 e3
        subst e1 e2
        have eB : packK M2 (qv, qd, tq) z s p' = packL M2 (litP M2 { z with bad := z.bad || qd } tq p'.byte) { z with bad := z.bad || qd } := by unfold packK; rw [if_pos h0]
        rw [eB]
        rcases g2 (.inr e3) with hd | ⟨e4, e5⟩
        · left
          unfold packL
          split
          · exact hd
          · exact hd
        · unfold packL
          rw [S.same e5.2, e4]
          split
          · exact .inr ⟨rfl, rfl, e5⟩
          · exact .inr ⟨rfl, rfl, e5⟩
    by_cases h1 : kv = 1
    · obtain ⟨ls, hls⟩ : ∃ ls : Int, ls = if p.kind = 7 then 0 else p.len - 2 := ⟨_, rfl⟩
      obtain ⟨ds, hds⟩ : ∃ ds : Nat, ds = if p.kind = 7 then 4294967295 else p.dist := ⟨_, rfl⟩
      have hlm : M1.mayN ls := fun he => by
        have h2 := ktell he
        rw [h1] at h2
        obtain ⟨a, b, c, d⟩ := hm he
        rw [hls]
        split
        · omega
        · rename_i h7
          rw [if_neg h7] at h2
          have := d (by omega)
          omega
      have hdb : ds < 4294967296 := by
        rw [hds]
        split
        · decide
        · exact hp.d
      have eA : packK M1 (kv, kd, tk) z s p = packM M1 (lenP M1 tk 819 s ls) { z with bad := z.bad || kd } ds := by unfold packK; rw [if_neg h0, if_pos h1, hls, hds]
      rw [eA] at hf ⊢
      obtain ⟨l1, l2⟩ := lenP_ok S.okm (k := k + 12) (a := 819) (s := s) (v := ls) k2 (show 819 + 514 ≤ L by omega) hs15 hlm
      have hf1 : Fut (distP M1 (lenP M1 tk 819 s ls).2 (lenP M1 tk 819 s ls).1 ds).2.x := by
        unfold packM packD at hf
        rw [tailP_x] at hf
        exact hf
      obtain ⟨ls', hls'⟩ : ∃ ls : Int, ls = if p'.kind = 7 then 0 else p'.len - 2 := ⟨_, rfl⟩
      obtain ⟨ds', hds'⟩ : ∃ ds : Nat, ds = if p'.kind = 7 then 4294967295 else p'.dist := ⟨_, rfl⟩
      obtain ⟨g1, g2⟩ := distP_sim S (u := (lenP M2 tq 819 s ls').2) (v' := ds') (k := k) (l := (lenP M1 tk 819 s ls).1) (v := ds) l2 hL0 hdb hf1
      obtain ⟨i1, i2⟩ := lenP_sim S (u := tq) (v' := ls') (k := k + 12) (a := 819) (s := s) (v := ls) k2 (show 819 + 514 ≤ L by omega) hs15 hlm g1
      refine ⟨i1, fun he => ?_⟩
      rcases he with hd | ⟨e1, e2, e3⟩
      · exact .inl (packK_dead S hd)
      · dsimp only at e1 e2 e3
        subst e1 e2
        have eB : packK M2 (qv, qd, tq) z s p' = packM M2 (lenP M2 tq 819 s ls') { z with bad := z.bad || qd } ds' := by unfold packK; rw [if_neg h0, if_pos h1, hls', hds']
        rw [eB]
        rcases i2 (.inr e3) with hd | ⟨e4, e5⟩
        · left
          unfold packM packD
          rw [tailP_x]
          exact distP_dead (M2 := M2) (Dead := Dead) S.dbit S.dstr hd
        · unfold packM
          rw [e4]
          rcases g2 (.inr e5) with hd | ⟨e6, e7⟩
          · left
            unfold packD
            rw [tailP_x]
            exact hd
          · unfold packD
            rw [e6, S.same e7.2]
            exact tailP_sim S e7
    by_cases h6 : kv = 6
    · have eA : packK M1 (kv, kd, tk) z s p = tailP M1 1 { z with bad := z.bad || kd, st := aft 9 11 z.st } tk := by unfold packK; rw [if_neg h0, if_neg h1, if_pos h6]
      rw [eA] at hf ⊢
      rw [tailP_x] at hf
      refine ⟨hf, fun he => ?_⟩
      rcases he with hd | ⟨e1, e2, e3⟩
      · exact .inl (packK_dead S hd)
      · dsimp only at e1 e2 e3
        subst e1 e2
        have eB : packK M2 (qv, qd, tq) z s p' = tailP M2 1 { z with bad := z.bad || qd, st := aft 9 11 z.st } tq := by unfold packK; rw [if_neg h0, if_neg h1, if_pos h6]
        rw [eB]
        exact tailP_sim S e3
    · have hlm : M1.mayN (p.len - 2) := fun he => by
        have h2 := ktell he
        obtain ⟨a, b, c, d⟩ := hm he
        have h7 : ¬ p.kind = 7 := fun h7 => by rw [if_pos h7] at h2; omega
        rw [if_neg h7] at h2
        have := d (by omega)
        omega
      have eA : packK M1 (kv, kd, tk) z s p = packR M1 (lenP M1 tk 1333 s (p.len - 2)) { z with bad := z.bad || kd } (kv - 2) := by unfold packK; rw [if_neg h0, if_neg h1, if_neg h6]
      rw [eA] at hf ⊢
      have hf1 : Fut (lenP M1 tk 1333 s (p.len - 2)).2.x := by
        unfold packR at hf
        rw [tailP_x] at hf
        exact hf
      obtain ⟨i1, i2⟩ := lenP_sim S (u := tq) (v' := p'.len - 2) (k := k + 12) (a := 1333) (s := s) (v := p.len - 2) k2 (show 1333 + 514 ≤ L by omega) hs15 hlm hf1
      refine ⟨i1, fun he => ?_⟩
      rcases he with hd | ⟨e1, e2, e3⟩
      · exact .inl (packK_dead S hd)
      · dsimp only at e1 e2 e3
        subst e1 e2
        have eB : packK M2 (qv, qd, tq) z s p' = packR M2 (lenP M2 tq 1333 s (p'.len - 2)) { z with bad := z.bad || qd } (qv - 2) := by unfold packK; rw [if_neg h0, if_neg h1, if_neg h6]
        rw [eB]
        rcases i2 (.inr e3) with hd | ⟨e4, e5⟩
        · left
          unfold packR
          rw [tailP_x]
          exact hd
        · unfold packR
          rw [e4]
          exact tailP_sim S e5
  have hk := KS key.1
  exact ⟨hk.1, fun hq => key.2 (hk.2 hq)⟩
end

end Go.Proofs.Ytjgdjobhhdhfjaa
