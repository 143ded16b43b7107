/-
  LzSim2, LzSim3, LwNx, LwNxt, LwBegin: put together.
-/
import Derived.Test.YtpdpbbmkicemdaaGreatMc10
import Derived.Test.YtpdpbbmkicemdaaGreatMc07
import Derived.Lib.SliceRun
set_option linter.unusedVariables false
set_option linter.unusedSimpArgs false
/-
  Two machines go one way: literals, distances, kinds.
-/
namespace Go.Proofs.YtpdpbbmkicemdaaGreat

section
variable {σ τ : Type} {M1 : Mach σ} {M2 : Mach τ} {ok : Nat → σ → Prop} {Rel : σ → τ → Prop} {Fut : σ → Prop} {Dead : τ → Prop}

def EqL (Rel : σ → τ → Prop) (Dead : τ → Prop) (r : Lg σ) (q : Lg τ) : Prop := Dead q.t.x ∨ (q.m = r.m ∧ q.same = r.same ∧ Sm Rel r.t q.t)
theorem lgStep_sim (S : Simu M1 ok M2 Rel Fut Dead) {L k a j y b : Nat} {b' : Int} {s : Lg σ} {q : Lg τ} (ht : PmOk ok L (k + 1) s.t) (ha : a + 768 ≤ L) (h0 : s.m < 2 ^ (j + 1)) (hj : j < 8) (hy : y ≤ 1) (hb : b ≤ 1) (hf : Fut (lgStep M1 a (y : Int) (b : Int) s).t.x) :
    Fut s.t.x ∧ (EqL Rel Dead s q → EqL Rel Dead (lgStep M1 a (y : Int) (b : Int) s) (lgStep M2 a (y : Int) b' q)) := by
  have hp : 2 ^ (j + 1) ≤ 256 := Nat.le_trans (Nat.pow_le_pow_right (by omega) (show j + 1 ≤ 8 by omega)) (by decide)
  have hm : M1.may (b : Int) := fun _ => by omega
  have hdead : Dead q.t.x → Dead (lgStep M2 a (y : Int) b' q).t.x := fun hd => by
    unfold lgStep
    split
    · exact bit_dead S.dbit hd
    · exact bit_dead S.dbit hd
  unfold lgStep at hf
  by_cases hs : s.same = true
  · rw [if_pos hs] at hf
    have hl : a + 256 * (1 + (y : Int).toNat) + s.m < L := by rw [Int.toNat_natCast]; omega
    have hf' := bitP_fut S ht hl hm hf
    refine ⟨hf', fun hq => ?_⟩
    rcases hq with hd | ⟨e1, e2, e3⟩
    · exact .inl (hdead hd)
    · unfold lgStep
      rw [if_pos hs, if_pos (by rw [e2]; exact hs), e1]
      rcases bitP_sim S (w' := b') ht hl hm hf (.inr e3) with hd | ⟨h1, h2⟩
      · exact .inl hd
      · exact .inr ⟨by dsimp only; rw [h1], by dsimp only; rw [h1], h2⟩
  · rw [if_neg hs] at hf
    have hf' := bitP_fut S ht (show a + s.m < L by omega) hm hf
    refine ⟨hf', fun hq => ?_⟩
    rcases hq with hd | ⟨e1, e2, e3⟩
    · exact .inl (hdead hd)
    · unfold lgStep
      rw [if_neg hs, if_neg (by rw [e2]; exact hs), e1]
      rcases bitP_sim S (w' := b') ht (show a + s.m < L by omega) hm hf (.inr e3) with hd | ⟨h1, h2⟩
      · exact .inl hd
      · exact .inr ⟨by dsimp only; rw [h1], rfl, h2⟩
theorem litG_sim (S : Simu M1 ok M2 Rel Fut Dead) {L k a : Nat} {o v v' : UInt8} {same : Bool} {t : Pm σ} {u : Pm τ} (ht : PmOk ok L (k + 8) t) (ha : a + 768 ≤ L) :
    ∀ j, j ≤ 8 → Fut (litG M1 t a o v same j).t.x → Fut t.x ∧ (Lk Rel Dead t u → EqL Rel Dead (litG M1 t a o v same j) (litG M2 u a o v' same j))
  | 0, _ => fun hf => ⟨hf, fun hq => by
    rcases hq with h | h
    · exact .inl h
    · exact .inr ⟨rfl, rfl, h⟩⟩
  | j + 1, hj => fun hf => by
    obtain ⟨h1, h2, h3⟩ := litG_ok S.okm (o := o) (v := v) (same := same) ht ha j (by omega)
    obtain ⟨y, hy, hy1⟩ := want_byte o (7 - j)
    obtain ⟨b, hb, hb1⟩ := want_byte v (7 - j)
    have hf : Fut (lgStep M1 a (want (o.toNat : Int) (7 - j)) (want (v.toNat : Int) (7 - j)) (litG M1 t a o v same j)).t.x := hf
    show Fut t.x ∧ (Lk Rel Dead t u → EqL Rel Dead (lgStep M1 a (want (o.toNat : Int) (7 - j)) (want (v.toNat : Int) (7 - j)) (litG M1 t a o v same j)) (lgStep M2 a (want (o.toNat : Int) (7 - j)) (want (v'.toNat : Int) (7 - j)) (litG M2 u a o v' same j)))
    rw [hy, hb] at hf ⊢
    obtain ⟨g1, g2⟩ := lgStep_sim S (q := litG M2 u a o v' same j) (b' := want (v'.toNat : Int) (7 - j)) (k := k + 8 - (j + 1)) (j := j) (by rw [show k + 8 - (j + 1) + 1 = k + 8 - j by omega]; exact h1) ha h3 (by omega) hy1 hb1 hf
    obtain ⟨i1, i2⟩ := litG_sim S (u := u) (v' := v') ht ha j (by omega) g1
    exact ⟨i1, fun hq => g2 (i2 hq)⟩
theorem litP_sim (S : Simu M1 ok M2 Rel Fut Dead) {L k : Nat} {z : Lzs} {v v' : UInt8} {t : Pm σ} {u : Pm τ} (ht : PmOk ok L (k + 8) t) (ha : litAt z + 768 ≤ L) (hf : Fut (litP M1 z t v).2.x) :
    Fut t.x ∧ (Lk Rel Dead t u → Eqv Rel Dead (litP M1 z t v) (litP M2 z u v')) := by
  obtain ⟨g1, g2⟩ := litG_sim S (u := u) (v' := v') (o := z.back z.r0) (v := v) (same := decide (7 ≤ z.st)) ht ha 8 (Nat.le_refl _) hf
  refine ⟨g1, fun hq => ?_⟩
  rcases g2 hq with h | ⟨e1, _, e3⟩
  · exact .inl h
  · exact .inr ⟨e1, e3⟩

theorem distP_sim (S : Simu M1 ok M2 Rel Fut Dead) {L k l v v' : Nat} {t : Pm σ} {u : Pm τ} (ht : PmOk ok L (k + 12) t) (hL0 : 1847 ≤ L) (hv : v < 4294967296) (hf : Fut (distP M1 t l v).2.x) :
    Fut t.x ∧ (Lk Rel Dead t u → Eqv Rel Dead (distP M1 t l v) (distP M2 u l v')) := by
  obtain ⟨s1, s2, s3⟩ := slot_spec hv
  obtain ⟨a, ha⟩ : ∃ a, a = 432 + 64 * min l 3 := ⟨_, rfl⟩
  have hmv : M1.mayN ((slotOf v : Nat) : Int) := fun _ => by omega
  have hT := treeP_ok S.okm (k := k + 6) (n := 6) (a := a) (v := ((slotOf v : Nat) : Int)) (t := t) ht (by show a + 64 ≤ L; omega) hmv
  have htell : M1.enc = true → (treeP M1 t a 6 ((slotOf v : Nat) : Int)).1 = slotOf v := fun he => treeP_tell S.okm he s1
  have hdef : distP M1 t l v = distB M1 (treeP M1 t a 6 ((slotOf v : Nat) : Int)) v := by rw [ha]; rfl
  have hdef2 : distP M2 u l v' = distB M2 (treeP M2 u a 6 ((slotOf v' : Nat) : Int)) v' := by rw [ha]; rfl
  have hTS := fun hf => treeP_sim S (u := u) (v' := ((slotOf v' : Nat) : Int)) (k := k + 6) (n := 6) (a := a) (v := ((slotOf v : Nat) : Int)) (t := t) ht (by show a + 64 ≤ L; omega) hmv hf
  rw [hdef] at hf
  rw [hdef, hdef2]
  generalize treeP M1 t a 6 ((slotOf v : Nat) : Int) = sl at *
  generalize treeP M2 u a 6 ((slotOf v' : Nat) : Int) = sq at *
  have hs64 : sl.1 < 64 := hT.1
  have hp1 := hT.2
  have key : Fut sl.2.x ∧ (Eqv Rel Dead sl sq → Eqv Rel Dead (distB M1 sl v) (distB M2 sq v')) := by
    have hdead : Dead sq.2.x → Dead (distB M2 sq v').2.x := fun hd => distB_dead S.dbit S.dstr hd
    unfold distB at hf
    by_cases h4 : sl.1 < 4
    · rw [if_pos h4] at hf
      refine ⟨hf, fun he => ?_⟩
      rcases he with hd | ⟨e1, e2⟩
      · exact .inl (hdead hd)
      · unfold distB
        rw [if_pos h4, if_pos (by rw [e1]; exact h4)]
        exact .inr ⟨e1, e2⟩
    rw [if_neg h4] at hf
    obtain ⟨n, hn⟩ : ∃ n, n = sl.1 / 2 - 1 := ⟨_, rfl⟩
    obtain ⟨r, hr⟩ : ∃ r, r = sl.1 % 2 := ⟨_, rfl⟩
    obtain ⟨P, hP⟩ : ∃ P, P = 2 ^ n := ⟨_, rfl⟩
    obtain ⟨base, hb⟩ : ∃ b, b = (2 + r) * P := ⟨_, rfl⟩
    have hn30 : n ≤ 30 := by omega
    have hP30 : P ≤ 2 ^ 30 := by rw [hP]; exact pow_le_of hn30
    have hb3 : base ≤ 3 * P := by rw [hb]; exact Nat.mul_le_mul_right P (by omega)
    have hspec : M1.enc = true → base ≤ v ∧ v < base + P := fun he => by
      have h1 := htell he
      have h2 := s3 (by omega)
      rw [← h1, ← hn, ← hr, ← hP, ← hb] at h2
      exact h2
    by_cases h14 : sl.1 < 14
    · rw [if_pos h14, ← hn, ← hr, ← hP, ← hb] at hf
      obtain ⟨c1, c2, c3⟩ := special_in ⟨sl.1, h14⟩ (by show 4 ≤ sl.1; omega)
      dsimp only at c1 c2 c3
      rw [← hn, ← hr, ← hP, ← hb] at c1
      rw [← hn] at c3
      have hmu : M1.mayN ((v : Int) - (base : Int)) := fun he => by have := (hspec he).1; omega
      obtain ⟨g1, g2⟩ := revP_sim S (u := sq.2) (v' := (v' : Int) - (base : Int)) (k := k) (n := n) (a := 688 + base - sl.1) (v := (v : Int) - (base : Int)) (hp1.mono S.okm (show k + n ≤ k + 6 by omega)) (by rw [← hP]; omega) hmu hf
      refine ⟨g1, fun he => ?_⟩
      rcases he with hd | ⟨e1, e2⟩
      · exact .inl (hdead hd)
      · have eA : distB M1 sl v = (base + (revP M1 sl.2 (688 + base - sl.1) n ((v : Int) - (base : Int))).1, (revP M1 sl.2 (688 + base - sl.1) n ((v : Int) - (base : Int))).2) := by unfold distB; rw [if_neg h4, if_pos h14, ← hn, ← hr, ← hP, ← hb]
        have eB : distB M2 sq v' = (base + (revP M2 sq.2 (688 + base - sl.1) n ((v' : Int) - (base : Int))).1, (revP M2 sq.2 (688 + base - sl.1) n ((v' : Int) - (base : Int))).2) := by unfold distB; rw [e1, if_neg h4, if_pos h14, ← hn, ← hr, ← hP, ← hb]
        rw [eA, eB]
        rcases g2 (.inr e2) with hd | ⟨e3, e4⟩
        · exact .inl hd
        · exact .inr ⟨by dsimp only; rw [e3], e4⟩
    · rw [if_neg h14, ← hn, ← hr, ← hP, ← hb] at hf
      have hn5 : 6 ≤ n := by omega
      obtain ⟨rest, hrest⟩ : ∃ x, x = (v + 4294967296 - base) % 4294967296 / 16 := ⟨_, rfl⟩
      obtain ⟨P4, hP4⟩ : ∃ P, P = 2 ^ (n - 4) := ⟨_, rfl⟩
      have hPP : P = 16 * P4 := by rw [hP, hP4, show (16 : Nat) = 2 ^ 4 from rfl, ← Nat.pow_add, show 4 + (n - 4) = n by omega]
      have hst : M1.enc = true → rest < 2 ^ (n - 4) := fun he => by
        have := hspec he
        rw [← hP4]
        omega
      rw [← hrest] at hf
      have hS := S.okm.str (k := k + 5) (n := n - 4) (v := rest) hp1.x (by omega) hst
      unfold distC at hf
      have hmr : M1.mayN ((v % 16 : Nat) : Int) := fun _ => by omega
      have hp2 : PmOk ok L (k + 5) (⟨sl.2.ps, (M1.str sl.2.x (n - 4) rest).2⟩ : Pm σ) := ⟨hp1.ps, hp1.len, hS.2⟩
      obtain ⟨rest', hrest'⟩ : ∃ x, x = (v' + 4294967296 - base) % 4294967296 / 16 := ⟨_, rfl⟩
      obtain ⟨g1, g2⟩ := revP_sim S (u := ⟨sq.2.ps, (M2.str sq.2.x (n - 4) rest').2⟩) (v' := ((v' % 16 : Nat) : Int)) (k := k) (n := 4) (a := 803) (v := ((v % 16 : Nat) : Int)) (hp2.mono S.okm (show k + 4 ≤ k + 5 by omega)) (by show 803 + 16 ≤ L; omega) hmr hf
      have hf0 := S.fstr (k := k + 5) hp1.x g1
      refine ⟨hf0, fun he => ?_⟩
      rcases he with hd | ⟨e1, e2⟩
      · exact .inl (hdead hd)
      · have eA : distB M1 sl v = distC M1 (M1.str sl.2.x (n - 4) rest) sl.2.ps base v := by unfold distB; rw [if_neg h4, if_neg h14, ← hn, ← hr, ← hP, ← hb, ← hrest]
        have eB : distB M2 sq v' = distC M2 (M2.str sq.2.x (n - 4) rest') sq.2.ps base v' := by unfold distB; rw [e1, if_neg h4, if_neg h14, ← hn, ← hr, ← hP, ← hb, ← hrest']
        rw [eA, eB]
        unfold distC
        rcases S.str (v' := rest') (k := k + 5) hp1.x (by omega) hst e2.2 g1 with hd | ⟨e3, e4⟩
        · exact .inl (revP_dead (M2 := M2) (Dead := Dead) S.dbit (u := ⟨sq.2.ps, (M2.str sq.2.x (n - 4) rest').2⟩) hd)
        · rcases g2 (.inr ⟨e2.1, e4⟩) with hd | ⟨e5, e6⟩
          · exact .inl hd
          · exact .inr ⟨by dsimp only; rw [e5, e3], e6⟩
  have hf2 := hTS key.1
  exact ⟨hf2.1, fun hq => key.2 (hf2.2 hq)⟩

/-! ### kinds -/
def EqK (Rel : σ → τ → Prop) (Dead : τ → Prop) (r : Nat × Bool × Pm σ) (q : Nat × Bool × Pm τ) : Prop := Dead q.2.2.x ∨ (q.1 = r.1 ∧ q.2.1 = r.2.1 ∧ Sm Rel r.2.2 q.2.2)
def CK (ok : Nat → σ → Prop) (Rel : σ → τ → Prop) (Fut : σ → Prop) (Dead : τ → Prop) (L k : Nat) (C1 : Nat × Pm σ → Nat × Bool × Pm σ) (C2 : Nat × Pm τ → Nat × Bool × Pm τ) : Prop :=
  ∀ b q, PmOk ok L k b.2 → Fut (C1 b).2.2.x → Fut b.2.x ∧ (Eqv Rel Dead b q → EqK Rel Dead (C1 b) (C2 q))
theorem ck_bit (S : Simu M1 ok M2 Rel Fut Dead) {L k a : Nat} {w w' : Int} {C1 : Nat × Pm σ → Nat × Bool × Pm σ} {C2 : Nat × Pm τ → Nat × Bool × Pm τ} (hC : CK ok Rel Fut Dead L k C1 C2) {t : Pm σ} {u : Pm τ} (ht : PmOk ok L (k + 1) t) (ha : a < L) (hw : M1.may w)
    (hf : Fut (C1 (bitP M1 t a w)).2.2.x) : Fut t.x ∧ (Lk Rel Dead t u → EqK Rel Dead (C1 (bitP M1 t a w)) (C2 (bitP M2 u a w'))) := by
  have hb := (bitP_ok S.okm ht ha hw).2
  have g1 := (hC _ (bitP M2 u a w') hb hf).1
  exact ⟨bitP_fut S ht ha hw g1, fun hq => (hC _ _ hb hf).2 (bitP_sim S ht ha hw g1 hq)⟩
theorem ck_kd5 {L k : Nat} : CK ok Rel Fut Dead L k kd5 kd5 := fun b q _ hf => ⟨hf, fun he => by
  rcases he with hd | ⟨e1, e2⟩
  · exact .inl hd
  · refine .inr ⟨?_, rfl, e2⟩
    show (if q.1 = 0 then 4 else 5) = (if b.1 = 0 then 4 else 5)
    rw [e1]⟩
theorem ck_kdL {L k : Nat} : CK ok Rel Fut Dead L k kdL kdL := fun b q _ hf => ⟨hf, fun he => by
  rcases he with hd | ⟨e1, e2⟩
  · exact .inl hd
  · refine .inr ⟨?_, rfl, e2⟩
    show (if q.1 = 0 then 6 else 2) = (if b.1 = 0 then 6 else 2)
    rw [e1]⟩
theorem ck_kd4 (S : Simu M1 ok M2 Rel Fut Dead) {L k st : Nat} {kd kd' : Int} (hL : 1847 ≤ L) (hst : st ≤ 11) : CK ok Rel Fut Dead L (k + 1) (fun b => kd4 M1 b st kd) (fun q => kd4 M2 q st kd') := fun b q hb hf => by
  dsimp only at hf ⊢
  by_cases h0 : b.1 = 0
  · have e : kd4 M1 b st kd = (3, false, b.2) := if_pos h0
    rw [e] at hf ⊢
    refine ⟨hf, fun he => ?_⟩
    rcases he with hd | ⟨e1, e2⟩
    · left
      unfold kd4
      split
      · exact hd
      · exact bit_dead (M2 := M2) S.dbit (u := q.2) (a := 228 + st) (w := chI (kd' = 4)) hd
    · have e' : kd4 M2 q st kd' = (3, false, q.2) := if_pos (by rw [e1]; exact h0)
      rw [e']
      exact .inr ⟨rfl, rfl, e2⟩
  · have e : kd4 M1 b st kd = kd5 (bitP M1 b.2 (228 + st) (chI (kd = 4))) := if_neg h0
    rw [e] at hf ⊢
    obtain ⟨g1, g2⟩ := ck_bit S (w' := chI (kd' = 4)) (u := q.2) (ck_kd5 (L := L) (k := k)) hb (show 228 + st < L by omega) (chI_may _) hf
    refine ⟨g1, fun he => ?_⟩
    rcases he with hd | ⟨e1, e2⟩
    · left
      unfold kd4
      split
      · exact hd
      · exact bit_dead (M2 := M2) S.dbit (u := q.2) (a := 228 + st) (w := chI (kd' = 4)) hd
    · have e' : kd4 M2 q st kd' = kd5 (bitP M2 q.2 (228 + st) (chI (kd' = 4))) := if_neg (by rw [e1]; exact h0)
      rw [e']
      exact g2 (.inr e2)
theorem kd3_dead (S : Simu M1 ok M2 Rel Fut Dead) {q : Nat × Pm τ} {st s : Nat} {kd : Int} (hd : Dead q.2.x) : Dead (kd3 M2 q st s kd).2.2.x := by
  unfold kd3
  split
  · exact bit_dead (M2 := M2) S.dbit (u := q.2) (a := 240 + 16 * st + s) (w := chI (kd = 6)) hd
  · unfold kd4
    split
    · exact bit_dead (M2 := M2) S.dbit (u := q.2) (a := 216 + st) (w := chI (kd = 3)) hd
    · exact bit_dead (M2 := M2) S.dbit (u := (bitP M2 q.2 (216 + st) (chI (kd = 3))).2) (a := 228 + st) (w := chI (kd = 4)) (bit_dead (M2 := M2) S.dbit (u := q.2) (a := 216 + st) (w := chI (kd = 3)) hd)
theorem ck_kd3 (S : Simu M1 ok M2 Rel Fut Dead) {L k st s : Nat} {kd kd' : Int} (hL : 1847 ≤ L) (hst : st ≤ 11) (hs : s ≤ 15) : CK ok Rel Fut Dead L (k + 2) (fun b => kd3 M1 b st s kd) (fun q => kd3 M2 q st s kd') := fun b q hb hf => by
  dsimp only at hf ⊢
  by_cases h0 : b.1 = 0
  · have e : kd3 M1 b st s kd = kdL (bitP M1 b.2 (240 + 16 * st + s) (chI (kd = 6))) := if_pos h0
    rw [e] at hf ⊢
    obtain ⟨g1, g2⟩ := ck_bit S (w' := chI (kd' = 6)) (u := q.2) (ck_kdL (L := L) (k := k + 1)) hb (show 240 + 16 * st + s < L by omega) (chI_may _) hf
    refine ⟨g1, fun he => ?_⟩
    rcases he with hd | ⟨e1, e2⟩
    · exact .inl (kd3_dead S hd)
    · have e' : kd3 M2 q st s kd' = kdL (bitP M2 q.2 (240 + 16 * st + s) (chI (kd' = 6))) := if_pos (by rw [e1]; exact h0)
      rw [e']
      exact g2 (.inr e2)
  · have e : kd3 M1 b st s kd = kd4 M1 (bitP M1 b.2 (216 + st) (chI (kd = 3))) st kd := if_neg h0
    rw [e] at hf ⊢
    obtain ⟨g1, g2⟩ := ck_bit S (w' := chI (kd' = 3)) (u := q.2) (ck_kd4 S (L := L) (k := k) (st := st) (kd := kd) (kd' := kd') hL hst) hb (show 216 + st < L by omega) (chI_may _) hf
    refine ⟨g1, fun he => ?_⟩
    rcases he with hd | ⟨e1, e2⟩
    · exact .inl (kd3_dead S hd)
    · have e' : kd3 M2 q st s kd' = kd4 M2 (bitP M2 q.2 (216 + st) (chI (kd' = 3))) st kd' := if_neg (by rw [e1]; exact h0)
      rw [e']
      exact g2 (.inr e2)
theorem kd2_dead (S : Simu M1 ok M2 Rel Fut Dead) {q : Nat × Pm τ} {em : Bool} {st s : Nat} {kd : Int} (hd : Dead q.2.x) : Dead (kd2 M2 q em st s kd).2.2.x := by
  unfold kd2
  split
  · exact hd
  split
  · exact hd
  · exact kd3_dead S (bit_dead (M2 := M2) S.dbit (u := q.2) (a := 204 + st) (w := chI (kd = 2 ∨ kd = 6)) hd)
theorem ck_kd2 (S : Simu M1 ok M2 Rel Fut Dead) {L k st s : Nat} {em : Bool} {kd kd' : Int} (hL : 1847 ≤ L) (hst : st ≤ 11) (hs : s ≤ 15) : CK ok Rel Fut Dead L (k + 3) (fun b => kd2 M1 b em st s kd) (fun q => kd2 M2 q em st s kd') := fun b q hb hf => by
  dsimp only at hf ⊢
  by_cases h0 : b.1 = 0
  · have e : kd2 M1 b em st s kd = (1, false, b.2) := if_pos h0
    rw [e] at hf ⊢
    refine ⟨hf, fun he => ?_⟩
    rcases he with hd | ⟨e1, e2⟩
    · exact .inl (kd2_dead S hd)
    · have e' : kd2 M2 q em st s kd' = (1, false, q.2) := if_pos (by rw [e1]; exact h0)
      rw [e']
      exact .inr ⟨rfl, rfl, e2⟩
  · by_cases hem : em = true
    · have e : kd2 M1 b em st s kd = (6, true, b.2) := by unfold kd2; rw [if_neg h0, if_pos hem]
      rw [e] at hf ⊢
      refine ⟨hf, fun he => ?_⟩
      rcases he with hd | ⟨e1, e2⟩
      · exact .inl (kd2_dead S hd)
      · have e' : kd2 M2 q em st s kd' = (6, true, q.2) := by unfold kd2; rw [if_neg (by rw [e1]; exact h0), if_pos hem]
        rw [e']
        exact .inr ⟨rfl, rfl, e2⟩
    · have e : kd2 M1 b em st s kd = kd3 M1 (bitP M1 b.2 (204 + st) (chI (kd = 2 ∨ kd = 6))) st s kd := by unfold kd2; rw [if_neg h0, if_neg hem]
      rw [e] at hf ⊢
      obtain ⟨g1, g2⟩ := ck_bit S (w' := chI (kd' = 2 ∨ kd' = 6)) (u := q.2) (ck_kd3 S (L := L) (k := k) (st := st) (s := s) (kd := kd) (kd' := kd') hL hst hs) hb (show 204 + st < L by omega) (chI_may _) hf
      refine ⟨g1, fun he => ?_⟩
      rcases he with hd | ⟨e1, e2⟩
      · exact .inl (kd2_dead S hd)
      · have e' : kd2 M2 q em st s kd' = kd3 M2 (bitP M2 q.2 (204 + st) (chI (kd' = 2 ∨ kd' = 6))) st s kd' := by unfold kd2; rw [if_neg (by rw [e1]; exact h0), if_neg hem]
        rw [e']
        exact g2 (.inr e2)
theorem ck_kd1 (S : Simu M1 ok M2 Rel Fut Dead) {L k st s : Nat} {em : Bool} {kd kd' : Int} (hL : 1847 ≤ L) (hst : st ≤ 11) (hs : s ≤ 15) : CK ok Rel Fut Dead L (k + 4) (fun b => kd1 M1 b em st s kd) (fun q => kd1 M2 q em st s kd') := fun b q hb hf => by
  dsimp only at hf ⊢
  have hdd : Dead q.2.x → Dead (kd1 M2 q em st s kd').2.2.x := fun hd => by
    unfold kd1
    split
    · exact hd
    · exact kd2_dead S (bit_dead (M2 := M2) S.dbit (u := q.2) (a := 192 + st) (w := chI (kd' = 1 ∨ kd' = 7)) hd)
  by_cases h0 : b.1 = 0
  · have e : kd1 M1 b em st s kd = (0, false, b.2) := if_pos h0
    rw [e] at hf ⊢
    refine ⟨hf, fun he => ?_⟩
    rcases he with hd | ⟨e1, e2⟩
    · exact .inl (hdd hd)
    · have e' : kd1 M2 q em st s kd' = (0, false, q.2) := if_pos (by rw [e1]; exact h0)
      rw [e']
      exact .inr ⟨rfl, rfl, e2⟩
  · have e : kd1 M1 b em st s kd = kd2 M1 (bitP M1 b.2 (192 + st) (chI (kd = 1 ∨ kd = 7))) em st s kd := if_neg h0
    rw [e] at hf ⊢
    obtain ⟨g1, g2⟩ := ck_bit S (w' := chI (kd' = 1 ∨ kd' = 7)) (u := q.2) (ck_kd2 S (L := L) (k := k) (st := st) (s := s) (em := em) (kd := kd) (kd' := kd') hL hst hs) hb (show 192 + st < L by omega) (chI_may _) hf
    refine ⟨g1, fun he => ?_⟩
    rcases he with hd | ⟨e1, e2⟩
    · exact .inl (hdd hd)
    · have e' : kd1 M2 q em st s kd' = kd2 M2 (bitP M2 q.2 (192 + st) (chI (kd' = 1 ∨ kd' = 7))) em st s kd' := if_neg (by rw [e1]; exact h0)
      rw [e']
      exact g2 (.inr e2)
theorem kindP_sim (S : Simu M1 ok M2 Rel Fut Dead) {L k st s : Nat} {em : Bool} {kd kd' : Int} {t : Pm σ} {u : Pm τ} (ht : PmOk ok L (k + 5) t) (hL : 1847 ≤ L) (hst : st ≤ 11) (hs : s ≤ 15) (hk : M1.mayN kd) (hf : Fut (kindP M1 t em st s kd).2.2.x) :
    Fut t.x ∧ (Lk Rel Dead t u → EqK Rel Dead (kindP M1 t em st s kd) (kindP M2 u em st s kd')) := by
  have hmay : M1.may (min kd 1) := fun he => by have := hk he; omega
  exact ck_bit S (w' := min kd' 1) (u := u) (ck_kd1 S (L := L) (k := k) (st := st) (s := s) (em := em) (kd := kd) (kd' := kd') hL hst hs) ht (show 16 * st + s < L by omega) hmay hf
end
end Go.Proofs.YtpdpbbmkicemdaaGreat

/-
  Two machines go one way: packets; what a coder codes a decoder tells; with a byte fewer it tells the same, or falls dead.
-/
namespace Go.Proofs.YtpdpbbmkicemdaaGreat

section
variable {σ τ : Type} {M1 : Mach σ} {M2 : Mach τ} {ok : Nat → σ → Prop} {Rel : σ → τ → Prop} {Fut : σ → Prop} {Dead : τ → Prop}

def EqP (Rel : σ → τ → Prop) (Dead : τ → Prop) (r : Nat × Lzs × Pm σ) (q : Nat × Lzs × Pm τ) : Prop := Dead q.2.2.x ∨ (q.1 = r.1 ∧ q.2.1 = r.2.1 ∧ Sm Rel r.2.2 q.2.2)

theorem tailP_sim (S : Simu M1 ok M2 Rel Fut Dead) {many : Nat} {z : Lzs} {t : Pm σ} {u : Pm τ} (hq : Sm Rel t u) : EqP Rel Dead (tailP M1 many z t) (tailP M2 many z u) := by
  have hb := S.same hq.2
  unfold tailP
  rw [hb]
  split
  · exact .inr ⟨rfl, rfl, hq⟩
  · exact .inr ⟨rfl, rfl, hq⟩
theorem packK_dead (S : Simu M1 ok M2 Rel Fut Dead) {kb : Nat × Bool × Pm τ} {z : Lzs} {s : Nat} {p : Pk} (h : Dead kb.2.2.x) : Dead (packK M2 kb z s p).2.2.x := by
  unfold packK
  split
  · unfold packL
    split
    · exact litP_dead (M2 := M2) (Dead := Dead) S.dbit (u := kb.2.2) h
    · exact litP_dead (M2 := M2) (Dead := Dead) S.dbit (u := kb.2.2) h
  split
  · unfold packM packD
    rw [tailP_x]
    exact distP_dead (M2 := M2) (Dead := Dead) S.dbit S.dstr (lenP_dead (M2 := M2) (Dead := Dead) S.dbit h)
  split
  · rw [tailP_x]
    exact h
  · unfold packR
    rw [tailP_x]
    exact lenP_dead (M2 := M2) (Dead := Dead) S.dbit h

theorem packP_sim (S : Simu M1 ok M2 Rel Fut Dead) {L k N : Nat} {z : Lzs} {t : Pm σ} {u : Pm τ} {p p' : Pk} (hz : ZNear z L N) (ht : PmOk ok L (k + 27) t) (hp : PkFine p) (hm : PkMay M1 z p) (hf : Fut (packP M1 z t p).2.2.x) :
    Fut t.x ∧ (Lk Rel Dead t u → EqP Rel Dead (packP M1 z t p) (packP M2 z u p')) := by
  have hL0 : 1847 ≤ L := by have := hz.len; omega
  obtain ⟨s, hs⟩ : ∃ s, s = z.out.length % 2 ^ z.pb := ⟨_, rfl⟩
  have hs15 : s ≤ 15 := by
    have h1 : z.out.length % 2 ^ z.pb < 2 ^ z.pb := Nat.mod_lt _ (Nat.two_pow_pos _)
    have h2 : 2 ^ z.pb ≤ 2 ^ 4 := pow_le_of hz.pb
    omega
  have hkm : M1.mayN p.kind := fun he => (hm he).1
  obtain ⟨k1, k2⟩ := kindP_ok S.okm (k := k + 22) (em := decide (z.out.length = 0)) (kd := p.kind) (t := t) ht hL0 hs15 hz.st hkm
  have ktell : M1.enc = true → (((kindP M1 t (decide (z.out.length = 0)) z.st s p.kind).1 : Nat) : Int) = (if p.kind = 7 then 1 else p.kind) := fun he => by
    obtain ⟨a, b, c, _⟩ := hm he
    exact (kindP_tell S.okm he a b (fun e => c (of_decide_eq_true e))).1
  have KS := fun hf => kindP_sim S (u := u) (kd' := p'.kind) (k := k + 22) (em := decide (z.out.length = 0)) (kd := p.kind) (t := t) ht hL0 hz.st hs15 hkm hf
  unfold packP at hf ⊢
  rw [← hs] at hf ⊢
  generalize kindP M1 t (decide (z.out.length = 0)) z.st s p.kind = kb at *
  generalize kindP M2 u (decide (z.out.length = 0)) z.st s p'.kind = kq at *
  have key : Fut kb.2.2.x ∧ (EqK Rel Dead kb kq → EqP Rel Dead (packK M1 kb z s p) (packK M2 kq z s p')) := by
    obtain ⟨kv, kd, tk⟩ := kb
    obtain ⟨qv, qd, tq⟩ := kq
    dsimp only at k1 k2 ktell hf ⊢
    by_cases h0 : kv = 0
    · have eA : packK M1 (kv, kd, tk) z s p = packL M1 (litP M1 { z with bad := z.bad || kd } tk p.byte) { z with bad := z.bad || kd } := by unfold packK; rw [if_pos h0]
      rw [eA] at hf ⊢
      have hf' : Fut (litP M1 { z with bad := z.bad || kd } tk p.byte).2.x := by
        unfold packL at hf
        split at hf
        · exact hf
        · exact hf
      obtain ⟨g1, g2⟩ := litP_sim S (u := tq) (v' := p'.byte) (k := k) (z := { z with bad := z.bad || kd }) (v := p.byte) (k2.mono S.okm (show k + 8 ≤ k + 22 by omega)) (lit_in (b := z.bad || kd) hz) hf'
      refine ⟨g1, fun he => ?_⟩
      rcases he with hd | ⟨e1, e2, e3⟩
      · exact .inl (packK_dead S hd)
      · dsimp only at e1 e2 e3
        subst e1 e2
        have eB : packK M2 (qv, qd, tq) z s p' = packL M2 (litP M2 { z with bad := z.bad || qd } tq p'.byte) { z with bad := z.bad || qd } := by unfold packK; rw [if_pos h0]
        rw [eB]
        rcases g2 (.inr e3) with hd | ⟨e4, e5⟩
        · left
          unfold packL
          split
          · exact hd
          · exact hd
        · unfold packL
          rw [S.same e5.2, e4]
          split
          · exact .inr ⟨rfl, rfl, e5⟩
          · exact .inr ⟨rfl, rfl, e5⟩
    by_cases h1 : kv = 1
    · obtain ⟨ls, hls⟩ : ∃ ls : Int, ls = if p.kind = 7 then 0 else p.len - 2 := ⟨_, rfl⟩
      obtain ⟨ds, hds⟩ : ∃ ds : Nat, ds = if p.kind = 7 then 4294967295 else p.dist := ⟨_, rfl⟩
      have hlm : M1.mayN ls := fun he => by
        have h2 := ktell he
        rw [h1] at h2
        obtain ⟨a, b, c, d⟩ := hm he
        rw [hls]
        split
        · omega
        · rename_i h7
          rw [if_neg h7] at h2
          have := d (by omega)
          omega
      have hdb : ds < 4294967296 := by
        rw [hds]
        split
        · decide
        · exact hp.d
      have eA : packK M1 (kv, kd, tk) z s p = packM M1 (lenP M1 tk 819 s ls) { z with bad := z.bad || kd } ds := by unfold packK; rw [if_neg h0, if_pos h1, hls, hds]
      rw [eA] at hf ⊢
      obtain ⟨l1, l2⟩ := lenP_ok S.okm (k := k + 12) (a := 819) (s := s) (v := ls) k2 (show 819 + 514 ≤ L by omega) hs15 hlm
      have hf1 : Fut (distP M1 (lenP M1 tk 819 s ls).2 (lenP M1 tk 819 s ls).1 ds).2.x := by
        unfold packM packD at hf
        rw [tailP_x] at hf
        exact hf
      obtain ⟨ls', hls'⟩ : ∃ ls : Int, ls = if p'.kind = 7 then 0 else p'.len - 2 := ⟨_, rfl⟩
      obtain ⟨ds', hds'⟩ : ∃ ds : Nat, ds = if p'.kind = 7 then 4294967295 else p'.dist := ⟨_, rfl⟩
      obtain ⟨g1, g2⟩ := distP_sim S (u := (lenP M2 tq 819 s ls').2) (v' := ds') (k := k) (l := (lenP M1 tk 819 s ls).1) (v := ds) l2 hL0 hdb hf1
      obtain ⟨i1, i2⟩ := lenP_sim S (u := tq) (v' := ls') (k := k + 12) (a := 819) (s := s) (v := ls) k2 (show 819 + 514 ≤ L by omega) hs15 hlm g1
      refine ⟨i1, fun he => ?_⟩
      rcases he with hd | ⟨e1, e2, e3⟩
      · exact .inl (packK_dead S hd)
      · dsimp only at e1 e2 e3
        subst e1 e2
        have eB : packK M2 (qv, qd, tq) z s p' = packM M2 (lenP M2 tq 819 s ls') { z with bad := z.bad || qd } ds' := by unfold packK; rw [if_neg h0, if_pos h1, hls', hds']
        rw [eB]
        rcases i2 (.inr e3) with hd | ⟨e4, e5⟩
        · left
          unfold packM packD
          rw [tailP_x]
          exact distP_dead (M2 := M2) (Dead := Dead) S.dbit S.dstr hd
        · unfold packM
          rw [e4]
          rcases g2 (.inr e5) with hd | ⟨e6, e7⟩
          · left
            unfold packD
            rw [tailP_x]
            exact hd
          · unfold packD
            rw [e6, S.same e7.2]
            exact tailP_sim S e7
    by_cases h6 : kv = 6
    · have eA : packK M1 (kv, kd, tk) z s p = tailP M1 1 { z with bad := z.bad || kd, st := aft 9 11 z.st } tk := by unfold packK; rw [if_neg h0, if_neg h1, if_pos h6]
      rw [eA] at hf ⊢
      rw [tailP_x] at hf
      refine ⟨hf, fun he => ?_⟩
      rcases he with hd | ⟨e1, e2, e3⟩
      · exact .inl (packK_dead S hd)
      · dsimp only at e1 e2 e3
        subst e1 e2
        have eB : packK M2 (qv, qd, tq) z s p' = tailP M2 1 { z with bad := z.bad || qd, st := aft 9 11 z.st } tq := by unfold packK; rw [if_neg h0, if_neg h1, if_pos h6]
        rw [eB]
        exact tailP_sim S e3
    · have hlm : M1.mayN (p.len - 2) := fun he => by
        have h2 := ktell he
        obtain ⟨a, b, c, d⟩ := hm he
        have h7 : ¬ p.kind = 7 := fun h7 => by rw [if_pos h7] at h2; omega
        rw [if_neg h7] at h2
        have := d (by omega)
        omega
      have eA : packK M1 (kv, kd, tk) z s p = packR M1 (lenP M1 tk 1333 s (p.len - 2)) { z with bad := z.bad || kd } (kv - 2) := by unfold packK; rw [if_neg h0, if_neg h1, if_neg h6]
      rw [eA] at hf ⊢
      have hf1 : Fut (lenP M1 tk 1333 s (p.len - 2)).2.x := by
        unfold packR at hf
        rw [tailP_x] at hf
        exact hf
      obtain ⟨i1, i2⟩ := lenP_sim S (u := tq) (v' := p'.len - 2) (k := k + 12) (a := 1333) (s := s) (v := p.len - 2) k2 (show 1333 + 514 ≤ L by omega) hs15 hlm hf1
      refine ⟨i1, fun he => ?_⟩
      rcases he with hd | ⟨e1, e2, e3⟩
      · exact .inl (packK_dead S hd)
      · dsimp only at e1 e2 e3
        subst e1 e2
        have eB : packK M2 (qv, qd, tq) z s p' = packR M2 (lenP M2 tq 1333 s (p'.len - 2)) { z with bad := z.bad || qd } (qv - 2) := by unfold packK; rw [if_neg h0, if_neg h1, if_neg h6]
        rw [eB]
        rcases i2 (.inr e3) with hd | ⟨e4, e5⟩
        · left
          unfold packR
          rw [tailP_x]
          exact hd
        · unfold packR
          rw [e4]
          exact tailP_sim S e5
  have hk := KS key.1
  exact ⟨hk.1, fun hq => key.2 (hk.2 hq)⟩
end

/-- A decoder over the coder's bytes does what the coder does. -/
theorem enc_simu {bs more : List UInt8} {f : En} (hf : Ends bs f) : Simu encM okE decM (fun e d => d = decAt bs more e) (fun e => Reach e f) (fun _ => False) where
  okm := encM_ok
  bit := by
    rintro x y k p w w' hx hp hw rfl hr
    right
    have hb : w.toNat ≤ 1 := by rcases hw rfl with h | h <;> omega
    have h := bit_dec (more := more) hf hx.1 hp hb hr
    refine ⟨?_, ?_, ?_⟩
    · show (bitD (decAt bs more x) p).1 = w.toNat
      rw [h]
    · show (bitD (decAt bs more x) p).2.1 = upOf p w.toNat
      rw [h]
    · show (bitD (decAt bs more x) p).2.2 = decAt bs more (x.bit p w.toNat)
      rw [h]
  str := by
    rintro x y k n v v' hx hn hv rfl hr
    right
    have hs := straight_dec (more := more) hf (show Reach (strE x v n n) f from hr) n (Nat.le_refl _)
    have e : straightD n (decAt bs more x) = (v, decAt bs more (strE x v n n)) := by
      unfold straightD
      rw [hs]
      simp only []
      rw [if_neg (decAt_some _ _ _), Nat.sub_self, Nat.pow_zero, Nat.div_one, Nat.mod_eq_of_lt (hv rfl)]
    exact ⟨by show (straightD n (decAt bs more x)).1 = v; rw [e], by show (straightD n (decAt bs more x)).2 = _; rw [e]; rfl⟩
  fbit := by
    intro x k p w hx hp hw hr
    exact (bit_reach hx.1 hp).trans hr
  fstr := by
    intro x k n v hx hr
    have h := strE_reach x v n 0 n
    rw [Nat.zero_add] at h
    exact Reach.trans h hr
  dbit := fun h => h.elim
  dstr := fun h => h.elim
  same := by
    rintro x y rfl
    rfl
end Go.Proofs.YtpdpbbmkicemdaaGreat

/-
  The program's decoder of LZMA: the next byte, in the document's packets.
-/
namespace Go.Proofs.YtpdpbbmkicemdaaGreat
open Go.RowKit

def Lzs.cut (z : Lzs) (n : Nat) : Lzs := { z with out := z.out.take n }
theorem cut_all (z : Lzs) : z.cut z.out.length = z := by unfold Lzs.cut; rw [List.take_length]
theorem has_push {z : Lzs} {d : Nat} {b : UInt8} (h : z.has d = true) : (z.push b).has d = true := by
  unfold Lzs.has at *
  have hl : (z.push b).out.length = z.out.length + 1 := by show (z.out ++ [b]).length = _; simp
  have hd : (z.push b).dict = z.dict := rfl
  rw [hl, hd]
  have := of_decide_eq_true h
  exact decide_eq_true (by omega)
theorem take_snoc8 (l : List UInt8) (n : Nat) (h : n < l.length) : l.take (n + 1) = l.take n ++ [l.getD n 0] := by
  rw [List.take_succ_eq_append_getElem h]
  simp [List.getD, h]
theorem cut_next {z : Lzs} {n : Nat} {b : UInt8} (h : n < z.out.length) (hb : b = z.out.getD n 0) : (z.cut n).push b = z.cut (n + 1) := by
  unfold Lzs.cut Lzs.push
  dsimp only
  rw [take_snoc8 _ _ h, hb]

/-- what is copied is there, byte by byte -/
theorem copy_cut : ∀ (f m : Nat) {z : Lzs}, z.has z.r0 = true →
    (copyG f m z).2 = { z with out := (copyG f m z).2.out } ∧ (copyG f m z).2.out.length = z.out.length + f ∧ (copyG f m z).2.out.take z.out.length = z.out ∧
    ∀ j, z.out.length ≤ j → j < z.out.length + f → ((copyG f m z).2.cut j).has (copyG f m z).2.r0 = true ∧ ((copyG f m z).2.cut j).back (copyG f m z).2.r0 = (copyG f m z).2.out.getD j 0
  | 0, m, z, h => ⟨rfl, rfl, List.take_length, fun j h1 h2 => by omega⟩
  | f + 1, m, z, h => by
    rw [copyG_go h]
    obtain ⟨b, hb⟩ : ∃ b, b = z.back z.r0 := ⟨_, rfl⟩
    rw [← hb]
    have hp : (z.push b).has (z.push b).r0 = true := has_push h
    obtain ⟨h1, h2, h3, h4⟩ := copy_cut f (m + 1) hp
    have hl : (z.push b).out.length = z.out.length + 1 := by show (z.out ++ [b]).length = _; simp
    rw [hl] at h2 h3 h4
    have ho : (z.push b).out = z.out ++ [b] := rfl
    rw [ho] at h3
    obtain ⟨q, hq⟩ : ∃ q, q = (copyG f (m + 1) (z.push b)).2 := ⟨_, rfl⟩
    rw [← hq] at h1 h2 h3 h4 ⊢
    have e1 : q = { z with out := q.out } := by
      have : ({ z.push b with out := q.out } : Lzs) = { z with out := q.out } := rfl
      rw [← this]
      exact h1
    have e3 : q.out.take z.out.length = z.out := by
      have h := congrArg (List.take z.out.length) h3
      rw [List.take_take, Nat.min_eq_left (by omega), List.take_left'] at h
      · exact h
      · rfl
    refine ⟨e1, by omega, e3, fun j j1 j2 => ?_⟩
    by_cases hj : j = z.out.length
    · subst hj
      have ec : q.cut z.out.length = z := by
        unfold Lzs.cut
        rw [e3, e1]
      have er : q.r0 = z.r0 := by rw [e1]
      rw [ec, er]
      refine ⟨h, ?_⟩
      rw [← hb]
      have h := take_snoc8 q.out z.out.length (by omega)
      rw [h3, e3] at h
      have h := List.append_cancel_left h
      injection h
    · exact h4 j (by omega) (by omega)

/-- a decoder that is dead tells no packet -/
theorem none_simu : Simu decM okD decM (fun _ _ => False) (fun _ => True) (fun d => d = none) where
  okm := decM_ok
  bit _ _ _ h _ := h.elim
  str _ _ _ h _ := h.elim
  fbit _ _ _ _ := trivial
  fstr _ _ := trivial
  dbit {y p w} h := by show (bitD y p).2.2 = none; rw [h]; rfl
  dstr {y n v} h := by show (straightD n y).2 = none; rw [h, straightD_none]
  same h := h.elim
theorem packP_none {z : Lzs} {t : Pm Dc} {p : Pk} (h : t.x = none) : (packP decM z t p).2.2.x = none :=
  packK_dead none_simu (kindP_dead (M2 := decM) (Dead := fun d => d = none) none_simu.dbit h)

/-- Of zf all is decided, n bytes are told. -/
structure Nx (K : Kon) (w : World) (Gw : Nat → Prop) (zf : Lzs) (tf : Pm Dc) (n : Nat) : Prop where
  lw : Lw K w Gw (zf.cut n) tf (zf.out.length - n)
  le : n ≤ zf.out.length
  far : zf.out.length ≤ n + 273
  near : ZNear zf (1847 + K.nl) zf.out.length
  live : n < zf.out.length → tf.x ≠ none
  bad : zf.bad = false
  ended : zf.ended = false
  tell : ∀ j, n ≤ j → j < zf.out.length → (zf.cut j).has zf.r0 = true ∧ (zf.cut j).back zf.r0 = zf.out.getD j 0

def stopP (r : Nat × Lzs × Pm Dc) : Prop := r.2.2.x = none ∨ r.2.1.bad = true ∨ r.2.1.ended = true
def NextPost (K : Kon) (w : World) (Gw : Nat → Prop) (zf : Lzs) (tf : Pm Dc) (n : Nat) (e : Ending) (w' : World) : Prop :=
  (∃ zf' tf' Gw', e = .returned (.tuple #[.int .u8 ((zf'.out.getD n 0).toNat : Int), .bool true]) ∧ Nx K w' Gw' zf' tf' (n + 1) ∧ zf'.dict = zf.dict ∧ zf'.out.take n = zf.out.take n ∧
    ((n < zf.out.length ∧ zf' = zf ∧ tf' = tf) ∨ (n = zf.out.length ∧ ¬ stopP (packP decM zf tf pk0) ∧ zf' = (packP decM zf tf pk0).2.1 ∧ tf' = (packP decM zf tf pk0).2.2)) ∧
    (∀ i, Gw' i → Gw i ∨ w.heap.size ≤ i) ∧ Only (K.all Gw) w w') ∨
  (e = .returned (.tuple #[.int .u8 0, .bool false]) ∧ n = zf.out.length ∧ stopP (packP decM zf tf pk0) ∧ ∃ z1 t1 l1 Gw', Lw K w' Gw' z1 t1 l1 ∧ (∀ i, Gw' i → Gw i ∨ w.heap.size ≤ i) ∧ Only (K.all Gw) w w')

/-- a packet, by its first bit -/
theorem pk_first {z : Lzs} {t : Pm Dc} (hb : z.bad = false) :
    ((bitP decM t (16 * z.st + z.out.length % 2 ^ z.pb) 0).1 = 0 → packP decM z t pk0 = packL decM (litP decM z (bitP decM t (16 * z.st + z.out.length % 2 ^ z.pb) 0).2 0) z) ∧
    ((bitP decM t (16 * z.st + z.out.length % 2 ^ z.pb) 0).1 ≠ 0 → packP decM z t pk0 = packK decM (kd2 decM (bitP decM (bitP decM t (16 * z.st + z.out.length % 2 ^ z.pb) 0).2 (192 + z.st) 0) (decide (z.out.length = 0)) z.st (z.out.length % 2 ^ z.pb) 0) z (z.out.length % 2 ^ z.pb) pk0) := by
  have hdef : packP decM z t pk0 = packK decM (kd1 decM (bitP decM t (16 * z.st + z.out.length % 2 ^ z.pb) 0) (decide (z.out.length = 0)) z.st (z.out.length % 2 ^ z.pb) 0) z (z.out.length % 2 ^ z.pb) pk0 := rfl
  rw [hdef]
  generalize bitP decM t (16 * z.st + z.out.length % 2 ^ z.pb) 0 = B at *
  constructor
  · intro h0
    have hk : kd1 decM B (decide (z.out.length = 0)) z.st (z.out.length % 2 ^ z.pb) 0 = (0, false, B.2) := by unfold kd1; rw [if_pos h0]
    rw [hk]
    unfold packK
    rw [if_pos rfl]
    have : ({ z with bad := z.bad || false } : Lzs) = z := by cases z; simp at hb; simp [hb]
    show packL decM (litP decM { z with bad := z.bad || false } B.2 0) { z with bad := z.bad || false } = _
    rw [this]
  · intro h0
    have hk : kd1 decM B (decide (z.out.length = 0)) z.st (z.out.length % 2 ^ z.pb) 0 = kd2 decM (bitP decM B.2 (192 + z.st) 0) (decide (z.out.length = 0)) z.st (z.out.length % 2 ^ z.pb) 0 := by unfold kd1; rw [if_neg h0]; rfl
    rw [hk]

section
variable {K : Kon} {w w' : World} {Gw Gw' : Nat → Prop} {zf : Lzs} {tf : Pm Dc} {n : Nat}

/-- a byte of a packet is told -/
theorem nx_copied (h : Nx K w Gw zf tf n) (hn : n < zf.out.length) {x : Ending}
    (hp : PutPost K w Gw (.tuple #[.int .u8 (((zf.cut n).back zf.r0).toNat : Int), .bool true]) ((zf.cut n).push ((zf.cut n).back zf.r0)) tf (zf.out.length - n - 1) x w') : NextPost K w Gw zf tf n x w' := by
  obtain ⟨rfl, G1, hl, hg, ho⟩ := hp
  obtain ⟨t1, t2⟩ := h.tell n (Nat.le_refl _) hn
  rw [t2] at hl ⊢
  rw [cut_next hn rfl] at hl
  refine .inl ⟨zf, tf, G1, rfl, ⟨?_, hn, by have := h.far; omega, h.near, fun h2 => h.live (by omega), h.bad, h.ended, fun j j1 j2 => h.tell j (by omega) j2⟩, rfl, rfl, .inl ⟨hn, rfl, rfl⟩, hg, ho⟩
  rw [show zf.out.length - (n + 1) = zf.out.length - n - 1 by omega]
  exact hl

theorem nx_lit {w1 : World} {B : Nat × Pm Dc} {x : Ending} (h : Nx K w Gw zf tf zf.out.length) (hB : B = bitP decM tf (16 * zf.st + zf.out.length % 2 ^ zf.pb) 0) (h0 : B.1 = 0) (hO1 : Only K.own w w1)
    (hp : LitEnd K w1 Gw zf (litP decM zf B.2 0) 0 x w') : NextPost K w Gw zf tf zf.out.length x w' := by
  have hpk := (pk_first (t := tf) h.bad).1
  rw [← hB] at hpk
  have hpk := hpk h0
  obtain ⟨r, hr⟩ : ∃ r, r = litP decM zf B.2 0 := ⟨_, rfl⟩
  rw [← hr] at hp hpk
  rcases hp with ⟨hd, rfl, hz, ho⟩ | ⟨hd, rfl, G1, hl, hg, ho⟩
  · refine .inr ⟨rfl, rfl, ?_, _, _, _, Gw, hz, fun i hi => .inl hi, (hO1.trans ho).mono fun i hi => .inl hi⟩
    rw [hpk]
    unfold packL
    rw [if_pos (dead_bad hd)]
    exact .inl hd
  · have hpk2 : packP decM zf tf pk0 = (1, ({ zf with st := litSt zf.st } : Lzs).push (UInt8.ofNat r.1), r.2) := by
      rw [hpk]
      unfold packL
      rw [if_neg (by rw [live_bad hd]; simp)]
    have hlen : (({ zf with st := litSt zf.st } : Lzs).push (UInt8.ofNat r.1)).out.length = zf.out.length + 1 := by show (zf.out ++ [_]).length = _; simp
    have hget : (({ zf with st := litSt zf.st } : Lzs).push (UInt8.ofNat r.1)).out.getD zf.out.length 0 = UInt8.ofNat r.1 := by
      show (zf.out ++ [_]).getD zf.out.length 0 = _
      simp [List.getD]
    obtain ⟨q, hq⟩ : ∃ q, q = ({ zf with st := litSt zf.st } : Lzs).push (UInt8.ofNat r.1) := ⟨_, rfl⟩
    have hz := h.near
    have hnear : ZNear q (1847 + K.nl) q.out.length := by
      rw [hq]
      exact ⟨hz.lc, hz.lp, hz.pb, hz.dict, Nat.le_refl _, litSt_le hz.st, hz.r0, hz.r1, hz.r2, hz.r3, hz.len⟩
    have hqb : q.bad = false := by rw [hq]; exact h.bad
    have hqe : q.ended = false := by rw [hq]; exact h.ended
    have hqd : q.dict = zf.dict := by rw [hq]; rfl
    have hqt : q.out.take zf.out.length = zf.out.take zf.out.length := by
      rw [hq]
      show (zf.out ++ [_]).take zf.out.length = _
      rw [List.take_left', List.take_length]
      rfl
    rw [← hq] at hpk2 hlen hget hl
    refine .inl ⟨q, r.2, G1, by rw [hget], ⟨?_, by omega, by omega, hnear, fun h2 => by omega, hqb, hqe, fun j j1 j2 => by omega⟩, hqd, hqt, .inr ⟨rfl, ?_, by rw [hpk2], by rw [hpk2]⟩, fun i hi => ?_, (hO1.mono fun i hi => .inl hi).trans ho⟩
    · have e1 := cut_all q
      rw [hlen] at e1
      rw [e1, hlen, Nat.sub_self]
      exact hl
    · rw [hpk2]
      rintro (h1 | h1 | h1)
      · exact hd h1
      · have h1 : q.bad = true := h1
        rw [hqb] at h1
        cases h1
      · have h1 : q.ended = true := h1
        rw [hqe] at h1
        cases h1
    · rcases hg i hi with h1 | h1
      · exact .inl h1
      · exact .inr (Nat.le_trans hO1.size h1)

/-- a packet that copies begins -/
theorem nx_begin {w1 w2 : World} {z1 : Lzs} {t1 : Pm Dc} {l : Nat} {x : Ending} (hO1 : Only K.own w w1) (ho1 : z1.out = zf.out) (hd1 : z1.dict = zf.dict) (hz1 : ZNear z1 (1847 + K.nl) zf.out.length)
    (hd : t1.x ≠ none) (hb : z1.bad = false) (he : z1.ended = false) (hh : z1.has z1.r0 = true) (h2 : l + 1 ≤ 273) (hr : packP decM zf tf pk0 = ((copyG (l + 1) 0 z1).1, (copyG (l + 1) 0 z1).2, t1))
    (hp : PutPost K w1 Gw (.tuple #[.int .u8 ((z1.back z1.r0).toNat : Int), .bool true]) (z1.push (z1.back z1.r0)) t1 l x w2) : NextPost K w Gw zf tf zf.out.length x w2 := by
  obtain ⟨rfl, G1, hl, hg, ho⟩ := hp
  obtain ⟨q1, q2, q3, q4⟩ := copy_cut (l + 1) 0 hh
  obtain ⟨q, hq⟩ : ∃ q, q = (copyG (l + 1) 0 z1).2 := ⟨_, rfl⟩
  rw [← hq] at q1 q2 q3 q4 hr
  rw [ho1] at q2 q3 q4
  have e0 : q.cut zf.out.length = z1 := by
    unfold Lzs.cut
    rw [q3, q1, ← ho1]
  have er : q.r0 = z1.r0 := by rw [q1]
  obtain ⟨t2, t3⟩ := q4 zf.out.length (Nat.le_refl _) (by omega)
  rw [e0, er] at t3
  rw [t3] at hl ⊢
  rw [← e0, cut_next (by omega) rfl] at hl
  refine .inl ⟨q, t1, G1, rfl, ⟨?_, by omega, by omega, ?_, fun _ => hd, ?_, ?_, fun j j1 j2 => q4 j (by omega) (by omega)⟩, ?_, ?_, .inr ⟨rfl, ?_, by rw [hr], by rw [hr]⟩, fun i hi => ?_, (hO1.mono fun i hi => .inl hi).trans ho⟩
  · rw [show q.out.length - (zf.out.length + 1) = l by omega]
    exact hl
  · rw [q1]
    exact ⟨hz1.lc, hz1.lp, hz1.pb, hz1.dict, Nat.le_refl _, hz1.st, hz1.r0, hz1.r1, hz1.r2, hz1.r3, hz1.len⟩
  · rw [q1]; exact hb
  · rw [q1]; exact he
  · rw [q1]; exact hd1
  · rw [q3, List.take_length]
  · rw [hr]
    rintro (h1 | h1 | h1)
    · exact hd h1
    · rw [show ((copyG (l + 1) 0 z1).1, q, t1).2.1 = q from rfl, q1] at h1
      have h1 : z1.bad = true := h1
      rw [hb] at h1
      cases h1
    · rw [show ((copyG (l + 1) 0 z1).1, q, t1).2.1 = q from rfl, q1] at h1
      have h1 : z1.ended = true := h1
      rw [he] at h1
      cases h1
  · rcases hg i hi with h1 | h1
    · exact .inl h1
    · exact .inr (Nat.le_trans hO1.size h1)
end
end Go.Proofs.YtpdpbbmkicemdaaGreat

/-
  The program's decoder of LZMA: the next byte, walked.
-/
namespace Go.Proofs.YtpdpbbmkicemdaaGreat
open Go.RowKit

section
variable {K : Kon} {w w' : World} {Gw Gw' : Nat → Prop} {zf : Lzs} {tf : Pm Dc} {n : Nat}

set_option maxRecDepth 100000 in
set_option maxHeartbeats 8000000 in
theorem lnext_any (h : Nx K w Gw zf tf n) (hn : n ≤ 800000) (hf : Fit K (zf.cut n)) :
    Calls Tryz.prog 19 #[.pointer (some ⟨K.g, 0, none⟩)] w (NextPost K w Gw zf tf n) := by
  have HX := Lib.hid h
  have HF := Lib.hid hf
  have HN := Lib.hid hn
  have KM := lmay_any h.lw
  have xe := h.lw.f.ended
  have xl := h.lw.f.left
  have hb : (zf.cut n).bad = false := h.bad
  have he : (zf.cut n).ended = false := h.ended
  rw [hb] at KM
  rw [he] at xe
  by_cases hlt : n < zf.out.length
  · rw [live_bad (h.live hlt)] at KM
    have KM := Lib.hid KM
    obtain ⟨l, hl⟩ : ∃ l, zf.out.length - n = l + 1 := ⟨zf.out.length - n - 1, by omega⟩
    have hw := h.lw
    rw [hl] at hw xl
    have hfar := h.far
    have KC := Lib.hid (lcopied_any hw hf (h.tell n (Nat.le_refl _) hlt).1 h.near.r0 (by omega) (by show (zf.out.take n).length ≤ _; rw [List.length_take]; omega))
    have q0 : (((l + 1 : Nat) : Int) == 0) = false := by simp; omega
    obtain ⟨l1, hl1⟩ : ∃ l1, l1 = l + 1 := ⟨_, rfl⟩
    rw [← hl1] at q0 xl
    have HL := Lib.hid (And.intro hlt hl)
    clear hl hl1 hw hfar hlt h hf hn hb he
    go_enter Tryz.func19, Tryz.ntmps19
    go_wp2_with fail
    refine KM.out.mono ?_
    rintro e w1 ⟨rfl, rfl⟩
    clear KM
    go_wp2_with fail
    refine KC.out.mono ?_
    rintro e w2 hp
    have HP := Lib.hid hp
    obtain ⟨rfl, _⟩ := hp
    clear KC
    go_wp2_with fail
    go_ret2
    refine nx_copied HX.out HL.out.1 ?_
    rw [show zf.out.length - n - 1 = l by have := HL.out.2; omega]
    exact HP.out
  · obtain rfl : n = zf.out.length := by have := h.le; omega
    rw [cut_all] at hf hb he
    have hw := h.lw
    rw [cut_all, Nat.sub_self] at hw
    rw [Nat.sub_self] at xl
    by_cases hd : tf.x = none
    · rw [dead_bad hd] at KM
      have KM := Lib.hid KM
      have HD := Lib.hid hd
      have HW := Lib.hid hw
      clear hlt h hf hn hb he hd hw
      go_enter Tryz.func19, Tryz.ntmps19
      go_wp2_with fail
      refine KM.out.mono ?_
      rintro e w1 ⟨rfl, rfl⟩
      clear KM
      go_wp2_with fail
      go_ret2
      exact .inr ⟨rfl, rfl, .inl (packP_none HD.out), _, _, _, Gw, HW.out, fun i hi => .inl hi, Only.refl _ _⟩
    · rw [live_bad hd] at KM
      have KM := Lib.hid KM
      have hz := h.near
      have KS := Lib.hid (lstart_any hw hz.st hz.pb (by omega))
      have hpk := pk_first (t := tf) hb
      obtain ⟨s, hs⟩ : ∃ s, s = zf.out.length % 2 ^ zf.pb := ⟨_, rfl⟩
      rw [← hs] at KS hpk
      obtain ⟨B, hB⟩ : ∃ B, B = bitP decM tf (16 * zf.st + s) 0 := ⟨_, rfl⟩
      rw [← hB] at KS hpk
      by_cases h0 : B.1 = 0
      · rw [decide_eq_true h0] at KS
        have HB := Lib.hid (And.intro hB (And.intro h0 hs))
        have HZ := Lib.hid hz
        clear hlt h hb he hd hw hz hpk hs hB h0 hf hn
        go_enter Tryz.func19, Tryz.ntmps19
        go_wp2_with fail
        refine KM.out.mono ?_
        rintro e w1 ⟨rfl, rfl⟩
        clear KM
        go_wp2_with fail
        refine KS.out.mono ?_
        rintro e w1 ⟨rfl, hz1, ho1⟩
        have KL := Lib.hid (llit_any hz1 HZ.out (by have := HN.out; omega) (by have := HF.out; rw [cut_all] at this; exact this))
        have HO1 := Lib.hid ho1
        clear hz1 ho1 KS
        go_wp2_with fail
        refine KL.out.mono ?_
        rintro e w2 hp
        have HP := Lib.hid hp
        clear KL
        have hret : e = .returned (.tuple #[.int .u8 0, .bool false]) ∨ ∃ b : UInt8, e = .returned (.tuple #[.int .u8 (b.toNat : Int), .bool true]) := by
          rcases hp with ⟨_, rfl, _⟩ | ⟨_, rfl, _⟩
          · exact .inl rfl
          · exact .inr ⟨_, rfl⟩
        clear hp
        rcases hret with rfl | ⟨b, rfl⟩
        · go_wp2_with fail
          go_ret2
          have hB1 := HB.out.1
          rw [HB.out.2.2] at hB1
          exact nx_lit HX.out hB1 HB.out.2.1 HO1.out HP.out
        · go_wp2_with fail
          go_ret2
          have hB1 := HB.out.1
          rw [HB.out.2.2] at hB1
          exact nx_lit HX.out hB1 HB.out.2.1 HO1.out HP.out
      · rw [decide_eq_false h0] at KS
        have hr := hpk.2 h0
        have HR := Lib.hid hr
        have HZ := Lib.hid hz
        have HBE := Lib.hid (And.intro hb (And.intro he (And.intro hs hf)))
        clear hlt h hb he hd hw hz hpk hs hB h0 hf hn hr
        go_enter Tryz.func19, Tryz.ntmps19
        go_wp2_with fail
        refine KM.out.mono ?_
        rintro e w1 ⟨rfl, rfl⟩
        clear KM
        go_wp2_with fail
        refine KS.out.mono ?_
        rintro e w1 ⟨rfl, hz1, ho1⟩
        have KC := Lib.hid (lcopies_any (s := s) hz1 HZ.out (by have := HN.out; omega) HBE.out.2.2.2 HBE.out.2.2.1 HBE.out.1 HBE.out.2.1)
        rw [← HR.out] at KC
        have HO1 := Lib.hid ho1
        clear hz1 ho1 KS
        go_wp2_with fail
        refine KC.out.mono ?_
        rintro e w2 ⟨z1, t1, left1, ⟨rfl, hl2, ho2⟩, hout, hdict, hnear, ht, hcase⟩
        clear KC
        have HO2 := Lib.hid (HO1.out.trans ho2)
        have hfail : left1 = 0 → stopP (packP decM zf tf pk0) → Hid (Lw K w2 Gw z1 t1 0 ∧ stopP (packP decM zf tf pk0)) := fun h0 h1 => Lib.hid ⟨h0 ▸ hl2, h1⟩
        rcases hcase with ⟨hd1, h10⟩ | ⟨hd1, hb1, _, _, h10⟩ | ⟨hd1, _, he1, hr1, h10⟩ | ⟨hd1, hb1, he1, hh1, hg1, hg2, hr1⟩
        · have HZ2 := hfail h10 (.inl (by rw [← ht]; exact hd1))
          have KE := Lib.hid (lcopied_end HZ2.out.1)
          clear hfail hd1 h10 hl2 ho2 hout hdict hnear ht
          go_wp2_with fail
          refine KE.out.mono ?_
          rintro e w3 ⟨rfl, rfl⟩
          go_wp2_with fail
          go_ret2
          exact .inr ⟨rfl, rfl, HZ2.out.2, _, _, _, Gw, HZ2.out.1, fun i hi => .inl hi, HO2.out.mono fun i hi => .inl hi⟩
        · have HZ2 := hfail h10 (.inr (.inl hb1))
          have KE := Lib.hid (lcopied_end HZ2.out.1)
          clear hfail hd1 h10 hl2 ho2 hout hdict hnear ht hb1
          go_wp2_with fail
          refine KE.out.mono ?_
          rintro e w3 ⟨rfl, rfl⟩
          go_wp2_with fail
          go_ret2
          exact .inr ⟨rfl, rfl, HZ2.out.2, _, _, _, Gw, HZ2.out.1, fun i hi => .inl hi, HO2.out.mono fun i hi => .inl hi⟩
        · have HZ2 := hfail h10 (.inr (.inr (by rw [hr1]; exact he1)))
          have KE := Lib.hid (lcopied_end HZ2.out.1)
          clear hfail hd1 h10 hl2 ho2 hout hdict hnear ht he1 hr1
          go_wp2_with fail
          refine KE.out.mono ?_
          rintro e w3 ⟨rfl, rfl⟩
          go_wp2_with fail
          go_ret2
          exact .inr ⟨rfl, rfl, HZ2.out.2, _, _, _, Gw, HZ2.out.1, fun i hi => .inl hi, HO2.out.mono fun i hi => .inl hi⟩
        · obtain ⟨l, rfl⟩ : ∃ l, left1 = l + 1 := ⟨left1 - 1, by omega⟩
          have hfit1 : Fit K z1 := by
            have := HBE.out.2.2.2
            unfold Fit at *
            rw [hout, hdict]
            exact this
          have KC := Lib.hid (lcopied_any hl2 hfit1 hh1 hnear.r0 (by omega) (by rw [hout]; have := HN.out; omega))
          have HA := Lib.hid (fun (x : Ending) (w3 : World) hp => nx_begin (Gw := Gw) (x := x) (w2 := w3) HO2.out hout hdict hnear hd1 hb1 he1 hh1 hg2 hr1 hp)
          clear hfail hd1 hl2 ho2 hout hdict hnear ht he1 hr1 hb1 hh1 hg1 hg2 hfit1
          go_wp2_with fail
          refine KC.out.mono ?_
          rintro e w3 hp
          have HP := Lib.hid hp
          obtain ⟨rfl, _⟩ := hp
          go_wp2_with fail
          go_ret2
          exact HA.out _ _ HP.out
end
end Go.Proofs.YtpdpbbmkicemdaaGreat

/-
  The program's decoder of LZMA begins.
-/
namespace Go.Proofs.YtpdpbbmkicemdaaGreat
open Go.RowKit

/-- what a decoder is that has a decoder of ranges -/
def Kon.on (K : Kon) (dg f lo : Nat) (bs : List UInt8) : Kon := { K with dg := dg, f := f, lo := lo, bs := bs }

section
variable {K : Kon} {w w' : World} {Gw : Nat → Prop} {lc lp pb dict : Nat}

set_option maxRecDepth 100000 in
set_option maxHeartbeats 2000000 in
theorem closed_any {fs : List Value} {ps : List Nat} (hB : LzAt w K.g fs ps) (h15 : fs[15]? = some (.slice (some ⟨K.lb, 0, none⟩) K.nl K.nl)) :
    Calls Tryz.prog 37 #[.pointer (some ⟨K.g, 0, none⟩)] w fun e w' => e = .returned (.bool false) ∧ w = w' := by
  have c := hB.cell 15 (by decide)
  have c : w.cell? ⟨K.g, 1862, none⟩ = some (.slice (some ⟨K.lb, 0, none⟩) K.nl K.nl) := by
    rw [show (1862 : Nat) = fat 15 from rfl, c]
    simp [h15]
  clear hB h15
  have qT : ∀ (w : World) (a : Option Addr) (n c n' c' : Nat), (binOp .eql 61 (.slice a n c) (.slice none n' c')).run Tryz.prog w = .ok (.bool a.isNone) w := fun w a n c n' c' => Lib.run_eql_slice_nil w _ _ a n c n' c' Tryz.underlying61
  go_enter Tryz.func37, Tryz.ntmps37
  go_wp2_with fail
  go_ret
  exact ⟨rfl, rfl⟩

set_option maxRecDepth 100000 in
set_option maxHeartbeats 4000000 in
theorem lbegin_any {f lo : Nat} {bs : List UInt8} (h : Un K w Gw lc lp pb dict) (hs : SetOk lc lp pb dict) (hnl : K.nl = 768 * 2 ^ (lc + lp)) (hF : Feed w f lo bs 0) (h1 : K.g < lo) (h2 : K.lb < lo) (h3 : K.m < lo) (h4 : ∀ i, Gw i → i < lo) :
    Calls Tryz.prog 17 #[.pointer (some ⟨K.g, 0, none⟩), .iface 52 (.pointer (some ⟨f, 0, none⟩))] w fun e w' =>
      e = .returned (.tuple #[]) ∧ ∃ dg, w.heap.size ≤ dg ∧ Nx (K.on dg f lo bs) w' Gw (Lzs.start lc lp pb dict) ⟨List.replicate (1847 + K.nl) 1024, started bs⟩ 0 ∧ Only (fun i => i = K.g ∨ i = f) w w' := by
  have KCl := Lib.hid (closed_any h.row.1 rfl)
  have KN := Lib.hid (pnew_any hF)
  have HX := Lib.hid (And.intro h (And.intro hs (And.intro hnl (And.intro hF (And.intro h1 (And.intro h2 (And.intro h3 h4)))))))
  clear h hs hnl hF h1 h2 h3 h4
  go_enter Tryz.func17, Tryz.ntmps17
  go_wp2_with fail
  refine KCl.out.mono ?_
  rintro e w1 ⟨rfl, rfl⟩
  clear KCl
  go_wp2_with fail
  refine KN.out.mono ?_
  rintro e w2 ⟨rfl, hP, hO⟩
  have hgf : K.g ≠ f := by
    have := HX.out.2.2.2.1.lo
    have := HX.out.2.2.2.2.1
    omega
  have hlf : K.lb ≠ f := by
    have := HX.out.2.2.2.1.lo
    have := HX.out.2.2.2.2.2.1
    omega
  have hR : Rk K (unFs K lc lp pb dict) w2 (List.replicate (1847 + K.nl) 1024) := (K.prb _ HX.out.1.gn).only HX.out.1.row hO (fun i hi e => by
    subst e
    rcases hi with hi | hi
    · exact hgf hi.symm
    · exact hlf hi.symm)
  have c4 : w2.cell? ⟨K.g, 4, none⟩ = some .nilIface := hR.1.cell 4 (by decide)
  have c5 : w2.cell? ⟨K.g, 5, none⟩ = some (.pointer none) := hR.1.cell 5 (by decide)
  have cl : w2.cell? ⟨K.g, 1863, none⟩ = some (.int .i64 0) := hR.1.cell 16 (by decide)
  have ce : w2.cell? ⟨K.g, 1864, none⟩ = some (.bool false) := hR.1.cell 17 (by decide)
  have cb : w2.cell? ⟨K.g, 1865, none⟩ = some (.bool false) := hR.1.cell 18 (by decide)
  have z4 := hR.1.free 4
  have z5 := hR.1.free 5
  have zl := hR.1.free 1863
  have ze := hR.1.free 1864
  have zb := hR.1.free 1865
  have HP := Lib.hid (And.intro hP (And.intro hO hR))
  clear hP hO hR hgf hlf KN
  go_wp2_with fail
  go_end0
  obtain ⟨hU, hs, hnl, hF, h1, h2, h3, h4⟩ := HX.out
  obtain ⟨hP, hO, hR⟩ := HP.out
  have hgn := hU.gn
  have hw1 := hF.lt
  have hfl := hF.lo
  have p4 := hR.put hgn 4 (by decide) (.iface 52 (.pointer (some ⟨f, 0, none⟩)))
  have p5 := p4.put hgn 5 (by decide) (.pointer (some ⟨w.heap.size, 0, none⟩))
  have p6 := p5.put hgn 16 (by decide) (.int .i64 0)
  have p7 := p6.put hgn 17 (by decide) (.bool false)
  have p8 := p7.put hgn 18 (by decide) (.bool false)
  have hOg := ((((((Only.refl (fun i => i = K.g) w2).setCell (p := ⟨K.g, 4, none⟩) (.inl rfl) (.iface 52 (.pointer (some ⟨f, 0, none⟩)))).setCell (p := ⟨K.g, 5, none⟩) (.inl rfl) (.pointer (some ⟨w.heap.size, 0, none⟩))).setCell (p := ⟨K.g, 1863, none⟩) (.inl rfl) (.int .i64 0)).setCell (p := ⟨K.g, 1864, none⟩) (.inl rfl) (.bool false)).setCell (p := ⟨K.g, 1865, none⟩) (.inl rfl) (.bool false))
  have hOall : Only (fun i => i = K.g ∨ i = f) w _ := (hO.mono fun i hi => .inr hi).trans (hOg.mono fun i hi => .inl hi)
  have hPd := hP.only hOg (fun i hi => .inl (by have := h1; omega))
  have hW : Pwin _ K.wg Gw K.m ⟨K.sz, [], false⟩ := hU.win.only hOall (fun i hi e => by
    have a1 := (hU.wd i hi).1
    have a2 := h4 i hi
    rcases e with e | e
    · exact a1 e
    · omega)
  have hnear : ZNear (Lzs.start lc lp pb dict) (1847 + K.nl) 0 := by
    have := start_near hs
    unfold probsN at this
    rw [hnl]
    exact this
  refine ⟨rfl, w.heap.size, Nat.le_refl _, ⟨⟨⟨hPd, p8, start_pm (dcOk_started bs)⟩, hW, ⟨h1, h2, h3, hgn, hU.mg, hU.mb, fun i hi => ?_⟩⟩, Nat.le_refl _, (by show 0 ≤ 0 + 273; omega), hnear, (fun hh => absurd hh (Nat.lt_irrefl 0)), rfl, rfl, fun j j1 j2 => absurd j2 (Nat.not_lt_zero j)⟩, hOall⟩
  have a1 := hU.wd i hi
  exact ⟨a1.1, a1.2.1, a1.2.2.1, .inl (h4 i hi)⟩
end
end Go.Proofs.YtpdpbbmkicemdaaGreat
