/-
  LzSim2, LzSim3, LzShort, LzFitN, LzCodeN, LzGo, CwRun: put together.
-/
import Derived.Test.YtkdmahdhbogmeaaT04
import Derived.Test.YtkdmahdhbogmeaaT01
set_option linter.unusedVariables false
set_option linter.unusedSimpArgs false
/-
  Two machines go one way: literals, distances, kinds.
-/
namespace Go.Proofs.Ytkdmahdhbogmeaa

section
variable {σ τ : Type} {M1 : Mach σ} {M2 : Mach τ} {ok : Nat → σ → Prop} {Rel : σ → τ → Prop} {Fut : σ → Prop} {Dead : τ → Prop}

def EqL (Rel : σ → τ → Prop) (Dead : τ → Prop) (r : Lg σ) (q : Lg τ) : Prop := Dead q.t.x ∨ (q.m = r.m ∧ q.same = r.same ∧ Sm Rel r.t q.t)
theorem lgStep_sim (S : Simu M1 ok M2 Rel Fut Dead) {L k a j y b : Nat} {b' : Int} {s : Lg σ} {q : Lg τ} (ht : PmOk ok L (k + 1) s.t) (ha : a + 768 ≤ L) (h0 : s.m < 2 ^ (j + 1)) (hj : j < 8) (hy : y ≤ 1) (hb : b ≤ 1) (hf : Fut (lgStep M1 a (y : Int) (b : Int) s).t.x) :
    Fut s.t.x ∧ (EqL Rel Dead s q → EqL Rel Dead (lgStep M1 a (y : Int) (b : Int) s) (lgStep M2 a (y : Int) b' q)) := by
  have hp : 2 ^ (j + 1) ≤ 256 := Nat.le_trans (Nat.pow_le_pow_right (by omega) (show j + 1 ≤ 8 by omega)) (by decide)
  have hm : M1.may (b : Int) := fun _ => by omega
  have hdead : Dead q.t.x → Dead (lgStep M2 a (y : Int) b' q).t.x := fun hd => by
    unfold lgStep
    split
    · exact bit_dead S.dbit hd
    · exact bit_dead S.dbit hd
  unfold lgStep at hf
  by_cases hs : s.same = true
  · rw [if_pos hs] at hf
    have hl : a + 256 * (1 + (y : Int).toNat) + s.m < L := by rw [Int.toNat_natCast]; omega
    have hf' := bitP_fut S ht hl hm hf
    refine ⟨hf', fun hq => ?_⟩
    rcases hq with hd | ⟨e1, e2, e3⟩
    · exact .inl (hdead hd)
    · unfold lgStep
      rw [if_pos hs, if_pos (by rw [e2]; exact hs), e1]
      rcases bitP_sim S (w' := b') ht hl hm hf (.inr e3) with hd | ⟨h1, h2⟩
      · exact .inl hd
      · exact .inr ⟨by dsimp only; rw [h1], by dsimp only; rw [h1], h2⟩
  · rw [if_neg hs] at hf
    have hf' := bitP_fut S ht (show a + s.m < L by omega) hm hf
    refine ⟨hf', fun hq => ?_⟩
    rcases hq with hd | ⟨e1, e2, e3⟩
    · exact .inl (hdead hd)
    · unfold lgStep
      rw [if_neg hs, if_neg (by rw [e2]; exact hs), e1]
      rcases bitP_sim S (w' := b') ht (show a + s.m < L by omega) hm hf (.inr e3) with hd | ⟨h1, h2⟩
      · exact .inl hd
      · exact .inr ⟨by dsimp only; rw [h1], rfl, h2⟩
theorem litG_sim (S : Simu M1 ok M2 Rel Fut Dead) {L k a : Nat} {o v v' : UInt8} {same : Bool} {t : Pm σ} {u : Pm τ} (ht : PmOk ok L (k + 8) t) (ha : a + 768 ≤ L) :
    ∀ j, j ≤ 8 → Fut (litG M1 t a o v same j).t.x → Fut t.x ∧ (Lk Rel Dead t u → EqL Rel Dead (litG M1 t a o v same j) (litG M2 u a o v' same j))
  | 0, _ => fun hf => ⟨hf, fun hq => by
    rcases hq with h | h
    · exact .inl h
    · exact .inr ⟨rfl, rfl, h⟩⟩
  | j + 1, hj => fun hf => by
    obtain ⟨h1, h2, h3⟩ := litG_ok S.okm (o := o) (v := v) (same := same) ht ha j (by omega)
    obtain ⟨y, hy, hy1⟩ := want_byte o (7 - j)
    obtain ⟨b, hb, hb1⟩ := want_byte v (7 - j)
    have hf : Fut (lgStep M1 a (want (o.toNat : Int) (7 - j)) (want (v.toNat : Int) (7 - j)) (litG M1 t a o v same j)).t.x := hf
    show Fut t.x ∧ (Lk Rel Dead t u → EqL Rel Dead (lgStep M1 a (want (o.toNat : Int) (7 - j)) (want (v.toNat : Int) (7 - j)) (litG M1 t a o v same j)) (lgStep M2 a (want (o.toNat : Int) (7 - j)) (want (v'.toNat : Int) (7 - j)) (litG M2 u a o v' same j)))
    rw [hy, hb] at hf ⊢
    obtain ⟨g1, g2⟩ := lgStep_sim S (q := litG M2 u a o v' same j) (b' := want (v'.toNat : Int) (7 - j)) (k := k + 8 - (j + 1)) (j := j) (by rw [show k + 8 - (j + 1) + 1 = k + 8 - j by omega]; exact h1) ha h3 (by omega) hy1 hb1 hf
    obtain ⟨i1, i2⟩ := litG_sim S (u := u) (v' := v') ht ha j (by omega) g1
    exact ⟨i1, fun hq => g2 (i2 hq)⟩
/-! ### kinds -/
def EqK (Rel : σ → τ → Prop) (Dead : τ → Prop) (r : Nat × Bool × Pm σ) (q : Nat × Bool × Pm τ) : Prop := Dead q.2.2.x ∨ (q.1 = r.1 ∧ q.2.1 = r.2.1 ∧ Sm Rel r.2.2 q.2.2)
def CK (ok : Nat → σ → Prop) (Rel : σ → τ → Prop) (Fut : σ → Prop) (Dead : τ → Prop) (L k : Nat) (C1 : Nat × Pm σ → Nat × Bool × Pm σ) (C2 : Nat × Pm τ → Nat × Bool × Pm τ) : Prop :=
  ∀ b q, PmOk ok L k b.2 → Fut (C1 b).2.2.x → Fut b.2.x ∧ (Eqv Rel Dead b q → EqK Rel Dead (C1 b) (C2 q))
theorem ck_bit (S : Simu M1 ok M2 Rel Fut Dead) {L k a : Nat} {w w' : Int} {C1 : Nat × Pm σ → Nat × Bool × Pm σ} {C2 : Nat × Pm τ → Nat × Bool × Pm τ} (hC : CK ok Rel Fut Dead L k C1 C2) {t : Pm σ} {u : Pm τ} (ht : PmOk ok L (k + 1) t) (ha : a < L) (hw : M1.may w)
    (hf : Fut (C1 (bitP M1 t a w)).2.2.x) : Fut t.x ∧ (Lk Rel Dead t u → EqK Rel Dead (C1 (bitP M1 t a w)) (C2 (bitP M2 u a w'))) := by
  have hb := (bitP_ok S.okm ht ha hw).2
  have g1 := (hC _ (bitP M2 u a w') hb hf).1
  exact ⟨bitP_fut S ht ha hw g1, fun hq => (hC _ _ hb hf).2 (bitP_sim S ht ha hw g1 hq)⟩
theorem ck_kd5 {L k : Nat} : CK ok Rel Fut Dead L k kd5 kd5 := fun b q _ hf => ⟨hf, fun he => by
  rcases he with hd | ⟨e1, e2⟩
  · exact .inl hd
  · refine .inr ⟨?_, rfl, e2⟩
    show (if q.1 = 0 then 4 else 5) = (if b.1 = 0 then 4 else 5)
    rw [e1]⟩
theorem ck_kdL {L k : Nat} : CK ok Rel Fut Dead L k kdL kdL := fun b q _ hf => ⟨hf, fun he => by
  rcases he with hd | ⟨e1, e2⟩
  · exact .inl hd
  · refine .inr ⟨?_, rfl, e2⟩
    show (if q.1 = 0 then 6 else 2) = (if b.1 = 0 then 6 else 2)
    rw [e1]⟩
theorem ck_kd4 (S : Simu M1 ok M2 Rel Fut Dead) {L k st : Nat} {kd kd' : Int} (hL : 1847 ≤ L) (hst : st ≤ 11) : CK ok Rel Fut Dead L (k + 1) (fun b => kd4 M1 b st kd) (fun q => kd4 M2 q st kd') := fun b q hb hf => by
  dsimp only at hf ⊢
  by_cases h0 : b.1 = 0
  · have e : kd4 M1 b st kd = (3, false, b.2) := if_pos h0
    rw [e] at hf ⊢
    refine ⟨hf, fun he => ?_⟩
    rcases he with hd | ⟨e1, e2⟩
    · left
      unfold kd4
      split
      · exact hd
      · exact bit_dead (M2 := M2) S.dbit (u := q.2) (a := 228 + st) (w := chI (kd' = 4)) hd
    · have e' : kd4 M2 q st kd' = (3, false, q.2) := if_pos (by rw [e1]; exact h0)
      rw [e']
      exact .inr ⟨rfl, rfl, e2⟩
  · have e : kd4 M1 b st kd = kd5 (bitP M1 b.2 (228 + st) (chI (kd = 4))) := if_neg h0
    rw [e] at hf ⊢
    obtain ⟨g1, g2⟩ := ck_bit S (w' := chI (kd' = 4)) (u := q.2) (ck_kd5 (L := L) (k := k)) hb (show 228 + st < L by omega) (chI_may _) hf
    refine ⟨g1, fun he => ?_⟩
    rcases he with hd | ⟨e1, e2⟩
    · left
      unfold kd4
      split
      · exact hd
      · exact bit_dead (M2 := M2) S.dbit (u := q.2) (a := 228 + st) (w := chI (kd' = 4)) hd
    · have e' : kd4 M2 q st kd' = kd5 (bitP M2 q.2 (228 + st) (chI (kd' = 4))) := if_neg (by rw [e1]; exact h0)
      rw [e']
      exact g2 (.inr e2)
theorem kd3_dead (S : Simu M1 ok M2 Rel Fut Dead) {q : Nat × Pm τ} {st s : Nat} {kd : Int} (hd : Dead q.2.x) : Dead (kd3 M2 q st s kd).2.2.x := by
  unfold kd3
  split
  · exact bit_dead (M2 := M2) S.dbit (u := q.2) (a := 240 + 16 * st + s) (w := chI (kd = 6)) hd
  · unfold kd4
    split
    · exact bit_dead (M2 := M2) S.dbit (u := q.2) (a := 216 + st) (w := chI (kd = 3)) hd
    · exact bit_dead (M2 := M2) S.dbit (u := (bitP M2 q.2 (216 + st) (chI (kd = 3))).2) (a := 228 + st) (w := chI (kd = 4)) (bit_dead (M2 := M2) S.dbit (u := q.2) (a := 216 + st) (w := chI (kd = 3)) hd)
theorem ck_kd3 (S : Simu M1 ok M2 Rel Fut Dead) {L k st s : Nat} {kd kd' : Int} (hL : 1847 ≤ L) (hst : st ≤ 11) (hs : s ≤ 15) : CK ok Rel Fut Dead L (k + 2) (fun b => kd3 M1 b st s kd) (fun q => kd3 M2 q st s kd') := fun b q hb hf => by
  dsimp only at hf ⊢
  by_cases h0 : b.1 = 0
  · have e : kd3 M1 b st s kd = kdL (bitP M1 b.2 (240 + 16 * st + s) (chI (kd = 6))) := if_pos h0
    rw [e] at hf ⊢
    obtain ⟨g1, g2⟩ := ck_bit S (w' := chI (kd' = 6)) (u := q.2) (ck_kdL (L := L) (k := k + 1)) hb (show 240 + 16 * st + s < L by omega) (chI_may _) hf
    refine ⟨g1, fun he => ?_⟩
    rcases he with hd | ⟨e1, e2⟩
    · exact .inl (kd3_dead S hd)
    · have e' : kd3 M2 q st s kd' = kdL (bitP M2 q.2 (240 + 16 * st + s) (chI (kd' = 6))) := if_pos (by rw [e1]; exact h0)
      rw [e']
      exact g2 (.inr e2)
  · have e : kd3 M1 b st s kd = kd4 M1 (bitP M1 b.2 (216 + st) (chI (kd = 3))) st kd := if_neg h0
    rw [e] at hf ⊢
    obtain ⟨g1, g2⟩ := ck_bit S (w' := chI (kd' = 3)) (u := q.2) (ck_kd4 S (L := L) (k := k) (st := st) (kd := kd) (kd' := kd') hL hst) hb (show 216 + st < L by omega) (chI_may _) hf
    refine ⟨g1, fun he => ?_⟩
    rcases he with hd | ⟨e1, e2⟩
    · exact .inl (kd3_dead S hd)
    · have e' : kd3 M2 q st s kd' = kd4 M2 (bitP M2 q.2 (216 + st) (chI (kd' = 3))) st kd' := if_neg (by rw [e1]; exact h0)
      rw [e']
      exact g2 (.inr e2)
theorem kd2_dead (S : Simu M1 ok M2 Rel Fut Dead) {q : Nat × Pm τ} {em : Bool} {st s : Nat} {kd : Int} (hd : Dead q.2.x) : Dead (kd2 M2 q em st s kd).2.2.x := by
  unfold kd2
  split
  · exact hd
  split
  · exact hd
  · exact kd3_dead S (bit_dead (M2 := M2) S.dbit (u := q.2) (a := 204 + st) (w := chI (kd = 2 ∨ kd = 6)) hd)
theorem ck_kd2 (S : Simu M1 ok M2 Rel Fut Dead) {L k st s : Nat} {em : Bool} {kd kd' : Int} (hL : 1847 ≤ L) (hst : st ≤ 11) (hs : s ≤ 15) : CK ok Rel Fut Dead L (k + 3) (fun b => kd2 M1 b em st s kd) (fun q => kd2 M2 q em st s kd') := fun b q hb hf => by
  dsimp only at hf ⊢
  by_cases h0 : b.1 = 0
  · have e : kd2 M1 b em st s kd = (1, false, b.2) := if_pos h0
    rw [e] at hf ⊢
    refine ⟨hf, fun he => ?_⟩
    rcases he with hd | ⟨e1, e2⟩
    · exact .inl (kd2_dead S hd)
    · have e' : kd2 M2 q em st s kd' = (1, false, q.2) := if_pos (by rw [e1]; exact h0)
      rw [e']
      exact .inr ⟨rfl, rfl, e2⟩
  · by_cases hem : em = true
    · have e : kd2 M1 b em st s kd = (6, true, b.2) := by unfold kd2; rw [if_neg h0, if_pos hem]
      rw [e] at hf ⊢
      refine ⟨hf, fun he => ?_⟩
      rcases he with hd | ⟨e1, e2⟩
      · exact .inl (kd2_dead S hd)
      · have e' : kd2 M2 q em st s kd' = (6, true, q.2) := by unfold kd2; rw [if_neg (by rw [e1]; exact h0), if_pos hem]
        rw [e']
        exact .inr ⟨rfl, rfl, e2⟩
    · have e : kd2 M1 b em st s kd = kd3 M1 (bitP M1 b.2 (204 + st) (chI (kd = 2 ∨ kd = 6))) st s kd := by unfold kd2; rw [if_neg h0, if_neg hem]
      rw [e] at hf ⊢
      obtain ⟨g1, g2⟩ := ck_bit S (w' := chI (kd' = 2 ∨ kd' = 6)) (u := q.2) (ck_kd3 S (L := L) (k := k) (st := st) (s := s) (kd := kd) (kd' := kd') hL hst hs) hb (show 204 + st < L by omega) (chI_may _) hf
      refine ⟨g1, fun he => ?_⟩
      rcases he with hd | ⟨e1, e2⟩
      · exact .inl (kd2_dead S hd)
      · have e' : kd2 M2 q em st s kd' = kd3 M2 (bitP M2 q.2 (204 + st) (chI (kd' = 2 ∨ kd' = 6))) st s kd' := by unfold kd2; rw [if_neg (by rw [e1]; exact h0), if_neg hem]
        rw [e']
        exact g2 (.inr e2)
theorem ck_kd1 (S : Simu M1 ok M2 Rel Fut Dead) {L k st s : Nat} {em : Bool} {kd kd' : Int} (hL : 1847 ≤ L) (hst : st ≤ 11) (hs : s ≤ 15) : CK ok Rel Fut Dead L (k + 4) (fun b => kd1 M1 b em st s kd) (fun q => kd1 M2 q em st s kd') := fun b q hb hf => by
  dsimp only at hf ⊢
  have hdd : Dead q.2.x → Dead (kd1 M2 q em st s kd').2.2.x := fun hd => by
    unfold kd1
    split
    · exact hd
    · exact kd2_dead S (bit_dead (M2 := M2) S.dbit (u := q.2) (a := 192 + st) (w := chI (kd' = 1 ∨ kd' = 7)) hd)
  by_cases h0 : b.1 = 0
  · have e : kd1 M1 b em st s kd = (0, false, b.2) := if_pos h0
    rw [e] at hf ⊢
    refine ⟨hf, fun he => ?_⟩
    rcases he with hd | ⟨e1, e2⟩
    · exact .inl (hdd hd)
    · have e' : kd1 M2 q em st s kd' = (0, false, q.2) := if_pos (by rw [e1]; exact h0)
      rw [e']
      exact .inr ⟨rfl, rfl, e2⟩
  · have e : kd1 M1 b em st s kd = kd2 M1 (bitP M1 b.2 (192 + st) (chI (kd = 1 ∨ kd = 7))) em st s kd := if_neg h0
    rw [e] at hf ⊢
    obtain ⟨g1, g2⟩ := ck_bit S (w' := chI (kd' = 1 ∨ kd' = 7)) (u := q.2) (ck_kd2 S (L := L) (k := k) (st := st) (s := s) (em := em) (kd := kd) (kd' := kd') hL hst hs) hb (show 192 + st < L by omega) (chI_may _) hf
    refine ⟨g1, fun he => ?_⟩
    rcases he with hd | ⟨e1, e2⟩
    · exact .inl (hdd hd)
    · have e' : kd1 M2 q em st s kd' = kd2 M2 (bitP M2 q.2 (192 + st) (chI (kd' = 1 ∨ kd' = 7))) em st s kd' := if_neg (by rw [e1]; exact h0)
      rw [e']
      exact g2 (.inr e2)
theorem kindP_sim (S : Simu M1 ok M2 Rel Fut Dead) {L k st s : Nat} {em : Bool} {kd kd' : Int} {t : Pm σ} {u : Pm τ} (ht : PmOk ok L (k + 5) t) (hL : 1847 ≤ L) (hst : st ≤ 11) (hs : s ≤ 15) (hk : M1.mayN kd) (hf : Fut (kindP M1 t em st s kd).2.2.x) :
    Fut t.x ∧ (Lk Rel Dead t u → EqK Rel Dead (kindP M1 t em st s kd) (kindP M2 u em st s kd')) := by
  have hmay : M1.may (min kd 1) := fun he => by have := hk he; omega
  exact ck_bit S (w' := min kd' 1) (u := u) (ck_kd1 S (L := L) (k := k) (st := st) (s := s) (em := em) (kd := kd) (kd' := kd') hL hst hs) ht (show 16 * st + s < L by omega) hmay hf
end
end Go.Proofs.Ytkdmahdhbogmeaa

/-
  Two machines go one way: packets; what a coder codes a decoder tells; with a byte fewer it tells the same, or falls dead.
-/
namespace Go.Proofs.Ytkdmahdhbogmeaa

section
variable {σ τ : Type} {M1 : Mach σ} {M2 : Mach τ} {ok : Nat → σ → Prop} {Rel : σ → τ → Prop} {Fut : σ → Prop} {Dead : τ → Prop}

def EqP (Rel : σ → τ → Prop) (Dead : τ → Prop) (r : Nat × Lzs × Pm σ) (q : Nat × Lzs × Pm τ) : Prop := Dead q.2.2.x ∨ (q.1 = r.1 ∧ q.2.1 = r.2.1 ∧ Sm Rel r.2.2 q.2.2)

end

end Go.Proofs.Ytkdmahdhbogmeaa

/-
  A decoder with a byte fewer tells the same, or falls bad; what a coder tells is what is wanted.
-/
namespace Go.Proofs.Ytkdmahdhbogmeaa

/-- the one has a byte more behind it -/
def OneMore (y : UInt8) (d d' : Dc) : Prop := ∃ r c s, d = some (r, c, s ++ [y]) ∧ d' = some (r, c, s)
theorem lvl_short (y : UInt8) (r c : Nat) (s : List UInt8) : lvl r c s = none ∨ OneMore y (lvl r c (s ++ [y])) (lvl r c s) := by
  unfold lvl
  by_cases h : r < 16777216
  · rw [if_pos h, if_pos h]
    cases s with
    | nil => exact .inl rfl
    | cons x t => exact .inr ⟨r * 256, c * 256 + x.toNat, t, rfl, rfl⟩
  · rw [if_neg h, if_neg h]
    exact .inr ⟨r, c, s, rfl, rfl⟩
theorem one_short {y : UInt8} {d d' : Dc} (h : OneMore y d d') : (oneD d').2 = none ∨ ((oneD d').1 = (oneD d).1 ∧ OneMore y (oneD d).2 (oneD d').2) := by
  obtain ⟨r, c, s, rfl, rfl⟩ := h
  by_cases hc : c < r / 2
  · have e1 : oneD (some (r, c, s)) = (0, lvl (r / 2) c s) := by show (if _ then _ else _) = _; rw [if_pos hc]
    have e2 : oneD (some (r, c, s ++ [y])) = (0, lvl (r / 2) c (s ++ [y])) := by show (if _ then _ else _) = _; rw [if_pos hc]
    rw [e1, e2]
    rcases lvl_short y (r / 2) c s with h | h
    · exact .inl h
    · exact .inr ⟨rfl, h⟩
  · by_cases h2 : c - r / 2 < r / 2
    · have e1 : oneD (some (r, c, s)) = (1, lvl (r / 2) (c - r / 2) s) := by show (if _ then _ else _) = _; rw [if_neg hc, if_pos h2]
      have e2 : oneD (some (r, c, s ++ [y])) = (1, lvl (r / 2) (c - r / 2) (s ++ [y])) := by show (if _ then _ else _) = _; rw [if_neg hc, if_pos h2]
      rw [e1, e2]
      rcases lvl_short y (r / 2) (c - r / 2) s with h | h
      · exact .inl h
      · exact .inr ⟨rfl, h⟩
    · left
      show (if _ then _ else _ : Nat × Dc).2 = none
      rw [if_neg hc, if_neg h2]
theorem go_short {y : UInt8} {d d' : Dc} (h : OneMore y d d') : ∀ n, (straightGo d' n).2 = none ∨ ((straightGo d' n).1 = (straightGo d n).1 ∧ OneMore y (straightGo d n).2 (straightGo d' n).2)
  | 0 => .inr ⟨rfl, h⟩
  | n + 1 => by
    rcases go_short h n with h1 | ⟨h1, h2⟩
    · left
      show (oneD (straightGo d' n).2).2 = none
      rw [h1]; rfl
    · rcases one_short h2 with h3 | ⟨h3, h4⟩
      · exact .inl h3
      · right
        refine ⟨?_, h4⟩
        show 2 * (straightGo d' n).1 + (oneD (straightGo d' n).2).1 = 2 * (straightGo d n).1 + (oneD (straightGo d n).2).1
        rw [h1, h3]
section
variable {σ : Type} {M : Mach σ} {ok : Nat → σ → Prop}
/-- the least first: what is told is what is wanted -/
theorem revG_tell (h : MachOk M ok) (he : M.enc = true) {t : Pm σ} {a v : Nat} : ∀ j, (revG M t a (v : Int) j).o = v % 2 ^ j
  | 0 => by show 0 = v % 1; omega
  | j + 1 => by
    have hb : (bitP M (revG M t a (v : Int) j).t (a + (revG M t a (v : Int) j).m) (want (v : Int) j)).1 = bitOf v j := by
      have := h.tell (x := (revG M t a (v : Int) j).t.x) (p := (revG M t a (v : Int) j).t.ps.getD (a + (revG M t a (v : Int) j).m) 0) (w := want (v : Int) j) he
      rw [want_nat, Int.toNat_natCast] at this
      rw [want_nat]
      exact this
    show (revG M t a (v : Int) j).o + (bitP M (revG M t a (v : Int) j).t (a + (revG M t a (v : Int) j).m) (want (v : Int) j)).1 * 2 ^ j = _
    rw [hb, revG_tell h he j, low_bits]
theorem revP_tell (h : MachOk M ok) (he : M.enc = true) {t : Pm σ} {a n v : Nat} (hv : v < 2 ^ n) : (revP M t a n (v : Int)).1 = v := by
  show (revG M t a (v : Int) n).o = v
  rw [revG_tell h he n, Nat.mod_eq_of_lt hv]
end
theorem str_tell {e : En} {n v : Nat} : (encM.str e n v).1 = v := rfl

theorem distP_tell {L k l v : Nat} {t : Pm En} (ht : PmOk okE L (k + 12) t) (hL0 : 1847 ≤ L) (hv : v < 4294967296) : (distP encM t l v).1 = v := by
  obtain ⟨s1, s2, s3⟩ := slot_spec hv
  have htell : (treeP encM t (432 + 64 * min l 3) 6 ((slotOf v : Nat) : Int)).1 = slotOf v := treeP_tell encM_ok rfl s1
  have hdef : distP encM t l v = distB encM (treeP encM t (432 + 64 * min l 3) 6 ((slotOf v : Nat) : Int)) v := rfl
  rw [hdef]
  generalize treeP encM t (432 + 64 * min l 3) 6 ((slotOf v : Nat) : Int) = sl at *
  unfold distB
  by_cases h4 : sl.1 < 4
  · rw [if_pos h4, htell]
    exact (s2 (by omega)).symm
  rw [if_neg h4]
  obtain ⟨n, hn⟩ : ∃ n, n = sl.1 / 2 - 1 := ⟨_, rfl⟩
  obtain ⟨r, hr⟩ : ∃ r, r = sl.1 % 2 := ⟨_, rfl⟩
  obtain ⟨P, hP⟩ : ∃ P, P = 2 ^ n := ⟨_, rfl⟩
  obtain ⟨base, hb⟩ : ∃ b, b = (2 + r) * P := ⟨_, rfl⟩
  have hspec : base ≤ v ∧ v < base + P := by
    have h2 := s3 (by omega)
    rw [← htell, ← hn, ← hr, ← hP, ← hb] at h2
    exact h2
  by_cases h14 : sl.1 < 14
  · rw [if_pos h14, ← hn, ← hr, ← hP, ← hb]
    dsimp only
    rw [show (v : Int) - (base : Int) = ((v - base : Nat) : Int) by omega, revP_tell encM_ok rfl (by rw [← hP]; omega)]
    omega
  · rw [if_neg h14, ← hn, ← hr, ← hP, ← hb]
    have hn5 : 6 ≤ n := by omega
    obtain ⟨P4, hP4⟩ : ∃ P, P = 2 ^ (n - 4) := ⟨_, rfl⟩
    have hPP : P = 16 * P4 := by rw [hP, hP4, show (16 : Nat) = 2 ^ 4 from rfl, ← Nat.pow_add, show 4 + (n - 4) = n by omega]
    unfold distC
    dsimp only
    rw [str_tell, revP_tell encM_ok rfl (show v % 16 < 2 ^ 4 by omega)]
    have hbm : base % 16 = 0 := by rw [hb, hPP, show (2 + r) * (16 * P4) = 16 * ((2 + r) * P4) by rw [Nat.mul_left_comm], Nat.mul_mod_right]
    have hsl : slotOf v < 64 := s1
    have hn30 : n ≤ 30 := by omega
    have hP30 : P ≤ 2 ^ 30 := by rw [hP]; exact pow_le_of hn30
    omega
end Go.Proofs.Ytkdmahdhbogmeaa

/-
  Whether a packet may be coded, as numbers.
-/
namespace Go.Proofs.Ytkdmahdhbogmeaa

/-- whether it can't be, whatever is there -/
def lateP (ended : Bool) (kd len : Int) : Bool := ended || decide (kd ≠ 0 ∧ kd ≠ 6 ∧ kd ≠ 7 ∧ (len < 2 ∨ 273 < len))
/-- whether it can -/
def hasP (z : Lzs) (kd : Int) (d : Nat) : Bool :=
  if kd = 0 ∨ kd = 7 then true else if kd = 1 then z.has d else if kd = 2 then z.has z.r0 else if kd = 3 then z.has z.r1 else if kd = 4 then z.has z.r2 else if kd = 5 then z.has z.r3 else if kd = 6 then z.has z.r0 else false
def fitsP (z : Lzs) (kd : Int) (d : Nat) (len : Int) : Bool := if lateP z.ended kd len = true then false else hasP z kd d

theorem fits_may {z : Lzs} {kd len : Int} {d : Nat} (h : fitsP z kd d len = true) : z.ended = false ∧ 0 ≤ kd ∧ kd ≤ 7 ∧ (z.out.length = 0 → kd = 0 ∨ kd = 7) ∧ (1 ≤ kd ∧ kd ≤ 5 → 2 ≤ len ∧ len ≤ 273) ∧
    (kd = 1 → z.has d = true) ∧ (kd = 2 → z.has z.r0 = true) ∧ (kd = 3 → z.has z.r1 = true) ∧ (kd = 4 → z.has z.r2 = true) ∧ (kd = 5 → z.has z.r3 = true) ∧ (kd = 6 → z.has z.r0 = true) := by
  have hl : lateP z.ended kd len = false := by
    cases hl : lateP z.ended kd len with
    | false => rfl
    | true => unfold fitsP at h; rw [hl] at h; cases h
  unfold fitsP at h
  rw [hl] at h
  have h : hasP z kd d = true := h
  unfold lateP at hl
  have he : z.ended = false := by
    cases he : z.ended with
    | false => rfl
    | true => rw [he] at hl; cases hl
  rw [he] at hl
  have hl2 := of_decide_eq_false (show decide (kd ≠ 0 ∧ kd ≠ 6 ∧ kd ≠ 7 ∧ (len < 2 ∨ 273 < len)) = false from hl)
  have hno : ∀ e, z.has e = true → z.out.length ≠ 0 := by
    intro e he h0
    unfold Lzs.has at he
    have := of_decide_eq_true he
    omega
  unfold hasP at h
  split at h
  · rename_i hk
    exact ⟨he, by omega, by omega, fun _ => hk, by omega, by omega, by omega, by omega, by omega, by omega, by omega⟩
  split at h
  · rename_i hk
    exact ⟨he, by omega, by omega, fun h0 => absurd h0 (hno _ h), by omega, fun _ => h, by omega, by omega, by omega, by omega, by omega⟩
  split at h
  · rename_i hk
    exact ⟨he, by omega, by omega, fun h0 => absurd h0 (hno _ h), by omega, by omega, fun _ => h, by omega, by omega, by omega, by omega⟩
  split at h
  · rename_i hk
    exact ⟨he, by omega, by omega, fun h0 => absurd h0 (hno _ h), by omega, by omega, by omega, fun _ => h, by omega, by omega, by omega⟩
  split at h
  · rename_i hk
    exact ⟨he, by omega, by omega, fun h0 => absurd h0 (hno _ h), by omega, by omega, by omega, by omega, fun _ => h, by omega, by omega⟩
  split at h
  · rename_i hk
    exact ⟨he, by omega, by omega, fun h0 => absurd h0 (hno _ h), by omega, by omega, by omega, by omega, by omega, fun _ => h, by omega⟩
  split at h
  · rename_i hk
    exact ⟨he, by omega, by omega, fun h0 => absurd h0 (hno _ h), by omega, by omega, by omega, by omega, by omega, by omega, fun _ => h⟩
  · cases h
end Go.Proofs.Ytkdmahdhbogmeaa

/-
  Packets are coded, as numbers.
-/
namespace Go.Proofs.Ytkdmahdhbogmeaa
open Go.RowKit

def Pq.pk (q : Pq) : Pk := ⟨q.k, q.v.toNat, q.n, UInt8.ofNat q.a.toNat⟩
/-- whether it is coded -/
def takesP (most : Int) (z : Lzs) (q : Pq) : Bool := fitsP z q.k q.v.toNat q.n && decide (IntKind.i64.wrap ((z.out.length : Int) + max 1 q.n) ≤ most)
def codeS (most : Int) (s : Lzs × Pm En) (q : Pq) : Lzs × Pm En := if takesP most s.1 q = true then (packP encM s.1 s.2 q.pk).2 else s
def codeG (most : Int) (qs : Nat → Pq) (s : Lzs × Pm En) : Nat → Lzs × Pm En
  | 0 => s
  | j + 1 => codeS most (codeG most qs s j) (qs j)

theorem fits_pk {z : Lzs} {q : Pq} (hq : PqLit q) (h : fitsP z q.k q.v.toNat q.n = true) : PkFine q.pk ∧ PkMay encM z q.pk ∧ PkLen encM q.pk := by
  obtain ⟨_, h1, h2, h3, h4, _⟩ := fits_may h
  refine ⟨⟨by show -1000000 ≤ q.k; omega, by show q.k ≤ 1000000; omega, by show q.v.toNat < 4294967296; have := hq.v; omega⟩, fun _ => ⟨h1, h2, fun h0 => ?_, fun h => (h4 h).1⟩, ?_⟩
  · rcases h3 h0 with h | h
    · exact .inl h
    · exact .inr (.inr h)
  · by_cases hk : 1 ≤ q.k ∧ q.k ≤ 5
    · have := h4 hk
      exact .inl ⟨by show -900000 ≤ q.n; omega, by show q.n ≤ 900000; omega⟩
    · exact .inr ⟨rfl, by show q.k = 0 ∨ q.k = 6 ∨ q.k = 7; omega⟩

/-- the bounds, behind j packets -/
theorem codeG_ok {most : Int} {qs : Nat → Pq} {s : Lzs × Pm En} {L N k m : Nat} (hq : ∀ i, i < m → PqLit (qs i)) (hz : ZNear s.1 L N) (ht : PmOk okE L (k + 27 * m) s.2) :
    ∀ j, j ≤ m → ZNear (codeG most qs s j).1 L (N + 273 * j) ∧ PmOk okE L (k + 27 * (m - j)) (codeG most qs s j).2
  | 0, _ => ⟨hz, ht⟩
  | j + 1, hj => by
    obtain ⟨h1, h2⟩ := codeG_ok hq hz ht j (by omega)
    show ZNear (codeS most (codeG most qs s j) (qs j)).1 L _ ∧ PmOk okE L _ (codeS most (codeG most qs s j) (qs j)).2
    unfold codeS
    split
    · rename_i hc
      unfold takesP at hc
      have hf : fitsP (codeG most qs s j).1 (qs j).k (qs j).v.toNat (qs j).n = true := by
        revert hc
        cases fitsP (codeG most qs s j).1 (qs j).k (qs j).v.toNat (qs j).n <;> simp
      obtain ⟨f1, f2, f3⟩ := fits_pk (hq j (by omega)) hf
      obtain ⟨p1, p2, _⟩ := packP_near encM_ok (k := k + 27 * (m - (j + 1))) h1 (by rw [show k + 27 * (m - (j + 1)) + 27 = k + 27 * (m - j) by omega]; exact h2) f1 f2
      exact ⟨p1.more (by omega), p2⟩
    · exact ⟨h1.more (by omega), h2.mono encM_ok (by omega)⟩
end Go.Proofs.Ytkdmahdhbogmeaa

/-
  What a coder's packets leave: they tell, and are not bad; the end mark is long.
-/
namespace Go.Proofs.Ytkdmahdhbogmeaa

theorem copyG_all : ∀ (f n : Nat) {z : Lzs}, z.has z.r0 = true → (copyG f n z).2.bad = z.bad ∧ (copyG f n z).2.ended = z.ended ∧ (copyG f n z).2.out.length = z.out.length + f
  | 0, n, z, _ => ⟨rfl, rfl, rfl⟩
  | f + 1, n, z, h => by
    rw [copyG_go h]
    have h2 : (z.push (z.back z.r0)).has (z.push (z.back z.r0)).r0 = true := by
      unfold Lzs.has at h ⊢
      have := of_decide_eq_true h
      refine decide_eq_true ⟨?_, this.2⟩
      show z.r0 < (z.out ++ [_]).length
      rw [List.length_append]
      omega
    obtain ⟨a, b, c⟩ := copyG_all f (n + 1) h2
    refine ⟨a, b, ?_⟩
    rw [c]
    show (z.out ++ [_]).length + f = _
    rw [List.length_append, List.length_singleton]
    omega
theorem tailP_all {σ : Type} {M : Mach σ} {many : Nat} {z : Lzs} {t : Pm σ} (h1 : z.bad = false) (h2 : M.bad t.x = false) (h3 : z.ended = false) (h : z.has z.r0 = true) (hm : 1 ≤ many) :
    (tailP M many z t).2.1.bad = false ∧ (tailP M many z t).2.1.ended = false ∧ z.out.length < (tailP M many z t).2.1.out.length := by
  unfold tailP
  rw [if_neg (by rw [h1, h2, h3]; simp)]
  obtain ⟨a, b, c⟩ := copyG_all many 0 h
  refine ⟨a.trans h1, b.trans h3, ?_⟩
  show _ < (copyG many 0 z).2.out.length
  rw [c]
  omega

/-! ### lengths -/
theorem even_grow (n l r : Nat) : l ≤ (En.even ⟨n, l, r⟩).l ∧ (En.even ⟨n, l, r⟩).r = r * 256 ^ ((En.even ⟨n, l, r⟩).l - l) := by
  unfold En.even
  split
  · exact ⟨by dsimp only; omega, by dsimp only; rw [show l + 1 - l = 1 by omega, Nat.pow_one]⟩
  · exact ⟨Nat.le_refl _, by dsimp only; rw [Nat.sub_self, Nat.pow_zero, Nat.mul_one]⟩
theorem one_grow (e : En) (b : Nat) : e.l ≤ (e.one b).l ∧ (e.one b).r * 2 ≤ e.r * 256 ^ ((e.one b).l - e.l) := by
  have key : ∀ n, e.l ≤ (En.even ⟨n, e.l, e.r / 2⟩).l ∧ (En.even ⟨n, e.l, e.r / 2⟩).r * 2 ≤ e.r * 256 ^ ((En.even ⟨n, e.l, e.r / 2⟩).l - e.l) := by
    intro n
    obtain ⟨h1, h2⟩ := even_grow n e.l (e.r / 2)
    refine ⟨h1, ?_⟩
    rw [h2, Nat.mul_assoc, Nat.mul_comm _ 2, ← Nat.mul_assoc]
    exact Nat.mul_le_mul_right _ (by omega)
  unfold En.one
  split
  · exact key _
  · exact key _
theorem strE_grow (e : En) (v n : Nat) : ∀ j, e.l ≤ (strE e v n j).l ∧ (strE e v n j).r * 2 ^ j ≤ e.r * 256 ^ ((strE e v n j).l - e.l)
  | 0 => ⟨Nat.le_refl _, by show e.r * 2 ^ 0 ≤ e.r * 256 ^ (e.l - e.l); rw [Nat.sub_self]; omega⟩
  | j + 1 => by
    obtain ⟨h1, h2⟩ := strE_grow e v n j
    obtain ⟨h3, h4⟩ := one_grow (strE e v n j) (bitOf v (n - 1 - j))
    refine ⟨Nat.le_trans h1 h3, ?_⟩
    show ((strE e v n j).one _).r * 2 ^ (j + 1) ≤ e.r * 256 ^ (((strE e v n j).one _).l - e.l)
    generalize (strE e v n j).one (bitOf v (n - 1 - j)) = o at *
    generalize strE e v n j = s at *
    rw [show o.l - e.l = (s.l - e.l) + (o.l - s.l) by omega, Nat.pow_add 256, Nat.pow_succ 2 j]
    calc o.r * (2 ^ j * 2) = (o.r * 2) * 2 ^ j := by rw [Nat.mul_comm (2 ^ j) 2, Nat.mul_assoc]
      _ ≤ (s.r * 256 ^ (o.l - s.l)) * 2 ^ j := Nat.mul_le_mul_right _ h4
      _ = (s.r * 2 ^ j) * 256 ^ (o.l - s.l) := by rw [Nat.mul_assoc, Nat.mul_comm (256 ^ _) (2 ^ j), ← Nat.mul_assoc]
      _ ≤ (e.r * 256 ^ (s.l - e.l)) * 256 ^ (o.l - s.l) := Nat.mul_le_mul_right _ h2
      _ = e.r * (256 ^ (s.l - e.l) * 256 ^ (o.l - s.l)) := by rw [Nat.mul_assoc]
theorem str_long {e : En} (he : EnOk e) (v : Nat) : e.l + 2 ≤ (strE e v 26 26).l := by
  obtain ⟨h1, h2⟩ := strE_grow e v 26 26
  have h3 := (strE_ok he v 26 26).1
  have h4 := he.2.1
  rcases Nat.lt_or_ge ((strE e v 26 26).l) (e.l + 2) with hlt | hge
  · exfalso
    have hk : (strE e v 26 26).l - e.l ≤ 1 := by omega
    have hp : 256 ^ ((strE e v 26 26).l - e.l) ≤ 256 ^ 1 := Nat.pow_le_pow_right (by omega) hk
    have h5 : e.r * 256 ^ ((strE e v 26 26).l - e.l) ≤ 4294967296 * 256 ^ 1 := Nat.mul_le_mul (by omega) hp
    have h6 : 16777216 * 2 ^ 26 ≤ (strE e v 26 26).r * 2 ^ 26 := Nat.mul_le_mul_right _ h3
    omega
  · exact hge
/-- a coder's bytes only grow -/
theorem len_simu (F c : Nat) : Simu encM okE encM (fun _ _ => True) (fun e => e.l + c ≤ F) (fun _ => True) where
  okm := encM_ok
  bit := fun _ _ _ _ _ => .inl trivial
  str := fun _ _ _ _ _ => .inl trivial
  fbit := by
    intro x k p w hx hp hw h
    have := reach_len (bit_reach (b := w.toNat) hx.1 hp)
    have h : (x.bit p w.toNat).l + c ≤ F := h
    omega
  fstr := by
    intro x k n v hx h
    have h2 := strE_reach x v n 0 n
    rw [Nat.zero_add] at h2
    have := reach_len h2
    have h : (strE x v n n).l + c ≤ F := h
    have h3 : x.l ≤ (strE x v n n).l := this
    omega
  dbit := fun _ => trivial
  dstr := fun _ => trivial
  same := fun _ => rfl
theorem dist_long {L k l : Nat} {t : Pm En} (ht : PmOk okE L (k + 12) t) (hL0 : 1847 ≤ L) : t.x.l + 2 ≤ (distP encM t l 4294967295).2.x.l := by
  have hv : (4294967295 : Nat) < 4294967296 := by decide
  obtain ⟨s1, s2, s3⟩ := slot_spec hv
  have hslot : slotOf 4294967295 = 63 := by decide +kernel
  have hmv : encM.mayN ((slotOf 4294967295 : Nat) : Int) := fun _ => by omega
  have htell : (treeP encM t (432 + 64 * min l 3) 6 ((slotOf 4294967295 : Nat) : Int)).1 = 63 := by rw [treeP_tell encM_ok rfl s1, hslot]
  have hT := (treeP_ok encM_ok (k := k + 6) (n := 6) (a := 432 + 64 * min l 3) (v := ((slotOf 4294967295 : Nat) : Int)) (t := t) ht (by show 432 + 64 * min l 3 + 64 ≤ L; omega) hmv).2
  have hmono := fun hf => (treeP_sim (len_simu (distP encM t l 4294967295).2.x.l 2) (u := t) (v' := 0) (k := k + 6) (n := 6) (a := 432 + 64 * min l 3) (v := ((slotOf 4294967295 : Nat) : Int)) (t := t) ht (by show 432 + 64 * min l 3 + 64 ≤ L; omega) hmv hf).1
  refine hmono ?_
  have hdef : distP encM t l 4294967295 = distB encM (treeP encM t (432 + 64 * min l 3) 6 ((slotOf 4294967295 : Nat) : Int)) 4294967295 := rfl
  rw [hdef]
  generalize treeP encM t (432 + 64 * min l 3) 6 ((slotOf 4294967295 : Nat) : Int) = sl at *
  unfold distB
  rw [if_neg (by rw [htell]; decide), if_neg (by rw [htell]; decide), htell]
  unfold distC
  have hS := encM_ok.str (k := k + 5) (n := 26) (v := (4294967295 + 4294967296 - (2 + 63 % 2) * 2 ^ (63 / 2 - 1)) % 4294967296 / 16) hT.x (by decide) (fun _ => by decide)
  have hp2 : PmOk okE L (k + 5) (⟨sl.2.ps, (encM.str sl.2.x 26 ((4294967295 + 4294967296 - (2 + 63 % 2) * 2 ^ (63 / 2 - 1)) % 4294967296 / 16)).2⟩ : Pm En) := ⟨hT.ps, hT.len, hS.2⟩
  have hmr : encM.mayN ((4294967295 % 16 : Nat) : Int) := fun _ => by omega
  have hrev := (revP_sim (len_simu (revP encM ⟨sl.2.ps, (encM.str sl.2.x 26 ((4294967295 + 4294967296 - (2 + 63 % 2) * 2 ^ (63 / 2 - 1)) % 4294967296 / 16)).2⟩ 803 4 ((4294967295 % 16 : Nat) : Int)).2.x.l 0) (u := ⟨sl.2.ps, (encM.str sl.2.x 26 ((4294967295 + 4294967296 - (2 + 63 % 2) * 2 ^ (63 / 2 - 1)) % 4294967296 / 16)).2⟩) (v' := 0) (k := k) (n := 4) (a := 803) (v := ((4294967295 % 16 : Nat) : Int)) (hp2.mono encM_ok (show k + 4 ≤ k + 5 by omega)) (by show 803 + 16 ≤ L; omega) hmr (Nat.le_refl _)).1
  have hlong := str_long hT.x.1 ((4294967295 + 4294967296 - (2 + 63 % 2) * 2 ^ (63 / 2 - 1)) % 4294967296 / 16)
  exact Nat.le_trans hlong hrev

/-- a packet that fits, and is no end mark, tells -/
theorem pack_enc {L k N : Nat} {z : Lzs} {t : Pm En} {q : Pq} (hz : ZNear z L N) (ht : PmOk okE L (k + 27) t) (hq : PqLit q) (hf : fitsP z q.k q.v.toNat q.n = true) (hb : z.bad = false) :
    (q.k ≠ 7 → (packP encM z t q.pk).2.1.bad = false ∧ (packP encM z t q.pk).2.1.ended = false ∧ z.out.length < (packP encM z t q.pk).2.1.out.length) ∧
    (q.k = 7 → (packP encM z t q.pk).2.1.bad = false ∧ (packP encM z t q.pk).2.1.ended = true ∧ (packP encM z t q.pk).2.1.out = z.out ∧ t.x.l + 2 ≤ (packP encM z t q.pk).2.2.x.l) := by
  obtain ⟨f0, f1, f2, f3, f4, f5, f6, f7, f8, f9, f10⟩ := fits_may hf
  obtain ⟨pf, pm, _⟩ := fits_pk hq hf
  have hL0 : 1847 ≤ L := by have := hz.len; omega
  obtain ⟨s, hs⟩ : ∃ s, s = z.out.length % 2 ^ z.pb := ⟨_, rfl⟩
  have hs15 : s ≤ 15 := by
    have h1 : z.out.length % 2 ^ z.pb < 2 ^ z.pb := Nat.mod_lt _ (Nat.two_pow_pos _)
    have h2 : 2 ^ z.pb ≤ 2 ^ 4 := pow_le_of hz.pb
    omega
  have hkm : encM.mayN q.pk.kind := fun he => f1
  obtain ⟨k1, k2⟩ := kindP_ok encM_ok (k := k + 22) (em := decide (z.out.length = 0)) (kd := q.pk.kind) (t := t) ht hL0 hs15 hz.st hkm
  obtain ⟨ktell, kbad⟩ := kindP_tell encM_ok rfl (s := s) (st := z.st) (em := decide (z.out.length = 0)) (kd := q.pk.kind) (t := t) f1 f2 (fun e => by
    rcases f3 (of_decide_eq_true e) with h | h
    · exact .inl h
    · exact .inr (.inr h))
  have kmono := fun F hf => (kindP_sim (len_simu F 2) (u := t) (kd' := 0) (k := k + 22) (em := decide (z.out.length = 0)) (kd := q.pk.kind) (t := t) ht hL0 hz.st hs15 hkm hf).1
  unfold packP
  rw [← hs]
  generalize kindP encM t (decide (z.out.length = 0)) z.st s q.pk.kind = kb at *
  obtain ⟨kv, kd, tk⟩ := kb
  dsimp only at k1 k2 ktell kbad kmono
  subst kbad
  have ktell : (kv : Int) = if q.k = 7 then 1 else q.k := ktell
  have hzb : (z.bad || false) = false := by rw [hb]; rfl
  by_cases h0 : kv = 0
  · have hk0 : q.k = 0 := by
      rw [h0] at ktell
      split at ktell
      · omega
      · omega
    refine ⟨fun _ => ?_, fun h => by omega⟩
    have eA : packK encM (kv, false, tk) z s q.pk = packL encM (litP encM { z with bad := z.bad || false } tk q.pk.byte) { z with bad := z.bad || false } := by unfold packK; rw [if_pos h0]
    rw [eA]
    unfold packL
    rw [if_neg (show ¬ encM.bad _ = true from fun h => by cases h)]
    exact ⟨hzb, f0, by show z.out.length < (z.out ++ [_]).length; rw [List.length_append, List.length_singleton]; omega⟩
  by_cases h1 : kv = 1
  · have hk1 : q.k = 1 ∨ q.k = 7 := by
      rw [h1] at ktell
      split at ktell
      · rename_i h; exact .inr h
      · exact .inl (by omega)
    obtain ⟨ls, hls⟩ : ∃ ls : Int, ls = if q.pk.kind = 7 then 0 else q.pk.len - 2 := ⟨_, rfl⟩
    obtain ⟨ds, hds⟩ : ∃ ds : Nat, ds = if q.pk.kind = 7 then 4294967295 else q.pk.dist := ⟨_, rfl⟩
    have hlm : encM.mayN ls := fun he => by
      rw [hls]
      split
      · omega
      · rename_i h7
        rcases hk1 with h | h
        · have := (f4 (by omega)).1
          show 0 ≤ q.n - 2
          omega
        · exact absurd h h7
    have hdb : ds < 4294967296 := by
      rw [hds]
      split
      · decide
      · exact pf.d
    have eA : packK encM (kv, false, tk) z s q.pk = packM encM (lenP encM tk 819 s ls) { z with bad := z.bad || false } ds := by unfold packK; rw [if_neg h0, if_pos h1, hls, hds]
    rw [eA]
    obtain ⟨l1, l2⟩ := lenP_ok encM_ok (k := k + 12) (a := 819) (s := s) (v := ls) k2 (show 819 + 514 ≤ L by omega) hs15 hlm
    have lmono := fun F hf => (lenP_sim (len_simu F 2) (u := tk) (v' := 0) (k := k + 12) (a := 819) (s := s) (v := ls) k2 (show 819 + 514 ≤ L by omega) hs15 hlm hf).1
    generalize lenP encM tk 819 s ls = lr at *
    unfold packM packD
    have hdt := distP_tell (k := k) (l := lr.1) l2 hL0 hdb
    have hdl : ds = 4294967295 → lr.2.x.l + 2 ≤ (distP encM lr.2 lr.1 ds).2.x.l := fun h => by rw [h]; exact dist_long (k := k) l2 hL0
    generalize distP encM lr.2 lr.1 ds = dr at *
    have hbm : encM.bad dr.2.x = false := rfl
    refine ⟨fun h7 => ?_, fun h7 => ?_⟩
    · have hk : q.k = 1 := by omega
      have hdd : ds = q.v.toNat := by rw [hds]; exact if_neg h7
      have hhas := f5 hk
      rw [← hdd, ← hdt] at hhas
      have hne : dr.1 ≠ 4294967295 := by
        unfold Lzs.has at hhas
        have := of_decide_eq_true hhas
        have := hz.dict
        omega
      exact tailP_all hzb hbm (show (decide (dr.1 = 4294967295) && !encM.bad dr.2.x) = false by rw [decide_eq_false hne]; rfl) hhas (by omega)
    · have hdd : ds = 4294967295 := by rw [hds]; exact if_pos h7
      have hen : (decide (dr.1 = 4294967295) && !encM.bad dr.2.x) = true := by rw [decide_eq_true (by rw [hdt, hdd]), hbm]; rfl
      unfold tailP
      dsimp only
      rw [hen, if_pos (by simp)]
      refine ⟨?_, rfl, rfl, ?_⟩
      · show ((z.bad || false) || encM.bad dr.2.x) = false
        rw [hzb, hbm]; rfl
      · exact kmono _ (lmono _ (hdl hdd))
  have hk7 : q.k ≠ 7 := fun h => by rw [if_pos h] at ktell; omega
  rw [if_neg hk7] at ktell
  refine ⟨fun _ => ?_, fun h => absurd h hk7⟩
  by_cases h6 : kv = 6
  · have eA : packK encM (kv, false, tk) z s q.pk = tailP encM 1 { z with bad := z.bad || false, st := aft 9 11 z.st } tk := by unfold packK; rw [if_neg h0, if_neg h1, if_pos h6]
    rw [eA]
    exact tailP_all hzb rfl f0 (f10 (by omega)) (by decide)
  · have eA : packK encM (kv, false, tk) z s q.pk = packR encM (lenP encM tk 1333 s (q.pk.len - 2)) { z with bad := z.bad || false } (kv - 2) := by unfold packK; rw [if_neg h0, if_neg h1, if_neg h6]
    rw [eA]
    unfold packR
    have hhas : z.has (z.rep (kv - 2)) = true := by
      have hkk : kv = 2 ∨ kv = 3 ∨ kv = 4 ∨ kv = 5 := by omega
      rcases hkk with h | h | h | h
      · rw [h]; exact f6 (by omega)
      · rw [h]; exact f7 (by omega)
      · rw [h]; exact f8 (by omega)
      · rw [h]; exact f9 (by omega)
    exact tailP_all hzb rfl f0 hhas (by omega)
end Go.Proofs.Ytkdmahdhbogmeaa

/-
  Packets one behind the other, each coded if it fits: numbers.
-/
namespace Go.Proofs.Ytkdmahdhbogmeaa
open Go.RowKit

/-- the greatest number: no packet is left out as it tells too much -/
def mostI : Int := 9223372036854775807
theorem takes_all (z : Lzs) (q : Pq) : takesP mostI z q = fitsP z q.k q.v.toNat q.n := by
  unfold takesP mostI
  have h : ∀ x : Int, IntKind.i64.wrap x ≤ 9223372036854775807 := fun x => by
    rw [IntWalk.i64_left]
    unfold wrap64
    omega
  rw [decide_eq_true (h _), Bool.and_true]
theorem codeS_fits (s : Lzs × Pm En) (q : Pq) : codeS mostI s q = if fitsP s.1 q.pk.kind q.pk.dist q.pk.len = true then (packP encM s.1 s.2 q.pk).2 else s := by
  unfold codeS
  rw [takes_all]
  rfl
/-- behind the first j of a list -/
def runG (qs : Nat → Pq) (s : Lzs × Pm En) (j : Nat) : Lzs × Pm En := codeG mostI qs s j
/-- a coder that begins, as numbers -/
def freshS (lc lp pb dict : Nat) : Lzs × Pm En := (Lzs.start lc lp pb dict, ⟨List.replicate (probsN lc lp) 1024, En.new⟩)
theorem fresh_near {lc lp pb dict : Nat} (h : SetOk lc lp pb dict) : ZNear (freshS lc lp pb dict).1 (probsN lc lp) 0 :=
  ⟨h.1, h.2.1, h.2.2.1, h.2.2.2.2, Nat.le_refl _, (show 0 ≤ 11 by decide), (show 0 < 4294967296 by decide), (show 0 < 4294967296 by decide), (show 0 < 4294967296 by decide), (show 0 < 4294967296 by decide), rfl⟩
theorem fresh_pm {lc lp pb dict m : Nat} (hm : m ≤ 1000000) : PmOk okE (probsN lc lp) m (freshS lc lp pb dict).2 :=
  ⟨fun p hp => by rw [List.eq_of_mem_replicate hp]; exact ⟨by decide, by decide⟩, by show (List.replicate _ _).length = _; simp, enOk_new, by show 5 + 32 * m ≤ _; omega⟩

section
variable {qs : Nat → Pq} {lc lp pb dict n : Nat}
theorem run_ok (h : SetOk lc lp pb dict) (hq : ∀ i, i < n → PqLit (qs i)) (hn : n ≤ 10000) (j : Nat) (hj : j ≤ n) :
    ZNear (runG qs (freshS lc lp pb dict) j).1 (probsN lc lp) (273 * j) ∧ PmOk okE (probsN lc lp) (27 * (n - j)) (runG qs (freshS lc lp pb dict) j).2 := by
  obtain ⟨a, b⟩ := codeG_ok (most := mostI) (s := freshS lc lp pb dict) (k := 0) (m := n) hq (fresh_near h) (fresh_pm (m := 0 + 27 * n) (by omega)) j hj
  exact ⟨a.more (by omega), b.mono encM_ok (by omega)⟩
theorem run_succ (s : Lzs × Pm En) (j : Nat) : runG qs s (j + 1) = if fitsP (runG qs s j).1 (qs j).pk.kind (qs j).pk.dist (qs j).pk.len = true then (packP encM (runG qs s j).1 (runG qs s j).2 (qs j).pk).2 else runG qs s j :=
  codeS_fits (runG qs s j) (qs j)
theorem run_bad (h : SetOk lc lp pb dict) (hq : ∀ i, i < n → PqLit (qs i)) (hn : n ≤ 3000) : ∀ j, j ≤ n → (runG qs (freshS lc lp pb dict) j).1.bad = false
  | 0, _ => rfl
  | j + 1, hj => by
    have ih := run_bad h hq hn j (by omega)
    obtain ⟨h1, h2⟩ := run_ok h hq (by omega) j (by omega)
    rw [run_succ]
    split
    · rename_i hf
      obtain ⟨p1, p2⟩ := pack_enc (k := 0) h1 (h2.mono encM_ok (by omega)) (hq j (by omega)) hf ih
      by_cases hk : (qs j).k = 7
      · exact (p2 hk).1
      · exact (p1 hk).1
    · exact ih
/-- behind an end mark no packet fits -/
theorem run_ended (s : Lzs × Pm En) {j : Nat} (h : (runG qs s j).1.ended = true) : ∀ m, runG qs s (j + m) = runG qs s j
  | 0 => rfl
  | m + 1 => by
    have ih := run_ended s h m
    rw [show j + (m + 1) = (j + m) + 1 by omega, run_succ, ih]
    have : fitsP (runG qs s j).1 (qs (j + m)).pk.kind (qs (j + m)).pk.dist (qs (j + m)).pk.len = false := by unfold fitsP lateP; rw [h]; rfl
    rw [this]
    rfl
end
end Go.Proofs.Ytkdmahdhbogmeaa
