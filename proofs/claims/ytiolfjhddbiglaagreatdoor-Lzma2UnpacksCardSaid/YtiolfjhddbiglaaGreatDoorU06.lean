/-
  LwNext, LzSim, LzSim2, LzSim3, LwNx, LwNxt, ZqRest, ZqWhole, ZqRs0, ZqReset, ZqNum, ZqStep, ZqExt, ZqMem: put together.
-/
import Derived.Test.YtiolfjhddbiglaaGreatDoorU05
import Derived.Test.YtiolfjhddbiglaaGreatDoorU02
import Derived.Test.YtiolfjhddbiglaaGreatDoorU04
import Derived.Lib.SliceRun
import Derived.BigQuiet
set_option linter.unusedVariables false
set_option linter.unusedSimpArgs false
/-
  The program's decoder of LZMA: the next byte.
-/
namespace Go.Proofs.YtiolfjhddbiglaaGreatDoor
open Go.RowKit

section
variable {K : Kon} {w w' : World} {Gw Gw' : Nat → Prop} {z : Lzs} {t : Pm Dc} {left : Nat} {fs : List Value}

set_option maxRecDepth 100000 in
set_option maxHeartbeats 2000000 in
theorem lmay_any (h : Lw K w Gw z t left) :
    Calls Tryz.prog 105 #[.pointer (some ⟨K.g, 0, none⟩)] w fun e w' => e = .returned (.bool (!decM.bad t.x && !z.bad)) ∧ w = w' := by
  have c5 := h.f.c5
  have cb := h.f.bad
  have KQ := h.isBad
  obtain ⟨b, hb⟩ : ∃ b, b = decM.bad t.x := ⟨_, rfl⟩
  obtain ⟨c, hc⟩ : ∃ c, c = z.bad := ⟨_, rfl⟩
  rw [← hb] at KQ ⊢
  rw [← hc] at cb ⊢
  have KQ := Lib.hid KQ
  clear h hb hc
  cases b with
  | true =>
    go_enter Tryz.func105, Tryz.ntmps105
    go_wp2_with fail
    refine KQ.out.mono ?_
    rintro e w1 ⟨rfl, rfl⟩
    clear KQ
    go_wp2_with fail
    go_ret
    exact ⟨rfl, rfl⟩
  | false =>
    cases c
    all_goals
      go_enter Tryz.func105, Tryz.ntmps105
      go_wp2_with fail
      refine KQ.out.mono ?_
      rintro e w1 ⟨rfl, rfl⟩
      clear KQ
      go_wp2_with fail
      go_ret
      exact ⟨rfl, rfl⟩

set_option maxRecDepth 100000 in
set_option maxHeartbeats 2000000 in
theorem lcopied_end (h : Lw K w Gw z t 0) :
    Calls Tryz.prog 109 #[.pointer (some ⟨K.g, 0, none⟩)] w fun e w' => e = .returned (.tuple #[.int .u8 0, .bool false]) ∧ w = w' := by
  have cl := h.f.left
  clear h
  go_enter Tryz.func109, Tryz.ntmps109
  go_wp2_with fail
  go_ret2
  exact ⟨rfl, rfl⟩

set_option maxRecDepth 100000 in
set_option maxHeartbeats 4000000 in
theorem lcopied_any {l : Nat} (h : Lw K w Gw z t (l + 1)) (hf : Fit K z) (hh : z.has z.r0 = true) (hr0 : z.r0 < 4294967296) (hl : l < 1000) (ho : z.out.length ≤ 1000000) :
    Calls Tryz.prog 109 #[.pointer (some ⟨K.g, 0, none⟩)] w (PutPost K w Gw (.tuple #[.int .u8 ((z.back z.r0).toNat : Int), .bool true]) (z.push (z.back z.r0)) t l) := by
  have c11 := h.f.c11
  have c6 := h.f.c6
  have cl := h.f.left
  have c9 := h.f.c9
  have z63 := h.f.fz 1863
  have z9 := h.f.fz 9
  have KH := h.has hf z.r0
  rw [hh] at KH
  obtain ⟨n, hn⟩ : ∃ n, n = z.out.length := ⟨_, rfl⟩
  rw [← hn] at c9
  obtain ⟨l1, hl1⟩ : ∃ l1, l1 = l + 1 := ⟨_, rfl⟩
  rw [← hl1] at cl
  have q0 : ((l1 : Int) == 0) = false := by simp; omega
  have e1 : IntKind.i64.wrap ((l1 : Int) - 1) = (l : Int) := by rw [show (l1 : Int) - 1 = (l : Int) by omega]; exact IntWalk.i64_in _ (by omega)
  have e2 : IntKind.i64.wrap ((n : Int) + 1) = ((n + 1 : Nat) : Int) := by rw [show (n : Int) + 1 = ((n + 1 : Nat) : Int) by omega]; exact IntWalk.i64_in _ (by omega)
  have e3 : IntKind.i64.wrap (z.r0 : Int) = (z.r0 : Int) := IntWalk.i64_in _ (by omega)
  obtain ⟨n1, hn1⟩ : ∃ n1, n1 = n + 1 := ⟨_, rfl⟩
  rw [← hn1] at e2
  -- the two fields
  have hM := (h.mch.field h.ap 16 (by decide) (.int .i64 (l : Int))).field h.ap 9 (by decide) (.int .i64 (n1 : Int))
  have hO2 : Only (fun j => j = K.g) w ((w.setCell ⟨K.g, 1863, none⟩ (.int .i64 (l : Int))).setCell ⟨K.g, 9, none⟩ (.int .i64 (n1 : Int))) := ((Only.refl (fun j => j = K.g) w).setCell (p := ⟨K.g, 1863, none⟩) (.inl rfl) (.int .i64 (l : Int))).setCell (p := ⟨K.g, 9, none⟩) (.inl rfl) (.int .i64 (n1 : Int))
  have hM : Mch (Rk K (lwFs K (z.push (z.back z.r0)) l)) K.dg K.S K.bs (1847 + K.nl) ((w.setCell ⟨K.g, 1863, none⟩ (.int .i64 (l : Int))).setCell ⟨K.g, 9, none⟩ (.int .i64 (n1 : Int))) t := by
    have e : ((lwFs K z (l + 1)).set 16 (.int .i64 (l : Int))).set 9 (.int .i64 (n1 : Int)) = lwFs K (z.push (z.back z.r0)) l := by
      have hl2 : (z.push (z.back z.r0)).out.length = n1 := by rw [hn1, hn]; show (z.out ++ [_]).length = _; simp
      unfold lwFs
      rw [hl2]
      rfl
    rw [e] at hM
    exact hM
  have hW := h.win.only hO2 (fun i hi e => (h.ap.wd i hi).1 e)
  have d11 : ((w.setCell ⟨K.g, 1863, none⟩ (.int .i64 (l : Int))).setCell ⟨K.g, 9, none⟩ (.int .i64 (n1 : Int))).cell? ⟨K.g, 6, none⟩ = some (.pointer (some ⟨K.wg, 0, none⟩)) := hM.row.1.cell 6 (by decide)
  have KC := wcopy_any (d := (z.r0 : Int)) hW hf.2.1 (by show z.out.length ≤ _; omega)
  have hcopy : (⟨K.sz, z.out, false⟩ : Ws).copy (z.r0 : Int) = ⟨K.sz, (z.push (z.back z.r0)).out, false⟩ := by
    unfold Ws.copy
    rw [if_pos (by rw [fit_has hf]; exact hh), fit_at hf, open_put rfl]
    rfl
  rw [hcopy, fit_at hf] at KC
  have HX := Lib.hid (And.intro hM (And.intro hO2 h.ap))
  have KC := Lib.hid KC
  have KH := Lib.hid KH
  clear hM hO2 hW hcopy h hn hn1 hf hh hr0 hl ho hl1
  generalize z.push (z.back z.r0) = z' at *
  generalize z.back z.r0 = x at *
  generalize z.r0 = r0 at *
  go_enter Tryz.func109, Tryz.ntmps109
  go_wp2_with fail
  refine KH.out.mono ?_
  rintro e w1 ⟨rfl, rfl⟩
  clear KH
  go_upto_region 9 with fail
  generalize (w.setCell ⟨K.g, 1863, none⟩ (.int .i64 (l : Int))).setCell ⟨K.g, 9, none⟩ (.int .i64 (n1 : Int)) = w2 at *
  clear c11 c6 cl c9 z63 z9
  go_wp2_with fail
  refine KC.out.mono ?_
  rintro e w3 ⟨rfl, G1, hP3, hN3, hO3⟩
  have hap := HX.out.2.2
  have HE := Lib.hid (show Lw K w3 G1 z' t l ∧ (∀ i, G1 i → Gw i ∨ w.heap.size ≤ i) ∧ Only (K.all Gw) w w3 from
    ⟨⟨HX.out.1.over hap hO3, hP3, hap.grow HX.out.1 hN3⟩, fun i hi => (hN3 i hi).imp id (fun h => Nat.le_trans HX.out.2.1.size h), (HX.out.2.1.mono fun i hi => .inl (.inr (.inr (.inl hi)))).trans (hO3.mono fun i hi => .inr hi)⟩)
  clear hap hP3 hN3 hO3 KC
  go_wp2_with fail
  go_ret2
  exact ⟨rfl, G1, HE.out.1, HE.out.2.1, HE.out.2.2⟩
end
end Go.Proofs.YtiolfjhddbiglaaGreatDoor

/-
  Two machines go one way: packets as numbers, side by side; the second one may fall dead on the way.
-/
namespace Go.Proofs.YtiolfjhddbiglaaGreatDoor

section
variable {σ τ : Type} {M1 : Mach σ} {M2 : Mach τ} {ok : Nat → σ → Prop} {Rel : σ → τ → Prop} {Fut : σ → Prop} {Dead : τ → Prop}

/-- The second machine does what the first one does, or falls dead; Fut: what the first one does on the way to its end. -/
structure Simu (M1 : Mach σ) (ok : Nat → σ → Prop) (M2 : Mach τ) (Rel : σ → τ → Prop) (Fut : σ → Prop) (Dead : τ → Prop) : Prop where
  okm : MachOk M1 ok
  bit : ∀ {x y k p w w'}, ok (k + 1) x → POk p → M1.may w → Rel x y → Fut (M1.bit x p w).2.2 →
    Dead (M2.bit y p w').2.2 ∨ ((M2.bit y p w').1 = (M1.bit x p w).1 ∧ (M2.bit y p w').2.1 = (M1.bit x p w).2.1 ∧ Rel (M1.bit x p w).2.2 (M2.bit y p w').2.2)
  str : ∀ {x y k n v v'}, ok (k + 1) x → n ≤ 32 → (M1.enc = true → v < 2 ^ n) → Rel x y → Fut (M1.str x n v).2 →
    Dead (M2.str y n v').2 ∨ ((M2.str y n v').1 = (M1.str x n v).1 ∧ Rel (M1.str x n v).2 (M2.str y n v').2)
  fbit : ∀ {x k p w}, ok (k + 1) x → POk p → M1.may w → Fut (M1.bit x p w).2.2 → Fut x
  fstr : ∀ {x k n v}, ok (k + 1) x → Fut (M1.str x n v).2 → Fut x
  dbit : ∀ {y p w}, Dead y → Dead (M2.bit y p w).2.2
  dstr : ∀ {y n v}, Dead y → Dead (M2.str y n v).2
  same : ∀ {x y}, Rel x y → M2.bad y = M1.bad x

def Sm (Rel : σ → τ → Prop) (t : Pm σ) (u : Pm τ) : Prop := u.ps = t.ps ∧ Rel t.x u.x
def Lk (Rel : σ → τ → Prop) (Dead : τ → Prop) (t : Pm σ) (u : Pm τ) : Prop := Dead u.x ∨ Sm Rel t u
def Eqv (Rel : σ → τ → Prop) (Dead : τ → Prop) (r : Nat × Pm σ) (q : Nat × Pm τ) : Prop := Dead q.2.x ∨ (q.1 = r.1 ∧ Sm Rel r.2 q.2)
def EqG (Rel : σ → τ → Prop) (Dead : τ → Prop) (r : Tg σ) (q : Tg τ) : Prop := Dead q.t.x ∨ (q.m = r.m ∧ q.o = r.o ∧ Sm Rel r.t q.t)

/-! ### once dead, dead -/
section
variable (hb : ∀ {y p w}, Dead y → Dead (M2.bit y p w).2.2) (hs : ∀ {y n v}, Dead y → Dead (M2.str y n v).2)
include hb
theorem bit_dead {u : Pm τ} {a : Nat} {w : Int} (h : Dead u.x) : Dead (bitP M2 u a w).2.x := hb h
theorem treeG_dead {u : Pm τ} {a n : Nat} {v : Int} (h : Dead u.x) : ∀ j, Dead (treeG M2 u a n v j).t.x
  | 0 => h
  | j + 1 => hb (treeG_dead h j)
theorem treeP_dead {u : Pm τ} {a n : Nat} {v : Int} (h : Dead u.x) : Dead (treeP M2 u a n v).2.x := treeG_dead hb h n
theorem revG_dead {u : Pm τ} {a : Nat} {v : Int} (h : Dead u.x) : ∀ j, Dead (revG M2 u a v j).t.x
  | 0 => h
  | j + 1 => hb (revG_dead h j)
theorem revP_dead {u : Pm τ} {a n : Nat} {v : Int} (h : Dead u.x) : Dead (revP M2 u a n v).2.x := revG_dead hb h n
theorem litG_dead {u : Pm τ} {a : Nat} {o v : UInt8} {s : Bool} (h : Dead u.x) : ∀ j, Dead (litG M2 u a o v s j).t.x
  | 0 => h
  | j + 1 => by
    show Dead (lgStep M2 a _ _ (litG M2 u a o v s j)).t.x
    unfold lgStep
    split
    · exact hb (litG_dead h j)
    · exact hb (litG_dead h j)
theorem litP_dead {u : Pm τ} {z : Lzs} {v : UInt8} (h : Dead u.x) : Dead (litP M2 z u v).2.x := litG_dead hb h 8
theorem lenA_dead {b : Nat × Pm τ} {a s : Nat} {v : Int} (h : Dead b.2.x) : Dead (lenA M2 b a s v).2.x := by
  unfold lenA
  split
  · exact treeP_dead hb h
  · unfold lenB
    split
    · exact treeG_dead (M2 := M2) (Dead := Dead) hb (u := (bitP M2 b.2 (a + 1) (min (v.tdiv 16) 1)).2) (hb h) _
    · exact treeG_dead (M2 := M2) (Dead := Dead) hb (u := (bitP M2 b.2 (a + 1) (min (v.tdiv 16) 1)).2) (hb h) _
theorem lenP_dead {u : Pm τ} {a s : Nat} {v : Int} (h : Dead u.x) : Dead (lenP M2 u a s v).2.x := lenA_dead hb (bit_dead hb h)
include hs
theorem distB_dead {b : Nat × Pm τ} {v : Nat} (h : Dead b.2.x) : Dead (distB M2 b v).2.x := by
  unfold distB
  split
  · exact h
  split
  · exact revP_dead hb h
  · unfold distC
    exact revP_dead hb (hs h)
theorem distP_dead {u : Pm τ} {l v : Nat} (h : Dead u.x) : Dead (distP M2 u l v).2.x := distB_dead hb hs (treeP_dead hb h)
omit hs
theorem kd1_dead {b : Nat × Pm τ} {em : Bool} {st s : Nat} {k : Int} (h : Dead b.2.x) : Dead (kd1 M2 b em st s k).2.2.x := by
  unfold kd1
  split
  · exact h
  unfold kd2
  split
  · exact hb h
  split
  · exact hb h
  unfold kd3
  split
  · exact hb (hb (hb h))
  unfold kd4
  split
  · exact hb (hb (hb h))
  · exact hb (hb (hb (hb h)))
theorem kindP_dead {u : Pm τ} {em : Bool} {st s : Nat} {k : Int} (h : Dead u.x) : Dead (kindP M2 u em st s k).2.2.x := kd1_dead hb (bit_dead hb h)
omit hb in
theorem tailP_x {many : Nat} {z : Lzs} {t : Pm τ} : (tailP M2 many z t).2.2 = t := by
  unfold tailP
  split <;> rfl
end

/-! ### side by side -/
theorem bitP_fut (S : Simu M1 ok M2 Rel Fut Dead) {L k a : Nat} {w : Int} {t : Pm σ} (ht : PmOk ok L (k + 1) t) (ha : a < L) (hw : M1.may w) (hf : Fut (bitP M1 t a w).2.x) : Fut t.x :=
  S.fbit ht.x (getD_ok ht.ps (show a < t.ps.length by rw [ht.len]; exact ha)) hw hf
theorem bitP_sim (S : Simu M1 ok M2 Rel Fut Dead) {L k a : Nat} {w w' : Int} {t : Pm σ} {u : Pm τ} (ht : PmOk ok L (k + 1) t) (ha : a < L) (hw : M1.may w) (hf : Fut (bitP M1 t a w).2.x) (hq : Lk Rel Dead t u) :
    Eqv Rel Dead (bitP M1 t a w) (bitP M2 u a w') := by
  rcases hq with hd | ⟨h1, h2⟩
  · exact .inl (S.dbit hd)
  · rcases S.bit (w' := w') ht.x (getD_ok ht.ps (show a < t.ps.length by rw [ht.len]; exact ha)) hw h2 hf with h | ⟨e1, e2, e3⟩
    · left
      show Dead (M2.bit u.x (u.ps.getD a 0) w').2.2
      rw [h1]
      exact h
    · right
      refine ⟨?_, ?_, ?_⟩
      · show (M2.bit u.x (u.ps.getD a 0) w').1 = _
        rw [h1, e1]
        rfl
      · show u.ps.set a (M2.bit u.x (u.ps.getD a 0) w').2.1 = t.ps.set a _
        rw [h1, e2]
      · show Rel _ (M2.bit u.x (u.ps.getD a 0) w').2.2
        rw [h1]
        exact e3

theorem tgStep_sim (S : Simu M1 ok M2 Rel Fut Dead) {L k a i : Nat} {w w' : Int} {s : Tg σ} {q : Tg τ} (ht : PmOk ok L (k + 1) s.t) (ha : a + s.m < L) (hw : M1.may w) (hf : Fut (tgStep M1 a i w s).t.x) (hq : EqG Rel Dead s q) :
    EqG Rel Dead (tgStep M1 a i w s) (tgStep M2 a i w' q) := by
  rcases hq with hd | ⟨e1, e2, e3⟩
  · exact .inl (S.dbit hd)
  · rcases bitP_sim S (w' := w') ht ha hw hf (.inr e3) with h | ⟨h1, h2⟩
    · left
      show Dead (bitP M2 q.t (a + q.m) w').2.x
      rw [e1]
      exact h
    · right
      refine ⟨?_, ?_, ?_⟩
      · show 2 * q.m + (bitP M2 q.t (a + q.m) w').1 = 2 * s.m + (bitP M1 s.t (a + s.m) w).1
        rw [e1, h1]
      · show q.o + (bitP M2 q.t (a + q.m) w').1 * 2 ^ i = s.o + (bitP M1 s.t (a + s.m) w).1 * 2 ^ i
        rw [e1, e2, h1]
      · show Sm Rel (bitP M1 s.t (a + s.m) w).2 (bitP M2 q.t (a + q.m) w').2
        rw [e1]
        exact h2
theorem tgStep_fut (S : Simu M1 ok M2 Rel Fut Dead) {L k a i : Nat} {w : Int} {s : Tg σ} (ht : PmOk ok L (k + 1) s.t) (ha : a + s.m < L) (hw : M1.may w) (hf : Fut (tgStep M1 a i w s).t.x) : Fut s.t.x := bitP_fut S ht ha hw hf

theorem treeG_sim (S : Simu M1 ok M2 Rel Fut Dead) {L k a n : Nat} {v v' : Int} {t : Pm σ} {u : Pm τ} (ht : PmOk ok L (k + n) t) (ha : a + 2 ^ n ≤ L) (hv : M1.mayN v) :
    ∀ j, j ≤ n → Fut (treeG M1 t a n v j).t.x → Fut t.x ∧ (Lk Rel Dead t u → EqG Rel Dead (treeG M1 t a n v j) (treeG M2 u a n v' j))
  | 0, _ => fun hf => ⟨hf, fun hq => by
    rcases hq with h | h
    · exact .inl h
    · exact .inr ⟨rfl, rfl, h⟩⟩
  | j + 1, hj => fun hf => by
    obtain ⟨h1, h2, h3⟩ := treeG_ok S.okm ht ha hv j (by omega)
    have hp : 2 ^ (j + 1) ≤ 2 ^ n := Nat.pow_le_pow_right (by omega) hj
    have h1' : PmOk ok L (k + n - (j + 1) + 1) (treeG M1 t a n v j).t := by rw [show k + n - (j + 1) + 1 = k + n - j by omega]; exact h1
    have hm := want_may hv (n - 1 - j)
    have hf' := tgStep_fut S h1' (by omega) hm hf
    obtain ⟨g1, g2⟩ := treeG_sim S ht ha hv j (by omega) hf'
    exact ⟨g1, fun hq => tgStep_sim S h1' (by omega) hm hf (g2 hq)⟩
theorem revG_sim (S : Simu M1 ok M2 Rel Fut Dead) {L k a n : Nat} {v v' : Int} {t : Pm σ} {u : Pm τ} (ht : PmOk ok L (k + n) t) (ha : a + 2 ^ n ≤ L) (hv : M1.mayN v) :
    ∀ j, j ≤ n → Fut (revG M1 t a v j).t.x → Fut t.x ∧ (Lk Rel Dead t u → EqG Rel Dead (revG M1 t a v j) (revG M2 u a v' j))
  | 0, _ => fun hf => ⟨hf, fun hq => by
    rcases hq with h | h
    · exact .inl h
    · exact .inr ⟨rfl, rfl, h⟩⟩
  | j + 1, hj => fun hf => by
    obtain ⟨h1, h2, h3, _⟩ := revG_ok S.okm ht ha hv j (by omega)
    have hp : 2 ^ (j + 1) ≤ 2 ^ n := Nat.pow_le_pow_right (by omega) hj
    have h1' : PmOk ok L (k + n - (j + 1) + 1) (revG M1 t a v j).t := by rw [show k + n - (j + 1) + 1 = k + n - j by omega]; exact h1
    have hm := want_may hv j
    have hf' := tgStep_fut S h1' (by omega) hm hf
    obtain ⟨g1, g2⟩ := revG_sim S ht ha hv j (by omega) hf'
    exact ⟨g1, fun hq => tgStep_sim S h1' (by omega) hm hf (g2 hq)⟩
end
end Go.Proofs.YtiolfjhddbiglaaGreatDoor

/-
  Two machines go one way: literals, distances, kinds.
-/
namespace Go.Proofs.YtiolfjhddbiglaaGreatDoor

section
variable {σ τ : Type} {M1 : Mach σ} {M2 : Mach τ} {ok : Nat → σ → Prop} {Rel : σ → τ → Prop} {Fut : σ → Prop} {Dead : τ → Prop}

def EqL (Rel : σ → τ → Prop) (Dead : τ → Prop) (r : Lg σ) (q : Lg τ) : Prop := Dead q.t.x ∨ (q.m = r.m ∧ q.same = r.same ∧ Sm Rel r.t q.t)
theorem lgStep_sim (S : Simu M1 ok M2 Rel Fut Dead) {L k a j y b : Nat} {b' : Int} {s : Lg σ} {q : Lg τ} (ht : PmOk ok L (k + 1) s.t) (ha : a + 768 ≤ L) (h0 : s.m < 2 ^ (j + 1)) (hj : j < 8) (hy : y ≤ 1) (hb : b ≤ 1) (hf : Fut (lgStep M1 a (y : Int) (b : Int) s).t.x) :
    Fut s.t.x ∧ (EqL Rel Dead s q → EqL Rel Dead (lgStep M1 a (y : Int) (b : Int) s) (lgStep M2 a (y : Int) b' q)) := by
  have hp : 2 ^ (j + 1) ≤ 256 := Nat.le_trans (Nat.pow_le_pow_right (by omega) (show j + 1 ≤ 8 by omega)) (by decide)
  have hm : M1.may (b : Int) := fun _ => by omega
  have hdead : Dead q.t.x → Dead (lgStep M2 a (y : Int) b' q).t.x := fun hd => by
    unfold lgStep
    split
    · exact bit_dead S.dbit hd
    · exact bit_dead S.dbit hd
  unfold lgStep at hf
  by_cases hs : s.same = true
  · rw [if_pos hs] at hf
    have hl : a + 256 * (1 + (y : Int).toNat) + s.m < L := by rw [Int.toNat_natCast]; omega
    have hf' := bitP_fut S ht hl hm hf
    refine ⟨hf', fun hq => ?_⟩
    rcases hq with hd | ⟨e1, e2, e3⟩
    · exact .inl (hdead hd)
    · unfold lgStep
      rw [if_pos hs, if_pos (by rw [e2]; exact hs), e1]
      rcases bitP_sim S (w' := b') ht hl hm hf (.inr e3) with hd | ⟨h1, h2⟩
      · exact .inl hd
      · exact .inr ⟨by dsimp only; rw [h1], by dsimp only; rw [h1], h2⟩
  · rw [if_neg hs] at hf
    have hf' := bitP_fut S ht (show a + s.m < L by omega) hm hf
    refine ⟨hf', fun hq => ?_⟩
    rcases hq with hd | ⟨e1, e2, e3⟩
    · exact .inl (hdead hd)
    · unfold lgStep
      rw [if_neg hs, if_neg (by rw [e2]; exact hs), e1]
      rcases bitP_sim S (w' := b') ht (show a + s.m < L by omega) hm hf (.inr e3) with hd | ⟨h1, h2⟩
      · exact .inl hd
      · exact .inr ⟨by dsimp only; rw [h1], rfl, h2⟩
theorem litG_sim (S : Simu M1 ok M2 Rel Fut Dead) {L k a : Nat} {o v v' : UInt8} {same : Bool} {t : Pm σ} {u : Pm τ} (ht : PmOk ok L (k + 8) t) (ha : a + 768 ≤ L) :
    ∀ j, j ≤ 8 → Fut (litG M1 t a o v same j).t.x → Fut t.x ∧ (Lk Rel Dead t u → EqL Rel Dead (litG M1 t a o v same j) (litG M2 u a o v' same j))
  | 0, _ => fun hf => ⟨hf, fun hq => by
    rcases hq with h | h
    · exact .inl h
    · exact .inr ⟨rfl, rfl, h⟩⟩
  | j + 1, hj => fun hf => by
    obtain ⟨h1, h2, h3⟩ := litG_ok S.okm (o := o) (v := v) (same := same) ht ha j (by omega)
    obtain ⟨y, hy, hy1⟩ := want_byte o (7 - j)
    obtain ⟨b, hb, hb1⟩ := want_byte v (7 - j)
    have hf : Fut (lgStep M1 a (want (o.toNat : Int) (7 - j)) (want (v.toNat : Int) (7 - j)) (litG M1 t a o v same j)).t.x := hf
    show Fut t.x ∧ (Lk Rel Dead t u → EqL Rel Dead (lgStep M1 a (want (o.toNat : Int) (7 - j)) (want (v.toNat : Int) (7 - j)) (litG M1 t a o v same j)) (lgStep M2 a (want (o.toNat : Int) (7 - j)) (want (v'.toNat : Int) (7 - j)) (litG M2 u a o v' same j)))
    rw [hy, hb] at hf ⊢
    obtain ⟨g1, g2⟩ := lgStep_sim S (q := litG M2 u a o v' same j) (b' := want (v'.toNat : Int) (7 - j)) (k := k + 8 - (j + 1)) (j := j) (by rw [show k + 8 - (j + 1) + 1 = k + 8 - j by omega]; exact h1) ha h3 (by omega) hy1 hb1 hf
    obtain ⟨i1, i2⟩ := litG_sim S (u := u) (v' := v') ht ha j (by omega) g1
    exact ⟨i1, fun hq => g2 (i2 hq)⟩
/-! ### kinds -/
def EqK (Rel : σ → τ → Prop) (Dead : τ → Prop) (r : Nat × Bool × Pm σ) (q : Nat × Bool × Pm τ) : Prop := Dead q.2.2.x ∨ (q.1 = r.1 ∧ q.2.1 = r.2.1 ∧ Sm Rel r.2.2 q.2.2)
def CK (ok : Nat → σ → Prop) (Rel : σ → τ → Prop) (Fut : σ → Prop) (Dead : τ → Prop) (L k : Nat) (C1 : Nat × Pm σ → Nat × Bool × Pm σ) (C2 : Nat × Pm τ → Nat × Bool × Pm τ) : Prop :=
  ∀ b q, PmOk ok L k b.2 → Fut (C1 b).2.2.x → Fut b.2.x ∧ (Eqv Rel Dead b q → EqK Rel Dead (C1 b) (C2 q))
end
end Go.Proofs.YtiolfjhddbiglaaGreatDoor

/-
  Two machines go one way: packets; what a coder codes a decoder tells; with a byte fewer it tells the same, or falls dead.
-/
namespace Go.Proofs.YtiolfjhddbiglaaGreatDoor

section
variable {σ τ : Type} {M1 : Mach σ} {M2 : Mach τ} {ok : Nat → σ → Prop} {Rel : σ → τ → Prop} {Fut : σ → Prop} {Dead : τ → Prop}

def EqP (Rel : σ → τ → Prop) (Dead : τ → Prop) (r : Nat × Lzs × Pm σ) (q : Nat × Lzs × Pm τ) : Prop := Dead q.2.2.x ∨ (q.1 = r.1 ∧ q.2.1 = r.2.1 ∧ Sm Rel r.2.2 q.2.2)

theorem packK_dead (S : Simu M1 ok M2 Rel Fut Dead) {kb : Nat × Bool × Pm τ} {z : Lzs} {s : Nat} {p : Pk} (h : Dead kb.2.2.x) : Dead (packK M2 kb z s p).2.2.x := by
  unfold packK
  split
  · unfold packL
    split
    · exact litP_dead (M2 := M2) (Dead := Dead) S.dbit (u := kb.2.2) h
    · exact litP_dead (M2 := M2) (Dead := Dead) S.dbit (u := kb.2.2) h
  split
  · unfold packM packD
    rw [tailP_x]
    exact distP_dead (M2 := M2) (Dead := Dead) S.dbit S.dstr (lenP_dead (M2 := M2) (Dead := Dead) S.dbit h)
  split
  · rw [tailP_x]
    exact h
  · unfold packR
    rw [tailP_x]
    exact lenP_dead (M2 := M2) (Dead := Dead) S.dbit h

end

end Go.Proofs.YtiolfjhddbiglaaGreatDoor

/-
  The program's decoder of LZMA: the next byte, in the document's packets.
-/
namespace Go.Proofs.YtiolfjhddbiglaaGreatDoor
open Go.RowKit

def Lzs.cut (z : Lzs) (n : Nat) : Lzs := { z with out := z.out.take n }
theorem cut_all (z : Lzs) : z.cut z.out.length = z := by unfold Lzs.cut; rw [List.take_length]
theorem has_push {z : Lzs} {d : Nat} {b : UInt8} (h : z.has d = true) : (z.push b).has d = true := by
  unfold Lzs.has at *
  have hl : (z.push b).out.length = z.out.length + 1 := by show (z.out ++ [b]).length = _; simp
  have hd : (z.push b).dict = z.dict := rfl
  rw [hl, hd]
  have := of_decide_eq_true h
  exact decide_eq_true (by omega)
theorem take_snoc8 (l : List UInt8) (n : Nat) (h : n < l.length) : l.take (n + 1) = l.take n ++ [l.getD n 0] := by
  rw [List.take_succ_eq_append_getElem h]
  simp [List.getD, h]
theorem cut_next {z : Lzs} {n : Nat} {b : UInt8} (h : n < z.out.length) (hb : b = z.out.getD n 0) : (z.cut n).push b = z.cut (n + 1) := by
  unfold Lzs.cut Lzs.push
  dsimp only
  rw [take_snoc8 _ _ h, hb]

/-- what is copied is there, byte by byte -/
theorem copy_cut : ∀ (f m : Nat) {z : Lzs}, z.has z.r0 = true →
    (copyG f m z).2 = { z with out := (copyG f m z).2.out } ∧ (copyG f m z).2.out.length = z.out.length + f ∧ (copyG f m z).2.out.take z.out.length = z.out ∧
    ∀ j, z.out.length ≤ j → j < z.out.length + f → ((copyG f m z).2.cut j).has (copyG f m z).2.r0 = true ∧ ((copyG f m z).2.cut j).back (copyG f m z).2.r0 = (copyG f m z).2.out.getD j 0
  | 0, m, z, h => ⟨rfl, rfl, List.take_length, fun j h1 h2 => by omega⟩
  | f + 1, m, z, h => by
    rw [copyG_go h]
    obtain ⟨b, hb⟩ : ∃ b, b = z.back z.r0 := ⟨_, rfl⟩
    rw [← hb]
    have hp : (z.push b).has (z.push b).r0 = true := has_push h
    obtain ⟨h1, h2, h3, h4⟩ := copy_cut f (m + 1) hp
    have hl : (z.push b).out.length = z.out.length + 1 := by show (z.out ++ [b]).length = _; simp
    rw [hl] at h2 h3 h4
    have ho : (z.push b).out = z.out ++ [b] := rfl
    rw [ho] at h3
    obtain ⟨q, hq⟩ : ∃ q, q = (copyG f (m + 1) (z.push b)).2 := ⟨_, rfl⟩
    rw [← hq] at h1 h2 h3 h4 ⊢
    have e1 : q = { z with out := q.out } := by
      have : ({ z.push b with out := q.out } : Lzs) = { z with out := q.out } := rfl
      rw [← this]
      exact h1
    have e3 : q.out.take z.out.length = z.out := by
      have h := congrArg (List.take z.out.length) h3
      rw [List.take_take, Nat.min_eq_left (by omega), List.take_left'] at h
      · exact h
      · rfl
    refine ⟨e1, by omega, e3, fun j j1 j2 => ?_⟩
    by_cases hj : j = z.out.length
    · subst hj
      have ec : q.cut z.out.length = z := by
        unfold Lzs.cut
        rw [e3, e1]
      have er : q.r0 = z.r0 := by rw [e1]
      rw [ec, er]
      refine ⟨h, ?_⟩
      rw [← hb]
      have h := take_snoc8 q.out z.out.length (by omega)
      rw [h3, e3] at h
      have h := List.append_cancel_left h
      injection h
    · exact h4 j (by omega) (by omega)

/-- a decoder that is dead tells no packet -/
theorem none_simu : Simu decM okD decM (fun _ _ => False) (fun _ => True) (fun d => d = none) where
  okm := decM_ok
  bit _ _ _ h _ := h.elim
  str _ _ _ h _ := h.elim
  fbit _ _ _ _ := trivial
  fstr _ _ := trivial
  dbit {y p w} h := by show (bitD y p).2.2 = none; rw [h]; rfl
  dstr {y n v} h := by show (straightD n y).2 = none; rw [h, straightD_none]
  same h := h.elim
theorem packP_none {z : Lzs} {t : Pm Dc} {p : Pk} (h : t.x = none) : (packP decM z t p).2.2.x = none :=
  packK_dead none_simu (kindP_dead (M2 := decM) (Dead := fun d => d = none) none_simu.dbit h)

/-- Of zf all is decided, n bytes are told. -/
structure Nx (K : Kon) (w : World) (Gw : Nat → Prop) (zf : Lzs) (tf : Pm Dc) (n : Nat) : Prop where
  lw : Lw K w Gw (zf.cut n) tf (zf.out.length - n)
  le : n ≤ zf.out.length
  far : zf.out.length ≤ n + 273
  near : ZNear zf (1847 + K.nl) zf.out.length
  live : n < zf.out.length → tf.x ≠ none
  bad : zf.bad = false
  ended : zf.ended = false
  tell : ∀ j, n ≤ j → j < zf.out.length → (zf.cut j).has zf.r0 = true ∧ (zf.cut j).back zf.r0 = zf.out.getD j 0

def stopP (r : Nat × Lzs × Pm Dc) : Prop := r.2.2.x = none ∨ r.2.1.bad = true ∨ r.2.1.ended = true
def NextPost (K : Kon) (w : World) (Gw : Nat → Prop) (zf : Lzs) (tf : Pm Dc) (n : Nat) (e : Ending) (w' : World) : Prop :=
  (∃ zf' tf' Gw', e = .returned (.tuple #[.int .u8 ((zf'.out.getD n 0).toNat : Int), .bool true]) ∧ Nx K w' Gw' zf' tf' (n + 1) ∧ zf'.dict = zf.dict ∧ zf'.out.take n = zf.out.take n ∧
    ((n < zf.out.length ∧ zf' = zf ∧ tf' = tf) ∨ (n = zf.out.length ∧ ¬ stopP (packP decM zf tf pk0) ∧ zf' = (packP decM zf tf pk0).2.1 ∧ tf' = (packP decM zf tf pk0).2.2)) ∧
    (∀ i, Gw' i → Gw i ∨ w.heap.size ≤ i) ∧ Only (K.all Gw) w w') ∨
  (e = .returned (.tuple #[.int .u8 0, .bool false]) ∧ n = zf.out.length ∧ stopP (packP decM zf tf pk0) ∧ ∃ z1 t1 l1 Gw', Lw K w' Gw' z1 t1 l1 ∧ (∀ i, Gw' i → Gw i ∨ w.heap.size ≤ i) ∧ Only (K.all Gw) w w')

/-- a packet, by its first bit -/
theorem pk_first {z : Lzs} {t : Pm Dc} (hb : z.bad = false) :
    ((bitP decM t (16 * z.st + z.out.length % 2 ^ z.pb) 0).1 = 0 → packP decM z t pk0 = packL decM (litP decM z (bitP decM t (16 * z.st + z.out.length % 2 ^ z.pb) 0).2 0) z) ∧
    ((bitP decM t (16 * z.st + z.out.length % 2 ^ z.pb) 0).1 ≠ 0 → packP decM z t pk0 = packK decM (kd2 decM (bitP decM (bitP decM t (16 * z.st + z.out.length % 2 ^ z.pb) 0).2 (192 + z.st) 0) (decide (z.out.length = 0)) z.st (z.out.length % 2 ^ z.pb) 0) z (z.out.length % 2 ^ z.pb) pk0) := by
  have hdef : packP decM z t pk0 = packK decM (kd1 decM (bitP decM t (16 * z.st + z.out.length % 2 ^ z.pb) 0) (decide (z.out.length = 0)) z.st (z.out.length % 2 ^ z.pb) 0) z (z.out.length % 2 ^ z.pb) pk0 := rfl
  rw [hdef]
  generalize bitP decM t (16 * z.st + z.out.length % 2 ^ z.pb) 0 = B at *
  constructor
  · intro h0
    have hk : kd1 decM B (decide (z.out.length = 0)) z.st (z.out.length % 2 ^ z.pb) 0 = (0, false, B.2) := by unfold kd1; rw [if_pos h0]
    rw [hk]
    unfold packK
    rw [if_pos rfl]
    have : ({ z with bad := z.bad || false } : Lzs) = z := by cases z; simp at hb; simp [hb]
    show packL decM (litP decM { z with bad := z.bad || false } B.2 0) { z with bad := z.bad || false } = _
    rw [this]
  · intro h0
    have hk : kd1 decM B (decide (z.out.length = 0)) z.st (z.out.length % 2 ^ z.pb) 0 = kd2 decM (bitP decM B.2 (192 + z.st) 0) (decide (z.out.length = 0)) z.st (z.out.length % 2 ^ z.pb) 0 := by unfold kd1; rw [if_neg h0]; rfl
    rw [hk]

section
variable {K : Kon} {w w' : World} {Gw Gw' : Nat → Prop} {zf : Lzs} {tf : Pm Dc} {n : Nat}

/-- a byte of a packet is told -/
theorem nx_copied (h : Nx K w Gw zf tf n) (hn : n < zf.out.length) {x : Ending}
    (hp : PutPost K w Gw (.tuple #[.int .u8 (((zf.cut n).back zf.r0).toNat : Int), .bool true]) ((zf.cut n).push ((zf.cut n).back zf.r0)) tf (zf.out.length - n - 1) x w') : NextPost K w Gw zf tf n x w' := by
  obtain ⟨rfl, G1, hl, hg, ho⟩ := hp
  obtain ⟨t1, t2⟩ := h.tell n (Nat.le_refl _) hn
  rw [t2] at hl ⊢
  rw [cut_next hn rfl] at hl
  refine .inl ⟨zf, tf, G1, rfl, ⟨?_, hn, by have := h.far; omega, h.near, fun h2 => h.live (by omega), h.bad, h.ended, fun j j1 j2 => h.tell j (by omega) j2⟩, rfl, rfl, .inl ⟨hn, rfl, rfl⟩, hg, ho⟩
  rw [show zf.out.length - (n + 1) = zf.out.length - n - 1 by omega]
  exact hl

theorem nx_lit {w1 : World} {B : Nat × Pm Dc} {x : Ending} (h : Nx K w Gw zf tf zf.out.length) (hB : B = bitP decM tf (16 * zf.st + zf.out.length % 2 ^ zf.pb) 0) (h0 : B.1 = 0) (hO1 : Only K.own w w1)
    (hp : LitEnd K w1 Gw zf (litP decM zf B.2 0) 0 x w') : NextPost K w Gw zf tf zf.out.length x w' := by
  have hpk := (pk_first (t := tf) h.bad).1
  rw [← hB] at hpk
  have hpk := hpk h0
  obtain ⟨r, hr⟩ : ∃ r, r = litP decM zf B.2 0 := ⟨_, rfl⟩
  rw [← hr] at hp hpk
  rcases hp with ⟨hd, rfl, hz, ho⟩ | ⟨hd, rfl, G1, hl, hg, ho⟩
  · refine .inr ⟨rfl, rfl, ?_, _, _, _, Gw, hz, fun i hi => .inl hi, (hO1.trans ho).mono fun i hi => .inl hi⟩
    rw [hpk]
    unfold packL
    rw [if_pos (dead_bad hd)]
    exact .inl hd
  · have hpk2 : packP decM zf tf pk0 = (1, ({ zf with st := litSt zf.st } : Lzs).push (UInt8.ofNat r.1), r.2) := by
      rw [hpk]
      unfold packL
      rw [if_neg (by rw [live_bad hd]; simp)]
    have hlen : (({ zf with st := litSt zf.st } : Lzs).push (UInt8.ofNat r.1)).out.length = zf.out.length + 1 := by show (zf.out ++ [_]).length = _; simp
    have hget : (({ zf with st := litSt zf.st } : Lzs).push (UInt8.ofNat r.1)).out.getD zf.out.length 0 = UInt8.ofNat r.1 := by
      show (zf.out ++ [_]).getD zf.out.length 0 = _
      simp [List.getD]
    obtain ⟨q, hq⟩ : ∃ q, q = ({ zf with st := litSt zf.st } : Lzs).push (UInt8.ofNat r.1) := ⟨_, rfl⟩
    have hz := h.near
    have hnear : ZNear q (1847 + K.nl) q.out.length := by
      rw [hq]
      exact ⟨hz.lc, hz.lp, hz.pb, hz.dict, Nat.le_refl _, litSt_le hz.st, hz.r0, hz.r1, hz.r2, hz.r3, hz.len⟩
    have hqb : q.bad = false := by rw [hq]; exact h.bad
    have hqe : q.ended = false := by rw [hq]; exact h.ended
    have hqd : q.dict = zf.dict := by rw [hq]; rfl
    have hqt : q.out.take zf.out.length = zf.out.take zf.out.length := by
      rw [hq]
      show (zf.out ++ [_]).take zf.out.length = _
      rw [List.take_left', List.take_length]
      rfl
    rw [← hq] at hpk2 hlen hget hl
    refine .inl ⟨q, r.2, G1, by rw [hget], ⟨?_, by omega, by omega, hnear, fun h2 => by omega, hqb, hqe, fun j j1 j2 => by omega⟩, hqd, hqt, .inr ⟨rfl, ?_, by rw [hpk2], by rw [hpk2]⟩, fun i hi => ?_, (hO1.mono fun i hi => .inl hi).trans ho⟩
    · have e1 := cut_all q
      rw [hlen] at e1
      rw [e1, hlen, Nat.sub_self]
      exact hl
    · rw [hpk2]
      rintro (h1 | h1 | h1)
      · exact hd h1
      · have h1 : q.bad = true := h1
        rw [hqb] at h1
        cases h1
      · have h1 : q.ended = true := h1
        rw [hqe] at h1
        cases h1
    · rcases hg i hi with h1 | h1
      · exact .inl h1
      · exact .inr (Nat.le_trans hO1.size h1)

/-- a packet that copies begins -/
theorem nx_begin {w1 w2 : World} {z1 : Lzs} {t1 : Pm Dc} {l : Nat} {x : Ending} (hO1 : Only K.own w w1) (ho1 : z1.out = zf.out) (hd1 : z1.dict = zf.dict) (hz1 : ZNear z1 (1847 + K.nl) zf.out.length)
    (hd : t1.x ≠ none) (hb : z1.bad = false) (he : z1.ended = false) (hh : z1.has z1.r0 = true) (h2 : l + 1 ≤ 273) (hr : packP decM zf tf pk0 = ((copyG (l + 1) 0 z1).1, (copyG (l + 1) 0 z1).2, t1))
    (hp : PutPost K w1 Gw (.tuple #[.int .u8 ((z1.back z1.r0).toNat : Int), .bool true]) (z1.push (z1.back z1.r0)) t1 l x w2) : NextPost K w Gw zf tf zf.out.length x w2 := by
  obtain ⟨rfl, G1, hl, hg, ho⟩ := hp
  obtain ⟨q1, q2, q3, q4⟩ := copy_cut (l + 1) 0 hh
  obtain ⟨q, hq⟩ : ∃ q, q = (copyG (l + 1) 0 z1).2 := ⟨_, rfl⟩
  rw [← hq] at q1 q2 q3 q4 hr
  rw [ho1] at q2 q3 q4
  have e0 : q.cut zf.out.length = z1 := by
    unfold Lzs.cut
    rw [q3, q1, ← ho1]
  have er : q.r0 = z1.r0 := by rw [q1]
  obtain ⟨t2, t3⟩ := q4 zf.out.length (Nat.le_refl _) (by omega)
  rw [e0, er] at t3
  rw [t3] at hl ⊢
  rw [← e0, cut_next (by omega) rfl] at hl
  refine .inl ⟨q, t1, G1, rfl, ⟨?_, by omega, by omega, ?_, fun _ => hd, ?_, ?_, fun j j1 j2 => q4 j (by omega) (by omega)⟩, ?_, ?_, .inr ⟨rfl, ?_, by rw [hr], by rw [hr]⟩, fun i hi => ?_, (hO1.mono fun i hi => .inl hi).trans ho⟩
  · rw [show q.out.length - (zf.out.length + 1) = l by omega]
    exact hl
  · rw [q1]
    exact ⟨hz1.lc, hz1.lp, hz1.pb, hz1.dict, Nat.le_refl _, hz1.st, hz1.r0, hz1.r1, hz1.r2, hz1.r3, hz1.len⟩
  · rw [q1]; exact hb
  · rw [q1]; exact he
  · rw [q1]; exact hd1
  · rw [q3, List.take_length]
  · rw [hr]
    rintro (h1 | h1 | h1)
    · exact hd h1
    · rw [show ((copyG (l + 1) 0 z1).1, q, t1).2.1 = q from rfl, q1] at h1
      have h1 : z1.bad = true := h1
      rw [hb] at h1
      cases h1
    · rw [show ((copyG (l + 1) 0 z1).1, q, t1).2.1 = q from rfl, q1] at h1
      have h1 : z1.ended = true := h1
      rw [he] at h1
      cases h1
  · rcases hg i hi with h1 | h1
    · exact .inl h1
    · exact .inr (Nat.le_trans hO1.size h1)
end
end Go.Proofs.YtiolfjhddbiglaaGreatDoor

/-
  The program's decoder of LZMA: the next byte, walked.
-/
namespace Go.Proofs.YtiolfjhddbiglaaGreatDoor
open Go.RowKit

section
variable {K : Kon} {w w' : World} {Gw Gw' : Nat → Prop} {zf : Lzs} {tf : Pm Dc} {n : Nat}

set_option maxRecDepth 100000 in
set_option maxHeartbeats 8000000 in
theorem lnext_any (h : Nx K w Gw zf tf n) (hn : n ≤ 800000) (hf : Fit K (zf.cut n)) :
    Calls Tryz.prog 78 #[.pointer (some ⟨K.g, 0, none⟩)] w (NextPost K w Gw zf tf n) := by
  have HX := Lib.hid h
  have HF := Lib.hid hf
  have HN := Lib.hid hn
  have KM := lmay_any h.lw
  have xe := h.lw.f.ended
  have xl := h.lw.f.left
  have hb : (zf.cut n).bad = false := h.bad
  have he : (zf.cut n).ended = false := h.ended
  rw [hb] at KM
  rw [he] at xe
  by_cases hlt : n < zf.out.length
  · rw [live_bad (h.live hlt)] at KM
    have KM := Lib.hid KM
    obtain ⟨l, hl⟩ : ∃ l, zf.out.length - n = l + 1 := ⟨zf.out.length - n - 1, by omega⟩
    have hw := h.lw
    rw [hl] at hw xl
    have hfar := h.far
    have KC := Lib.hid (lcopied_any hw hf (h.tell n (Nat.le_refl _) hlt).1 h.near.r0 (by omega) (by show (zf.out.take n).length ≤ _; rw [List.length_take]; omega))
    have q0 : (((l + 1 : Nat) : Int) == 0) = false := by simp; omega
    obtain ⟨l1, hl1⟩ : ∃ l1, l1 = l + 1 := ⟨_, rfl⟩
    rw [← hl1] at q0 xl
    have HL := Lib.hid (And.intro hlt hl)
    clear hl hl1 hw hfar hlt h hf hn hb he
    go_enter Tryz.func78, Tryz.ntmps78
    go_wp2_with fail
    refine KM.out.mono ?_
    rintro e w1 ⟨rfl, rfl⟩
    clear KM
    go_wp2_with fail
    refine KC.out.mono ?_
    rintro e w2 hp
    have HP := Lib.hid hp
    obtain ⟨rfl, _⟩ := hp
    clear KC
    go_wp2_with fail
    go_ret2
    refine nx_copied HX.out HL.out.1 ?_
    rw [show zf.out.length - n - 1 = l by have := HL.out.2; omega]
    exact HP.out
  · obtain rfl : n = zf.out.length := by have := h.le; omega
    rw [cut_all] at hf hb he
    have hw := h.lw
    rw [cut_all, Nat.sub_self] at hw
    rw [Nat.sub_self] at xl
    by_cases hd : tf.x = none
    · rw [dead_bad hd] at KM
      have KM := Lib.hid KM
      have HD := Lib.hid hd
      have HW := Lib.hid hw
      clear hlt h hf hn hb he hd hw
      go_enter Tryz.func78, Tryz.ntmps78
      go_wp2_with fail
      refine KM.out.mono ?_
      rintro e w1 ⟨rfl, rfl⟩
      clear KM
      go_wp2_with fail
      go_ret2
      exact .inr ⟨rfl, rfl, .inl (packP_none HD.out), _, _, _, Gw, HW.out, fun i hi => .inl hi, Only.refl _ _⟩
    · rw [live_bad hd] at KM
      have KM := Lib.hid KM
      have hz := h.near
      have KS := Lib.hid (lstart_any hw hz.st hz.pb (by omega))
      have hpk := pk_first (t := tf) hb
      obtain ⟨s, hs⟩ : ∃ s, s = zf.out.length % 2 ^ zf.pb := ⟨_, rfl⟩
      rw [← hs] at KS hpk
      obtain ⟨B, hB⟩ : ∃ B, B = bitP decM tf (16 * zf.st + s) 0 := ⟨_, rfl⟩
      rw [← hB] at KS hpk
      by_cases h0 : B.1 = 0
      · rw [decide_eq_true h0] at KS
        have HB := Lib.hid (And.intro hB (And.intro h0 hs))
        have HZ := Lib.hid hz
        clear hlt h hb he hd hw hz hpk hs hB h0 hf hn
        go_enter Tryz.func78, Tryz.ntmps78
        go_wp2_with fail
        refine KM.out.mono ?_
        rintro e w1 ⟨rfl, rfl⟩
        clear KM
        go_wp2_with fail
        refine KS.out.mono ?_
        rintro e w1 ⟨rfl, hz1, ho1⟩
        have KL := Lib.hid (llit_any hz1 HZ.out (by have := HN.out; omega) (by have := HF.out; rw [cut_all] at this; exact this))
        have HO1 := Lib.hid ho1
        clear hz1 ho1 KS
        go_wp2_with fail
        refine KL.out.mono ?_
        rintro e w2 hp
        have HP := Lib.hid hp
        clear KL
        have hret : e = .returned (.tuple #[.int .u8 0, .bool false]) ∨ ∃ b : UInt8, e = .returned (.tuple #[.int .u8 (b.toNat : Int), .bool true]) := by
          rcases hp with ⟨_, rfl, _⟩ | ⟨_, rfl, _⟩
          · exact .inl rfl
          · exact .inr ⟨_, rfl⟩
        clear hp
        rcases hret with rfl | ⟨b, rfl⟩
        · go_wp2_with fail
          go_ret2
          have hB1 := HB.out.1
          rw [HB.out.2.2] at hB1
          exact nx_lit HX.out hB1 HB.out.2.1 HO1.out HP.out
        · go_wp2_with fail
          go_ret2
          have hB1 := HB.out.1
          rw [HB.out.2.2] at hB1
          exact nx_lit HX.out hB1 HB.out.2.1 HO1.out HP.out
      · rw [decide_eq_false h0] at KS
        have hr := hpk.2 h0
        have HR := Lib.hid hr
        have HZ := Lib.hid hz
        have HBE := Lib.hid (And.intro hb (And.intro he (And.intro hs hf)))
        clear hlt h hb he hd hw hz hpk hs hB h0 hf hn hr
        go_enter Tryz.func78, Tryz.ntmps78
        go_wp2_with fail
        refine KM.out.mono ?_
        rintro e w1 ⟨rfl, rfl⟩
        clear KM
        go_wp2_with fail
        refine KS.out.mono ?_
        rintro e w1 ⟨rfl, hz1, ho1⟩
        have KC := Lib.hid (lcopies_any (s := s) hz1 HZ.out (by have := HN.out; omega) HBE.out.2.2.2 HBE.out.2.2.1 HBE.out.1 HBE.out.2.1)
        rw [← HR.out] at KC
        have HO1 := Lib.hid ho1
        clear hz1 ho1 KS
        go_wp2_with fail
        refine KC.out.mono ?_
        rintro e w2 ⟨z1, t1, left1, ⟨rfl, hl2, ho2⟩, hout, hdict, hnear, ht, hcase⟩
        clear KC
        have HO2 := Lib.hid (HO1.out.trans ho2)
        have hfail : left1 = 0 → stopP (packP decM zf tf pk0) → Hid (Lw K w2 Gw z1 t1 0 ∧ stopP (packP decM zf tf pk0)) := fun h0 h1 => Lib.hid ⟨h0 ▸ hl2, h1⟩
        rcases hcase with ⟨hd1, h10⟩ | ⟨hd1, hb1, _, _, h10⟩ | ⟨hd1, _, he1, hr1, h10⟩ | ⟨hd1, hb1, he1, hh1, hg1, hg2, hr1⟩
        · have HZ2 := hfail h10 (.inl (by rw [← ht]; exact hd1))
          have KE := Lib.hid (lcopied_end HZ2.out.1)
          clear hfail hd1 h10 hl2 ho2 hout hdict hnear ht
          go_wp2_with fail
          refine KE.out.mono ?_
          rintro e w3 ⟨rfl, rfl⟩
          go_wp2_with fail
          go_ret2
          exact .inr ⟨rfl, rfl, HZ2.out.2, _, _, _, Gw, HZ2.out.1, fun i hi => .inl hi, HO2.out.mono fun i hi => .inl hi⟩
        · have HZ2 := hfail h10 (.inr (.inl hb1))
          have KE := Lib.hid (lcopied_end HZ2.out.1)
          clear hfail hd1 h10 hl2 ho2 hout hdict hnear ht hb1
          go_wp2_with fail
          refine KE.out.mono ?_
          rintro e w3 ⟨rfl, rfl⟩
          go_wp2_with fail
          go_ret2
          exact .inr ⟨rfl, rfl, HZ2.out.2, _, _, _, Gw, HZ2.out.1, fun i hi => .inl hi, HO2.out.mono fun i hi => .inl hi⟩
        · have HZ2 := hfail h10 (.inr (.inr (by rw [hr1]; exact he1)))
          have KE := Lib.hid (lcopied_end HZ2.out.1)
          clear hfail hd1 h10 hl2 ho2 hout hdict hnear ht he1 hr1
          go_wp2_with fail
          refine KE.out.mono ?_
          rintro e w3 ⟨rfl, rfl⟩
          go_wp2_with fail
          go_ret2
          exact .inr ⟨rfl, rfl, HZ2.out.2, _, _, _, Gw, HZ2.out.1, fun i hi => .inl hi, HO2.out.mono fun i hi => .inl hi⟩
        · obtain ⟨l, rfl⟩ : ∃ l, left1 = l + 1 := ⟨left1 - 1, by omega⟩
          have hfit1 : Fit K z1 := by
            have := HBE.out.2.2.2
            unfold Fit at *
            rw [hout, hdict]
            exact this
          have KC := Lib.hid (lcopied_any hl2 hfit1 hh1 hnear.r0 (by omega) (by rw [hout]; have := HN.out; omega))
          have HA := Lib.hid (fun (x : Ending) (w3 : World) hp => nx_begin (Gw := Gw) (x := x) (w2 := w3) HO2.out hout hdict hnear hd1 hb1 he1 hh1 hg2 hr1 hp)
          clear hfail hd1 hl2 ho2 hout hdict hnear ht he1 hr1 hb1 hh1 hg1 hg2 hfit1
          go_wp2_with fail
          refine KC.out.mono ?_
          rintro e w3 hp
          have HP := Lib.hid hp
          obtain ⟨rfl, _⟩ := hp
          go_wp2_with fail
          go_ret2
          exact HA.out _ _ HP.out
end
end Go.Proofs.YtiolfjhddbiglaaGreatDoor

/-
  The program's decoder of LZMA at rest between two chunks; it begins over any source.
-/
namespace Go.Proofs.YtiolfjhddbiglaaGreatDoor
open Go.RowKit

/-- what a decoder is that has a decoder of ranges -/
def Kon.on (K : Kon) (dg : Nat) (S : Sc) (bs : List UInt8) : Kon := { K with dg := dg, S := S, bs := bs }
/-- its fields, whatever its source, its decoder of ranges and its packet are -/
def restFs (K : Kon) (z : Lzs) (v4 v5 v16 v17 v18 : Value) : List Value :=
  [.int .i64 (z.lc : Int), .int .i64 (z.lp : Int), .int .i64 (z.pb : Int), .int .i64 K.sd, v4, v5, .pointer (some ⟨K.wg, 0, none⟩), .pointer (some ⟨K.m, 0, none⟩), .int .i64 K.room,
    .int .i64 (z.out.length : Int), .int .i64 (z.st : Int), .int .u32 (z.r0 : Int), .int .u32 (z.r1 : Int), .int .u32 (z.r2 : Int), .int .u32 (z.r3 : Int), .slice (some ⟨K.lb, 0, none⟩) K.nc K.nc, v16, v17, v18]

/-- at rest: z's numbers, whatever its packet is -/
structure Lrest (K : Kon) (w : World) (Gw : Nat → Prop) (z : Lzs) (ps : List Nat) (v4 v5 v16 v17 v18 : Value) : Prop where
  row : Rk K (restFs K z v4 v5 v16 v17 v18) w ps
  win : Pwin w K.wg Gw K.m ⟨K.sz, z.out, false⟩
  gn : K.g ≠ K.lb
  mg : K.m ≠ K.g
  mb : K.m ≠ K.lb
  nc : K.nl ≤ K.nc ∧ K.nc ≤ 1000000
  wd : ∀ i, Gw i → i ≠ K.g ∧ i ≠ K.lb ∧ i ≠ K.m
  mo : K.m < w.heap.size

section
variable {K : Kon} {w w' : World} {Gw : Nat → Prop}
set_option maxRecDepth 100000 in
set_option maxHeartbeats 2000000 in
theorem closed_any {fs : List Value} {ps : List Nat} (hB : LzAt w K.g fs ps) (h15 : fs[15]? = some (.slice (some ⟨K.lb, 0, none⟩) K.nc K.nc)) :
    Calls Tryz.prog 130 #[.pointer (some ⟨K.g, 0, none⟩)] w fun e w' => e = .returned (.bool false) ∧ w = w' := by
  have c := hB.cell 15 (by decide)
  have c : w.cell? ⟨K.g, 1862, none⟩ = some (.slice (some ⟨K.lb, 0, none⟩) K.nc K.nc) := by
    rw [show (1862 : Nat) = fat 15 from rfl, c]
    simp [h15]
  clear hB h15
  have qT : ∀ (w : World) (a : Option Addr) (n c n' c' : Nat), (binOp .eql 62 (.slice a n c) (.slice none n' c')).run Tryz.prog w = .ok (.bool a.isNone) w := fun w a n c n' c' => Lib.run_eql_slice_nil w _ _ a n c n' c' Tryz.underlying62
  go_enter Tryz.func130, Tryz.ntmps130
  go_wp2_with fail
  go_ret
  exact ⟨rfl, rfl⟩

set_option maxRecDepth 100000 in
set_option maxHeartbeats 4000000 in
theorem zbegin_any {S : Sc} {bs : List UInt8} {z : Lzs} {ps : List Nat} {v4 v5 v16 v17 v18 : Value} (hS : ScOk S) (h : Lrest K w Gw z ps v4 v5 v16 v17 v18) (hz : ZNear z (1847 + K.nl) z.out.length) (hps : PsOk ps) (hA : S.At w bs 0)
    (h1 : ¬ S.hold K.g) (h2 : ¬ S.hold K.lb) (h3 : ¬ S.hold K.m) (h4 : ∀ i, Gw i → ¬ S.hold i) :
    Calls Tryz.prog 103 #[.pointer (some ⟨K.g, 0, none⟩), .iface 103 (.pointer (some ⟨S.f, 0, none⟩))] w fun e w' =>
      e = .returned (.tuple #[]) ∧ Nx (K.on w.heap.size S bs) w' Gw { z with ended := false, bad := false } ⟨ps, started bs⟩ z.out.length ∧ Only (fun i => i = K.g ∨ S.turn i) w w' := by
  have KCl := Lib.hid (closed_any h.row.1 rfl)
  have KN := Lib.hid (pnew_any hS hA)
  have HX := Lib.hid (And.intro h (And.intro hz (And.intro hps (And.intro hS (And.intro h1 (And.intro h2 (And.intro h3 h4)))))))
  clear h hz hps hS hA h1 h2 h3 h4
  go_enter Tryz.func103, Tryz.ntmps103
  go_wp2_with fail
  refine KCl.out.mono ?_
  rintro e w1 ⟨rfl, rfl⟩
  clear KCl
  go_wp2_with fail
  refine KN.out.mono ?_
  rintro e w2 ⟨rfl, hP, hO⟩
  have hgf : ¬ S.turn K.g := fun e => HX.out.2.2.2.2.1 (HX.out.2.2.2.1.tf _ e)
  have hlf : ¬ S.turn K.lb := fun e => HX.out.2.2.2.2.2.1 (HX.out.2.2.2.1.tf _ e)
  have hR : Rk K (restFs K z v4 v5 v16 v17 v18) w2 ps := (K.prb _ HX.out.1.gn).only HX.out.1.row hO (fun i hi e => by
    rcases hi with rfl | rfl
    · exact hgf e
    · exact hlf e)
  have c4 : w2.cell? ⟨K.g, 4, none⟩ = some v4 := hR.1.cell 4 (by decide)
  have c5 : w2.cell? ⟨K.g, 5, none⟩ = some v5 := hR.1.cell 5 (by decide)
  have cl : w2.cell? ⟨K.g, 1863, none⟩ = some v16 := hR.1.cell 16 (by decide)
  have ce : w2.cell? ⟨K.g, 1864, none⟩ = some v17 := hR.1.cell 17 (by decide)
  have cb : w2.cell? ⟨K.g, 1865, none⟩ = some v18 := hR.1.cell 18 (by decide)
  have z4 := hR.1.free 4
  have z5 := hR.1.free 5
  have zl := hR.1.free 1863
  have ze := hR.1.free 1864
  have zb := hR.1.free 1865
  have HP := Lib.hid (And.intro hP (And.intro hO hR))
  clear hP hO hR hgf hlf KN
  go_wp2_with fail
  go_end0
  obtain ⟨hU, hz, hps, hS, h1, h2, h3, h4⟩ := HX.out
  obtain ⟨hP, hO, hR⟩ := HP.out
  have hgn := hU.gn
  have hg0 : K.g < w.heap.size := hU.row.1.lt
  have hl0 : K.lb < w.heap.size := hU.row.2.1.lt
  have hm0 := hU.mo
  have p4 := hR.put hgn 4 (by decide) (.iface 103 (.pointer (some ⟨S.f, 0, none⟩)))
  have p5 := p4.put hgn 5 (by decide) (.pointer (some ⟨w.heap.size, 0, none⟩))
  have p6 := p5.put hgn 16 (by decide) (.int .i64 0)
  have p7 := p6.put hgn 17 (by decide) (.bool false)
  have p8 := p7.put hgn 18 (by decide) (.bool false)
  have hOg := ((((((Only.refl (fun i => i = K.g) w2).setCell (p := ⟨K.g, 4, none⟩) (.inl rfl) (.iface 103 (.pointer (some ⟨S.f, 0, none⟩)))).setCell (p := ⟨K.g, 5, none⟩) (.inl rfl) (.pointer (some ⟨w.heap.size, 0, none⟩))).setCell (p := ⟨K.g, 1863, none⟩) (.inl rfl) (.int .i64 0)).setCell (p := ⟨K.g, 1864, none⟩) (.inl rfl) (.bool false)).setCell (p := ⟨K.g, 1865, none⟩) (.inl rfl) (.bool false))
  have hOall : Only (fun i => i = K.g ∨ S.turn i) w _ := (hO.mono fun i hi => .inr hi).trans (hOg.mono fun i hi => .inl hi)
  have hPd := hP.only hS hOg (fun i hi => ⟨hi ▸ h1, by omega⟩)
  have hW : Pwin _ K.wg Gw K.m ⟨K.sz, z.out, false⟩ := hU.win.only hOall (fun i hi e => by
    rcases e with e | e
    · exact (hU.wd i hi).1 e
    · exact h4 i hi (hS.tf _ e))
  have hLw : Lw (K.on w.heap.size S bs) _ Gw { z with ended := false, bad := false } ⟨ps, started bs⟩ 0 :=
    ⟨⟨hS, hPd, p8, ⟨hps, hU.row.2.2, dcOk_started bs⟩⟩, hW, ⟨⟨h1, Nat.ne_of_lt hg0⟩, ⟨h2, Nat.ne_of_lt hl0⟩, ⟨h3, hm0⟩, hgn, hU.mg, hU.mb, hU.nc, fun i hi => ⟨(hU.wd i hi).1, (hU.wd i hi).2.1, (hU.wd i hi).2.2, h4 i hi, Nat.ne_of_lt (hU.win.old hi)⟩⟩⟩
  refine ⟨rfl, ⟨?_, Nat.le_refl _, Nat.le_add_right _ _, ⟨hz.lc, hz.lp, hz.pb, hz.dict, Nat.le_refl _, hz.st, hz.r0, hz.r1, hz.r2, hz.r3, hz.len⟩, fun hh => absurd hh (Nat.lt_irrefl _), rfl, rfl, fun j j1 j2 => absurd j2 (Nat.not_lt.2 j1)⟩, hOall⟩
  show Lw _ _ _ (Lzs.cut { z with ended := false, bad := false } (Lzs.out { z with ended := false, bad := false }).length) _ (z.out.length - z.out.length)
  rw [cut_all, Nat.sub_self]
  exact hLw
end
end Go.Proofs.YtiolfjhddbiglaaGreatDoor

/-
  The program's decoder of LZMA over any source: whether no packet has more to tell and the decoder of ranges is done; back to rest.
-/
namespace Go.Proofs.YtiolfjhddbiglaaGreatDoor
open Go.RowKit

theorem pd_cells {S : Sc} {w : World} {g : Nat} {bs s : List UInt8} {r c : Nat} (h : Pd w g S bs (some (r, c, s))) : Blk w g 228 (pdCells S.f r c false) := by
  obtain ⟨at_, r', c', bad, hB, _, _, _, _, _, h⟩ := h
  rcases h with ⟨_, h⟩ | ⟨rfl, h⟩
  · cases h
  · injection h with h
    injection h with h1 h
    injection h with h2 h
    subst h1 h2
    exact hB
theorem pd_cells_bad {S : Sc} {w : World} {g : Nat} {bs : List UInt8} (h : Pd w g S bs none) : ∃ r c, Blk w g 228 (pdCells S.f r c true) := by
  obtain ⟨at_, r', c', bad, hB, _, _, _, _, _, h⟩ := h
  rcases h with ⟨rfl, h⟩ | ⟨rfl, h⟩
  · exact ⟨r', c', hB⟩
  · cases h
def doneX : Dc → Bool
  | none => false
  | some (_, c, _) => decide (c = 0)
theorem ldone_any {S : Sc} {w : World} {g : Nat} {bs : List UInt8} {d : Dc} (h : Pd w g S bs d) : Calls Tryz.prog 147 #[.pointer (some ⟨g, 0, none⟩)] w fun e w' => e = .returned (.bool (doneX d)) ∧ w = w' := by
  cases d with
  | none =>
    obtain ⟨r, c, hB⟩ := pd_cells_bad h
    exact done_any hB
  | some x => exact done_any (pd_cells h)

section
variable {K : Kon} {w w' : World} {Gw : Nat → Prop} {zf : Lzs} {tf : Pm Dc} {n : Nat}
/-- back to rest -/
theorem Lw.rest {z : Lzs} {t : Pm Dc} {left : Nat} (h : Lw K w Gw z t left) : Lrest K w Gw z t.ps (.iface 103 (.pointer (some ⟨K.S.f, 0, none⟩))) (.pointer (some ⟨K.dg, 0, none⟩)) (.int .i64 (left : Int)) (.bool z.ended) (.bool z.bad) :=
  ⟨h.mch.row, h.win, h.ap.gn, h.ap.mg, h.ap.mb, h.ap.nc, fun i hi => ⟨(h.ap.wd i hi).1, (h.ap.wd i hi).2.1, (h.ap.wd i hi).2.2.1⟩, Nat.lt_trans h.ap.ml.2 h.mch.pd.lt⟩

set_option maxRecDepth 100000 in
set_option maxHeartbeats 2000000 in
theorem zwhole_any (h : Nx K w Gw zf tf n) (hn : n ≤ 1000000) :
    Calls Tryz.prog 110 #[.pointer (some ⟨K.g, 0, none⟩)] w fun e w' => e = .returned (.bool (decide (n = zf.out.length) && doneX tf.x)) ∧ w = w' := by
  have KM := lmay_any h.lw
  have xl := h.lw.f.left
  have x5 := h.lw.f.c5
  have hb : (zf.cut n).bad = false := h.bad
  rw [hb] at KM
  have KD := Lib.hid (ldone_any h.lw.mch.pd)
  by_cases hlt : n < zf.out.length
  · rw [live_bad (h.live hlt)] at KM
    have KM := Lib.hid KM
    rw [decide_eq_false (show ¬ n = zf.out.length by omega)]
    obtain ⟨l, hl⟩ : ∃ l, l = zf.out.length - n := ⟨_, rfl⟩
    rw [← hl] at xl
    have hl0 : ¬ (l : Int) = 0 := by omega
    have hl1 : ((l : Int) == 0) = false := by simp; omega
    clear h hb hl hlt hn
    go_enter Tryz.func110, Tryz.ntmps110
    go_wp2_with fail
    refine KM.out.mono ?_
    rintro e w1 ⟨rfl, rfl⟩
    clear KM
    go_wp2_with fail
    go_ret
    exact ⟨rfl, rfl⟩
  · obtain rfl : n = zf.out.length := by have := h.le; omega
    rw [Nat.sub_self] at xl
    rw [decide_eq_true rfl, Bool.true_and]
    cases hx : tf.x with
    | none =>
      rw [dead_bad hx] at KM
      have KM := Lib.hid KM
      clear h hb hlt hn hx KD
      go_enter Tryz.func110, Tryz.ntmps110
      go_wp2_with fail
      refine KM.out.mono ?_
      rintro e w1 ⟨rfl, rfl⟩
      clear KM
      go_wp2_with fail
      go_ret
      exact ⟨rfl, rfl⟩
    | some x =>
      rw [live_bad (by rw [hx]; simp)] at KM
      have KM := Lib.hid KM
      rw [hx] at KD
      generalize doneX (some x) = b at *
      clear h hb hlt hn hx
      go_enter Tryz.func110, Tryz.ntmps110
      go_wp2_with fail
      refine KM.out.mono ?_
      rintro e w1 ⟨rfl, rfl⟩
      clear KM
      go_wp2_with fail
      refine KD.out.mono ?_
      rintro e w1 ⟨rfl, rfl⟩
      go_wp2_with fail
      go_ret
      exact ⟨rfl, rfl⟩
end
end Go.Proofs.YtiolfjhddbiglaaGreatDoor

/-
  The program's decoder of LZMA at rest: state, distances and probabilities begin anew, by a setting that may want fewer literals' probabilities.
-/
namespace Go.Proofs.YtiolfjhddbiglaaGreatDoor
open Go.RowKit

def Kon.full (K : Kon) : Kon := { K with nl := K.nc }
def Kon.less (K : Kon) (n : Nat) (d : Int) : Kon := { K with nl := n, sd := d }
theorem Rk.full {K : Kon} {fs : List Value} {w : World} {ps : List Nat} (h : Rk K fs w ps) : ∃ ps2, Rk K.full fs w ps2 := by
  obtain ⟨h1, ⟨rs, h2, h3⟩, h4⟩ := h
  have hd : (ps ++ rs).drop 1847 = ps.drop 1847 ++ rs := by rw [List.drop_append_of_le_length (by omega)]
  refine ⟨ps ++ rs, h1.same (fun a ha => ?_), ⟨[], ?_, ?_⟩, ?_⟩
  · simp only [List.getD]
    rw [List.getElem?_append_left (by omega)]
  · rw [hd, List.append_nil]
    exact h2
  · rw [hd, List.append_nil]
    exact h3
  · rw [List.length_append, List.length_drop] at h3
    show (ps ++ rs).length = 1847 + K.nc
    rw [List.length_append]
    omega
theorem Rk.less {K : Kon} {fs : List Value} {w : World} {ps : List Nat} {n : Nat} {d : Int} (h : Rk K.full fs w ps) (hn : n ≤ K.nc) (hp : ∀ i, i < 1847 + n → ps.getD i 0 = 1024) : Rk (K.less n d) fs w (List.replicate (1847 + n) 1024) := by
  obtain ⟨h1, ⟨rs, h2, h3⟩, h4⟩ := h
  have h4 : ps.length = 1847 + K.nc := h4
  have hr0 : rs = [] := by
    rw [List.length_append, List.length_drop] at h3
    have h3 : ps.length - 1847 + rs.length = K.nc := h3
    exact List.length_eq_zero_iff.1 (by omega)
  subst hr0
  rw [List.append_nil] at h2
  have hps : ps = List.replicate (1847 + n) 1024 ++ ps.drop (1847 + n) := by
    have ht : ps.take (1847 + n) = List.replicate (1847 + n) 1024 := by
      refine List.ext_getElem (by simp; omega) (fun i a b => ?_)
      have hi : i < 1847 + n := by simp at b; omega
      have := hp i hi
      simp only [List.getD, List.getElem?_eq_getElem (show i < ps.length by omega), Option.getD_some] at this
      rw [List.getElem_take, List.getElem_replicate, this]
    rw [← ht, List.take_append_drop]
  have hd : ps.drop 1847 = (List.replicate (1847 + n) 1024).drop 1847 ++ ps.drop (1847 + n) := by
    conv => lhs; rw [hps]
    rw [List.drop_append_of_le_length (by simp)]
  refine ⟨h1.same (fun a ha => ?_), ⟨ps.drop (1847 + n), ?_, ?_⟩, by simp; rfl⟩
  · rw [hp a (by omega)]
    simp only [List.getD, List.getElem?_replicate]
    rw [if_pos (by omega)]
    rfl
  · rw [← hd]
    exact h2
  · rw [← hd, List.length_drop]
    show ps.length - 1847 = K.nc
    omega

end Go.Proofs.YtiolfjhddbiglaaGreatDoor


namespace Go.Proofs.YtiolfjhddbiglaaGreatDoor
open Go.RowKit
def ResPost (K : Kon) (w : World) (fs : List Value) (n : Nat) (e : Ending) (w' : World) : Prop :=
  e = .returned (.tuple #[]) ∧ (∃ ps2, Rk K fs w' ps2 ∧ ∀ i, i < 1847 + n → ps2.getD i 0 = 1024) ∧ Only K.Bk w w'
section
variable {K : Kon} {w w' : World} {Gw : Nat → Prop} {d : Int} {z : Lzs} {v4 v5 v16 v17 v18 : Value} {n : Nat}

set_option maxRecDepth 100000 in
set_option maxHeartbeats 8000000 in
theorem qpreset_any {lc lp pb : Nat} {ps : List Nat} (hn : K.g ≠ K.lb) (h1 : lc ≤ 8) (h2 : lp ≤ 4) (h3 : pb ≤ 4) (hnl : n = 768 * 2 ^ (lc + lp)) (hnc : n ≤ K.nc) (hnl2 : K.nc ≤ 1000000) (hK : K.nl = K.nc) (h : Rk K (restFs K z v4 v5 v16 v17 v18) w ps) :
    Calls Tryz.prog 70 #[.pointer (some ⟨K.g, 0, none⟩), .agg #[.int .i64 (lc : Int), .int .i64 (lp : Int), .int .i64 (pb : Int), .int .i64 d]] w (ResPost K w (restFs { K with sd := d } (z.anew lc lp pb) v4 v5 v16 v17 v18) n) := by
  obtain ⟨fs9, hfs9⟩ : ∃ fs9, fs9 = restFs { K with sd := d } (z.anew lc lp pb) v4 v5 v16 v17 v18 := ⟨_, rfl⟩
  rw [← hfs9]
  have HFS := Lib.hid hfs9
  clear hfs9
  obtain ⟨w1, hw1⟩ : ∃ w1, w1 = w.alloc (.cells #[.int .i64 (lc : Int), .int .i64 (lp : Int), .int .i64 (pb : Int), .int .i64 d] 40) := ⟨_, rfl⟩
  have hO1 : Only K.Bk w w1 := by rw [hw1]; exact (Only.refl _ w).alloc _
  have hz1 : Rk K (restFs K z v4 v5 v16 v17 v18) w1 ps := (K.prb _ hn).only h (show Only (fun _ => False) w w1 by rw [hw1]; exact (Only.refl _ w).alloc _) (fun _ _ h => h)
  have HBk : Blk w1 w.heap.size 40 #[.int .i64 (lc : Int), .int .i64 (lp : Int), .int .i64 (pb : Int), .int .i64 d] := by rw [hw1]; exact Blk.fresh w _ _
  have hgs : K.g < w.heap.size := h.1.lt
  have hls : K.lb < w.heap.size := h.2.1.lt
  have KM := fun w => pbits_any (lc : Int) (lp : Int) (pb : Int) d w
  have hmay : mayB (lc : Int) (lp : Int) (pb : Int) = true := by unfold mayB inB; simp; omega
  rw [hmay] at KM
  have KM := Lib.hid KM
  have KL := fun w => plits_any (lc := lc) (lp := lp) (pb : Int) d (by omega) w
  rw [← hnl] at KL
  have KL := Lib.hid KL
  have HW1 := Lib.hid hw1
  have HZ1 := Lib.hid hz1
  have HO1 := Lib.hid hO1
  have HN := Lib.hid (And.intro hn (And.intro hnl2 (And.intro hgs (And.intro hls (And.intro hnc hK)))))
  clear hnc hw1 hz1 hO1 hmay hnl h h1 h2 h3 hn hnl2 hK
  generalize hB : w.heap.size = B at *
  have HBK := Lib.hid HBk
  have hnc := HN.out.2.2.2.2.1
  have q1n : ¬ K.nc < n := by omega
  have q1d : decide (K.nc < n) = false := decide_eq_false q1n
  have q1 : ¬ ((n : Nat) : Int) > (K.nc : Int) := by omega
  have q1' : decide (((n : Nat) : Int) > (K.nc : Int)) = false := decide_eq_false q1
  clear HBk hgs hls hnc
  go_enter Tryz.func70, Tryz.ntmps70
  go_upto_region 1 with fail
  rw [← HW1.out]
  clear HW1
  have HS := Lib.hid (fun (W : World) (hW : Only (fun _ => False) w1 W) => (show W.cell? ⟨B, 0, none⟩ = some (.int .i64 (lc : Int)) ∧ W.cell? ⟨B, 1, none⟩ = some (.int .i64 (lp : Int)) ∧ W.cell? ⟨B, 2, none⟩ = some (.int .i64 (pb : Int)) ∧ W.cell? ⟨B, 3, none⟩ = some (.int .i64 d) ∧ W.cell? ⟨K.g, 1862, none⟩ = some (.slice (some ⟨K.lb, 0, none⟩) K.nc K.nc) from
    have hk := HBK.out.only hW (fun h => h)
    ⟨hk.cell 0, hk.cell 1, hk.cell 2, hk.cell 3, (HZ1.out.1.only hW (fun h => h)).cell 15 (by decide)⟩))
  obtain ⟨c0, c1, c2, c3, c4⟩ := HS.out w1 (Only.refl _ _)
  go_region_held3 (fun w' => w'.cell? ⟨B, 0, none⟩ = some (.int .i64 (lc : Int)) ∧ w'.cell? ⟨B, 1, none⟩ = some (.int .i64 (lp : Int)) ∧ w'.cell? ⟨B, 2, none⟩ = some (.int .i64 (pb : Int)) ∧ w'.cell? ⟨B, 3, none⟩ = some (.int .i64 d) ∧ w'.cell? ⟨K.g, 1862, none⟩ = some (.slice (some ⟨K.lb, 0, none⟩) K.nc K.nc))
    (first | assumption | go_keep | exact ⟨c0, c1, c2, c3, c4⟩ | exact HS.out _ HB2.out | exact HS.out _ HB3.out)
    (first
      | (go_at_call 86; refine (KM.out _).mono ?_; rintro e w2 ⟨rfl, hb2⟩; have HB2 := Lib.hid (show Only (fun _ => False) w1 w2 from ((Only.refl (fun _ => False) w1).drew).trans (Only.of_below hb2)); clear hb2)
      | (go_at_call 69; refine (KL.out _).mono ?_; rintro e w3 ⟨rfl, hb3⟩; have HB3 := Lib.hid (show Only (fun _ => False) w1 w3 from HB2.out.trans (Only.of_below hb3)); clear hb3))
  have hz3 : Rk K (restFs K z v4 v5 v16 v17 v18) w3 ps := (K.prb _ HN.out.1).only HZ1.out HB3.out (fun _ _ h => h)
  have p0 := hz3.put HN.out.1 0 (by decide) (.int .i64 (lc : Int))
  have p1 := p0.put HN.out.1 1 (by decide) (.int .i64 (lp : Int))
  have p2 := p1.put HN.out.1 2 (by decide) (.int .i64 (pb : Int))
  have p3 := p2.put HN.out.1 3 (by decide) (.int .i64 d)
  have p4 := p3.put HN.out.1 10 (by decide) (.int .i64 0)
  have p5 := p4.put HN.out.1 11 (by decide) (.int .u32 0)
  have p6 := p5.put HN.out.1 12 (by decide) (.int .u32 0)
  have p7 := p6.put HN.out.1 13 (by decide) (.int .u32 0)
  have p8 := p7.put HN.out.1 14 (by decide) (.int .u32 0)
  have HZ4 : Hid (Rk K fs9 ((((((((((w3).setCell ⟨K.g, 0, none⟩ (.int .i64 (lc : Int))).setCell ⟨K.g, 1, none⟩ (.int .i64 (lp : Int))).setCell ⟨K.g, 2, none⟩ (.int .i64 (pb : Int))).setCell ⟨K.g, 3, none⟩ (.int .i64 d)).setCell ⟨K.g, 10, none⟩ (.int .i64 0)).setCell ⟨K.g, 11, none⟩ (.int .u32 0)).setCell ⟨K.g, 12, none⟩ (.int .u32 0)).setCell ⟨K.g, 13, none⟩ (.int .u32 0)).setCell ⟨K.g, 14, none⟩ (.int .u32 0)) ps)   := Lib.hid (by rw [HFS.out]; exact p8)
  have HO4 : Hid (Only K.Bk w ((((((((((w3).setCell ⟨K.g, 0, none⟩ (.int .i64 (lc : Int))).setCell ⟨K.g, 1, none⟩ (.int .i64 (lp : Int))).setCell ⟨K.g, 2, none⟩ (.int .i64 (pb : Int))).setCell ⟨K.g, 3, none⟩ (.int .i64 d)).setCell ⟨K.g, 10, none⟩ (.int .i64 0)).setCell ⟨K.g, 11, none⟩ (.int .u32 0)).setCell ⟨K.g, 12, none⟩ (.int .u32 0)).setCell ⟨K.g, 13, none⟩ (.int .u32 0)).setCell ⟨K.g, 14, none⟩ (.int .u32 0))) := Lib.hid ((((((((((HO1.out.trans (HB3.out.mono fun _ h => h.elim)).setCell (p := ⟨K.g, 0, none⟩) (.inl (.inl rfl)) (.int .i64 (lc : Int))).setCell (p := ⟨K.g, 1, none⟩) (.inl (.inl rfl)) (.int .i64 (lp : Int))).setCell (p := ⟨K.g, 2, none⟩) (.inl (.inl rfl)) (.int .i64 (pb : Int))).setCell (p := ⟨K.g, 3, none⟩) (.inl (.inl rfl)) (.int .i64 d)).setCell (p := ⟨K.g, 10, none⟩) (.inl (.inl rfl)) (.int .i64 0)).setCell (p := ⟨K.g, 11, none⟩) (.inl (.inl rfl)) (.int .u32 0)).setCell (p := ⟨K.g, 12, none⟩) (.inl (.inl rfl)) (.int .u32 0)).setCell (p := ⟨K.g, 13, none⟩) (.inl (.inl rfl)) (.int .u32 0)).setCell (p := ⟨K.g, 14, none⟩) (.inl (.inl rfl)) (.int .u32 0))
  obtain ⟨u0, a0⟩ : ∃ u, w3.cell? ⟨K.g, 0, none⟩ = some u := ⟨_, hz3.1.cell 0 (by decide)⟩
  have f0 := hz3.1.free 0
  obtain ⟨u1, a1⟩ : ∃ u, w3.cell? ⟨K.g, 1, none⟩ = some u := ⟨_, hz3.1.cell 1 (by decide)⟩
  have f1 := hz3.1.free 1
  obtain ⟨u2, a2⟩ : ∃ u, w3.cell? ⟨K.g, 2, none⟩ = some u := ⟨_, hz3.1.cell 2 (by decide)⟩
  have f2 := hz3.1.free 2
  obtain ⟨u3, a3⟩ : ∃ u, w3.cell? ⟨K.g, 3, none⟩ = some u := ⟨_, hz3.1.cell 3 (by decide)⟩
  have f3 := hz3.1.free 3
  obtain ⟨u10, a10⟩ : ∃ u, w3.cell? ⟨K.g, 10, none⟩ = some u := ⟨_, hz3.1.cell 10 (by decide)⟩
  have f10 := hz3.1.free 10
  obtain ⟨u11, a11⟩ : ∃ u, w3.cell? ⟨K.g, 11, none⟩ = some u := ⟨_, hz3.1.cell 11 (by decide)⟩
  have f11 := hz3.1.free 11
  obtain ⟨u12, a12⟩ : ∃ u, w3.cell? ⟨K.g, 12, none⟩ = some u := ⟨_, hz3.1.cell 12 (by decide)⟩
  have f12 := hz3.1.free 12
  obtain ⟨u13, a13⟩ : ∃ u, w3.cell? ⟨K.g, 13, none⟩ = some u := ⟨_, hz3.1.cell 13 (by decide)⟩
  have f13 := hz3.1.free 13
  obtain ⟨u14, a14⟩ : ∃ u, w3.cell? ⟨K.g, 14, none⟩ = some u := ⟨_, hz3.1.cell 14 (by decide)⟩
  have f14 := hz3.1.free 14
  obtain ⟨c0, c1, c2, c3, _⟩ := HS.out w3 HB3.out
  clear hz3 p0 p1 p2 p3 p4 p5 p6 p7 p8 HS HZ1 HB2 KM
  (try clear q1')
  (try clear q1d)
  (try clear q1n)
  (try clear q1)
  (try clear hnc)
  go_upto_region 4 with fail
  have HB4 : Hid (Blk ((((((((((w3).setCell ⟨K.g, 0, none⟩ (.int .i64 (lc : Int))).setCell ⟨K.g, 1, none⟩ (.int .i64 (lp : Int))).setCell ⟨K.g, 2, none⟩ (.int .i64 (pb : Int))).setCell ⟨K.g, 3, none⟩ (.int .i64 d)).setCell ⟨K.g, 10, none⟩ (.int .i64 0)).setCell ⟨K.g, 11, none⟩ (.int .u32 0)).setCell ⟨K.g, 12, none⟩ (.int .u32 0)).setCell ⟨K.g, 13, none⟩ (.int .u32 0)).setCell ⟨K.g, 14, none⟩ (.int .u32 0)) B 40 #[.int .i64 (lc : Int), .int .i64 (lp : Int), .int .i64 (pb : Int), .int .i64 d]) := Lib.hid (((((((((((HBK.out.only HB3.out (fun h => h)).far (p := ⟨K.g, 0, none⟩) (show B ≠ K.g by have := HN.out.2.2.1; omega) (.int .i64 (lc : Int))).far (p := ⟨K.g, 1, none⟩) (show B ≠ K.g by have := HN.out.2.2.1; omega) (.int .i64 (lp : Int))).far (p := ⟨K.g, 2, none⟩) (show B ≠ K.g by have := HN.out.2.2.1; omega) (.int .i64 (pb : Int))).far (p := ⟨K.g, 3, none⟩) (show B ≠ K.g by have := HN.out.2.2.1; omega) (.int .i64 d)).far (p := ⟨K.g, 10, none⟩) (show B ≠ K.g by have := HN.out.2.2.1; omega) (.int .i64 0)).far (p := ⟨K.g, 11, none⟩) (show B ≠ K.g by have := HN.out.2.2.1; omega) (.int .u32 0)).far (p := ⟨K.g, 12, none⟩) (show B ≠ K.g by have := HN.out.2.2.1; omega) (.int .u32 0)).far (p := ⟨K.g, 13, none⟩) (show B ≠ K.g by have := HN.out.2.2.1; omega) (.int .u32 0)).far (p := ⟨K.g, 14, none⟩) (show B ≠ K.g by have := HN.out.2.2.1; omega) (.int .u32 0)))
  clear HBK HB3
  generalize (((((((((w3).setCell ⟨K.g, 0, none⟩ (.int .i64 (lc : Int))).setCell ⟨K.g, 1, none⟩ (.int .i64 (lp : Int))).setCell ⟨K.g, 2, none⟩ (.int .i64 (pb : Int))).setCell ⟨K.g, 3, none⟩ (.int .i64 d)).setCell ⟨K.g, 10, none⟩ (.int .i64 0)).setCell ⟨K.g, 11, none⟩ (.int .u32 0)).setCell ⟨K.g, 12, none⟩ (.int .u32 0)).setCell ⟨K.g, 13, none⟩ (.int .u32 0)).setCell ⟨K.g, 14, none⟩ (.int .u32 0) = w4 at *
  clear a0 f0 a1 f1 a2 f2 a3 f3 a10 f10 a11 f11 a12 f12 a13 f13 a14 f14 c0 c1 c2 c3
  have KC := Lib.hid (chances_renew (D := fun _ => False) (K.prb _ HN.out.1) K.lay (Nat.le_add_right _ _) ⟨ps, HZ4.out, fun _ h => h.elim, Only.refl _ _⟩)
  go_wp2_with fail
  refine KC.out.mono ?_
  rintro e w5 ⟨rfl, hr5⟩
  have HR5 := Lib.hid hr5
  obtain ⟨ps5, hp5, _, ho5⟩ := hr5
  have HS5 := Lib.hid (fun (W : World) (hW : Only (fun _ => False) w5 W) => (show W.cell? ⟨B, 0, none⟩ = some (.int .i64 (lc : Int)) ∧ W.cell? ⟨B, 1, none⟩ = some (.int .i64 (lp : Int)) ∧ W.cell? ⟨B, 2, none⟩ = some (.int .i64 (pb : Int)) ∧ W.cell? ⟨B, 3, none⟩ = some (.int .i64 d) ∧ W.cell? ⟨K.g, 1862, none⟩ = some (.slice (some ⟨K.lb, 0, none⟩) K.nc K.nc) from
    have hk := (HB4.out.only ho5 (fun h => by have a1 := HN.out.2.2.1; have a2 := HN.out.2.2.2.1; rcases h with h | h <;> omega)).only hW (fun h => h)
    ⟨hk.cell 0, hk.cell 1, hk.cell 2, hk.cell 3, ((hp5.1.only hW (fun h => h)).cell 15 (by decide)).trans (by rw [HFS.out]; rfl)⟩))
  obtain ⟨c0, c1, c2, c3, c4⟩ := HS5.out w5 (Only.refl _ _)
  have hnc := HN.out.2.2.2.2.1
  have q2 : (0 : Int) ≤ ((n : Nat) : Int) := by omega
  have q3 : (n : Int) ≤ (K.nc : Int) := by omega
  clear hp5 ho5 HZ4 KC
  go_wp2_with fail
  go_region_held3 (fun w' => w'.cell? ⟨B, 0, none⟩ = some (.int .i64 (lc : Int)) ∧ w'.cell? ⟨B, 1, none⟩ = some (.int .i64 (lp : Int)) ∧ w'.cell? ⟨B, 2, none⟩ = some (.int .i64 (pb : Int)) ∧ w'.cell? ⟨B, 3, none⟩ = some (.int .i64 d) ∧ w'.cell? ⟨K.g, 1862, none⟩ = some (.slice (some ⟨K.lb, 0, none⟩) K.nc K.nc))
    (first | assumption | go_keep | exact ⟨c0, c1, c2, c3, c4⟩ | exact HS5.out _ HB6.out | exact HS6)
    (first
      | (go_at_call 69; refine (KL.out _).mono ?_; rintro e w6 ⟨rfl, hb6⟩; have HB6 := Lib.hid (show Only (fun _ => False) w5 w6 from ((Only.refl (fun _ => False) w5).drew).trans (Only.of_below hb6)); clear hb6)
      | (go_at_call 97; refine (renew_any (R := Rk K fs9) (B := K.Bk) (w0 := w4) (D := fun i => False ∨ i < 1847) (ad := K.ad) (L := 1847 + K.nl) (a := 1847) (b := K.lb) (o := 0) (n := n) (cap := K.nc) (K.prb _ HN.out.1) (fun j hj => Kon.ad_lit (by omega) (by omega)) (by have := HN.out.2.2.2.2.1; have := HN.out.2.2.2.2.2; omega) (Nat.le_trans HN.out.2.2.2.2.1 HN.out.2.1) ?_).mono ?_; (· obtain ⟨ps6, g1, g2, g3⟩ := HR5.out; exact ⟨ps6, (K.prb _ HN.out.1).only g1 HB6.out (fun _ _ h => h), g2, g3.trans (HB6.out.mono fun _ h => h.elim)⟩); rintro e w7 ⟨rfl, hr7⟩; have HR7 := Lib.hid hr7; have HS6 := (show w7.cell? ⟨B, 0, none⟩ = some (.int .i64 (lc : Int)) ∧ w7.cell? ⟨B, 1, none⟩ = some (.int .i64 (lp : Int)) ∧ w7.cell? ⟨B, 2, none⟩ = some (.int .i64 (pb : Int)) ∧ w7.cell? ⟨B, 3, none⟩ = some (.int .i64 d) ∧ w7.cell? ⟨K.g, 1862, none⟩ = some (.slice (some ⟨K.lb, 0, none⟩) K.nc K.nc) from (by obtain ⟨ps7, g1, _, g3⟩ := hr7; have hk := HB4.out.only g3 (fun h => by have a1 := HN.out.2.2.1; have a2 := HN.out.2.2.2.1; rcases h with h | h <;> omega); exact ⟨hk.cell 0, hk.cell 1, hk.cell 2, hk.cell 3, (g1.1.cell 15 (by decide)).trans (by rw [HFS.out]; rfl)⟩)); clear hr7))
  go_wp2_with fail
  first | go_end0 | refine bodyPost_ret (results_none rfl _ _ _) rfl ?_
  obtain ⟨ps7, g1, g2, g3⟩ := HR7.out
  exact ⟨rfl, ⟨ps7, g1, fun i hi => g2 i (by
    by_cases h : i < 1847
    · exact .inl (.inr h)
    · exact .inr (by omega))⟩, HO4.out.trans g3⟩

/-- Reset, at rest. -/
theorem zreset_any {lc lp pb : Nat} {ps : List Nat} (h1 : lc ≤ 8) (h2 : lp ≤ 4) (h3 : pb ≤ 4) (hn : n = 768 * 2 ^ (lc + lp)) (hnc : n ≤ K.nc) (h : Lrest K w Gw z ps v4 v5 v16 v17 v18) :
    Calls Tryz.prog 70 #[.pointer (some ⟨K.g, 0, none⟩), .agg #[.int .i64 (lc : Int), .int .i64 (lp : Int), .int .i64 (pb : Int), .int .i64 d]] w fun e w' =>
      e = .returned (.tuple #[]) ∧ Lrest (K.less n d) w' Gw (z.anew lc lp pb) (List.replicate (1847 + n) 1024) v4 v5 v16 v17 v18 ∧ Only K.Bk w w' := by
  obtain ⟨ps2, hf⟩ := h.row.full
  refine (qpreset_any (K := K.full) (d := d) h.gn h1 h2 h3 hn hnc h.nc.2 rfl hf).mono ?_
  rintro e w' ⟨rfl, ⟨ps3, g1, g2⟩, g3⟩
  refine ⟨rfl, ⟨Rk.less g1 hnc g2, h.win.only g3 (fun i hi e => ?_), h.gn, h.mg, h.mb, ⟨hnc, h.nc.2⟩, h.wd, Nat.lt_of_lt_of_le h.mo g3.size⟩, g3⟩
  rcases e with e | e
  · exact (h.wd i hi).1 e
  · exact (h.wd i hi).2.1 e
end
end Go.Proofs.YtiolfjhddbiglaaGreatDoor

/-
  LZMA2's chunks as numbers, packed ones too: what a chunk tells, what a stream tells.
-/
namespace Go.Proofs.YtiolfjhddbiglaaGreatDoor
set_option linter.unusedVariables false

/-- between two chunks: what the next packed one must bring, the decoder's numbers, its probabilities, the bytes that are left -/
structure Rs where
  nd : Nat
  z : Lzs
  ps : List Nat
  r : List UInt8
/-- what a packed chunk brings, by its How -/
def bringN (how : Nat) : Nat := if how = 0 then 0 else if how = 1 then 4 else if how = 2 then 6 else 7
/-- whether all is brought that is needed: nd is 7, 6 or 0 -/
def bringsN (nd how : Nat) : Bool := decide (nd = 0 ∨ (nd = 6 ∧ 2 ≤ how) ∨ how = 3)
/-- a setting's byte; which settings may be -/
def setN (x : UInt8) : Option (Nat × Nat × Nat) := if x.toNat < 225 ∧ x.toNat % 9 + x.toNat / 9 % 5 ≤ 4 then some (x.toNat % 9, x.toNat / 9 % 5, x.toNat / 45) else none
/-- a decoder's numbers behind what a chunk brings -/
def Lzs.brought (z : Lzs) (how : Nat) (s : Nat × Nat × Nat) : Lzs := if how = 3 then { z with out := [] }.anew s.1 s.2.1 s.2.2 else if how = 0 then z else z.anew s.1 s.2.1 s.2.2
def psN (ps : List Nat) (how : Nat) (s : Nat × Nat × Nat) : List Nat := if how = 0 then ps else List.replicate (1847 + 768 * 2 ^ (s.1 + s.2.1)) 1024
/-- the packets of a chunk that tells n bytes more, N in the window then; rest: the bytes behind it -/
def packC (n : Nat) (rest : List UInt8) (z : Lzs) (t : Pm Dc) (N : Nat) : Option (List UInt8 × Rs) :=
  match upG (N : Int) n z t with
  | none => none
  | some (z2, t2) => if leftD t2.x = true ∧ z2.out.length = N then some (z2.out.drop (N - n), ⟨0, z2, t2.ps, rest⟩) else none
/-- its bytes behind the head: how many are told, packed; the setting -/
def bodyC (q : Rs) (how n k : Nat) (s : Nat × Nat × Nat) (r : List UInt8) : Option (List UInt8 × Rs) :=
  if r.length < k then none
  else packC n (r.drop k) (q.z.brought how s) ⟨psN q.ps how s, started (r.take k)⟩ ((q.z.brought how s).out.length + n)
def plainC (nd : Nat) (z : Lzs) (ps : List Nat) (r : List UInt8) (n : Nat) : Option (List UInt8 × Rs) :=
  if nd % 2 = 1 ∨ r.length < n then none else some (r.take n, ⟨nd, { z with out := z.out ++ r.take n }, ps, r.drop n⟩)
/-- a packed chunk behind its first byte -/
def packedC (q : Rs) (c : Nat) (r : List UInt8) : Option (List UInt8 × Rs) :=
  match r with
  | h :: g :: k1 :: k2 :: r2 =>
    if bringsN q.nd (c / 32 - 4) = false then none
    else if 2 ≤ c / 32 - 4 then
      match r2 with
      | [] => none
      | x :: r3 => match setN x with
        | none => none
        | some s => bodyC q (c / 32 - 4) (c % 32 * 65536 + 256 * h.toNat + g.toNat + 1) (256 * k1.toNat + k2.toNat + 1) s r3
    else bodyC q (c / 32 - 4) (c % 32 * 65536 + 256 * h.toNat + g.toNat + 1) (256 * k1.toNat + k2.toNat + 1) (q.z.lc, q.z.lp, q.z.pb) r2
  | _ => none
/-- the next chunk: what it tells, and what is behind it -/
def chunkN (q : Rs) : Option (List UInt8 × Rs) :=
  match q.r with
  | [] => none
  | c :: r1 =>
    if c.toNat = 1 ∨ c.toNat = 2 then
      match r1 with
      | h :: g :: r2 => if c.toNat = 1 then plainC 6 { q.z with out := [] } q.ps r2 (256 * h.toNat + g.toNat + 1) else plainC q.nd q.z q.ps r2 (256 * h.toNat + g.toNat + 1)
      | _ => none
    else if 128 ≤ c.toNat then packedC q c.toNat r1
    else none
def telN : Nat → Rs → Nat → Option (List UInt8)
  | 0, _, _ => none
  | f + 1, q, k =>
    if q.r = [0] then (if k = 0 then some [] else none)
    else match chunkN q with
      | none => none
      | some (xs, q') => if xs.length ≤ k then (telN f q' (k - xs.length)).map (xs ++ ·) else none
/-- so many bytes, and the end -/
def Rs.tells (q : Rs) (k : Nat) : Option (List UInt8) := telN (q.r.length + 1) q k

theorem packC_r {n N : Nat} {rest : List UInt8} {z : Lzs} {t : Pm Dc} {xs : List UInt8} {q' : Rs} (h : packC n rest z t N = some (xs, q')) : q'.r = rest := by
  unfold packC at h
  split at h
  · cases h
  · split at h
    · injection h with h
      injection h with h1 h2
      rw [← h2]
    · cases h
theorem bodyC_r {q : Rs} {how n k : Nat} {s : Nat × Nat × Nat} {r : List UInt8} {xs : List UInt8} {q' : Rs} (h : bodyC q how n k s r = some (xs, q')) : q'.r.length ≤ r.length := by
  unfold bodyC at h
  split at h
  · cases h
  · rw [packC_r h, List.length_drop]
    omega
theorem packedC_r {q : Rs} {c : Nat} {r : List UInt8} {xs : List UInt8} {q' : Rs} (h : packedC q c r = some (xs, q')) : q'.r.length < r.length := by
  unfold packedC at h
  split at h
  · split at h
    · cases h
    · split at h
      · split at h
        · cases h
        · split at h
          · cases h
          · have := bodyC_r h
            simp
            omega
      · have := bodyC_r h
        simp
        omega
  · cases h
theorem plainC_r {nd n : Nat} {z : Lzs} {ps : List Nat} {r : List UInt8} {xs : List UInt8} {q' : Rs} (h : plainC nd z ps r n = some (xs, q')) : q'.r.length ≤ r.length := by
  unfold plainC at h
  split at h
  · cases h
  · injection h with h
    injection h with h1 h2
    rw [← h2]
    show (r.drop n).length ≤ _
    rw [List.length_drop]
    omega
theorem chunkN_r {q : Rs} {xs : List UInt8} {q' : Rs} (h : chunkN q = some (xs, q')) : q'.r.length < q.r.length := by
  unfold chunkN at h
  split at h
  · cases h
  · rename_i c r1 e
    rw [e]
    split at h
    · split at h
      · split at h
        · have := plainC_r h
          simp
          omega
        · have := plainC_r h
          simp
          omega
      · cases h
    · split at h
      · have := packedC_r h
        simp
        omega
      · cases h
theorem telN_same : ∀ (f f' : Nat) (q : Rs) (k : Nat), q.r.length < f → q.r.length < f' → telN f q k = telN f' q k
  | 0, _, q, _, h, _ => absurd h (Nat.not_lt_zero _)
  | _, 0, q, _, _, h => absurd h (Nat.not_lt_zero _)
  | f + 1, f' + 1, q, k, h, h' => by
    unfold telN
    split
    · rfl
    · cases hc : chunkN q with
      | none => rfl
      | some p =>
        obtain ⟨xs, q'⟩ := p
        have := chunkN_r hc
        show (if xs.length ≤ k then (telN f q' (k - xs.length)).map (xs ++ ·) else none) = (if xs.length ≤ k then (telN f' q' (k - xs.length)).map (xs ++ ·) else none)
        rw [telN_same f f' q' _ (by omega) (by omega)]
theorem tells_end {q : Rs} {k : Nat} (h : q.r = [0]) : q.tells k = if k = 0 then some [] else none := by
  unfold Rs.tells telN
  rw [if_pos h]
theorem tells_chunk {q : Rs} {k : Nat} (h : q.r ≠ [0]) : q.tells k = match chunkN q with
    | none => none
    | some (xs, q') => if xs.length ≤ k then (q'.tells (k - xs.length)).map (xs ++ ·) else none := by
  unfold Rs.tells
  rw [telN, if_neg h]
  cases hc : chunkN q with
  | none => rfl
  | some p =>
    obtain ⟨xs, q'⟩ := p
    have := chunkN_r hc
    show (if xs.length ≤ k then (telN q.r.length q' (k - xs.length)).map (xs ++ ·) else none) = (if xs.length ≤ k then (telN (q'.r.length + 1) q' (k - xs.length)).map (xs ++ ·) else none)
    rw [telN_same q.r.length (q'.r.length + 1) q' _ (by omega) (by omega)]
theorem tells_none {q : Rs} {k : Nat} (h : q.r ≠ [0]) (hc : chunkN q = none) : q.tells k = none := by rw [tells_chunk h, hc]
theorem tells_some {q q' : Rs} {k : Nat} {xs : List UInt8} (h : q.r ≠ [0]) (hc : chunkN q = some (xs, q')) (hk : xs.length ≤ k) : q.tells k = (q'.tells (k - xs.length)).map (xs ++ ·) := by
  rw [tells_chunk h, hc]
  exact if_pos hk
theorem tells_less {q q' : Rs} {k : Nat} {xs : List UInt8} (h : q.r ≠ [0]) (hc : chunkN q = some (xs, q')) (hk : k < xs.length) : q.tells k = none := by
  rw [tells_chunk h, hc]
  exact if_neg (by omega)
end Go.Proofs.YtiolfjhddbiglaaGreatDoor

/-
  LZMA2's chunks as numbers, byte by byte: where a decoder stands, what it tells from there on.
-/
namespace Go.Proofs.YtiolfjhddbiglaaGreatDoor
set_option linter.unusedVariables false

/-- where a decoder stands: it is bad; the byte 0 came; between two chunks; in a plain one with l bytes left; in a packed one: of what is decoded n bytes in the window are told, l are left; full: its packed bytes are all there -/
inductive St2 where
  | bad
  | fin (r : List UInt8)
  | rest (q : Rs)
  | plain (q : Rs) (l : Nat)
  | pack (zf : Lzs) (tf : Pm Dc) (n l : Nat) (full : Bool) (r : List UInt8)
/-- what is told from there on: so many bytes, and the end -/
def St2.tells : St2 → Nat → Option (List UInt8)
  | .bad, _ => none
  | .fin r, k => if k = 0 ∧ r = [] then some [] else none
  | .rest q, k => q.tells k
  | .plain q l, k => match plainC q.nd q.z q.ps q.r l with
    | none => none
    | some (xs, q') => if xs.length ≤ k then (q'.tells (k - xs.length)).map (xs ++ ·) else none
  | .pack zf tf n l full r, k => if full = true then (match packC l r zf tf (n + l) with
    | none => none
    | some (xs, q') => if xs.length ≤ k then (q'.tells (k - xs.length)).map (xs ++ ·) else none) else none
/-- how many bytes the window has -/
def St2.wl : St2 → Nat
  | .bad => 0
  | .fin _ => 0
  | .rest q => q.z.out.length
  | .plain q _ => q.z.out.length
  | .pack _ _ n _ _ _ => n

theorem plain_none {q : Rs} {l k : Nat} (h : q.r.length < l) : (St2.plain q l).tells k = none := by
  show (match plainC q.nd q.z q.ps q.r l with | none => none | some (xs, q') => if xs.length ≤ k then (q'.tells (k - xs.length)).map (xs ++ ·) else none) = none
  have e : plainC q.nd q.z q.ps q.r l = none := if_pos (.inr h)
  rw [e]
theorem plain_tells {q : Rs} {l k : Nat} (hn : q.nd % 2 = 0) (h : l ≤ q.r.length) : (St2.plain q l).tells k = if l ≤ k then ((⟨q.nd, { q.z with out := q.z.out ++ q.r.take l }, q.ps, q.r.drop l⟩ : Rs).tells (k - l)).map (q.r.take l ++ ·) else none := by
  show (match plainC q.nd q.z q.ps q.r l with | none => none | some (xs, q') => if xs.length ≤ k then (q'.tells (k - xs.length)).map (xs ++ ·) else none) = _
  have e : plainC q.nd q.z q.ps q.r l = some (q.r.take l, ⟨q.nd, { q.z with out := q.z.out ++ q.r.take l }, q.ps, q.r.drop l⟩) := if_neg (by omega)
  rw [e]
  have hl : (q.r.take l).length = l := by rw [List.length_take]; omega
  show (if (q.r.take l).length ≤ k then _ else _) = _
  rw [hl]
theorem map_cons {o : Option (List UInt8)} {x : UInt8} {xs : List UInt8} : o.map ((x :: xs) ++ ·) = (o.map (xs ++ ·)).map (x :: ·) := by
  cases o <;> rfl
theorem map_nil {o : Option (List UInt8)} : o.map (([] : List UInt8) ++ ·) = o := by
  cases o <;> rfl
/-- behind a byte of a plain chunk -/
def plainNext (q : Rs) (l : Nat) (x : UInt8) (r : List UInt8) : St2 := if l = 1 then .rest ⟨q.nd, { q.z with out := q.z.out ++ [x] }, q.ps, r⟩ else .plain ⟨q.nd, { q.z with out := q.z.out ++ [x] }, q.ps, r⟩ (l - 1)
theorem plain_next {q : Rs} {l k : Nat} {x : UInt8} {r : List UInt8} (hn : q.nd % 2 = 0) (h1 : 1 ≤ l) (hr : q.r = x :: r) : (St2.plain q l).tells (k + 1) = ((plainNext q l x r).tells k).map (x :: ·) := by
  by_cases h : l ≤ q.r.length
  · rw [plain_tells hn h]
    obtain ⟨m, rfl⟩ : ∃ m, l = m + 1 := ⟨l - 1, by omega⟩
    rw [hr] at h ⊢
    have hm : m ≤ r.length := by simpa using h
    rw [List.take_succ_cons, List.drop_succ_cons]
    unfold plainNext
    by_cases h0 : m = 0
    · subst h0
      rw [if_pos (by omega), if_pos rfl, List.take_zero, List.drop_zero]
      show ((Rs.tells _ k).map _) = ((Rs.tells _ k).map _)
      rfl
    · rw [if_neg (show ¬ m + 1 = 1 by omega), Nat.add_sub_cancel]
      have e := plain_tells (q := ⟨q.nd, { q.z with out := q.z.out ++ [x] }, q.ps, r⟩) (l := m) (k := k) hn hm
      rw [e]
      by_cases hk : m ≤ k
      · rw [if_pos (by omega), if_pos hk, map_cons]
        have e1 : k + 1 - (m + 1) = k - m := by omega
        have e2 : q.z.out ++ x :: r.take m = q.z.out ++ [x] ++ r.take m := by simp
        rw [e1, e2]
      · rw [if_neg (by omega), if_neg hk]
        rfl
  · rw [plain_none (by omega)]
    unfold plainNext
    have hl : q.r.length = r.length + 1 := by rw [hr]; rfl
    rw [if_neg (by omega)]
    have e := plain_none (q := ⟨q.nd, { q.z with out := q.z.out ++ [x] }, q.ps, r⟩) (l := l - 1) (k := k) (show r.length < l - 1 by omega)
    rw [e]
    rfl
theorem plain_dry {q : Rs} {l k : Nat} (h1 : 1 ≤ l) (hr : q.r = []) : (St2.plain q l).tells k = none := plain_none (by rw [hr]; exact h1)
theorem plain_zero {q : Rs} {l : Nat} (h1 : 1 ≤ l) : (St2.plain q l).tells 0 = none := by
  show (match plainC q.nd q.z q.ps q.r l with | none => none | some (xs, q') => if xs.length ≤ 0 then (q'.tells (0 - xs.length)).map (xs ++ ·) else none) = none
  cases hp : plainC q.nd q.z q.ps q.r l with
  | none => rfl
  | some p =>
    obtain ⟨xs, q'⟩ := p
    unfold plainC at hp
    split at hp
    · cases hp
    · rename_i hc
      injection hp with hp
      injection hp with e1 e2
      have hl : xs.length = l := by rw [← e1, List.length_take]; omega
      show (if xs.length ≤ 0 then _ else _) = _
      rw [if_neg (by omega)]

/-- packets enough: more make no difference -/
theorem upG_same {N : Int} : ∀ (f f' : Nat) {z : Lzs} {t : Pm Dc}, N ≤ z.out.length + f → N ≤ z.out.length + f' → upG N f z t = upG N f' z t
  | 0, 0, _, _, _, _ => rfl
  | 0, f' + 1, z, t, h, _ => by
    rw [upG_done (f := f' + 1) (by omega)]
    rfl
  | f + 1, 0, z, t, _, h => by
    rw [upG_done (f := f + 1) (by omega)]
    rfl
  | f + 1, f' + 1, z, t, h, h' => by
    by_cases hl : (z.out.length : Int) < N
    · by_cases hs : stopD N (packP decM z t pk0) = true
      · rw [upG_stop hl hs, upG_stop hl hs]
      · rw [upG_go hl hs, upG_go hl hs]
        have := pack_more (size := N) (z := z) (t := t) (by simpa using hs)
        exact upG_same f f' (by omega) (by omega)
    · rw [upG_done hl, upG_done hl]
theorem stop_of {N : Int} {r : Nat × Lzs × Pm Dc} (h : stopP r) : stopD N r = true := by
  unfold stopD
  rcases h with h | h | h
  · have e : decM.bad r.2.2.x = true := by rw [h]; rfl
    rw [e]
    cases r.2.1.bad <;> cases r.2.1.ended <;> rfl
  · rw [h]; rfl
  · rw [h]
    cases r.2.1.bad <;> rfl
theorem stop_not {N : Int} {r : Nat × Lzs × Pm Dc} (h : ¬ stopP r) : stopD N r = decide (N < (r.2.1.out.length : Int)) := by
  unfold stopP at h
  have h1 : r.2.2.x ≠ none := fun e => h (.inl e)
  have h2 : r.2.1.bad = false := by
    cases e : r.2.1.bad with
    | false => rfl
    | true => exact absurd (.inr (.inl e)) h
  have h3 : r.2.1.ended = false := by
    cases e : r.2.1.ended with
    | false => rfl
    | true => exact absurd (.inr (.inr e)) h
  have h4 : decM.bad r.2.2.x = false := by
    cases e : r.2.2.x with
    | none => exact absurd e h1
    | some x => rfl
  unfold stopD
  rw [h2, h3, h4]
  simp
end Go.Proofs.YtiolfjhddbiglaaGreatDoor

/-
  LZMA2's chunks as numbers: a packet puts bytes behind those that are there; a packed chunk, byte by byte.
-/
namespace Go.Proofs.YtiolfjhddbiglaaGreatDoor
set_option linter.unusedVariables false

/-- the same setting, and bytes behind those that were there -/
structure Onw (z z' : Lzs) : Prop where
  lc : z'.lc = z.lc
  lp : z'.lp = z.lp
  pb : z'.pb = z.pb
  dict : z'.dict = z.dict
  out : ∃ s, z'.out = z.out ++ s
theorem Onw.refl (z : Lzs) : Onw z z := ⟨rfl, rfl, rfl, rfl, [], (List.append_nil _).symm⟩
theorem Onw.trans {a b c : Lzs} (h : Onw a b) (h' : Onw b c) : Onw a c := by
  obtain ⟨s, hs⟩ := h.out
  obtain ⟨s', hs'⟩ := h'.out
  exact ⟨h'.lc.trans h.lc, h'.lp.trans h.lp, h'.pb.trans h.pb, h'.dict.trans h.dict, s ++ s', by rw [hs', hs, List.append_assoc]⟩
theorem copyG_onw : ∀ (f n : Nat) (z : Lzs), Onw z (copyG f n z).2
  | 0, _, z => Onw.refl z
  | f + 1, n, z => by
    by_cases h : z.has z.r0 = true
    · rw [copyG_go h]
      exact (show Onw z (z.push (z.back z.r0)) from ⟨rfl, rfl, rfl, rfl, [z.back z.r0], rfl⟩).trans (copyG_onw f (n + 1) (z.push (z.back z.r0)))
    · rw [copyG_stop h]
      exact ⟨rfl, rfl, rfl, rfl, [], (List.append_nil _).symm⟩
theorem tailP_onw {σ : Type} (M : Mach σ) (many : Nat) (z : Lzs) (t : Pm σ) : Onw z (tailP M many z t).2.1 := by
  unfold tailP
  split
  · exact ⟨rfl, rfl, rfl, rfl, [], (List.append_nil _).symm⟩
  · exact copyG_onw _ _ _
theorem packP_onw {σ : Type} (M : Mach σ) (z : Lzs) (t : Pm σ) (p : Pk) : Onw z (packP M z t p).2.1 := by
  unfold packP packK
  generalize kindP M t _ _ _ _ = kb
  split
  · unfold packL
    split
    · exact ⟨rfl, rfl, rfl, rfl, [], (List.append_nil _).symm⟩
    · exact ⟨rfl, rfl, rfl, rfl, [UInt8.ofNat (litP M { z with bad := z.bad || kb.2.1 } kb.2.2 p.byte).1], rfl⟩
  split
  · unfold packM packD
    generalize lenP M kb.2.2 819 _ _ = b at *
    generalize distP M b.2 b.1 _ = dd
    have := tailP_onw M (b.1 + 2) { z with bad := z.bad || kb.2.1, r0 := dd.1, r1 := z.r0, r2 := z.r1, r3 := z.r2, st := aft 7 10 z.st, ended := decide (dd.1 = 4294967295) && !M.bad dd.2.x } dd.2
    exact ⟨this.lc, this.lp, this.pb, this.dict, this.out⟩
  split
  · have := tailP_onw M 1 { z with bad := z.bad || kb.2.1, st := aft 9 11 z.st } kb.2.2
    exact ⟨this.lc, this.lp, this.pb, this.dict, this.out⟩
  · unfold packR
    generalize lenP M kb.2.2 1333 _ _ = b
    have := tailP_onw M (b.1 + 2) { Lzs.again { z with bad := z.bad || kb.2.1 } (kb.1 - 2) with st := aft 8 11 z.st } b.2
    exact ⟨this.lc, this.lp, this.pb, this.dict, this.out⟩
theorem upG_onw {N : Int} : ∀ (f : Nat) {z z2 : Lzs} {t t2 : Pm Dc}, upG N f z t = some (z2, t2) → Onw z z2
  | 0, z, z2, t, t2, h => by
    injection h with h
    injection h with h1 h2
    subst h1
    exact Onw.refl z
  | f + 1, z, z2, t, t2, h => by
    by_cases hl : (z.out.length : Int) < N
    · by_cases hs : stopD N (packP decM z t pk0) = true
      · rw [upG_stop hl hs] at h; cases h
      · rw [upG_go hl hs] at h
        exact (packP_onw decM z t pk0).trans (upG_onw f h)
    · rw [upG_done hl] at h
      injection h with h
      injection h with h1 h2
      subst h1
      exact Onw.refl z

theorem pack_full {zf : Lzs} {tf : Pm Dc} {n l k : Nat} {r : List UInt8} : (St2.pack zf tf n l true r).tells k = match packC l r zf tf (n + l) with
    | none => none
    | some (xs, q') => if xs.length ≤ k then (q'.tells (k - xs.length)).map (xs ++ ·) else none := rfl
theorem packC_xs {n N : Nat} {rest xs : List UInt8} {z : Lzs} {t : Pm Dc} {q' : Rs} (h : packC n rest z t N = some (xs, q')) : xs.length = min n N := by
  unfold packC at h
  split at h
  · cases h
  · split at h
    · rename_i hc
      injection h with h
      injection h with h1 h2
      rw [← h1, List.length_drop, hc.2]
      omega
    · cases h
theorem pack_zero {zf : Lzs} {tf : Pm Dc} {n l : Nat} {full : Bool} {r : List UInt8} (h1 : 1 ≤ l) : (St2.pack zf tf n l full r).tells 0 = none := by
  cases full with
  | false => rfl
  | true =>
    rw [pack_full]
    cases hp : packC l r zf tf (n + l) with
    | none => rfl
    | some p =>
      obtain ⟨xs, q'⟩ := p
      have := packC_xs hp
      show (if xs.length ≤ 0 then _ else _) = _
      rw [if_neg (by omega)]
/-- more than there are to be told are decided: none -/
theorem packC_over {l n : Nat} {r : List UInt8} {zf : Lzs} {tf : Pm Dc} (h : n + l < zf.out.length) : packC l r zf tf (n + l) = none := by
  unfold packC
  rw [upG_done (by omega)]
  show (if leftD tf.x = true ∧ zf.out.length = n + l then _ else _) = _
  rw [if_neg (by omega)]
/-- behind a byte of a packed chunk, of which more are to come -/
theorem packC_next {l n : Nat} {r : List UInt8} {zf : Lzs} {tf : Pm Dc} (hn : n < zf.out.length) (hN : zf.out.length ≤ n + (l + 1)) :
    packC (l + 1) r zf tf (n + (l + 1)) = (packC l r zf tf (n + 1 + l)).map (fun p => (zf.out.getD n 0 :: p.1, p.2)) := by
  have e : n + (l + 1) = n + 1 + l := by omega
  rw [e] at hN ⊢
  unfold packC
  rw [upG_same (l + 1) l (by omega) (by omega)]
  cases hu : upG ((n + 1 + l : Nat) : Int) l zf tf with
  | none => rfl
  | some p =>
    obtain ⟨z2, t2⟩ := p
    obtain ⟨s, hs⟩ := (upG_onw _ hu).out
    show (if leftD t2.x = true ∧ z2.out.length = n + 1 + l then _ else _) = (if leftD t2.x = true ∧ z2.out.length = n + 1 + l then _ else _ : Option _).map _
    by_cases hc : leftD t2.x = true ∧ z2.out.length = n + 1 + l
    · rw [if_pos hc, if_pos hc]
      have e1 : n + 1 + l - (l + 1) = n := by omega
      have e2 : n + 1 + l - l = n + 1 := by omega
      have e3 : z2.out.drop n = zf.out.getD n 0 :: z2.out.drop (n + 1) := by
        rw [List.drop_eq_getElem_cons (by omega)]
        congr 1
        rw [List.getD_eq_getElem?_getD, List.getElem?_eq_getElem hn]
        show z2.out[n] = zf.out[n]
        simp only [hs]
        rw [List.getElem_append_left hn]
      show some (z2.out.drop (n + 1 + l - (l + 1)), (⟨0, z2, t2.ps, r⟩ : Rs)) = some (zf.out.getD n 0 :: z2.out.drop (n + 1 + l - l), ⟨0, z2, t2.ps, r⟩)
      rw [e1, e2, e3]
    · rw [if_neg hc, if_neg hc]
      rfl
theorem packC_packet {l n : Nat} {r : List UInt8} {zf : Lzs} {tf : Pm Dc} (hn : n = zf.out.length) (hs : ¬ stopP (packP decM zf tf pk0)) :
    packC (l + 1) r zf tf (n + (l + 1)) = if (packP decM zf tf pk0).2.1.out.length ≤ n + (l + 1) then packC (l + 1) r (packP decM zf tf pk0).2.1 (packP decM zf tf pk0).2.2 (n + (l + 1)) else none := by
  have hd := stop_not (N := ((n + (l + 1) : Nat) : Int)) hs
  have hl : (zf.out.length : Int) < ((n + (l + 1) : Nat) : Int) := by omega
  by_cases h : (packP decM zf tf pk0).2.1.out.length ≤ n + (l + 1)
  · rw [if_pos h]
    rw [decide_eq_false (by omega)] at hd
    have hm := pack_more hd
    unfold packC
    rw [upG_go hl (by rw [hd]; decide), upG_same l (l + 1) (by omega) (by omega)]
  · rw [if_neg h]
    rw [decide_eq_true (by omega)] at hd
    unfold packC
    rw [upG_stop hl hd]
theorem packC_stop {l n : Nat} {r : List UInt8} {zf : Lzs} {tf : Pm Dc} (hn : n = zf.out.length) (hs : stopP (packP decM zf tf pk0)) : packC (l + 1) r zf tf (n + (l + 1)) = none := by
  have hl : (zf.out.length : Int) < ((n + (l + 1) : Nat) : Int) := by omega
  unfold packC
  rw [upG_stop hl (stop_of hs)]
/-- a byte of a packed chunk is told: what is decided then is zf', tf' -/
theorem pack_step {zf zf' : Lzs} {tf tf' : Pm Dc} {n l : Nat} {full : Bool} {r : List UInt8}
    (h : (n < zf.out.length ∧ zf' = zf ∧ tf' = tf) ∨ (n = zf.out.length ∧ ¬ stopP (packP decM zf tf pk0) ∧ zf' = (packP decM zf tf pk0).2.1 ∧ tf' = (packP decM zf tf pk0).2.2)) (hn : n < zf'.out.length) (k : Nat) :
    (St2.pack zf tf n (l + 1) full r).tells (k + 1) = ((St2.pack zf' tf' (n + 1) l full r).tells k).map (zf'.out.getD n 0 :: ·) := by
  cases full with
  | false => rfl
  | true =>
    have key : packC (l + 1) r zf tf (n + (l + 1)) = (packC l r zf' tf' (n + 1 + l)).map (fun p => (zf'.out.getD n 0 :: p.1, p.2)) := by
      rcases h with ⟨h1, rfl, rfl⟩ | ⟨h1, h2, rfl, rfl⟩
      · by_cases ho : zf'.out.length ≤ n + (l + 1)
        · exact packC_next h1 ho
        · rw [packC_over (by omega), packC_over (by omega)]
          rfl
      · rw [packC_packet h1 h2]
        by_cases ho : (packP decM zf tf pk0).2.1.out.length ≤ n + (l + 1)
        · rw [if_pos ho]
          exact packC_next hn ho
        · rw [if_neg ho, packC_over (by omega)]
          rfl
    rw [pack_full, pack_full, key]
    cases packC l r zf' tf' (n + 1 + l) with
    | none => rfl
    | some p =>
      obtain ⟨xs, q'⟩ := p
      show (if (zf'.out.getD n 0 :: xs).length ≤ k + 1 then (q'.tells (k + 1 - (zf'.out.getD n 0 :: xs).length)).map ((zf'.out.getD n 0 :: xs) ++ ·) else none) = (if xs.length ≤ k then (q'.tells (k - xs.length)).map (xs ++ ·) else none : Option _).map _
      rw [List.length_cons]
      by_cases hk : xs.length ≤ k
      · rw [if_pos (by omega), if_pos hk, map_cons, show k + 1 - (xs.length + 1) = k - xs.length by omega]
      · rw [if_neg (by omega), if_neg hk]
        rfl
/-- a packed chunk at its end -/
theorem pack_done {zf : Lzs} {tf : Pm Dc} {n k : Nat} {r : List UInt8} (h : leftD tf.x = true ∧ zf.out.length = n) : (St2.pack zf tf n 0 true r).tells k = (St2.rest ⟨0, zf, tf.ps, r⟩).tells k := by
  rw [pack_full]
  have e : packC 0 r zf tf (n + 0) = some ([], ⟨0, zf, tf.ps, r⟩) := by
    unfold packC
    rw [upG_done (by omega)]
    show (if leftD tf.x = true ∧ zf.out.length = n + 0 then _ else _) = _
    rw [if_pos ⟨h.1, by omega⟩, show n + 0 - 0 = zf.out.length by omega, List.drop_length]
  rw [e]
  show (if 0 ≤ k then ((Rs.tells _ (k - 0)).map _) else none) = _
  rw [if_pos (Nat.zero_le _), map_nil]
  rfl
theorem pack_undone {zf : Lzs} {tf : Pm Dc} {n k : Nat} {r : List UInt8} (h : ¬ (leftD tf.x = true ∧ zf.out.length = n)) (hn : n ≤ zf.out.length) : (St2.pack zf tf n 0 true r).tells k = none := by
  rw [pack_full]
  have e : packC 0 r zf tf (n + 0) = none := by
    unfold packC
    rw [upG_done (by omega)]
    show (if leftD tf.x = true ∧ zf.out.length = n + 0 then _ else _) = _
    rw [if_neg (by rw [Nat.add_zero]; exact h)]
  rw [e]
theorem pack_halt {zf : Lzs} {tf : Pm Dc} {n l k : Nat} {full : Bool} {r : List UInt8} (hn : n = zf.out.length) (hs : stopP (packP decM zf tf pk0)) : (St2.pack zf tf n (l + 1) full r).tells k = none := by
  cases full with
  | false => rfl
  | true => rw [pack_full, packC_stop hn hs]
end Go.Proofs.YtiolfjhddbiglaaGreatDoor

/-
  The decoder of LZMA2 in memory, packed chunks too.
-/
namespace Go.Proofs.YtiolfjhddbiglaaGreatDoor
open Go.RowKit
set_option linter.unusedVariables false

/-- the same decoder of packets: its blocks, its window, its room -/
structure Ks (K K' : Kon) : Prop where
  g : K'.g = K.g
  lb : K'.lb = K.lb
  wg : K'.wg = K.wg
  m : K'.m = K.m
  room : K'.room = K.room
  sz : K'.sz = K.sz
  nc : K'.nc = K.nc
theorem Ks.refl (K : Kon) : Ks K K := ⟨rfl, rfl, rfl, rfl, rfl, rfl, rfl⟩
theorem Ks.trans {K K' K2 : Kon} (h : Ks K K') (h' : Ks K' K2) : Ks K K2 :=
  ⟨h'.g.trans h.g, h'.lb.trans h.lb, h'.wg.trans h.wg, h'.m.trans h.m, h'.room.trans h.room, h'.sz.trans h.sz, h'.nc.trans h.nc⟩
theorem Ks.on (K : Kon) (dg : Nat) (S : Sc) (bs : List UInt8) : Ks K (K.on dg S bs) := ⟨rfl, rfl, rfl, rfl, rfl, rfl, rfl⟩
theorem Ks.less (K : Kon) (n : Nat) (d : Int) : Ks K (K.less n d) := ⟨rfl, rfl, rfl, rfl, rfl, rfl, rfl⟩

/-- where all lies: the decoder's block d, its source's block f whose row lies from lo on, the window's blocks Gw, what a packed chunk has besides (its source, its decoder of ranges); the table of what a chunk brings -/
structure Q2x (K0 : Kon) (d f lo : Nat) (w : World) (Gw ex : Nat → Prop) : Prop where
  gl : 1 ≤ K0.g ∧ K0.g < lo
  ll : 1 ≤ K0.lb ∧ K0.lb < lo
  ml : K0.m < lo
  dl : 1 ≤ d ∧ d < lo
  lf : lo ≤ f
  fs : f < w.heap.size
  dg : d ≠ K0.g ∧ d ≠ K0.lb ∧ d ≠ K0.m
  wd : ∀ i, Gw i → 1 ≤ i ∧ i ≠ d ∧ (i < lo ∨ f < i)
  ex : ∀ i, ex i → f < i ∧ i < w.heap.size
  sz : K0.sz ≤ 1048576
  nc : K0.nc = 12288
  tab : ∀ how, how < 4 → w.cell? ⟨0, how, none⟩ = some (.int .u8 (bringN how : Int))
/-- all that a call may turn -/
def own2 (K0 : Kon) (d f : Nat) (Gw ex : Nat → Prop) : Nat → Prop := fun i => i = d ∨ i = f ∨ i = K0.g ∨ i = K0.lb ∨ Gw i ∨ ex i
/-- no packed chunk's bytes are told: its fields and what its source has left; its decoder of packets at rest -/
structure Idl (K0 : Kon) (d f lo : Nat) (all : List UInt8) (w : World) (Gw : Nat → Prop) (s : Ds) (r : List UInt8) (z : Lzs) (ps : List Nat) : Prop where
  rd : Rdr w d K0.g f lo all ⟨s, r, []⟩
  rs : ∃ K v4 v5 v16 v17 v18, Ks K0 K ∧ Lrest K w Gw z ps v4 v5 v16 v17 v18
/-- the numbers between two chunks are in order -/
structure Rok (D : Nat) (q : Rs) : Prop where
  nd : q.nd = 0 ∨ q.nd = 6 ∨ q.nd = 7
  near : ZNear q.z q.ps.length q.z.out.length
  ps : PsOk q.ps
  bad : q.z.bad = false
  ended : q.z.ended = false
  dict : q.z.dict = D
  four : q.z.lc + q.z.lp ≤ 4
/-- the setting's field is the one brought last, where none needs be brought -/
def setAt (q : Rs) (s : Ds) : Prop := s.nd = q.nd ∧ (q.nd = 0 → s.a0 = (q.z.lc : Int) ∧ s.a1 = (q.z.lp : Int) ∧ s.a2 = (q.z.pb : Int))
/-- the decoder, wherever it stands -/
def Q2 (K0 : Kon) (d f lo : Nat) (all : List UInt8) (D : Nat) (w : World) (Gw ex : Nat → Prop) : St2 → Prop
  | .bad => ∃ s r z ps, Idl K0 d f lo all w Gw s r z ps ∧ s.src = false ∧ s.left = 0
  | .fin r => ∃ s z ps, Idl K0 d f lo all w Gw s r z ps ∧ s.src = true ∧ s.ended = true ∧ s.left = 0
  | .rest q => ∃ s, Idl K0 d f lo all w Gw s q.r q.z q.ps ∧ s.src = true ∧ s.ended = false ∧ s.left = 0 ∧ setAt q s ∧ Rok D q
  | .plain q l => ∃ s, Idl K0 d f lo all w Gw s q.r q.z q.ps ∧ s.src = true ∧ s.ended = false ∧ s.left = l ∧ s.pk = none ∧ 1 ≤ l ∧ l ≤ 65536 ∧ q.nd % 2 = 0 ∧ setAt q s ∧ Rok D q
  | .pack zf tf n l full r => ∃ K s p a m, Ks K0 K ∧ Blk w d 105 (d2Cells K0.g f s) ∧ s.src = true ∧ s.ended = false ∧ s.nd = 0 ∧ s.left = l ∧ s.pk = some p ∧ 1 ≤ l ∧ l ≤ 2097152 ∧
      (s.a0 = (zf.lc : Int) ∧ s.a1 = (zf.lp : Int) ∧ s.a2 = (zf.pb : Int)) ∧ K.S = pkSc p f lo all a m ∧ K.bs = (all.drop a).take m ∧ full = decide (a + m ≤ all.length) ∧ r = all.drop (a + m) ∧
      Nx K w Gw zf tf n ∧ zf.dict = D ∧ zf.lc + zf.lp ≤ 4 ∧ ex p ∧ ex K.dg ∧ f < p
/-- what a call answers and leaves -/
def Q2Post (K0 : Kon) (d f lo : Nat) (all : List UInt8) (D : Nat) (w : World) (Gw ex : Nat → Prop) (v : Value) (st : St2) (e : Ending) (w' : World) : Prop :=
  e = .returned v ∧ ∃ Gw' ex', Q2 K0 d f lo all D w' Gw' ex' st ∧ Q2x K0 d f lo w' Gw' ex' ∧ (∀ i, Gw' i ∨ ex' i → (Gw i ∨ ex i) ∨ w.heap.size ≤ i) ∧ Only (own2 K0 d f Gw ex) w w'

section
variable {K0 K : Kon} {d f lo D : Nat} {all r : List UInt8} {w w' : World} {Gw ex S : Nat → Prop} {s s' : Ds} {z : Lzs} {ps : List Nat} {v4 v5 v16 v17 v18 : Value}
theorem Lrest.only (h : Lrest K w Gw z ps v4 v5 v16 v17 v18) (hO : Only S w w') (h1 : ¬ S K.g) (h2 : ¬ S K.lb) (h3 : ∀ i, Gw i → ¬ S i) : Lrest K w' Gw z ps v4 v5 v16 v17 v18 :=
  ⟨(K.prb _ h.gn).only h.row hO (fun i hi hs => by rcases hi with rfl | rfl; exact h1 hs; exact h2 hs), h.win.only hO h3, h.gn, h.mg, h.mb, h.nc, h.wd, Nat.lt_of_lt_of_le h.mo hO.size⟩
theorem Q2x.only (h : Q2x K0 d f lo w Gw ex) (hO : Only S w w') (hS : ¬ S 0) : Q2x K0 d f lo w' Gw ex := by
  refine ⟨h.gl, h.ll, h.ml, h.dl, h.lf, Nat.lt_of_lt_of_le h.fs hO.size, h.dg, h.wd, fun i hi => ⟨(h.ex i hi).1, Nat.lt_of_lt_of_le (h.ex i hi).2 hO.size⟩, h.sz, h.nc, fun how hh => ?_⟩
  rw [hO.cell (p := ⟨0, how, none⟩) (by have := h.fs; have := h.lf; have := h.dl; show 0 < _; omega) hS]
  exact h.tab how hh
theorem Q2x.own0 (h : Q2x K0 d f lo w Gw ex) : ¬ own2 K0 d f Gw ex 0 := by
  have h1 := h.gl
  have h2 := h.ll
  have h3 := h.dl
  have h4 := h.lf
  rintro (e | e | e | e | e | e)
  · omega
  · omega
  · omega
  · omega
  · have := (h.wd 0 e).1; omega
  · have := (h.ex 0 e).1; omega
/-- other blocks of the window, or of a packed chunk -/
theorem Q2x.turn {Gw' ex' : Nat → Prop} (h : Q2x K0 d f lo w Gw ex) (hG : ∀ i, Gw' i → Gw i ∨ w.heap.size ≤ i) (hE : ∀ i, ex' i → f < i ∧ i < w'.heap.size) (hO : Only S w w') (hS : ¬ S 0) : Q2x K0 d f lo w' Gw' ex' := by
  have := h.only hO hS
  have h3 := h.dl
  have h4 := h.lf
  have h5 := h.fs
  refine ⟨this.gl, this.ll, this.ml, this.dl, this.lf, this.fs, this.dg, fun i hi => ?_, hE, this.sz, this.nc, this.tab⟩
  rcases hG i hi with hh | hh
  · exact h.wd i hh
  · omega
/-- its own fields and its source turn -/
theorem Idl.read (hx : Q2x K0 d f lo w Gw ex) (h : Idl K0 d f lo all w Gw s r z ps) {r' : List UInt8} (hR : Rdr w' d K0.g f lo all ⟨s', r', []⟩) (hO : Only (fun i => i = d ∨ i = f) w w') : Idl K0 d f lo all w' Gw s' r' z ps := by
  obtain ⟨K, v4, v5, v16, v17, v18, hk, hr⟩ := h.rs
  have h1 := hx.gl
  have h2 := hx.ll
  have h3 := hx.dl
  have h4 := hx.lf
  have h5 := hx.dg
  refine ⟨hR, K, v4, v5, v16, v17, v18, hk, hr.only hO ?_ ?_ (fun i hi => ?_)⟩
  · rw [hk.g]; rintro (e | e) <;> omega
  · rw [hk.lb]; rintro (e | e) <;> omega
  · have := hx.wd i hi
    rintro (e | e) <;> omega
theorem own_df (K0 : Kon) (d f : Nat) (Gw ex : Nat → Prop) : ∀ i, (i = d ∨ i = f) → own2 K0 d f Gw ex i := fun i h => h.elim .inl (fun e => .inr (.inl e))
theorem df0 (hx : Q2x K0 d f lo w Gw ex) : ¬ (0 = d ∨ 0 = f) := by
  have h3 := hx.dl
  have h4 := hx.lf
  omega
end
end Go.Proofs.YtiolfjhddbiglaaGreatDoor
