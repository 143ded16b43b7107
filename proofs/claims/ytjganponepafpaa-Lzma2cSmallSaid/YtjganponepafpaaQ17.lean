/-
  SmSum, SmRun, SmGo, ZeroKit, CwZero, RdBegun, RdNew: put together.
-/
import Derived.Test.YtjganponepafpaaQ16
import Derived.Test.YtjganponepafpaaQ04
import Derived.Test.YtjganponepafpaaQ01
import Derived.Laws.Tables
import Derived.Test.YtjganponepafpaaQ09
import Derived.Test.YtjganponepafpaaRows
import Derived.Test.YtjganponepafpaaQ07
import Derived.Laws.MakeOwn
set_option linter.unusedVariables false
set_option linter.unusedSimpArgs false
/-
  How long what is packed is, by its streams' lengths.
-/
namespace Go.Proofs.Ytjganponepafpaa
open Go.RowKit

section
variable {b : List UInt8} {lc lp pb dict p : Nat}
/-- the length of piece number j's stream -/
def strL (b : List UInt8) (lc lp pb dict p j : Nat) : Nat :=
  (strS b dict (min (foldQ b (headB lc lp pb) dict p (freshS lc lp pb dict) (List.range j)).1 b.length) (min ((foldQ b (headB lc lp pb) dict p (freshS lc lp pb dict) (List.range j)).1 + (cutB b p j).length) b.length)
    (foldQ b (headB lc lp pb) dict p (freshS lc lp pb dict) (List.range j)).2.how (foldQ b (headB lc lp pb) dict p (freshS lc lp pb dict) (List.range j)).2.s).2.x.l
/-- where the coder stands -/
theorem fold_at (j : Nat) : (foldQ b (headB lc lp pb) dict p (freshS lc lp pb dict) (List.range j)).1 = min (j * p) b.length := by
  induction j with
  | zero => show 0 = _; rw [Nat.zero_mul, Nat.zero_min]
  | succ j ih =>
    rw [List.range_succ, foldQ_snoc]
    show (foldQ b (headB lc lp pb) dict p (freshS lc lp pb dict) (List.range j)).1 + (cutB b p j).length = _
    rw [ih, cutB_len]
    have h4 : (j + 1) * p = j * p + p := Nat.succ_mul j p
    omega
theorem ch_le (j : Nat) : (chN b lc lp pb dict p j).length ≤ 6 + strL b lc lp pb dict p j := by
  unfold chN strL
  generalize foldQ b (headB lc lp pb) dict p (freshS lc lp pb dict) (List.range j) = a
  unfold chunkN
  generalize strS b dict (min a.1 b.length) (min (a.1 + (cutB b p j).length) b.length) a.2.how a.2.s = s2
  have hsl : (strB s2).length = s2.2.x.l := beB_len _ _
  split
  · unfold packedB cntB
    split
    · simp [hsl]; omega
    · simp [hsl]; omega
  · unfold plainB cntB
    simp
    omega
theorem div_add_le (a c : Nat) : a / 200 + c / 200 ≤ (a + c) / 200 := by omega
/-- where each piece's stream is short, all is -/
theorem out_le (hs : ∀ j, j < manyN b.length p → strL b lc lp pb dict p j ≤ 34 + min p (b.length - j * p) / 200) (hp : 1 ≤ p) : ∀ j, j ≤ manyN b.length p → (outN b lc lp pb dict p j).length ≤ 40 * j + min (j * p) b.length / 200
  | 0, _ => by
    show ([] : List UInt8).length ≤ _
    exact Nat.zero_le _
  | j + 1, hj => by
    have ih := out_le hs hp j (by omega)
    have h1 := hs j (by omega)
    have h2 := ch_le (b := b) (lc := lc) (lp := lp) (pb := pb) (dict := dict) (p := p) j
    have h3 := (many_lt hp).1 (show j < manyN b.length p by omega)
    rw [outN_succ, List.length_append]
    have h4 : (j + 1) * p = j * p + p := Nat.succ_mul j p
    have h5 := div_add_le (min (j * p) b.length) (min p (b.length - j * p))
    have h6 : min (j * p) b.length + min p (b.length - j * p) = min ((j + 1) * p) b.length := by omega
    rw [h6] at h5
    omega
theorem pack_le (hs : ∀ j, j < manyN b.length p → strL b lc lp pb dict p j ≤ 34 + min p (b.length - j * p) / 200) (hp : 1 ≤ p) : (packN b lc lp pb dict p).length ≤ 1 + 40 * (b.length / p + 1) + b.length / 200 := by
  have h := out_le hs hp (manyN b.length p) (Nat.le_refl _)
  have hm : manyN b.length p ≤ b.length / p + 1 := by
    unfold manyN
    rw [Nat.div_le_iff_le_mul_add_pred (by omega)]
    have := Nat.div_add_mod b.length p
    have h2 := Nat.mod_lt b.length (show p > 0 by omega)
    have h3 : p * (b.length / p + 1) = p * (b.length / p) + p := Nat.mul_succ _ _
    omega
  show (outN b lc lp pb dict p (manyN b.length p) ++ [0]).length ≤ _
  rw [List.length_append]
  have h7 : min (manyN b.length p * p) b.length / 200 ≤ b.length / 200 := Nat.div_le_div_right (Nat.min_le_right _ _)
  have h8 : ([0] : List UInt8).length = 1 := rfl
  omega
end
end Go.Proofs.Ytjganponepafpaa

/-
  One byte again and again: a piece's packets, one behind the other.
-/
namespace Go.Proofs.Ytjganponepafpaa
open Go.RowKit

theorem copyG_st : ∀ (f n : Nat) (z : Lzs), (copyG f n z).2.st = z.st
  | 0, _, _ => rfl
  | f + 1, n, z => by
    by_cases h : z.has z.r0 = true
    · rw [copyG_go h, copyG_st f]
      rfl
    · rw [copyG_stop h]
theorem tail_t {σ : Type} (M : Mach σ) (many : Nat) (z : Lzs) (t : Pm σ) : (tailP M many z t).2.2 = t := by
  unfold tailP
  split <;> rfl
theorem tail_st {σ : Type} (M : Mach σ) (many : Nat) (z : Lzs) (t : Pm σ) : (tailP M many z t).2.1.st = z.st := by
  unfold tailP
  split
  · rfl
  · exact copyG_st _ _ _
section
variable {z : Lzs} {t u : Pm En} {p : Pk} {k v s : Nat}
theorem pack_again (h0 : z.out.length ≠ 0) (hs : z.out.length % 2 ^ z.pb = s) (hk : p.kind = 2) (hn : p.len - 2 = (v : Int)) (hl : lenP encM (k4 t z.st s 1) 1333 s (v : Int) = (k, u)) :
    (packP encM z t p).2.2 = u ∧ (packP encM z t p).2.1.st = aft 8 11 z.st := by
  unfold packP
  rw [hk, hs, decide_eq_false h0, kind_again]
  unfold packK
  rw [if_neg (by decide : ¬ (2 : Nat) = 0), if_neg (by decide : ¬ (2 : Nat) = 1), if_neg (by decide : ¬ (2 : Nat) = 6), hn, hl]
  unfold packR
  rw [tail_t, tail_st]
  exact ⟨rfl, rfl⟩
theorem pack_single (h0 : z.out.length ≠ 0) (hs : z.out.length % 2 ^ z.pb = s) (hk : p.kind = 6) :
    (packP encM z t p).2.2 = k4 t z.st s 0 := by
  unfold packP
  rw [hk, hs, decide_eq_false h0, kind_single]
  unfold packK
  rw [if_neg (by decide : ¬ (6 : Nat) = 0), if_neg (by decide : ¬ (6 : Nat) = 1), if_pos (by decide : (6 : Nat) = 6)]
  rw [tail_t]
theorem sp_lit {m : Nat} : 1847 + m ∉ spL := fun h => by have := sp_lt _ h; omega
theorem lit_cost {C : Nat} {o x : UInt8} (h : Smp t C) : ∀ j, j ≤ 8 → ∃ m u, litG encM t 1847 o x false j = ⟨m, false, u⟩ ∧ Smp u (C + 98 * j) ∧ m < 2 ^ (j + 1)
  | 0, _ => ⟨1, t, rfl, h, by decide⟩
  | j + 1, hj => by
    obtain ⟨m, u, e, h1, h2⟩ := lit_cost (o := o) (x := x) h j (by omega)
    obtain ⟨b, hb, hb1⟩ := want_byte x (7 - j)
    have hp : 2 ^ (j + 1) ≤ 256 := Nat.le_trans (Nat.pow_le_pow_right (by omega) (show j + 1 ≤ 8 by omega)) (by decide)
    refine ⟨2 * m + b, bE u (1847 + m) b, ?_, ?_, by rw [Nat.pow_succ 2 (j + 1)]; omega⟩
    · show lgStep encM 1847 _ (want (x.toNat : Int) (7 - j)) (litG encM t 1847 o x false j) = _
      rw [hb, e]
      rfl
    · rw [show C + 98 * (j + 1) = C + 98 * j + 98 by omega]
      exact (h1.free sp_lit (by omega)).1
theorem pack_lit {C : Nat} (h : Smp t C) (h0 : z.out = []) (hk : p.kind = 0) (hst : z.st = 0) (hbad : z.bad = false) : Smp (packP encM z t p).2.2 (C + 882) ∧ (packP encM z t p).2.1.st = 0 := by
  have hl : z.out.length = 0 := by rw [h0]; rfl
  have hb : z.back 0 = 0 := by
    unfold Lzs.back Lzs.has
    rw [hl]
    rfl
  have ha : litAt z = 1847 := by
    unfold litAt
    rw [hl, hb, Nat.zero_mod, Nat.zero_mul, show (0 : UInt8).toNat = 0 from rfl, Nat.zero_div]
  have hs0 : ∀ n, 0 % n = 0 := Nat.zero_mod
  have h1 := (h.free (a := 0) (w := 0) (by decide) (by decide)).1
  obtain ⟨m, u, e, g1, g2⟩ := lit_cost (o := z.back z.r0) (x := p.byte) h1 8 (Nat.le_refl 8)
  unfold packP
  rw [hk, hl, hs0, hst, kind_lit]
  unfold packK
  rw [if_pos (by decide : (0 : Nat) = 0)]
  have hz : ({ z with bad := z.bad || false } : Lzs) = z := by
    rw [Bool.or_false]
  dsimp only
  rw [hz]
  unfold packL
  have hL : (litP encM z (bE t (16 * 0 + 0) 0) p.byte).2 = u := by
    unfold litP
    rw [ha, hst]
    show (litG encM (bE t 0 0) 1847 (z.back z.r0) p.byte false 8).t = u
    rw [e]
  rw [if_neg (by show ¬ encM.bad _ = true; exact Bool.false_ne_true)]
  refine ⟨?_, ?_⟩
  · show Smp (litP encM z (bE t (16 * 0 + 0) 0) p.byte).2 _
    rw [hL]
    exact g1.mono (by omega)
  · show litSt z.st = 0
    rw [hst]
    rfl
end
/-- what the first packets cost besides -/
def exS (st : Nat) : Nat := if st = 11 then 0 else if 7 ≤ st then 344 else 688
theorem exS_step {st : Nat} (h : st ≤ 11) : exS (aft 8 11 st) + (if st = 11 then 48 else 392) ≤ exS st + 48 := by
  have : ∀ s : Fin 12, exS (aft 8 11 s.val) + (if s.val = 11 then 48 else 392) ≤ exS s.val + 48 := by decide
  exact this ⟨st, by omega⟩
theorem aft_two {st : Nat} : aft 8 11 (aft 8 11 st) = 11 := by
  unfold aft
  split <;> rfl
theorem aft_11 : aft 8 11 11 = 11 := rfl
theorem exS_le (st : Nat) : exS st ≤ 688 := by
  unfold exS
  split
  · decide
  · split <;> decide
theorem four_all (F s : Nat) (hs : s < 4) : ∃ m, 2 ≤ m ∧ m < 6 ∧ (F + 273 * m) % 4 = s := by
  have h : (F + 273 * 2) % 4 = s ∨ (F + 273 * 3) % 4 = s ∨ (F + 273 * 4) % 4 = s ∨ (F + 273 * 5) % 4 = s := by omega
  rcases h with h | h | h | h
  · exact ⟨2, by omega, by omega, h⟩
  · exact ⟨3, by omega, by omega, h⟩
  · exact ⟨4, by omega, by omega, h⟩
  · exact ⟨5, by omega, by omega, h⟩
end Go.Proofs.Ytjganponepafpaa

/-
  One byte again and again: a piece's stream is short.
-/
namespace Go.Proofs.Ytjganponepafpaa
open Go.RowKit

theorem div_next {T F N : Nat} (h : F ≤ T) (hN : N = (T - F) / 273) : T < F + 273 * (N + 1) := by
  have h1 := Nat.lt_mul_div_succ (T - F) (show 0 < 273 by decide)
  rw [← hN] at h1
  generalize 273 * (N + 1) = X at *
  clear hN
  omega
theorem next_le {T F h : Nat} (hh : F + 273 * (h + 1) ≤ T) : F + 273 * h + 273 ≤ T := by
  rw [Nat.mul_succ] at hh
  exact (Nat.add_assoc F _ _).symm ▸ hh
theorem rep_len (x : UInt8) (n : Nat) : (List.replicate n x).length = n := List.length_replicate
section
variable {x : UInt8} {n F T o L C0 : Nat} {s0 : Ps} {s : Lzs × Pm En} {q : Nat → Pq} {M : Nat}
/-- where the packets are -/
theorem go_at_full (hT : T ≤ n) (hD : T < 65536) (hF : 1 ≤ F) (hbase : (goF (List.replicate n x) 65536 T s0 o).2 = ⟨F, 0, 0, 0, 0⟩) :
    ∀ h, F + 273 * h ≤ T → (goF (List.replicate n x) 65536 T s0 (o + h)).2 = ⟨F + 273 * h, 0, 0, 0, 0⟩
  | 0, _ => hbase
  | h + 1, hh => by
    have ih := go_at_full hT hD hF hbase h (by omega)
    have hlt : (goF (List.replicate n x) 65536 T s0 (o + h)).2.i < T := by rw [ih]; show F + 273 * h < T; omega
    rw [← Nat.add_assoc, go_succ hlt, ih]
    show (stepF _ _ _ _).2 = _
    rw [one_step (show 1 ≤ F + 273 * h by omega) (by omega) hT hD, if_neg (by omega)]
    show (⟨F + 273 * h + min 273 (T - (F + 273 * h)), 0, 0, 0, 0⟩ : Ps) = _
    have hm : F + 273 * h + min 273 (T - (F + 273 * h)) = F + 273 * (h + 1) := by omega
    rw [hm]
/-- what holds behind h full packets -/
structure Run (F C0 st0 h : Nat) (s : Lzs × Pm En) : Prop where
  smp : ∃ C, Smp s.2 C ∧ C + exS s.1.st ≤ C0 + 168 * h + exS st0
  len : 1 ≤ h → ∀ i ∈ lenL, 1025 ≤ qAt s.2.ps i
  two : 2 ≤ h → s.1.st = 11
  one : h = 1 → ∃ st, s.1.st = aft 8 11 st
  rep : ∀ m, 2 ≤ m → m < h → 1025 ≤ qAt s.2.ps (416 + (F + 273 * m) % 4)
theorem run_step {k i h st0 : Nat} {st : Lzs × Pm En} (ht : Tol (List.replicate n x) 65536 L (k + 27) ⟨i, 0, 0, 0, 0⟩ st) (hpb : st.1.pb = 2) (hi : i = F + 273 * h) (hF : 1 ≤ F) (hiT : i + 273 ≤ T) (hT : T ≤ n) (hD : T < 65536) (hr : Run F C0 st0 h st) :
    Run F C0 st0 (h + 1) (stepP st (stepF (List.replicate n x) 65536 T ⟨i, 0, 0, 0, 0⟩).1.pk) ∧ (stepP st (stepF (List.replicate n x) 65536 T ⟨i, 0, 0, 0, 0⟩).1.pk).1.pb = 2 := by
  have hlt : i < T := by omega
  obtain ⟨_, hf, _⟩ := tol_step ht hlt (by rw [rep_len]; exact hT)
  have hstep : (stepF (List.replicate n x) 65536 T ⟨i, 0, 0, 0, 0⟩).1 = ⟨2, 0, ((273 : Nat) : Int), 0⟩ := by
    rw [one_step (by omega) hlt hT hD, if_neg (by omega), Nat.min_eq_left (by omega)]
  rw [hstep] at hf ⊢
  have hout : st.1.out.length = i := by
    rw [ht.par.out, List.length_take, rep_len]
    show min i n = i
    omega
  have hsn : st.1.out.length % 2 ^ st.1.pb = i % 4 := by rw [hout, hpb]
  have h0 : st.1.out.length ≠ 0 := by omega
  have hs4 : i % 4 < 4 := Nat.mod_lt _ (by decide)
  have hst11 := ht.near.st
  obtain ⟨C, hC, hCle⟩ := hr.smp
  obtain ⟨a1, a2, a3⟩ := again_kind hC hst11 hs4
  obtain ⟨b1, b2, b3⟩ := sagain_len a1
  obtain ⟨p1, p2⟩ := pack_again (p := (⟨2, 0, ((273 : Nat) : Int), 0⟩ : Pq).pk) (v := 271) (k := 271) h0 hsn rfl (by decide) (len_full (k4 st.2 st.1.st (i % 4) 1) (i % 4))
  have hP : stepP st (⟨2, 0, ((273 : Nat) : Int), 0⟩ : Pq).pk = (packP encM st.1 st.2 (⟨2, 0, ((273 : Nat) : Int), 0⟩ : Pq).pk).2 := if_pos hf
  rw [hP]
  have hlike := packP_like encM st.1 st.2 (⟨2, 0, ((273 : Nat) : Int), 0⟩ : Pq).pk
  refine ⟨⟨?_, fun _ => ?_, fun h2 => ?_, fun _ => ⟨_, p2⟩, fun m hm hmh => ?_⟩, hlike.pb.trans hpb⟩
  · rw [p1, p2]
    refine ⟨_, b1, ?_⟩
    have := exS_step hst11
    omega
  · rw [p1]
    exact b3
  · rw [p2]
    by_cases e : h = 1
    · obtain ⟨s1, hs1⟩ := hr.one e
      rw [hs1]
      exact aft_two
    · rw [hr.two (by omega)]
      exact aft_11
  · rw [p1]
    have hin : 416 + (F + 273 * m) % 4 ∈ spL := sp_rep0 ⟨(F + 273 * m) % 4, Nat.mod_lt _ (by decide)⟩
    by_cases e : m = h
    · subst e
      have h11 := hr.two hm
      have := a3 h11
      rw [hi] at this
      rw [hi]
      refine Nat.le_trans this ?_
      rw [hi] at b2
      exact b2 _ hin
    · have h1 := hr.rep m hm (by omega)
      exact Nat.le_trans h1 (Nat.le_trans (a2 _ hin) (b2 _ hin))
theorem Run.rai {st0 h : Nat} (hr : Run F C0 st0 h s) (h6 : 6 ≤ h) : Rai s.2.ps := by
  refine ⟨hr.len (by omega), fun c hc => ?_⟩
  obtain ⟨m, m2, m6, hm⟩ := four_all F c hc
  have := hr.rep m m2 (by omega)
  rwa [hm] at this
/-- what a piece's packets come to -/
structure Outs (c N : Nat) (s : Lzs × Pm En) : Prop where
  ok : Okc s.2 c
  lo : 6 ≤ N → ∀ i ∈ spL, 992 ≤ qAt s.2.ps i
theorem run_all {Q : List Pq} (hQ : Q = (goF (List.replicate n x) 65536 T s0 T).1) (hT : T ≤ n) (hD : T < 65536) (hF : 1 ≤ F) (hFT : F ≤ T) (ho : o ≤ Q.length)
    (hbase : (goF (List.replicate n x) 65536 T s0 o).2 = ⟨F, 0, 0, 0, 0⟩) (htol : ∀ h, h ≤ Q.length → Tol (List.replicate n x) 65536 L (27 * (Q.length - h)) (goF (List.replicate n x) 65536 T s0 h).2 (runT q s h))
    (hqs : ∀ h, h < Q.length → q h = (stepF (List.replicate n x) 65536 T (goF (List.replicate n x) 65536 T s0 h).2).1)
    (hpb : (runT q s o).1.pb = 2) (hsm : Smp (runT q s o).2 C0) (hend : (goF (List.replicate n x) 65536 T s0 T).2.i = T) :
    Outs (C0 + 168 * ((T - F) / 273) + 688 + 1372) ((T - F) / 273) (runT q s Q.length) := by
  have hat := go_at_full (x := x) (s0 := s0) hT hD hF hbase
  have hfull := go_full (b := List.replicate n x) (dict := 65536) (e := T) (s := s0) T
  rw [← hQ] at hfull
  have hQi : (goF (List.replicate n x) 65536 T s0 Q.length).2.i = T := by rw [hfull]; exact hend
  obtain ⟨N, hN⟩ : ∃ N, N = (T - F) / 273 := ⟨_, rfl⟩
  rw [← hN]
  have hN1 : F + 273 * N ≤ T := by omega
  have hN2 : T < F + 273 * (N + 1) := div_next hFT hN
  -- the list is at least so long
  have hge : ∀ h, F + 273 * h ≤ T → o + h ≤ Q.length := by
    intro h
    induction h with
    | zero => exact fun _ => ho
    | succ h ih =>
      intro hh
      have h1 := ih (by omega)
      rcases Nat.lt_or_ge (o + h) Q.length with h2 | h2
      · omega
      · have e : o + h = Q.length := by omega
        have h3 := hat h (by omega)
        rw [e] at h3
        rw [h3] at hQi
        have hQi : F + 273 * h = T := hQi
        omega
  have hrun : ∀ h, F + 273 * h ≤ T → Run F C0 (runT q s o).1.st h (runT q s (o + h)) ∧ (runT q s (o + h)).1.pb = 2 := by
    intro h
    induction h with
    | zero => exact fun _ => ⟨⟨⟨C0, hsm, Nat.le_refl _⟩, fun h => absurd h (by decide), fun h => absurd h (by decide), fun h => absurd h (by decide), fun m hm hm0 => absurd hm0 (Nat.not_lt_zero m)⟩, hpb⟩
    | succ h ih =>
      intro hh
      obtain ⟨r1, r2⟩ := ih (by omega)
      have hl := hge (h + 1) hh
      have ht := htol (o + h) (by omega)
      rw [hat h (by omega), show 27 * (Q.length - (o + h)) = 27 * (Q.length - (o + h + 1)) + 27 by omega] at ht
      have hst := run_step ht r2 rfl hF (next_le hh) hT hD r1
      have hq := hqs (o + h) (by omega)
      rw [hat h (by omega)] at hq
      show Run F C0 _ (h + 1) (stepP (runT q s (o + h)) (q (o + h)).pk) ∧ (stepP (runT q s (o + h)) (q (o + h)).pk).1.pb = 2
      rw [hq]
      exact hst
  obtain ⟨rN, pN⟩ := hrun N hN1
  have hlN := hge N hN1
  have hex := exS_le (runT q s o).1.st
  obtain ⟨C, hC, hCle⟩ := rN.smp
  rcases Nat.lt_or_ge (o + N) Q.length with hlt | hge2
  · -- a last packet
    have ht := htol (o + N) (by omega)
    have hq := hqs (o + N) hlt
    rw [hat N hN1] at ht hq
    have hi : (goF (List.replicate n x) 65536 T s0 (o + N)).2.i < T := by
      rcases Nat.lt_or_ge (goF (List.replicate n x) 65536 T s0 (o + N)).2.i T with h | h
      · exact h
      · have hsame : ∀ m, (goF (List.replicate n x) 65536 T s0 (o + N + m)) = goF (List.replicate n x) 65536 T s0 (o + N) := by
          intro m
          induction m with
          | zero => rfl
          | succ m ih => rw [← Nat.add_assoc, go_same (by rw [ih]; omega), ih]
        obtain ⟨g1, _, _⟩ := go_get (b := List.replicate n x) (dict := 65536) (e := T) (s := s0) T (o + N) (by rw [← hQ]; exact hlt)
        exact g1
    rw [hat N hN1] at hi
    have hi : F + 273 * N < T := hi
    have hlen1 : Q.length = o + N + 1 := by
      rcases Nat.lt_or_ge (o + N + 1) Q.length with h | h
      · obtain ⟨g1, _, _⟩ := go_get (b := List.replicate n x) (dict := 65536) (e := T) (s := s0) T (o + N + 1) (by rw [← hQ]; exact h)
        rw [go_succ (by rw [hat N hN1]; exact hi), hat N hN1] at g1
        have g1 : (stepF (List.replicate n x) 65536 T ⟨F + 273 * N, 0, 0, 0, 0⟩).2.i < T := g1
        rw [one_step (by omega) hi hT hD] at g1
        split at g1
        · have g1 : F + 273 * N + 1 < T := g1
          omega
        · have g1 : F + 273 * N + min 273 (T - (F + 273 * N)) < T := g1
          omega
      · omega
    rw [hlen1]
    rw [hlen1] at ht
    have ht : Tol (List.replicate n x) 65536 L (0 + 27) ⟨F + 273 * N, 0, 0, 0, 0⟩ (runT q s (o + N)) := by
      rw [show 27 * (o + N + 1 - (o + N)) = 0 + 27 by omega] at ht
      exact ht
    obtain ⟨_, hf, _⟩ := tol_step ht hi (by rw [rep_len]; exact hT)
    show Outs _ _ (stepP (runT q s (o + N)) (q (o + N)).pk)
    rw [hq]
    have hP : stepP (runT q s (o + N)) (stepF (List.replicate n x) 65536 T ⟨F + 273 * N, 0, 0, 0, 0⟩).1.pk = (packP encM (runT q s (o + N)).1 (runT q s (o + N)).2 (stepF (List.replicate n x) 65536 T ⟨F + 273 * N, 0, 0, 0, 0⟩).1.pk).2 := if_pos hf
    rw [hP]
    generalize runT q s (o + N) = st at *
    have hout : st.1.out.length = F + 273 * N := by
      rw [ht.par.out, List.length_take, rep_len]
      show min (F + 273 * N) n = F + 273 * N
      omega
    have hsn : st.1.out.length % 2 ^ st.1.pb = (F + 273 * N) % 4 := by rw [hout, pN]
    have h0 : st.1.out.length ≠ 0 := by omega
    have hs4 : (F + 273 * N) % 4 < 4 := Nat.mod_lt _ (by decide)
    have hst11 := ht.near.st
    rw [one_step (by omega) hi hT hD]
    by_cases e1 : T - (F + 273 * N) = 1
    · rw [if_pos e1]
      have p1 := pack_single (t := st.2) (p := (⟨6, 0, 0, 0⟩ : Pq).pk) h0 hsn rfl
      obtain ⟨a1, a2⟩ := single_last hC hst11 hs4
      refine ⟨?_, fun h6 => ?_⟩
      · rw [p1]
        exact a1.mono (by omega)
      · rw [p1]
        exact a2 (rN.rai h6)
    · rw [if_neg e1]
      obtain ⟨v, hv⟩ : ∃ v, min 273 (T - (F + 273 * N)) = v + 2 := ⟨min 273 (T - (F + 273 * N)) - 2, by omega⟩
      rw [hv]
      obtain ⟨k, u, e, a1, a2⟩ := again_last (v := v) hC hst11 hs4 (by omega)
      obtain ⟨p1, _⟩ := pack_again (t := st.2) (p := (⟨2, 0, ((v + 2 : Nat) : Int), 0⟩ : Pq).pk) h0 hsn rfl (by show ((v + 2 : Nat) : Int) - 2 = _; omega) e
      refine ⟨?_, fun h6 => ?_⟩
      · rw [p1]
        exact a1.mono (by omega)
      · rw [p1]
        exact a2 (rN.rai h6)
  · have e : Q.length = o + N := by omega
    rw [e]
    obtain ⟨c, hc, hcC⟩ := hC.hav
    exact ⟨hc.mono (by omega), fun _ => hC.lo⟩
end
end Go.Proofs.Ytjganponepafpaa

/-
  Zeros of great structs, cell by cell.
-/
namespace Go.Proofs.Ytjganponepafpaa
open Go.RowKit

/-- a type's zero, cell by cell; it is never written out -/
def zOf (P : Program) (t : TypeId) : Array Value := match P.info? t with
  | some i => (match i.zero with | some v => v.cells | none => #[])
  | none => #[]
/-- kinds of zeros -/
def vk : Nat → Value
  | 0 => .int .u16 0
  | 1 => .int .i64 0
  | 2 => .int .u32 0
  | 3 => .nilIface
  | 4 => .pointer none
  | 5 => .slice none 0 0
  | _ => .bool false
def isz (k : Nat) (v : Value) : Bool := match k, v with
  | 0, .int .u16 x => x == 0
  | 1, .int .i64 x => x == 0
  | 2, .int .u32 x => x == 0
  | 3, .nilIface => true
  | 4, .pointer none => true
  | 5, .slice none 0 0 => true
  | 6, .bool false => true
  | _, _ => false
theorem isz_sound (k : Nat) (v : Value) (h : isz k v = true) : v = vk k := by
  unfold isz at h
  split at h
  all_goals first
    | (cases h; done)
    | rfl
    | (have := eq_of_beq h; subst this; rfl)
end Go.Proofs.Ytjganponepafpaa

/-
  The program's coder of LZMA, as it is built.
-/
namespace Go.Proofs.Ytjganponepafpaa
open Go.RowKit

def czk (i : Nat) : Nat := if i < 4 then 1 else if i = 4 then 4 else if i = 5 then 5 else if i = 6 then 1 else if i < 11 then 2 else if i < 1858 then 0 else if i = 1858 then 5 else 6
def cchk : Nat → List Value → Bool
  | i, [] => i == 1860
  | i, v :: l => isz (czk i) v && cchk (i + 1) l
theorem cchk_sound : ∀ (l : List Value) (i : Nat), cchk i l = true → i + l.length = 1860 ∧ ∀ j, j < l.length → l[j]? = some (vk (czk (i + j)))
  | [], i, h => ⟨by have := eq_of_beq h; simpa using this, fun j hj => by simp at hj⟩
  | v :: l, i, h => by
    unfold cchk at h
    obtain ⟨h1, h2⟩ := Bool.and_eq_true_iff.1 h
    obtain ⟨g1, g2⟩ := cchk_sound l (i + 1) h2
    refine ⟨by simp only [List.length_cons]; omega, fun j hj => ?_⟩
    cases j with
    | zero => simp [isz_sound _ _ h1]
    | succ j =>
      simp only [List.length_cons] at hj
      rw [List.getElem?_cons_succ, g2 j (by omega)]
      congr 3
      omega
set_option maxRecDepth 1000000 in
theorem czero_chk : cchk 0 (zOf Try.prog 91).toList = true := by kernel_rfl
def madeCo (Z : Array Value) (a b c d : Int) (x : Option Addr) : Array Value :=
  ((((Z.setIfInBounds 0 (.int .i64 a)).setIfInBounds 1 (.int .i64 b)).setIfInBounds 2 (.int .i64 c)).setIfInBounds 3 (.int .i64 d)).setIfInBounds 4 (.pointer x)
theorem czero_size : (zOf Try.prog 91).size = 1860 := by
  have := (cchk_sound _ _ czero_chk).1
  rw [Array.length_toList] at this
  omega
theorem czero_get (i : Nat) (h : i < 1860) : (zOf Try.prog 91)[i]? = some (vk (czk i)) := by
  have := (cchk_sound _ _ czero_chk).2 i (by rw [Array.length_toList, czero_size]; exact h)
  rw [Nat.zero_add, Array.getElem?_toList] at this
  exact this
theorem czero_low (a : Nat) (h : a < 1847) : (zOf Try.prog 91)[11 + a]? = some (.int .u16 0) := by
  rw [czero_get _ (by omega)]
  unfold czk
  rw [if_neg (by omega), if_neg (by omega), if_neg (by omega), if_neg (by omega), if_neg (by omega), if_pos (by omega)]
  rfl
def coPlaces : List (Nat × Nat) := [(0, 4), (4, 1), (5, 1), (6, 1), (7, 4), (11, 1847), (1858, 1), (1859, 1)]
/-- the fields of a coder that was built, and not begun -/
def coFs (a b c d : Int) (eg : Nat) (v : Value) : List Value :=
  [.int .i64 a, .int .i64 b, .int .i64 c, .int .i64 d, .pointer (some ⟨eg, 0, none⟩), .slice none 0 0, .int .i64 0, .int .u32 0, .int .u32 0, .int .u32 0, .int .u32 0, v, .bool false]
theorem made_co {g eg : Nat} {a b c d : Int} {w : World} (hB : Blk w g 91 (madeCo (zOf Try.prog 91) a b c d (some ⟨eg, 0, none⟩))) : LcAt w g (coFs a b c d eg (.slice none 0 0)) (List.replicate 1847 0) := by
  have hs := czero_size
  refine ⟨_, hB, by unfold madeCo; simp [hs], rfl, fun k hk => ?_, fun a ha => ?_⟩
  · unfold madeCo
    match k, hk with
    | 0, _ => exact (by rw [show cfat 0 = 0 from rfl]; simp [hs]; rfl)
    | 1, _ => exact (by rw [show cfat 1 = 1 from rfl]; simp [hs]; rfl)
    | 2, _ => exact (by rw [show cfat 2 = 2 from rfl]; simp [hs]; rfl)
    | 3, _ => exact (by rw [show cfat 3 = 3 from rfl]; simp [hs]; rfl)
    | 4, _ => exact (by rw [show cfat 4 = 4 from rfl]; simp [hs]; rfl)
    | 5, _ => exact (by rw [show cfat 5 = 5 from rfl]; simp [czero_get 5 (by decide)]; rfl)
    | 6, _ => exact (by rw [show cfat 6 = 6 from rfl]; simp [czero_get 6 (by decide)]; rfl)
    | 7, _ => exact (by rw [show cfat 7 = 7 from rfl]; simp [czero_get 7 (by decide)]; rfl)
    | 8, _ => exact (by rw [show cfat 8 = 8 from rfl]; simp [czero_get 8 (by decide)]; rfl)
    | 9, _ => exact (by rw [show cfat 9 = 9 from rfl]; simp [czero_get 9 (by decide)]; rfl)
    | 10, _ => exact (by rw [show cfat 10 = 10 from rfl]; simp [czero_get 10 (by decide)]; rfl)
    | 11, _ => exact (by rw [show cfat 11 = 1858 from rfl]; simp [czero_get 1858 (by decide)]; rfl)
    | 12, _ => exact (by rw [show cfat 12 = 1859 from rfl]; simp [czero_get 1859 (by decide)]; rfl)
    | k + 13, hk => omega
  · have := sg_lt ha
    unfold madeCo
    rw [Array.getElem?_setIfInBounds_ne (by omega), Array.getElem?_setIfInBounds_ne (by omega), Array.getElem?_setIfInBounds_ne (by omega), Array.getElem?_setIfInBounds_ne (by omega), Array.getElem?_setIfInBounds_ne (by omega), czero_low _ this]
    have e : (List.replicate 1847 (0 : Nat)).getD a 0 = 0 := by
      unfold List.getD
      rw [List.getElem?_replicate, if_pos ha]
      rfl
    rw [e]
    rfl

set_option maxRecDepth 1000000 in
theorem czeroCells_chk : cchk 0 Try.zeroCells91.toList = true := by kernel_rfl
theorem czero_link : Try.zeroCells91 = zOf Try.prog 91 := by
  have hs : Try.zeroCells91.size = 1860 := by
    have := (cchk_sound _ _ czeroCells_chk).1
    rw [Array.length_toList] at this
    omega
  have hg : ∀ i, i < 1860 → Try.zeroCells91[i]? = some (vk (czk i)) := by
    intro i h
    have := (cchk_sound _ _ czeroCells_chk).2 i (by rw [Array.length_toList, hs]; exact h)
    rw [Nat.zero_add, Array.getElem?_toList] at this
    exact this
  apply Array.ext_getElem?
  intro i
  by_cases h : i < 1860
  · rw [hg i h, czero_get i h]
  · rw [Array.getElem?_eq_none (by omega), Array.getElem?_eq_none (by rw [czero_size]; omega)]
end Go.Proofs.Ytjganponepafpaa

/-
  How a decoder of ranges begins, as numbers (cut out of RdNew).
-/
namespace Go.Proofs.Ytjganponepafpaa

/-- behind the first byte and j more -/
def Begun (bs : List UInt8) (j c : Nat) : Prop := j + 1 ≤ bs.length ∧ (bs.getD 0 0).toNat = 0 ∧ c = be ((bs.drop 1).take j)

theorem info_u16 : (Try.prog.info? 34).map (fun i => (i.zero, i.size, i.bytes)) = some (some (.int .u16 0), 1, 2) := by kernel_rfl
end Go.Proofs.Ytjganponepafpaa

/-
  Fresh probabilities.
-/
namespace Go.Proofs.Ytjganponepafpaa
open Go.RowKit

theorem madeNums (n : Nat) : (madeCells #[Value.int .u16 0] n).toList = pv (List.replicate n 0) := by
  rw [toList_madeCells_one]
  simp [pv]

set_option maxRecDepth 100000 in
set_option maxHeartbeats 2000000 in
theorem fresh_any {n : Nat} (hn : n ≤ 1000000) (w : World) :
    Calls Try.prog 38 #[.int .i64 (n : Int)] w fun e w' =>
      e = .returned (.slice (some ⟨w.heap.size, 0, none⟩) n n) ∧ Row w' w.heap.size (List.replicate n 1024) n ∧ Below w.heap.size w w' := by
  obtain ⟨i, hi, hz0, hz1, hz2⟩ := info_parts info_u16
  have h0 : ¬ (n : Int) < 0 := by omega
  have h1 : ¬ (n : Int) > 2147483647 := by omega
  go_enter Try.func38, Try.ntmps38
  go_wp2_with (first
      | (at_make; refine wpList_make_full _ rfl _ _ 89 rfl w.heap.size 34 i _ 1 Try.underlying89 hi hz0 hz1 _ _ _ _ n rfl rfl rfl rfl ?b1 ?b2 (by simp) ?_))
  case b1 => omega
  case b2 => unfold maxLen; omega
  intro w2 ho hg
  rw [madeNums] at ho
  have HO := Lib.hid ho
  have HG := Lib.hid (only_none hg)
  clear ho hg
  go_wp2_with fail
  go_loopw [4, 14] (fun _ k wr => ∃ j : Nat, j ≤ n ∧ k = .int .i64 (j : Int) ∧ wr.ownsRow w.heap.size 34 1 (.slice (some ⟨w.heap.size, 0, none⟩) n n) n (pv (List.replicate j 1024 ++ List.replicate (n - j) 0)) ∧ Below w.heap.size w wr) (fun _ k _ => n - (intOf k).toNat)
  case atStart => exact ⟨0, by omega, rfl, by simpa using HO.out, HG.out⟩
  case round =>
    clear HO HG
    obtain ⟨j, hj, rfl, ho, hb⟩ := hrel
    have HO := Lib.hid ho
    have HG := Lib.hid hb
    clear ho hb
    by_cases hlt : j < n
    · have hfree := HO.out.frozenAt j
      have hl2 : (pv (List.replicate j 1024 ++ List.replicate (n - j) 0)).length = n := by rw [pv_length]; simp; omega
      obtain ⟨old, hold⟩ : ∃ u, wr.cell? ⟨w.heap.size, j, none⟩ = some u := by
        rw [HO.out.cellAt j (by omega), List.getElem?_eq_getElem (by omega)]
        exact ⟨_, rfl⟩
      have i1 : (j : Int) < (n : Int) := by omega
      have i0 : (0 : Int) ≤ (j : Int) := by omega
      have HN := Lib.hid (show (pv (List.replicate j 1024 ++ List.replicate (n - j) 0)).set j (.int .u16 1024) = pv (List.replicate (j + 1) 1024 ++ List.replicate (n - (j + 1)) 0) by
        obtain ⟨m, hm⟩ : ∃ m, n - j = m + 1 := ⟨n - j - 1, by omega⟩
        rw [show n - (j + 1) = m by omega, hm, List.replicate_succ, show (Value.int .u16 1024) = .int .u16 ((1024 : Nat) : Int) from rfl, pv_set, List.set_append_right _ _ (by simp), List.length_replicate, Nat.sub_self, List.set_cons_zero, List.replicate_succ']
        simp)
      clear hl2
      go_wp2_with fail
      go_roundw
      case rel =>
        refine ⟨j + 1, by omega, by go_num, ?_, HG.out.setCell (by simp) _⟩
        have ho := (HO.out.stored j (.int .u16 1024)).1
        rw [HN.out] at ho
        exact ho
      case measure => simp [intOf]; omega
    · obtain rfl : j = n := by omega
      go_wp2_with fail
      go_ret
      refine ⟨rfl, ?_, HG.out⟩
      have ho := HO.out
      rw [Nat.sub_self, List.replicate_zero, List.append_nil] at ho
      unfold Row
      rw [List.length_replicate]
      exact own_mono ho (Nat.zero_le _)
end Go.Proofs.Ytjganponepafpaa
