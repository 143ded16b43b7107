/-
  The document's own filter: a list that is gone through.
-/
import Derived.Test.YtcolnmjginpalaaDoorBjRef
namespace Go.Proofs.YtcolnmjginpalaaDoor
set_option linter.unusedVariables false
set_option linter.unusedSimpArgs false
open Go.RowKit

def RThruPost (w : World) (n : Nat) (out : List UInt8) (e : Ending) (w' : World) : Prop :=
  ∃ A c, e = .returned (.slice A n c) ∧ Sl w' A n (bv out) ∧ (∀ b o, A = some ⟨b, o, none⟩ → w.heap.size ≤ b) ∧ Below w.heap.size w w'
def signI (c : Bool) : Int := if c then 1 else -1
/-- what holds from step to step: the row is the call's own -/
structure Rth (w wr : World) (q cp : Nat) (c : Bool) (b : List UInt8) (i a : Nat) (done : List UInt8) : Prop where
  len : done.length = i
  le : i ≤ b.length
  row : Byt wr q cp (done ++ b.drop i)
  is : done ++ gN c i a (b.drop i) = gN c 0 0 b
  bel : Below w.heap.size w wr
  q0 : w.heap.size ≤ q
theorem Rth.plain {w wr : World} {q cp i a : Nat} {c : Bool} {b done : List UInt8} {x : UInt8} {rr : List UInt8} (h : Rth w wr q cp c b i a done) (hd : b.drop i = x :: rr) (hx : ¬ mkB x = true) : Rth w wr q cp c b (i + 1) (2 * a % 8) (done ++ [x]) := by
  have hdd : b.drop (i + 1) = rr := by rw [← List.drop_drop, hd]; rfl
  have hrl : rr.length + 1 = b.length - i := by rw [← List.length_drop, hd, List.length_cons]
  refine ⟨by rw [List.length_append, h.len]; rfl, by omega, ?_, ?_, h.bel, h.q0⟩
  · have := h.row
    rw [hd] at this
    rw [List.append_assoc, hdd]
    exact this
  · have := h.is
    rw [hd, gN_plain (fun h => hx h.2)] at this
    rw [List.append_assoc, hdd]
    exact this
theorem Rth.stay {w wr : World} {q cp i a : Nat} {c : Bool} {b done : List UInt8} {x : UInt8} {rr : List UInt8} (h : Rth w wr q cp c b i a done) (hd : b.drop i = x :: rr) (hx : 4 ≤ rr.length ∧ mkB x = true) (k : baB a rr = true ∨ egB (rr.getD 3 0) = false) : Rth w wr q cp c b (i + 1) (2 * a % 8 + 1) (done ++ [x]) := by
  have hdd : b.drop (i + 1) = rr := by rw [← List.drop_drop, hd]; rfl
  have hrl : rr.length + 1 = b.length - i := by rw [← List.length_drop, hd, List.length_cons]
  refine ⟨by rw [List.length_append, h.len]; rfl, by omega, ?_, ?_, h.bel, h.q0⟩
  · have := h.row
    rw [hd] at this
    rw [List.append_assoc, hdd]
    exact this
  · have := h.is
    rw [hd, gN_stay hx k] at this
    rw [List.append_assoc, hdd]
    exact this
theorem rmask {a : Nat} (h : a < 8) : wrap64 ((a : Int) * 2) = (a : Int) * 2 ∧ wrap64 ((a : Int) * 2 % 8 + 1) = (a : Int) * 2 % 8 + 1 ∧ (((2 * a % 8 + 1 : Nat) : Int)) = (a : Int) * 2 % 8 + 1 ∧ ((a : Int) * 2).tmod 8 = (a : Int) * 2 % 8 :=
  ⟨IntWalk.wrap64_in _ (by omega), IntWalk.wrap64_in _ (by omega), by omega, Int.tmod_eq_emod_of_nonneg (by omega)⟩
theorem rplaces {i n : Nat} (h : i + 4 < n) (hn : n ≤ 1000000) : (IntKind.i64.wrap ((i : Int) + 1) = (i : Int) + 1 ∧ IntKind.i64.wrap ((i : Int) + 2) = (i : Int) + 2 ∧ IntKind.i64.wrap ((i : Int) + 3) = (i : Int) + 3 ∧ IntKind.i64.wrap ((i : Int) + 4) = (i : Int) + 4) ∧
    (0 : Int) ≤ (i : Int) + 1 ∧ (i : Int) + 1 < (n : Int) ∧ (0 : Int) ≤ (i : Int) + 2 ∧ (i : Int) + 2 < (n : Int) ∧ (0 : Int) ≤ (i : Int) + 3 ∧ (i : Int) + 3 < (n : Int) ∧ (0 : Int) ≤ (i : Int) + 4 ∧ (i : Int) + 4 < (n : Int) :=
  ⟨⟨IntWalk.i64_in _ (by omega), IntWalk.i64_in _ (by omega), IntWalk.i64_in _ (by omega), IntWalk.i64_in _ (by omega)⟩, by omega, by omega, by omega, by omega, by omega, by omega, by omega, by omega⟩
theorem rplacesW {i n : Nat} (h : i + 4 < n) (hn : n ≤ 1000000) : wrap64 ((i : Int) + 1) = (i : Int) + 1 ∧ wrap64 ((i : Int) + 2) = (i : Int) + 2 ∧ wrap64 ((i : Int) + 3) = (i : Int) + 3 ∧ wrap64 ((i : Int) + 4) = (i : Int) + 4 ∧ wrap64 ((i : Int) + 5) = (i : Int) + 5 :=
  ⟨IntWalk.wrap64_in _ (by omega), IntWalk.wrap64_in _ (by omega), IntWalk.wrap64_in _ (by omega), IntWalk.wrap64_in _ (by omega), IntWalk.wrap64_in _ (by omega)⟩
theorem rlast {t : Nat} (h : t / 16777216 % 2 = 1) : ((pu4 t).getD 3 0).toNat = 255 := by
  show (if t / 16777216 % 2 = 1 then (255 : UInt8) else 0).toNat = 255
  rw [if_pos h]
  rfl
theorem rlast0 {t : Nat} (h : ¬ t / 16777216 % 2 = 1) : ((pu4 t).getD 3 0).toNat = 0 := by
  show (if t / 16777216 % 2 = 1 then (255 : UInt8) else 0).toNat = 0
  rw [if_neg h]
  rfl
theorem rlastI (t : Nat) : ((t : Int) / 16777216 % 2 == 1) = decide (t / 16777216 % 2 = 1) ∧ (((t : Int) / 16777216).tmod 2 == 1) = decide (t / 16777216 % 2 = 1) := by
  have h : (t : Int) / 16777216 = ((t / 16777216 : Nat) : Int) := by omega
  rw [h, Int.tmod_eq_emod_of_nonneg (by omega)]
  generalize t / 16777216 = u
  refine ⟨?_, ?_⟩ <;> (rw [Bool.eq_iff_iff, beq_iff_eq, decide_eq_true_iff]; omega)
theorem rflip {a t M : Nat} (hM : loN a = M) (h1 : 1 ≤ M) (h2 : M ≤ 4294967296) (ht : t < 4294967296) : ∃ r : Nat, (t : Int).tmod (M : Int) = (r : Int) ∧ IntKind.i64.wrap ((t : Int) - (r : Int)) = (t : Int) - (r : Int) ∧ IntKind.i64.wrap ((t : Int) - (r : Int) + (M : Int)) = (t : Int) - (r : Int) + (M : Int) ∧
    IntKind.i64.wrap ((t : Int) - (r : Int) + (M : Int) - 1) = (t : Int) - (r : Int) + (M : Int) - 1 ∧ IntKind.i64.wrap ((t : Int) - (r : Int) + (M : Int) - 1 - (r : Int)) = ((flN a t : Nat) : Int) := by
  have h3 := Nat.mod_lt t (show 0 < M by omega)
  have h4 := Nat.mod_le t M
  refine ⟨t % M, ?_, ?_, ?_, ?_, ?_⟩
  · rw [Int.tmod_eq_emod_of_nonneg (by omega)]
    rfl
  · exact IntWalk.i64_in _ (by omega)
  · exact IntWalk.i64_in _ (by omega)
  · exact IntWalk.i64_in _ (by omega)
  · rw [IntWalk.i64_in _ (by omega)]
    unfold flN
    rw [hM]
    omega
theorem rflip_1 {t : Nat} (ht : t < 4294967296) : ∃ r : Nat, (t : Int).tmod 16777216 = (r : Int) ∧ IntKind.i64.wrap ((t : Int) - (r : Int)) = (t : Int) - (r : Int) ∧ IntKind.i64.wrap ((t : Int) - (r : Int) + 16777216) = (t : Int) - (r : Int) + 16777216 ∧
    IntKind.i64.wrap ((t : Int) - (r : Int) + 16777216 - 1) = (t : Int) - (r : Int) + 16777216 - 1 ∧ IntKind.i64.wrap ((t : Int) - (r : Int) + 16777216 - 1 - (r : Int)) = ((flN 1 t : Nat) : Int) := rflip (a := 1) rfl (by decide) (by decide) ht
theorem rflip_2 {t : Nat} (ht : t < 4294967296) : ∃ r : Nat, (t : Int).tmod 65536 = (r : Int) ∧ IntKind.i64.wrap ((t : Int) - (r : Int)) = (t : Int) - (r : Int) ∧ IntKind.i64.wrap ((t : Int) - (r : Int) + 65536) = (t : Int) - (r : Int) + 65536 ∧
    IntKind.i64.wrap ((t : Int) - (r : Int) + 65536 - 1) = (t : Int) - (r : Int) + 65536 - 1 ∧ IntKind.i64.wrap ((t : Int) - (r : Int) + 65536 - 1 - (r : Int)) = ((flN 2 t : Nat) : Int) := rflip (a := 2) rfl (by decide) (by decide) ht
theorem rflip_4 {t : Nat} (ht : t < 4294967296) : ∃ r : Nat, (t : Int).tmod 256 = (r : Int) ∧ IntKind.i64.wrap ((t : Int) - (r : Int)) = (t : Int) - (r : Int) ∧ IntKind.i64.wrap ((t : Int) - (r : Int) + 256) = (t : Int) - (r : Int) + 256 ∧
    IntKind.i64.wrap ((t : Int) - (r : Int) + 256 - 1) = (t : Int) - (r : Int) + 256 - 1 ∧ IntKind.i64.wrap ((t : Int) - (r : Int) + 256 - 1 - (r : Int)) = ((flN 4 t : Nat) : Int) := rflip (a := 4) rfl (by decide) (by decide) ht
theorem rsum (y0 y1 y2 y3 : UInt8) (tl : List UInt8) : IntKind.i64.wrap (y0.toNat : Int) = (y0.toNat : Int) ∧ IntKind.i64.wrap (y1.toNat : Int) = (y1.toNat : Int) ∧ IntKind.i64.wrap (y2.toNat : Int) = (y2.toNat : Int) ∧ IntKind.i64.wrap (y3.toNat : Int) = (y3.toNat : Int) ∧
    IntKind.i64.wrap (256 * (y1.toNat : Int)) = 256 * (y1.toNat : Int) ∧ IntKind.i64.wrap ((y0.toNat : Int) + 256 * (y1.toNat : Int)) = (y0.toNat : Int) + 256 * (y1.toNat : Int) ∧ IntKind.i64.wrap (65536 * (y2.toNat : Int)) = 65536 * (y2.toNat : Int) ∧
    IntKind.i64.wrap ((y0.toNat : Int) + 256 * (y1.toNat : Int) + 65536 * (y2.toNat : Int)) = (y0.toNat : Int) + 256 * (y1.toNat : Int) + 65536 * (y2.toNat : Int) ∧ IntKind.i64.wrap (16777216 * (y3.toNat : Int)) = 16777216 * (y3.toNat : Int) ∧
    IntKind.i64.wrap ((y0.toNat : Int) + 256 * (y1.toNat : Int) + 65536 * (y2.toNat : Int) + 16777216 * (y3.toNat : Int)) = ((le4 (y0 :: y1 :: y2 :: y3 :: tl) : Nat) : Int) := by
  have h0 := y0.toNat_lt
  have h1 := y1.toNat_lt
  have h2 := y2.toNat_lt
  have h3 := y3.toNat_lt
  have hl : le4 (y0 :: y1 :: y2 :: y3 :: tl) = y0.toNat + 256 * y1.toNat + 65536 * y2.toNat + 16777216 * y3.toNat := rfl
  refine ⟨IntWalk.i64_in _ (by omega), IntWalk.i64_in _ (by omega), IntWalk.i64_in _ (by omega), IntWalk.i64_in _ (by omega), IntWalk.i64_in _ (by omega), IntWalk.i64_in _ (by omega), IntWalk.i64_in _ (by omega), IntWalk.i64_in _ (by omega), IntWalk.i64_in _ (by omega), ?_⟩
  rw [IntWalk.i64_in _ (by omega), hl]
  omega
theorem Rth.drewN {w wr : World} {q cp i a : Nat} {c : Bool} {b done : List UInt8} (h : Rth w wr q cp c b i a done) (n : Nat) : Rth w (wr.drewN n) q cp c b i a done := ⟨h.len, h.le, h.row, h.is, below_drewN h.bel n, h.q0⟩
def turnW (W : World) (q i t : Nat) (z : Int) : World :=
  (((W.setCell ⟨q, i + 1, none⟩ (.int .u8 ((t : Int) % 256))).setCell ⟨q, i + 2, none⟩ (.int .u8 ((t : Int) / 256 % 256))).setCell ⟨q, i + 3, none⟩ (.int .u8 ((t : Int) / 65536 % 256))).setCell ⟨q, i + 4, none⟩ (.int .u8 z)
theorem set_mid (d : List UInt8) (x y0 y1 y2 y3 z0 z1 z2 z3 : UInt8) (tl : List UInt8) {i : Nat} (hi : d.length = i) : ((((d ++ x :: y0 :: y1 :: y2 :: y3 :: tl).set (i + 1) z0).set (i + 2) z1).set (i + 3) z2).set (i + 4) z3 = d ++ x :: z0 :: z1 :: z2 :: z3 :: tl := by
  subst hi
  rw [List.set_append_right _ _ (by omega), List.set_append_right _ _ (by omega), List.set_append_right _ _ (by omega), List.set_append_right _ _ (by omega)]
  rw [show d.length + 1 - d.length = 1 by omega, show d.length + 2 - d.length = 2 by omega, show d.length + 3 - d.length = 3 by omega, show d.length + 4 - d.length = 4 by omega]
  rfl
theorem Rth.turn {w wr : World} {q cp i a t : Nat} {z : Int} {c : Bool} {b done : List UInt8} {x y0 y1 y2 y3 : UInt8} {tl : List UInt8} (h : Rth w wr q cp c b i a done) (hd : b.drop i = x :: y0 :: y1 :: y2 :: y3 :: tl) (hx : mkB x = true)
    (k : ¬ (baB a (y0 :: y1 :: y2 :: y3 :: tl) = true ∨ egB y3 = false)) (ht : t = tuN c i a (le4 (y0 :: y1 :: y2 :: y3 :: tl))) (hz : z = (((pu4 t).getD 3 0).toNat : Int)) : Rth w (turnW wr q i t z) q cp c b (i + 5) 0 (done ++ x :: pu4 t) := by
  have hdd : b.drop (i + 5) = tl := by rw [← List.drop_drop, hd]; rfl
  have hrl : tl.length + 5 = b.length - i := by rw [← List.length_drop, hd]; rfl
  have hrow := h.row
  rw [hd] at hrow
  have hr2 := (((hrow.put (i + 1) ((pu4 t).getD 0 0)).put (i + 2) ((pu4 t).getD 1 0)).put (i + 3) ((pu4 t).getD 2 0)).put (i + 4) ((pu4 t).getD 3 0)
  rw [set_mid _ _ _ _ _ _ _ _ _ _ _ h.len, ← pu_0, ← pu_1, ← pu_2, ← hz] at hr2
  refine ⟨by rw [List.length_append, h.len]; rfl, by omega, ?_, ?_, ?_, h.q0⟩
  · rw [List.append_assoc, hdd]
    exact hr2
  · have := h.is
    rw [hd, gN_turn ⟨by simp, hx⟩ k] at this
    rw [List.append_assoc, hdd, ht]
    exact this
  · exact (((h.bel.setCell h.q0 _).setCell h.q0 _).setCell h.q0 _).setCell h.q0 _
def TurnRelI (c : Bool) (p a s : Nat) (v : Value) : Prop := ∃ t : Nat, t < 4294967296 ∧ v = .int .i64 (t : Int) ∧ (t = tgN c p s ∨ (t = tuN c p a s ∧ egB (byN a t) = false))
theorem mu_posI {a t : Nat} (he : egB (byN a t) = true) : turnMu a (.int .i64 (t : Int)) = 1 := by
  unfold turnMu
  rw [show (intOf (Value.int .i64 (t : Int))).toNat = t from Int.toNat_natCast t, if_pos he]
theorem mu_zeroI {a t : Nat} (he : egB (byN a t) = false) : turnMu a (.int .i64 (t : Int)) = 0 := by
  unfold turnMu
  rw [show (intOf (Value.int .i64 (t : Int))).toNat = t from Int.toNat_natCast t, if_neg (by rw [he]; decide)]
theorem rdir (c : Bool) {i : Nat} (hi : i ≤ 1000000) : ∃ D : Int, wrap64 (signI c * ((i : Int) + 5)) = D ∧ wrap64 ((i : Int) + 5) = (i : Int) + 5 ∧ -2000000 ≤ D ∧ D ≤ 2000000 ∧ ∀ s : Nat, ((tgN c i s : Nat) : Int) = ((s : Int) + D) % 4294967296 := by
  cases c
  · refine ⟨-((i : Int) + 5), ?_, IntWalk.wrap64_in _ (by omega), by omega, by omega, fun s => ?_⟩
    · show wrap64 (-1 * ((i : Int) + 5)) = _
      rw [Int.neg_mul, Int.one_mul]
      exact IntWalk.wrap64_in _ (by omega)
    · rw [tg_false]
      rfl
  · refine ⟨(i : Int) + 5, ?_, IntWalk.wrap64_in _ (by omega), by omega, by omega, fun s => tg_true i s⟩
    show wrap64 (1 * ((i : Int) + 5)) = _
    rw [Int.one_mul]
    exact IntWalk.wrap64_in _ (by omega)
theorem rsumD {s : Nat} {D : Int} (hs : s < 4294967296) (h0 : -2000000 ≤ D) (h1 : D ≤ 2000000) : wrap64 ((s : Int) + D) = (s : Int) + D ∧ -4611686018427387904 ≤ (s : Int) + D ∧ (s : Int) + D ≤ 4611686018427387904 :=
  ⟨IntWalk.wrap64_in _ (by omega), by omega, by omega⟩
theorem rth_meas {n i s : Nat} (h : i + 4 < n) (hs : 1 ≤ s) : n - (intOf (Value.int .i64 ((i : Int) + (s : Int)))).toNat < n - (intOf (Value.int .i64 (i : Int))).toNat := by
  simp [intOf]
  omega
theorem rgap {i g a : Nat} {l m : Int} (h : (i : Int) - l = (g : Int)) (hi : i ≤ 1000000) (h1 : 1 ≤ g) (hA : Aged i l m a) : wrap64 ((i : Int) - l) = (g : Int) := by
  obtain ⟨g', mn, k1, k2, k3, k4, k5, k6⟩ := hA
  rw [IntWalk.wrap64_in _ (by omega)]
  exact h
theorem rdouble {mn j g M : Nat} (hM : M = mn * 2 ^ (j - 1)) (h1 : 1 ≤ j) (h : j < g) (hg : ¬ g > 3) (hm : mn < 8) : M * 2 = mn * 2 ^ (j + 1 - 1) ∧ M * 2 ≤ 100 := by
  have hc : j = 1 ∨ j = 2 := by omega
  rcases hc with rfl | rfl
  · rw [hM, show 1 - 1 = 0 from rfl, show 1 + 1 - 1 = 1 from rfl]; omega
  · rw [hM, show 2 - 1 = 1 from rfl, show 2 + 1 - 1 = 2 from rfl]; omega
theorem rmod {mn g M a : Nat} (hM : M = mn * 2 ^ (g - 1)) (hg : ¬ g > 3) (h : agN g mn = a) : (M : Int) % 8 = (a : Int) := by
  unfold agN at h
  rw [if_neg hg, ← hM] at h
  omega
theorem rin_meas {g j : Nat} (h : j < g) : g - (intOf (Value.int .i64 ((j : Int) + 1))).toNat < g - (intOf (Value.int .i64 (j : Int))).toNat := by
  simp [intOf]
  omega
theorem rw_two {M : Nat} (h : M ≤ 100) : wrap64 ((M : Int) * 2) = (M : Int) * 2 := IntWalk.wrap64_in _ (by omega)
theorem rw_one {j : Nat} (h : j ≤ 1000000) : wrap64 ((j : Int) + 1) = (j : Int) + 1 := IntWalk.wrap64_in _ (by omega)
theorem rw_bit {i t s n : Nat} (h : i + 4 < n) (hn : n ≤ 1000000) (hs : s = 4 - t) (ht : t ≤ 3) : wrap64 ((i : Int) + 4 - (t : Int)) = (i : Int) + (s : Int) ∧ (0 : Int) ≤ (i : Int) + (s : Int) ∧ (i : Int) + (s : Int) < (n : Int) := by
  refine ⟨?_, by omega, by omega⟩
  rw [IntWalk.wrap64_in _ (by omega)]
  omega
set_option maxRecDepth 100000 in
set_option maxHeartbeats 8000000 in
theorem rthrough_any {A : Option Addr} {n cp : Nat} {b : List UInt8} {c : Bool} {w : World} (hS : Sl w A n (bv b)) (hn : n ≤ 1000000) :
    Calls Tryd.prog 20 #[.slice A n cp, .int .i64 (signI c)] w (RThruPost w n (gN c 0 0 b)) := by
  obtain ⟨i, hi, hz0, hz1, hz2⟩ := info_parts info_u8
  have hbl : b.length = n := by rw [← bv_length]; exact hS.1
  have HS := Lib.hid hS
  have HN := Lib.hid (And.intro hn hbl)
  clear hS hn hbl
  go_enter Tryd.func20, Tryd.ntmps20
  go_wp2_with (at_builtin; refine wpList_app _ rfl (.tmp 16) (.tmp 17) 22 rfl w.heap.size 5 i _ 1 Tryd.underlying22 hi hz0 hz1 hz2 rfl _ 0 [] rfl (own_empty w (Nat.le_refl _) _) A n cp (bv b) rfl (HS.out.alloc _) (bv_one b) (by have := HN.out; omega) Nat.one_pos (by simp) ?_)
  intro Ao co w2 ho hg
  have hbel : Below w.heap.size w w2 := ((Below.refl w.heap.size w).alloc (Nat.le_refl _) _).grown hg (by simp) (fun k e => by simp [Value.ownBlock] at e; omega)
  by_cases h5 : n ≤ 4
  · as_aux_lemma =>
    have hsl := own_facts ho
    have HF := Lib.hid (And.intro hsl hbel)
    have g1 : ¬ (4 : Int) < (n : Int) := by omega
    have HH5 := Lib.hid h5
    clear ho hg hbel h5 hsl
    go_wp2_with fail
    go_loop [8] (fun v => v = .int .i64 0) (fun _ => 0)
    case atStart => rfl
    case round =>
      subst hrel
      go_wp2_with fail
      go_ret
      rw [gN_short _ _ _ _ (by have := HN.out; have := HH5.out; omega)]
      exact ⟨Ao, co, rfl, HF.out.1.1, fun x y e => (HF.out.1.2.2.2 x y e).1, HF.out.2⟩
  · obtain ⟨q, cq, hv, hq, hlt⟩ := ho.form (by omega)
    injection hv with h1 h2 h3
    subst h1 h3
    have hrow : Byt w2 q co b := by
      have := own_mono ho (Nat.zero_le _)
      rw [← HN.out.2] at this
      exact this
    have H0 := Lib.hid (show Rth w w2 q co c b 0 0 [] from ⟨rfl, Nat.zero_le _, hrow, rfl, hbel, hq⟩)
    clear ho hg hbel h5 hq hlt hrow
    go_wp2_with fail
    go_loopw [6, 7, 8] (fun mv lv v wr => ∃ (i a : Nat) (l m : Int) (done : List UInt8), mv = .int .i64 m ∧ lv = .int .i64 l ∧ v = .int .i64 (i : Int) ∧ Aged i l m a ∧ Rth w wr q co c b i a done) (fun _ _ v _ => n - (intOf v).toNat)
    case atStart => exact ⟨0, 0, -1, 0, [], rfl, rfl, rfl, aged_start, H0.out⟩
    case round =>
      clear H0
      obtain ⟨i, a, l, m, done, rfl, rfl, rfl, hag, hT⟩ := hrel
      by_cases hlt : i + 4 < n
      · obtain ⟨x, rr, hd⟩ : ∃ x rr, b.drop i = x :: rr := by
          cases hx : b.drop i with
          | nil =>
            have := congrArg List.length hx
            rw [List.length_drop] at this
            have h0 : ([] : List UInt8).length = 0 := rfl
            have := HN.out
            omega
          | cons x rr => exact ⟨x, rr, rfl⟩
        have hrl : rr.length + 1 = n - i := by
          have := congrArg List.length hd
          rw [List.length_drop, List.length_cons] at this
          have := HN.out
          omega
        have hrow := hT.row
        have hlen := hT.len
        have hcell : ∀ j, j ≤ 4 → wr.cell? ⟨q, i + j, none⟩ = some (.int .u8 (((x :: rr).getD j 0).toNat : Int)) := fun j hj => by
          rw [hrow.cell (i := i + j) (by rw [List.length_append, List.length_drop]; have := HN.out; omega), List.getD_eq_getElem?_getD, List.getElem?_append_right (by omega), hlen, show i + j - i = j by omega, hd, ← List.getD_eq_getElem?_getD]
        have hfr : ∀ j, wr.frozen? ⟨q, j, none⟩ = false := hrow.free
        have HC := Lib.hid (And.intro hcell (And.intro hfr hrl))
        have c0 : wr.cell? ⟨q, i, none⟩ = some (.int .u8 (x.toNat : Int)) := hcell 0 (by omega)
        have e1 : wrap64 ((i : Int) + 4) = (i : Int) + 4 := IntWalk.wrap64_in _ (by have := HN.out; omega)
        have e2 : wrap64 ((i : Int) + 1) = (i : Int) + 1 := IntWalk.wrap64_in _ (by have := HN.out; omega)
        have i0 : (0 : Int) ≤ (i : Int) := by omega
        have i1 : (i : Int) < (n : Int) := by omega
        have i2 : (i : Int) + 4 < (n : Int) := by omega
        have HLT := Lib.hid hlt
        have HTH := Lib.hid hT
        have HD := Lib.hid hd
        have HAG := Lib.hid hag
        have HE := Lib.hid (And.intro e1 e2)
        clear hT hag hlt hrow hlen hcell hfr hrl hd
        by_cases hx : mkB x = true
        · have hxc : x.toNat = 232 ∨ x.toNat = 233 := by
            unfold mkB at hx
            rw [Bool.or_eq_true, beq_iff_eq, beq_iff_eq] at hx
            rcases hx with rfl | rfl
            · exact .inl rfl
            · exact .inr rfl
          have HXC := Lib.hid (And.intro hx hxc)
          obtain ⟨g, mn, hg, hg1, hm, hm8, hl, hgm⟩ := HAG.out
          subst hm
          have HGM := Lib.hid (And.intro hg1 (And.intro hm8 hgm))
          have HHG := Lib.hid hg
          clear hx hxc hg1 hm8 hl hgm hg
          go_upto_region 6 with fail
          go_cut [35] from 19 to 199 (fun v wx => v = .bool false ∧ wr = wx)
          case first => as_aux_lemma =>
            rcases HXC.out.2 with h | h
            · have h232 : ((x.toNat : Int) != 232) = false := by rw [h]; rfl
              go_wp2_with fail
              go_meet
              exact ⟨rfl, rfl⟩
            · have h232 : ((x.toNat : Int) != 232) = true := by rw [h]; rfl
              have h233 : ((x.toNat : Int) != 233) = false := by rw [h]; rfl
              go_wp2_with fail
              go_meet
              exact ⟨rfl, rfl⟩
          case rest =>
            obtain ⟨rfl, rfl⟩ := hcut
            have HE3 := Lib.hid (rgap HHG.out (show i ≤ 1000000 by have := HLT.out; have := HN.out; omega) HGM.out.1 HAG.out)
            clear e1 e2
            go_upto_if 42 with fail
            rw [HE3.out]
            go_cut [6, 10] from 19 to 199 (fun v _ wx => v = .int .i64 (a : Int) ∧ wr = wx)
            case first => as_aux_lemma =>
              by_cases h3 : g > 3
              · have g3 : (g : Int) > 3 := by omega
                have ha0 : a = 0 := by
                  have := HGM.out.2.2
                  unfold agN at this
                  rw [if_pos h3] at this
                  exact this.symm
                go_wp2_with fail
                go_meet
                exact ⟨by rw [ha0]; rfl, rfl⟩
              · have g3 : ¬ (g : Int) > 3 := by omega
                have HG3 := Lib.hid h3
                go_wp2_with fail
                go_loop [6, 10] (fun mv kv => ∃ j M : Nat, 1 ≤ j ∧ j ≤ g ∧ Hid (M = mn * 2 ^ (j - 1)) ∧ M ≤ 100 ∧ kv = .int .i64 (j : Int) ∧ mv = .int .i64 (M : Int)) (fun _ kv => g - (intOf kv).toNat)
                case atStart => exact ⟨1, mn, Nat.le_refl _, HGM.out.1, Lib.hid (by rw [show 1 - 1 = 0 from rfl, Nat.pow_zero, Nat.mul_one]), by have := HGM.out.2.1; omega, rfl, rfl⟩
                case round => as_aux_lemma =>
                  obtain ⟨j, M, hj1, hjg, hM, hM1, rfl, rfl⟩ := hrel
                  by_cases hjl : j < g
                  · have HM2 := Lib.hid (rdouble hM.out hj1 hjl HG3.out HGM.out.2.1)
                    have HJ := Lib.hid (And.intro hj1 hjl)
                    have j0 : (j : Int) < (g : Int) := by omega
                    have HE8 := Lib.hid (And.intro (rw_two hM1) (rw_one (show j ≤ 1000000 by have := HG3.out; omega)))
                    clear hM hM1 hj1 hjg hjl
                    have e7 := HE8.out.1
                    have e8 := HE8.out.2
                    go_wp2_with fail
                    go_round
                    case rel => exact ⟨j + 1, M * 2, by have := HJ.out; omega, HJ.out.2, Lib.hid HM2.out.1, HM2.out.2, by first | go_num | (rw [HE8.out.2]; go_num), by first | go_num | (rw [HE8.out.1]; go_num)⟩
                    case measure => first | exact rin_meas HJ.out.2 | (rw [HE8.out.2]; exact rin_meas HJ.out.2)
                  · obtain rfl : j = g := by omega
                    have HM2 := Lib.hid (rmod hM.out HG3.out HGM.out.2.2)
                    have j0 : ¬ (j : Int) < (j : Int) := by omega
                    clear hM hM1 hj1 hjg hjl
                    go_wp2_with fail
                    go_meet
                    exact ⟨by rw [← HM2.out], rfl⟩
            case rest =>
              obtain ⟨rfl, rfl⟩ := hcut
              go_upto_if 54 with fail
              go_cut [11] from 19 to 199 (fun s wx => s = .bool (baB a rr) ∧ wr = wx)
              case first => as_aux_lemma =>
                by_cases h0 : a = 0
                · have g0 : ((a : Int) != 0) = false := by rw [h0]; rfl
                  have hb : baB a rr = false := by rw [h0]; rfl
                  have HBA := Lib.hid hb
                  clear hb h0
                  go_wp2_with fail
                  go_meet
                  exact ⟨by rw [HBA.out], rfl⟩
                · have g0 : ((a : Int) != 0) = true := by simp [h0]
                  cases hal : alB a
                  · have hb : baB a rr = true := by
                      unfold baB
                      rw [hal]
                      simp [h0]
                    have HBA := Lib.hid hb
                    have h124 : a ≠ 1 ∧ a ≠ 2 ∧ a ≠ 4 := ⟨(fun h => by rw [h] at hal; cases hal), (fun h => by rw [h] at hal; cases hal), (fun h => by rw [h] at hal; cases hal)⟩
                    have k1 : ((a : Int) != 1) = true := by simp; omega
                    have k2 : ((a : Int) != 2) = true := by simp; omega
                    have k4 : ((a : Int) != 4) = true := by simp; omega
                    clear hb h0 h124 hal
                    go_wp2_with fail
                    go_meet
                    exact ⟨by rw [HBA.out], rfl⟩
                  · have hb : baB a rr = egB ((x :: rr).getD (4 - btN a) 0) := by
                      have hbt : btN a ≤ 3 := (bit_has hal h0).2.2
                      unfold baB
                      rw [hal, show 4 - btN a = (3 - btN a) + 1 by omega, List.getD_cons_succ]
                      simp [h0]
                    have HBA := Lib.hid hb
                    have cy := HC.out.1 (4 - btN a) (by omega)
                    have KB := Lib.hid (fun w => rbit_any hal w)
                    have KE := Lib.hid (fun w => redge_any ((x :: rr).getD (4 - btN a) 0) rfl w)
                    generalize (x :: rr).getD (4 - btN a) 0 = y at *
                    obtain ⟨s, hs⟩ : ∃ s, s = 4 - btN a := ⟨_, rfl⟩
                    rw [← hs] at cy
                    have hbt := (bit_has hal h0).2
                    have HE6 := Lib.hid (rw_bit HLT.out HN.out.1 hs hbt.2)
                    clear hb
                    rcases alB_cases hal h0 with rfl | rfl | rfl
                    all_goals
                      clear hal h0 hs hbt
                      have e1 := HE.out.1
                      have e6 := HE6.out.1
                      have s0 := HE6.out.2.1
                      have s1 := HE6.out.2.2
                      go_wp2_with fail
                      refine (KB.out _).mono ?_
                      rintro e w3 ⟨rfl, rfl⟩
                      go_wp2_with fail
                      refine (KE.out _).mono ?_
                      rintro e w3 ⟨rfl, rfl⟩
                      go_wp2_with fail
                      go_meet
                      exact ⟨by rw [HBA.out], rfl⟩
              case rest =>
                obtain ⟨rfl, rfl⟩ := hcut
                have HMK := Lib.hid (rmask HAG.out.lt)
                have HX4 := Lib.hid (And.intro (show 4 ≤ rr.length by have := HC.out.2.2; have := HLT.out; omega) HXC.out.1)
                cases hb : baB a rr
                · have c4 := HC.out.1 4 (Nat.le_refl 4)
                  rw [show (x :: rr).getD 4 0 = rr.getD 3 0 from rfl] at c4
                  have KE := Lib.hid (fun w => redge_any (rr.getD 3 0) rfl w)
                  have HBB := Lib.hid hb
                  obtain ⟨b3, hb3⟩ : ∃ y, rr.getD 3 0 = y := ⟨_, rfl⟩
                  rw [hb3] at c4 KE
                  have HB3 := Lib.hid hb3
                  clear hb hb3
                  cases he : egB b3
                  · as_aux_lemma =>
                    rw [he] at KE
                    have HR := Lib.hid (HTH.out.stay HD.out HX4.out (.inr (by rw [HB3.out, he])))
                    have e1 := HE.out.1
                    have e2 := HE.out.2
                    have m1 := HMK.out.1
                    have m2 := HMK.out.2.1
                    have m3 := HMK.out.2.2.2
                    clear he
                    go_wp2_with fail
                    refine (KE.out _).mono ?_
                    rintro e w3 ⟨rfl, rfl⟩
                    go_wp2_with fail
                    go_roundw
                    case rel => exact ⟨i + 1, 2 * a % 8 + 1, (i : Int), _, done ++ [x], by rw [HMK.out.2.2.1], rfl, by first | go_num | (rw [HE.out.2]; go_num), aged_stay i a, HR.out⟩
                    case measure => first | exact rth_meas HLT.out (Nat.le_refl 1) | (rw [HE.out.2]; exact rth_meas HLT.out (Nat.le_refl 1))
                  · as_aux_lemma =>
                    rw [he] at KE
                    obtain ⟨y0, y1, y2, y3, tl, rfl⟩ : ∃ y0 y1 y2 y3 tl, rr = y0 :: y1 :: y2 :: y3 :: tl := by
                      match rr, HX4.out.1 with
                      | y0 :: y1 :: y2 :: y3 :: tl, _ => exact ⟨y0, y1, y2, y3, tl, rfl⟩
                    obtain rfl : y3 = b3 := HB3.out
                    have hp1 := ba_parts HBB.out
                    have hs32 : le4 (y0 :: y1 :: y2 :: y3 :: tl) < 4294967296 := by
                      have h : le4 (y0 :: y1 :: y2 :: y3 :: tl) = y0.toNat + 256 * y1.toNat + 65536 * y2.toNat + 16777216 * y3.toNat := rfl
                      have := y0.toNat_lt
                      have := y1.toNat_lt
                      have := y2.toNat_lt
                      have := y3.toNat_lt
                      omega
                    have c1 : wr.cell? ⟨q, i + 1, none⟩ = some (.int .u8 (y0.toNat : Int)) := HC.out.1 1 (by omega)
                    have c2 : wr.cell? ⟨q, i + 2, none⟩ = some (.int .u8 (y1.toNat : Int)) := HC.out.1 2 (by omega)
                    have c3 : wr.cell? ⟨q, i + 3, none⟩ = some (.int .u8 (y2.toNat : Int)) := HC.out.1 3 (by omega)
                    have HSN := Lib.hid (rsum y0 y1 y2 y3 tl)
                    have HPL := Lib.hid (rplaces (i := i) (n := n) HLT.out HN.out.1)
                    obtain ⟨D, hD⟩ := rdir c (i := i) (by have := HLT.out; have := HN.out; omega)
                    have HDD := Lib.hid hD
                    have hte : a ≠ 0 → egB (byN a (le4 (y0 :: y1 :: y2 :: y3 :: tl))) = false := fun h0 => by
                      have : byN a (le4 (y0 :: y1 :: y2 :: y3 :: tl)) = UInt8.ofNat (le4 (y0 :: y1 :: y2 :: y3 :: tl) / quN a) := rfl
                      rw [this, qu_byte hp1.1 h0 (by simp)]
                      exact hp1.2 h0
                    have HTN := Lib.hid (fun (z : Int) (m : Nat) (hz : z = (((pu4 (tuN c i a (le4 (y0 :: y1 :: y2 :: y3 :: tl)))).getD 3 0).toNat : Int)) => (HTH.out.drewN m).turn (z := z) HD.out HX4.out.2 (by rintro (h | h); (rw [HBB.out] at h; cases h); (rw [he] at h; cases h)) rfl hz)
                    obtain ⟨s, hs⟩ : ∃ s, le4 (y0 :: y1 :: y2 :: y3 :: tl) = s := ⟨_, rfl⟩
                    rw [hs] at HSN hs32 hte HTN
                    have HS32 := Lib.hid hs32
                    have HP1 := Lib.hid (And.intro hp1.1 hte)
                    have HSD := Lib.hid (rsumD hs32 hD.2.2.1 hD.2.2.2.1)
                    have e1 := HE.out.1
                    clear hp1 hs32 he hD hte hs
                    go_wp2_with fail
                    refine (KE.out _).mono ?_
                    rintro e w3 ⟨rfl, rfl⟩
                    have q1 := HPL.out
                    have q2 := HSN.out
                    go_wp2_with fail
                    go_quiet (fail)
                    have d1 := HDD.out.1
                    have d2 := HDD.out.2.1
                    have d3 := HSD.out.1
                    clear q1 q2
                    go_wp2_with fail
                    refine (wrapped_any HSD.out.2.1 HSD.out.2.2 (HDD.out.2.2.2.2 s) _).mono ?_
                    rintro e w4 ⟨rfl, rfl⟩
                    clear d1 d2 d3
                    go_wp2_with fail
                    by_cases h0 : a = 0
                    · as_aux_lemma =>
                      have g0 : ((a : Int) != 0) = false := by rw [h0]; rfl
                      have HTU := Lib.hid (show tgN c i s = tuN c i a s by rw [h0]; unfold tuN; rw [if_neg (fun h => h.1 rfl)])
                      rw [HTU.out]
                      clear h0
                      have HTLT := Lib.hid (tuN_lt c i a s)
                      generalize tuN c i a s = t at *
                      go_loopw [12, 13, 14, 15] (fun _ v _ _ wx => (∃ k, wx = wr.drewN k) ∧ v = .int .i64 (t : Int)) (fun _ _ _ _ _ => 0)
                      case atStart => exact ⟨⟨_, rfl⟩, rfl⟩
                      case round =>
                        obtain ⟨⟨k, rfl⟩, rfl⟩ := hrel
                        have f1 := HC.out.2.1 (i + 1)
                        have f2 := HC.out.2.1 (i + 2)
                        have f3 := HC.out.2.1 (i + 3)
                        have f4 := HC.out.2.1 (i + 4)
                        have HPW := Lib.hid (rplacesW (i := i) (n := n) HLT.out HN.out.1)
                        by_cases hb1 : t / 16777216 % 2 = 1
                        · have hl1 := (rlastI t).1
                          have hl2 := (rlastI t).2
                          rw [decide_eq_true hb1] at hl1 hl2
                          have HZ := Lib.hid (HTN.out 255 k (by rw [rlast hb1]; rfl))
                          have q1 := HPL.out.2
                          have q2 := HPW.out
                          have q3 := HTLT.out
                          clear hb1
                          go_wp2_with fail
                          go_roundw
                          case rel => exact ⟨i + 5, 0, (i : Int), (a : Int), done ++ x :: pu4 t, rfl, rfl, by first | go_num | (rw [HPW.out.2.2.2.2]; go_num), aged_turn i HAG.out.lt, by rw [setCell_again]; exact HZ.out⟩
                          case measure => first | exact rth_meas (s := 5) HLT.out (by decide) | (rw [HPW.out.2.2.2.2]; exact rth_meas (s := 5) HLT.out (by decide))
                        · have hl1 := (rlastI t).1
                          have hl2 := (rlastI t).2
                          rw [decide_eq_false hb1] at hl1 hl2
                          have HZ := Lib.hid (HTN.out 0 k (by rw [rlast0 hb1]; rfl))
                          have q1 := HPL.out.2
                          have q2 := HPW.out
                          have q3 := HTLT.out
                          clear hb1
                          go_wp2_with fail
                          go_roundw
                          case rel => exact ⟨i + 5, 0, (i : Int), (a : Int), done ++ x :: pu4 t, rfl, rfl, by first | go_num | (rw [HPW.out.2.2.2.2]; go_num), aged_turn i HAG.out.lt, by exact HZ.out⟩
                          case measure => first | exact rth_meas (s := 5) HLT.out (by decide) | (rw [HPW.out.2.2.2.2]; exact rth_meas (s := 5) HLT.out (by decide))


                    · have e0 : ((a : Int) != 0) = true := by simp [h0]
                      have hal := HP1.out.1
                      rcases alB_cases hal h0 with rfl | rfl | rfl
                      · as_aux_lemma =>
                        have KB := Lib.hid (show ∀ w, Calls Tryd.prog 25 #[.int .i64 1] w (fun e w' => e = .returned (.int .i64 1) ∧ w = w') from fun w => rbit_any (a := 1) rfl w)
                        rw [show ((1 : Nat) : Int) = 1 from rfl]
                        go_loopw [12, 13, 14, 15] (fun _ v _ _ wx => (∃ k, wx = wr.drewN k) ∧ TurnRelI c i 1 s v) (fun _ v _ _ _ => turnMu 1 v)
                        case atStart => exact ⟨⟨_, rfl⟩, _, tgN_lt _ _ _, rfl, .inl rfl⟩
                        case round =>
                          obtain ⟨⟨k, rfl⟩, t, ht, rfl, h2⟩ := hrel
                          have HTLT := Lib.hid ht
                          have H2 := Lib.hid h2
                          clear ht h2
                          cases hb : egB (byN 1 t)
                          · as_aux_lemma =>
                            have KE2 := Lib.hid (fun w => redge_any (byN 1 t) (by_1 t) w)
                            rw [hb] at KE2
                            have htu := turn_done H2.out hb
                            have HTN := HTN.out
                            rw [← htu] at HTN
                            have HTN := Lib.hid HTN
                            have q0 := HTLT.out
                            clear hb htu H2
                            go_wp2_with fail
                            refine (KB.out _).mono ?_
                            rintro e w5 ⟨rfl, rfl⟩
                            go_wp2_with fail
                            refine (KE2.out _).mono ?_
                            rintro e w5 ⟨rfl, rfl⟩
                            have f1 := HC.out.2.1 (i + 1)
                            have f2 := HC.out.2.1 (i + 2)
                            have f3 := HC.out.2.1 (i + 3)
                            have f4 := HC.out.2.1 (i + 4)
                            have HPW := Lib.hid (rplacesW (i := i) (n := n) HLT.out HN.out.1)
                            by_cases hb1 : t / 16777216 % 2 = 1
                            · have hl1 := (rlastI t).1
                              have hl2 := (rlastI t).2
                              rw [decide_eq_true hb1] at hl1 hl2
                              have HZ := Lib.hid (HTN.out 255 k (by rw [rlast hb1]; rfl))
                              have q1 := HPL.out.2
                              have q2 := HPW.out
                              have q3 := HTLT.out
                              clear hb1
                              go_wp2_with fail
                              go_roundw
                              case rel => exact ⟨i + 5, 0, (i : Int), (1 : Int), done ++ x :: pu4 t, rfl, rfl, by first | go_num | (rw [HPW.out.2.2.2.2]; go_num), aged_turn i HAG.out.lt, by rw [setCell_again]; exact HZ.out⟩
                              case measure => first | exact rth_meas (s := 5) HLT.out (by decide) | (rw [HPW.out.2.2.2.2]; exact rth_meas (s := 5) HLT.out (by decide))
                            · have hl1 := (rlastI t).1
                              have hl2 := (rlastI t).2
                              rw [decide_eq_false hb1] at hl1 hl2
                              have HZ := Lib.hid (HTN.out 0 k (by rw [rlast0 hb1]; rfl))
                              have q1 := HPL.out.2
                              have q2 := HPW.out
                              have q3 := HTLT.out
                              clear hb1
                              go_wp2_with fail
                              go_roundw
                              case rel => exact ⟨i + 5, 0, (i : Int), (1 : Int), done ++ x :: pu4 t, rfl, rfl, by first | go_num | (rw [HPW.out.2.2.2.2]; go_num), aged_turn i HAG.out.lt, by exact HZ.out⟩
                              case measure => first | exact rth_meas (s := 5) HLT.out (by decide) | (rw [HPW.out.2.2.2.2]; exact rth_meas (s := 5) HLT.out (by decide))
                          · as_aux_lemma =>
                            have KE2 := Lib.hid (fun w => redge_any (byN 1 t) (by_1 t) w)
                            rw [hb] at KE2
                            have HR := Lib.hid (turn_more (by decide) H2.out hb)
                            have HM := Lib.hid (mu_posI hb)
                            have HTG := Lib.hid (And.intro (tgN_lt c i (flN 1 t)) (show egB (byN 1 (tgN c i (flN 1 t))) = false by rw [HR.out]; exact tu_ends rfl (by decide) (HP1.out.2 (by decide))))
                            have HF := Lib.hid (fl_lt32 (a := 1) rfl (by decide) HTLT.out)
                            have HW := Lib.hid (rsumD HF.out HDD.out.2.2.1 HDD.out.2.2.2.1)
                            obtain ⟨r, hr⟩ := rflip_1 HTLT.out
                            have HRR := Lib.hid hr
                            have q0 := HTLT.out
                            clear hb hr
                            go_wp2_with fail
                            refine (KB.out _).mono ?_
                            rintro e w5 ⟨rfl, rfl⟩
                            go_wp2_with fail
                            refine (KE2.out _).mono ?_
                            rintro e w5 ⟨rfl, rfl⟩
                            clear q0
                            have q4 := HRR.out
                            go_wp2_with fail
                            go_quiet (fail)
                            clear q4
                            have d1 := HDD.out.1
                            have d2 := HDD.out.2.1
                            have d3 := HW.out.1
                            go_wp2_with fail
                            refine (wrapped_any HW.out.2.1 HW.out.2.2 (HDD.out.2.2.2.2 (flN 1 t)) _).mono ?_
                            rintro e w5 ⟨rfl, rfl⟩
                            clear d1 d2 d3
                            go_wp2_with fail
                            go_roundw
                            case rel => exact ⟨by first | exact ⟨_, rfl⟩ | exact ⟨_, World.drewN_drewN _ _ _⟩, tgN c i (flN 1 t), HTG.out.1, rfl, .inr ⟨HR.out, HTG.out.2⟩⟩
                            case measure =>
                              rw [HM.out, mu_zeroI HTG.out.2]
                              exact Nat.one_pos
                      · as_aux_lemma =>
                        have KB := Lib.hid (show ∀ w, Calls Tryd.prog 25 #[.int .i64 2] w (fun e w' => e = .returned (.int .i64 2) ∧ w = w') from fun w => rbit_any (a := 2) rfl w)
                        rw [show ((2 : Nat) : Int) = 2 from rfl]
                        go_loopw [12, 13, 14, 15] (fun _ v _ _ wx => (∃ k, wx = wr.drewN k) ∧ TurnRelI c i 2 s v) (fun _ v _ _ _ => turnMu 2 v)
                        case atStart => exact ⟨⟨_, rfl⟩, _, tgN_lt _ _ _, rfl, .inl rfl⟩
                        case round =>
                          obtain ⟨⟨k, rfl⟩, t, ht, rfl, h2⟩ := hrel
                          have HTLT := Lib.hid ht
                          have H2 := Lib.hid h2
                          clear ht h2
                          cases hb : egB (byN 2 t)
                          · as_aux_lemma =>
                            have KE2 := Lib.hid (fun w => redge_any (byN 2 t) (by_2 t) w)
                            rw [hb] at KE2
                            have htu := turn_done H2.out hb
                            have HTN := HTN.out
                            rw [← htu] at HTN
                            have HTN := Lib.hid HTN
                            have q0 := HTLT.out
                            clear hb htu H2
                            go_wp2_with fail
                            refine (KB.out _).mono ?_
                            rintro e w5 ⟨rfl, rfl⟩
                            go_wp2_with fail
                            refine (KE2.out _).mono ?_
                            rintro e w5 ⟨rfl, rfl⟩
                            have f1 := HC.out.2.1 (i + 1)
                            have f2 := HC.out.2.1 (i + 2)
                            have f3 := HC.out.2.1 (i + 3)
                            have f4 := HC.out.2.1 (i + 4)
                            have HPW := Lib.hid (rplacesW (i := i) (n := n) HLT.out HN.out.1)
                            by_cases hb1 : t / 16777216 % 2 = 1
                            · have hl1 := (rlastI t).1
                              have hl2 := (rlastI t).2
                              rw [decide_eq_true hb1] at hl1 hl2
                              have HZ := Lib.hid (HTN.out 255 k (by rw [rlast hb1]; rfl))
                              have q1 := HPL.out.2
                              have q2 := HPW.out
                              have q3 := HTLT.out
                              clear hb1
                              go_wp2_with fail
                              go_roundw
                              case rel => exact ⟨i + 5, 0, (i : Int), (2 : Int), done ++ x :: pu4 t, rfl, rfl, by first | go_num | (rw [HPW.out.2.2.2.2]; go_num), aged_turn i HAG.out.lt, by rw [setCell_again]; exact HZ.out⟩
                              case measure => first | exact rth_meas (s := 5) HLT.out (by decide) | (rw [HPW.out.2.2.2.2]; exact rth_meas (s := 5) HLT.out (by decide))
                            · have hl1 := (rlastI t).1
                              have hl2 := (rlastI t).2
                              rw [decide_eq_false hb1] at hl1 hl2
                              have HZ := Lib.hid (HTN.out 0 k (by rw [rlast0 hb1]; rfl))
                              have q1 := HPL.out.2
                              have q2 := HPW.out
                              have q3 := HTLT.out
                              clear hb1
                              go_wp2_with fail
                              go_roundw
                              case rel => exact ⟨i + 5, 0, (i : Int), (2 : Int), done ++ x :: pu4 t, rfl, rfl, by first | go_num | (rw [HPW.out.2.2.2.2]; go_num), aged_turn i HAG.out.lt, by exact HZ.out⟩
                              case measure => first | exact rth_meas (s := 5) HLT.out (by decide) | (rw [HPW.out.2.2.2.2]; exact rth_meas (s := 5) HLT.out (by decide))
                          · as_aux_lemma =>
                            have KE2 := Lib.hid (fun w => redge_any (byN 2 t) (by_2 t) w)
                            rw [hb] at KE2
                            have HR := Lib.hid (turn_more (by decide) H2.out hb)
                            have HM := Lib.hid (mu_posI hb)
                            have HTG := Lib.hid (And.intro (tgN_lt c i (flN 2 t)) (show egB (byN 2 (tgN c i (flN 2 t))) = false by rw [HR.out]; exact tu_ends rfl (by decide) (HP1.out.2 (by decide))))
                            have HF := Lib.hid (fl_lt32 (a := 2) rfl (by decide) HTLT.out)
                            have HW := Lib.hid (rsumD HF.out HDD.out.2.2.1 HDD.out.2.2.2.1)
                            obtain ⟨r, hr⟩ := rflip_2 HTLT.out
                            have HRR := Lib.hid hr
                            have q0 := HTLT.out
                            clear hb hr
                            go_wp2_with fail
                            refine (KB.out _).mono ?_
                            rintro e w5 ⟨rfl, rfl⟩
                            go_wp2_with fail
                            refine (KE2.out _).mono ?_
                            rintro e w5 ⟨rfl, rfl⟩
                            clear q0
                            have q4 := HRR.out
                            go_wp2_with fail
                            go_quiet (fail)
                            clear q4
                            have d1 := HDD.out.1
                            have d2 := HDD.out.2.1
                            have d3 := HW.out.1
                            go_wp2_with fail
                            refine (wrapped_any HW.out.2.1 HW.out.2.2 (HDD.out.2.2.2.2 (flN 2 t)) _).mono ?_
                            rintro e w5 ⟨rfl, rfl⟩
                            clear d1 d2 d3
                            go_wp2_with fail
                            go_roundw
                            case rel => exact ⟨by first | exact ⟨_, rfl⟩ | exact ⟨_, World.drewN_drewN _ _ _⟩, tgN c i (flN 2 t), HTG.out.1, rfl, .inr ⟨HR.out, HTG.out.2⟩⟩
                            case measure =>
                              rw [HM.out, mu_zeroI HTG.out.2]
                              exact Nat.one_pos
                      · as_aux_lemma =>
                        have KB := Lib.hid (show ∀ w, Calls Tryd.prog 25 #[.int .i64 4] w (fun e w' => e = .returned (.int .i64 3) ∧ w = w') from fun w => rbit_any (a := 4) rfl w)
                        rw [show ((4 : Nat) : Int) = 4 from rfl]
                        go_loopw [12, 13, 14, 15] (fun _ v _ _ wx => (∃ k, wx = wr.drewN k) ∧ TurnRelI c i 4 s v) (fun _ v _ _ _ => turnMu 4 v)
                        case atStart => exact ⟨⟨_, rfl⟩, _, tgN_lt _ _ _, rfl, .inl rfl⟩
                        case round =>
                          obtain ⟨⟨k, rfl⟩, t, ht, rfl, h2⟩ := hrel
                          have HTLT := Lib.hid ht
                          have H2 := Lib.hid h2
                          clear ht h2
                          cases hb : egB (byN 4 t)
                          · as_aux_lemma =>
                            have KE2 := Lib.hid (fun w => redge_any (byN 4 t) (by_4 t) w)
                            rw [hb] at KE2
                            have htu := turn_done H2.out hb
                            have HTN := HTN.out
                            rw [← htu] at HTN
                            have HTN := Lib.hid HTN
                            have q0 := HTLT.out
                            clear hb htu H2
                            go_wp2_with fail
                            refine (KB.out _).mono ?_
                            rintro e w5 ⟨rfl, rfl⟩
                            go_wp2_with fail
                            refine (KE2.out _).mono ?_
                            rintro e w5 ⟨rfl, rfl⟩
                            have f1 := HC.out.2.1 (i + 1)
                            have f2 := HC.out.2.1 (i + 2)
                            have f3 := HC.out.2.1 (i + 3)
                            have f4 := HC.out.2.1 (i + 4)
                            have HPW := Lib.hid (rplacesW (i := i) (n := n) HLT.out HN.out.1)
                            by_cases hb1 : t / 16777216 % 2 = 1
                            · have hl1 := (rlastI t).1
                              have hl2 := (rlastI t).2
                              rw [decide_eq_true hb1] at hl1 hl2
                              have HZ := Lib.hid (HTN.out 255 k (by rw [rlast hb1]; rfl))
                              have q1 := HPL.out.2
                              have q2 := HPW.out
                              have q3 := HTLT.out
                              clear hb1
                              go_wp2_with fail
                              go_roundw
                              case rel => exact ⟨i + 5, 0, (i : Int), (4 : Int), done ++ x :: pu4 t, rfl, rfl, by first | go_num | (rw [HPW.out.2.2.2.2]; go_num), aged_turn i HAG.out.lt, by rw [setCell_again]; exact HZ.out⟩
                              case measure => first | exact rth_meas (s := 5) HLT.out (by decide) | (rw [HPW.out.2.2.2.2]; exact rth_meas (s := 5) HLT.out (by decide))
                            · have hl1 := (rlastI t).1
                              have hl2 := (rlastI t).2
                              rw [decide_eq_false hb1] at hl1 hl2
                              have HZ := Lib.hid (HTN.out 0 k (by rw [rlast0 hb1]; rfl))
                              have q1 := HPL.out.2
                              have q2 := HPW.out
                              have q3 := HTLT.out
                              clear hb1
                              go_wp2_with fail
                              go_roundw
                              case rel => exact ⟨i + 5, 0, (i : Int), (4 : Int), done ++ x :: pu4 t, rfl, rfl, by first | go_num | (rw [HPW.out.2.2.2.2]; go_num), aged_turn i HAG.out.lt, by exact HZ.out⟩
                              case measure => first | exact rth_meas (s := 5) HLT.out (by decide) | (rw [HPW.out.2.2.2.2]; exact rth_meas (s := 5) HLT.out (by decide))
                          · as_aux_lemma =>
                            have KE2 := Lib.hid (fun w => redge_any (byN 4 t) (by_4 t) w)
                            rw [hb] at KE2
                            have HR := Lib.hid (turn_more (by decide) H2.out hb)
                            have HM := Lib.hid (mu_posI hb)
                            have HTG := Lib.hid (And.intro (tgN_lt c i (flN 4 t)) (show egB (byN 4 (tgN c i (flN 4 t))) = false by rw [HR.out]; exact tu_ends rfl (by decide) (HP1.out.2 (by decide))))
                            have HF := Lib.hid (fl_lt32 (a := 4) rfl (by decide) HTLT.out)
                            have HW := Lib.hid (rsumD HF.out HDD.out.2.2.1 HDD.out.2.2.2.1)
                            obtain ⟨r, hr⟩ := rflip_4 HTLT.out
                            have HRR := Lib.hid hr
                            have q0 := HTLT.out
                            clear hb hr
                            go_wp2_with fail
                            refine (KB.out _).mono ?_
                            rintro e w5 ⟨rfl, rfl⟩
                            go_wp2_with fail
                            refine (KE2.out _).mono ?_
                            rintro e w5 ⟨rfl, rfl⟩
                            clear q0
                            have q4 := HRR.out
                            go_wp2_with fail
                            go_quiet (fail)
                            clear q4
                            have d1 := HDD.out.1
                            have d2 := HDD.out.2.1
                            have d3 := HW.out.1
                            go_wp2_with fail
                            refine (wrapped_any HW.out.2.1 HW.out.2.2 (HDD.out.2.2.2.2 (flN 4 t)) _).mono ?_
                            rintro e w5 ⟨rfl, rfl⟩
                            clear d1 d2 d3
                            go_wp2_with fail
                            go_roundw
                            case rel => exact ⟨by first | exact ⟨_, rfl⟩ | exact ⟨_, World.drewN_drewN _ _ _⟩, tgN c i (flN 4 t), HTG.out.1, rfl, .inr ⟨HR.out, HTG.out.2⟩⟩
                            case measure =>
                              rw [HM.out, mu_zeroI HTG.out.2]
                              exact Nat.one_pos


                · as_aux_lemma =>
                  have HR := Lib.hid (HTH.out.stay HD.out HX4.out (.inl hb))
                  have e2 := HE.out.2
                  have m1 := HMK.out.1
                  have m2 := HMK.out.2.1
                  have m3 := HMK.out.2.2.2
                  clear hb
                  go_wp2_with fail
                  go_roundw
                  case rel => exact ⟨i + 1, 2 * a % 8 + 1, (i : Int), _, done ++ [x], by rw [HMK.out.2.2.1], rfl, by first | go_num | (rw [HE.out.2]; go_num), aged_stay i a, HR.out⟩
                  case measure => first | exact rth_meas HLT.out (Nat.le_refl 1) | (rw [HE.out.2]; exact rth_meas HLT.out (Nat.le_refl 1))
        · as_aux_lemma =>
          have hxf := bool_ff hx
          have h232 : ((x.toNat : Int) != 232) = true := by
            unfold mkB at hxf
            rw [Bool.or_eq_false_iff, beq_eq_false_iff_ne, beq_eq_false_iff_ne] at hxf
            have : x.toNat ≠ 232 := fun h => hxf.1 (UInt8.toNat_inj.1 h)
            simp
            omega
          have h233 : ((x.toNat : Int) != 233) = true := by
            unfold mkB at hxf
            rw [Bool.or_eq_false_iff, beq_eq_false_iff_ne, beq_eq_false_iff_ne] at hxf
            have : x.toNat ≠ 233 := fun h => hxf.2 (UInt8.toNat_inj.1 h)
            simp
            omega
          have HP := Lib.hid (HTH.out.plain HD.out hx)
          have HG := Lib.hid HAG.out.plain
          clear hx hxf
          go_wp2_with fail
          go_roundw
          case rel => exact ⟨i + 1, 2 * a % 8, l, m, done ++ [x], rfl, rfl, by first | go_num | (rw [HE.out.2]; go_num), HG.out, HP.out⟩
          case measure => first | exact rth_meas HLT.out (Nat.le_refl 1) | (rw [HE.out.2]; exact rth_meas HLT.out (Nat.le_refl 1))
      · as_aux_lemma =>
        have hsh : (b.drop i).length ≤ 4 := by rw [List.length_drop]; have := HN.out; omega
        have his := hT.is
        rw [gN_short _ _ _ _ hsh] at his
        have hrow := hT.row
        rw [his] at hrow
        have HF := Lib.hid (And.intro hrow (And.intro hT.bel hT.q0))
        have e1 : wrap64 ((i : Int) + 4) = (i : Int) + 4 := IntWalk.wrap64_in _ (by have := hT.le; have := HN.out; omega)
        have i1 : ¬ (i : Int) + 4 < (n : Int) := by omega
        clear hT hag hlt hsh his hrow
        go_wp2_with fail
        go_ret
        refine ⟨some ⟨q, 0, none⟩, co, rfl, ?_, fun x y e => ?_, HF.out.2.1⟩
        · have := HF.out.1.sl
          rwa [gN_length, HN.out.2] at this
        · injection e with e
          injection e with e
          rw [← e]
          exact HF.out.2.2
end Go.Proofs.YtcolnmjginpalaaDoor
