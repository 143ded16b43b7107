/-
  PhNum, PhWalk: put together.
-/
import Derived.Test.YtpbjkiejegpbcaaMp01
import Derived.Test.YtpbjkiejegpbcaaMp12
set_option linter.unusedVariables false
set_option linter.unusedSimpArgs false
/-
  Bytes that are one piece again and again, as numbers: how many packets there are.
-/
namespace Go.Proofs.Ytpbjkiejegpbcaa
/-- each byte is the one p ahead of it -/
def Per (bs : List UInt8) (p n : Nat) : Prop := ∀ i, p ≤ i → i < n → bs.getD i 0 = bs.getD (i - p) 0
section
variable {bs : List UInt8} {D n p : Nat} {s : Ps}
theorem cp_per (h : Per bs p n) (hp : 1 ≤ p) (hi : p ≤ s.i) (hn : s.i ≤ n) (hD : n < D) : cpN bs D n s.i (p - 1) = min 273 (n - s.i) := by
  unfold cpN
  rw [if_pos ⟨by omega, by omega⟩, show p - 1 + 1 = p by omega]
  exact eqN_is (Nat.le_refl _) (fun k hk => h (s.i + k) (by omega) (by omega)) (fun hl => absurd hl (Nat.lt_irrefl _))
theorem lon_per (h : Per bs p n) (hp : 1 ≤ p) (hi : p ≤ s.i) (hn : s.i < n) (hD : n < D) : (lonP bs D n s).2 = min 273 (n - s.i) ∧ (lonP bs D n s).1 < p := by
  have h1 := lon_le (b := bs) (dict := D) (e := n) (s := s)
  have h2 := best_ge (fun d => cpN bs D n s.i d) (min s.i D) (p - 1) (by omega)
  have h3 := cp_per (s := s) h hp hi (by omega) hD
  have h2 : cpN bs D n s.i (p - 1) ≤ (lonP bs D n s).2 := h2
  rw [h3] at h2
  refine ⟨by omega, ?_⟩
  by_cases hl : (lonP bs D n s).1 < p
  · exact hl
  · obtain ⟨_, _, h5⟩ := best_is (fun d => cpN bs D n s.i d) (min s.i D) (by show 0 < (lonP bs D n s).2; omega)
    have h6 : cpN bs D n s.i (p - 1) < (lonP bs D n s).2 := h5 (p - 1) (by show p - 1 < (lonP bs D n s).1; omega)
    omega
/-- an elder copy that is as long as the piece goes to the end -/
theorem eld_per (h : Per bs p n) {d : Nat} (hi : p ≤ s.i) (hp : 1 ≤ p) (hr : p ≤ cpN bs D n s.i d) : cpN bs D n s.i d = min 273 (n - s.i) := by
  have hle := cpN_le bs D n s.i d
  unfold cpN at hr hle ⊢
  split at hr
  · rename_i hd
    rw [if_pos hd] at hle ⊢
    obtain ⟨f, hf⟩ : ∃ f, f = min 273 (n - s.i) := ⟨_, rfl⟩
    rw [← hf] at hr hle ⊢
    have key : ∀ k, k < f → bs.getD (s.i + k) 0 = bs.getD (s.i + k - (d + 1)) 0 := by
      intro k
      induction k using Nat.strongRecOn with
      | ind k ih =>
        intro hk
        by_cases hkr : k < eqN bs (d + 1) f s.i
        · exact eqN_same bs (d + 1) f s.i k hkr
        · have e1 := h (s.i + k) (by omega) (by omega)
          have e2 := h (s.i + k - (d + 1)) (by omega) (by omega)
          have e3 := ih (k - p) (by omega) (by omega)
          rw [e1, e2, show s.i + k - p = s.i + (k - p) by omega, e3]
          exact congrArg (fun z => bs.getD z 0) (by omega)
    have := eqN_ge (b := bs) (o := d + 1) (f := f) (i := s.i) (n := f) (Nat.le_refl _) key
    omega
  · omega
theorem step_per (h : Per bs p n) (hp : 1 ≤ p) (hp2 : p ≤ 100) (hi : p ≤ s.i) (hn : s.i < n) (hD : n < D) :
    (273 ≤ n - s.i → (stepF bs D n s).2.i = s.i + 273) ∧ n ≤ (stepF bs D n s).2.i + 1 ∨ (273 ≤ n - s.i ∧ (stepF bs D n s).2.i = s.i + 273) := by
  obtain ⟨l1, l2⟩ := lon_per (s := s) h hp hi hn hD
  have hst := step_i (b := bs) (dict := D) hn
  have hel := eld_le (b := bs) (dict := D) (e := n) (s := s)
  have hr : p ≤ (eldP bs D n s).2 → (eldP bs D n s).2 = min 273 (n - s.i) := fun h0 => by
    obtain ⟨_, h2, _⟩ := best_is (fun k => cpN bs D n s.i (s.rep k)) 4 (by show 0 < (eldP bs D n s).2; omega)
    have h2 : cpN bs D n s.i (s.rep (eldP bs D n s).1) = (eldP bs D n s).2 := h2
    rw [← h2] at h0 ⊢
    exact eld_per h hi hp h0
  have hM : lonM bs D n s = if min 273 (n - s.i) < 2 then 0 else min 273 (n - s.i) := by unfold lonM; rw [l1]
  generalize hgr : eldP bs D n s = r at *
  unfold stepF at hst ⊢
  rw [hgr] at hst ⊢
  unfold stepG at hst ⊢
  by_cases hR : 273 ≤ n - s.i
  · right
    refine ⟨hR, ?_⟩
    have hM3 : lonM bs D n s = 273 := by rw [hM, if_neg (by omega)]; omega
    rw [hM3]
    by_cases ha : 2 ≤ r.2 ∧ 273 ≤ r.2 + 1
    · rw [if_pos ha, Ps.raise_i]
      have := hr (by omega)
      omega
    · rw [if_neg ha, if_pos (.inl (by omega))]
      rfl
  · left
    refine ⟨fun h0 => absurd h0 hR, ?_⟩
    by_cases h1 : n - s.i = 1
    · omega
    · have hM3 : lonM bs D n s = n - s.i := by rw [hM, if_neg (by omega)]; omega
      rw [hM3] at hst ⊢
      by_cases ha : 2 ≤ r.2 ∧ n - s.i ≤ r.2 + 1
      · rw [if_pos ha, Ps.raise_i]
        omega
      · rw [if_neg ha, if_pos (by omega)]
        show n ≤ s.i + (n - s.i) + 1
        omega
/-- how many packets, by the place -/
def Sh (p n j i : Nat) : Prop :=
  (i < p ∧ j ≤ i) ∨ (p ≤ i ∧ 273 * j + p ≤ 273 * p + i) ∨ (p ≤ i ∧ n ≤ i + 1 ∧ 273 * j + p ≤ 273 * p + i + 273) ∨ (p ≤ i ∧ n ≤ i ∧ 273 * j + p ≤ 273 * p + i + 546)
theorem go_sh (h : Per bs p n) (hp : 1 ≤ p) (hp2 : p ≤ 100) (hD : n < D) (hs : s.i = 0) : ∀ j, Sh p n (goF bs D n s j).1.length (goF bs D n s j).2.i
  | 0 => by
    show Sh p n 0 s.i
    rw [hs]
    exact .inl ⟨by omega, Nat.le_refl _⟩
  | j + 1 => by
    have ih := go_sh h hp hp2 hD hs j
    by_cases hl : (goF bs D n s j).2.i < n
    · rw [go_succ hl]
      generalize goF bs D n s j = X at *
      obtain ⟨L, t⟩ := X
      have hl : t.i < n := hl
      have ih : Sh p n L.length t.i := ih
      show Sh p n (L ++ [_]).length (stepF bs D n t).2.i
      rw [List.length_append]
      show Sh p n (L.length + 1) (stepF bs D n t).2.i
      have hst := step_i (b := bs) (dict := D) hl
      generalize L.length = m at *
      by_cases hpi : p ≤ t.i
      · have hsp := step_per h hp hp2 hpi hl hD
        generalize (stepF bs D n t).2.i = i' at *
        unfold Sh at ih ⊢
        omega
      · generalize (stepF bs D n t).2.i = i' at *
        unfold Sh at ih ⊢
        omega
    · rw [go_same hl]
      exact ih
theorem find_short (h : Per bs p n) (hp : 1 ≤ p) (hp2 : p ≤ 100) (hD : n < D) (hs : s.i = 0) (hn : n = 0 ∨ p ≤ n) : (findF bs D n s).1.length ≤ n / 273 + 2 * p + 2 := by
  have h1 := go_sh (s := s) h hp hp2 hD hs n
  have h2 : n ≤ (goF bs D n s n).2.i := by
    by_cases hl : (goF bs D n s n).2.i < n
    · have := go_more n hl
      omega
    · omega
  have h3 := go_end (b := bs) (dict := D) (e := n) (s := s) (by omega) n
  have h4 := go_len (b := bs) (dict := D) (e := n) (s := s) n
  unfold findF
  generalize (goF bs D n s n).1.length = m at *
  generalize (goF bs D n s n).2.i = i at *
  unfold Sh at h1
  omega
end
/-- a piece again and again -/
def again (piece : List UInt8) (j : Nat) : List UInt8 := (List.replicate j piece).flatten
theorem again_len (piece : List UInt8) (j : Nat) : (again piece j).length = j * piece.length := by simp [again]
theorem again_succ (piece : List UInt8) (j : Nat) : again piece (j + 1) = again piece j ++ piece := by
  unfold again
  rw [List.replicate_succ', List.flatten_append]
  simp
theorem again_succ' (piece : List UInt8) (j : Nat) : again piece (j + 1) = piece ++ again piece j := by
  unfold again
  rw [List.replicate_succ]
  simp
theorem again_per (piece : List UInt8) : ∀ j, Per (again piece j) piece.length (j * piece.length)
  | 0 => fun i _ hi => by simp at hi
  | j + 1 => fun i h1 h2 => by
    have h2 : i < j * piece.length + piece.length := by rw [Nat.succ_mul] at h2; exact h2
    have hl := again_len piece j
    have e1 : (again piece (j + 1)).getD i 0 = (again piece j).getD (i - piece.length) 0 := by
      rw [again_succ', List.getD_eq_getElem?_getD, List.getElem?_append_right h1, ← List.getD_eq_getElem?_getD]
    have e2 : (again piece (j + 1)).getD (i - piece.length) 0 = (again piece j).getD (i - piece.length) 0 := by
      rw [again_succ, List.getD_eq_getElem?_getD, List.getElem?_append_left (by omega), ← List.getD_eq_getElem?_getD]
    rw [e1, e2]
end Go.Proofs.Ytpbjkiejegpbcaa

/-
  The law ParseShort: its walk.
-/
namespace Go.Proofs.Ytpbjkiejegpbcaa
open Go.RowKit

set_option maxRecDepth 100000 in
set_option maxHeartbeats 8000000 in
theorem parseShort_walk {A : Option Addr} {p c t : Nat} {bs : List UInt8} {w : World} (hS : Sl w A p (bv bs)) (hp0 : p ≤ maxLen) (ht : t < 65536) :
    Calls Try.prog 5 #[.slice A p c, .int .u16 (t : Int)] w fun e w' => e = .returned (.bool true) ∧ Below w.heap.size w w' := by
  have HS := Lib.hid hS
  have HP := Lib.hid (show bs.length = p by rw [← bv_length]; exact hS.1)
  have HT := Lib.hid ht
  have KA := Lib.hid (awake10_any w)
  clear hS hp0 ht
  go_enter Try.func5, Try.ntmps5
  go_wp2_with fail
  refine KA.out.mono ?_
  rintro x w1 ⟨rfl, hb1⟩
  have HB1 := Lib.hid hb1
  have HS1 := Lib.hid (HS.out.below hb1)
  clear KA hb1 HS
  by_cases h1 : p < 1
  · have i1 : (p : Int) < 1 := by omega
    go_wp2_with fail
    go_ret
    exact ⟨rfl, HB1.out⟩
  by_cases h2 : p > 100
  · have i1 : ¬ (p : Int) < 1 := by omega
    have i2 : (p : Int) > 100 := by omega
    go_wp2_with fail
    go_ret
    exact ⟨rfl, HB1.out⟩
  have HPP := Lib.hid (show 1 ≤ p ∧ p ≤ 100 by omega)
  obtain ⟨Q, hQ⟩ : ∃ Q, Q = 20000 / p := ⟨_, rfl⟩
  obtain ⟨N, hN⟩ : ∃ N, N = min t Q := ⟨_, rfl⟩
  have hQp : Q * p ≤ 20000 := by rw [hQ]; exact Nat.div_mul_le_self _ _
  have hNp : N * p ≤ 20000 := Nat.le_trans (Nat.mul_le_mul_right p (by omega)) hQp
  have HNP := Lib.hid hNp
  have HQN := Lib.hid (show N ≤ 20000 from by
    have : N * 1 ≤ N * p := Nat.mul_le_mul_left N (by omega)
    omega)
  have i1 : ¬ (p : Int) < 1 := by omega
  have i2 : ¬ (p : Int) > 100 := by omega
  have e0 : IntKind.i64.wrap (t : Int) = (t : Int) := IntWalk.i64_in _ (by have := HT.out; omega)
  have e0' : wrap64 (t : Int) = (t : Int) := IntWalk.wrap64_in _ (by have := HT.out; omega)
  have e1 : (20000 : Int).tdiv (p : Int) = (Q : Int) := by rw [hQ]; exact (Int.ofNat_tdiv 20000 p).symm
  have e1' : (20000 : Int) / (p : Int) = (Q : Int) := by rw [hQ]; exact (Int.natCast_ediv 20000 p).symm
  have e2 : wrap64 (Q : Int) = (Q : Int) := IntWalk.wrap64_in _ (by rw [hQ]; have := Nat.div_le_self 20000 p; omega)
  have z0 : ¬ p = 0 := by omega
  have z1 : ((p : Int) == 0) = false := by simp; omega
  have z2 : ¬ (p : Int) = 0 := by omega
  have hm := min2_int (P := Try.prog) #[3, 3] 3 (t : Int) (Q : Int) (N : Int) (by omega)
  clear hQ hN hQp hNp h1 h2
  go_wp2_with fail
  clear i1 i2 e0 e0' e1 e1' e2 z0 z1 z2 hm
  go_loopw [6, 7] (fun v6 v7 wr => ∃ (j m : Nat) (R : Option Addr) (cp : Nat), j ≤ N ∧ m = j * p ∧ v7 = .int .i64 (j : Int) ∧ v6 = .slice R m cp ∧ wr.ownsRow w1.heap.size 5 1 (.slice R m cp) m (bv (again bs j)) ∧ Below w1.heap.size w1 wr) (fun _ v7 _ => N - (intOf v7).toNat)
  case atStart => exact ⟨0, 0, none, 0, Nat.zero_le _, by omega, rfl, rfl, ⟨rfl, .inl ⟨rfl, rfl⟩⟩, Below.refl _ _⟩
  case round =>
    obtain ⟨j, m, R, cp, hj, hm, rfl, rfl, how, hb⟩ := hrel
    have HOW := Lib.hid how
    have HB := Lib.hid hb
    have HJ := Lib.hid (And.intro hj hm)
    have hjm : m ≤ 20000 := by
      rw [hm]
      exact Nat.le_trans (Nat.mul_le_mul_right p hj) HNP.out
    have HJM := Lib.hid hjm
    by_cases hlt : j < N
    · have i1 : (j : Int) < (N : Int) := by omega
      have e1 : IntKind.i64.wrap ((j : Int) + 1) = (j : Int) + 1 := IntWalk.i64_in _ (by have := HQN.out; omega)
      obtain ⟨i, hi, hz0, hz1, hz2⟩ := info_parts info_u8
      have HLT := Lib.hid hlt
      clear how hb hj hm hjm hlt
      go_wp2_with (at_builtin; refine wpList_app _ rfl (.tmp 31) (.tmp 32) 22 rfl w1.heap.size 5 i _ 1 Try.underlying22 hi hz0 hz1 hz2 rfl (.slice R m cp) m (bv (again bs j)) rfl HOW.out A p c (bv bs) rfl (HS1.out.below HB.out) (bv_one bs) (by have := HJM.out; have := HPP.out; omega) (by omega) HB.out.size ?_)
      intro A5 c5 w5 ho5 hg5
      have HB5 := Lib.hid (HB.out.grown hg5 HB.out.size (fun k e => (World.ownsRow.lt HOW.out k e).1))
      have HO5 := Lib.hid (show w5.ownsRow w1.heap.size 5 1 (.slice A5 (m + p) c5) (m + p) (bv (again bs (j + 1))) by rw [again_succ, bv_append]; exact ho5)
      clear ho5 hg5 hi hz0 hz1 hz2
      go_wp2_with fail
      go_roundw
      case rel => exact ⟨j + 1, m + p, A5, c5, by have := HLT.out; omega, by rw [HJ.out.2, Nat.succ_mul], by go_num, rfl, HO5.out, HB5.out⟩
      case measure => have := HLT.out; simp [intOf]; omega
    · obtain rfl : j = N := by omega
      obtain ⟨hS2, hmc, hcm, _⟩ := own_facts how
      have KF := pfind_any (fi := 0) (ti := (m : Int)) (di := 1048576) (r0 := 0) (r1 := 0) (r2 := 0) (r3 := 0) hS2 (by omega) hmc hcm (by decide) (by decide) ⟨by decide, by decide, by decide, by decide⟩
      have hF : fromN m 0 = 0 := by unfold fromN; omega
      have hT : toN m 0 (m : Int) = m := by unfold toN; omega
      rw [hF, hT] at KF
      have KF := Lib.hid KF
      have HE := Lib.hid (HB1.out.trans (hb.mono HB1.out.size))
      have hper := again_per bs j
      rw [HP.out, ← hm] at hper
      have hsh := find_short (bs := again bs j) (D := 1048576) (n := m) (p := p) (s := ⟨0, 0, 0, 0, 0⟩) hper HPP.out.1 HPP.out.2 (by omega) rfl (by
        by_cases h0 : j = 0
        · subst h0; left; omega
        · right
          rw [hm]
          exact Nat.le_mul_of_pos_left p (by omega))
      have HSH := Lib.hid hsh
      clear hj hm hjm how hb hlt hS2 hmc hcm hF hT hper hsh HOW HB
      go_wp2_with fail
      refine KF.out.mono ?_
      rintro x w5 ⟨hb5, L, s', R5, cl, hf, _, _, rfl, hrow⟩
      have hlen : L.length ≤ m / 273 + 2 * p + 2 := by
        have h := HSH.out
        rw [show findF (again bs j) 1048576 m ⟨0, 0, 0, 0, 0⟩ = (L, s') from hf] at h
        exact h
      have HB5 := Lib.hid (below_p HE.out hb5 (Nat.le_refl _))
      generalize L.length = l at *
      have HLE := Lib.hid hlen
      clear KF hb5 hf hrow hlen HSH HE
      go_upto_region 12 with fail
      have HB6 := Lib.hid (HB5.out.alloc HB5.out.size (.cells #[.int .u32 (s'.r0 : Int), .int .u32 (s'.r1 : Int), .int .u32 (s'.r2 : Int), .int .u32 (s'.r3 : Int)] 24))
      clear HB5
      generalize w5.alloc (.cells #[.int .u32 (s'.r0 : Int), .int .u32 (s'.r1 : Int), .int .u32 (s'.r2 : Int), .int .u32 (s'.r3 : Int)] 24) = w6 at *
      obtain ⟨M, hM⟩ : ∃ M, M = m / 273 := ⟨_, rfl⟩
      have hM2 : M ≤ 20000 := by have := HJM.out; omega
      have e1 : (m : Int).tdiv 273 = (M : Int) := by rw [hM]; exact (Int.ofNat_tdiv m 273).symm
      have e1' : (m : Int) / 273 = (M : Int) := by rw [hM]; exact (Int.natCast_ediv m 273).symm
      have e2 : wrap64 (M : Int) = (M : Int) := IntWalk.wrap64_in _ (by omega)
      have e3 : wrap64 (2 * (p : Int)) = 2 * (p : Int) := IntWalk.wrap64_in _ (by have := HPP.out; omega)
      have e4 : wrap64 ((M : Int) + 2 * (p : Int)) = (M : Int) + 2 * (p : Int) := IntWalk.wrap64_in _ (by have := HPP.out; omega)
      have e5 : wrap64 ((M : Int) + 2 * (p : Int) + 2) = (M : Int) + 2 * (p : Int) + 2 := IntWalk.wrap64_in _ (by have := HPP.out; omega)
      have e6 : (l : Int) ≤ (M : Int) + 2 * (p : Int) + 2 := by have := HLE.out; omega
      clear hM hM2
      go_wp2_with fail
      go_ret
      refine ⟨?_, HB6.out⟩
      first | rfl | exact ret_bool (decide_eq_true (by first | exact e6 | omega)) | exact congrArg (fun z => Ending.returned (.bool z)) (decide_eq_true (by first | exact e6 | omega))
end Go.Proofs.Ytpbjkiejegpbcaa
